/- The contract of layer 6's Print. -/
import Derived.Test.YtafmbnafibahkaaGreatGCell
import Derived.Test.YtafmbnafibahkaaGreatGStrs
import Derived.Test.YtafmbnafibahkaaGreatGShelf
namespace Go.Proofs.YtafmbnafibahkaaGreat
open Go Go.RowKit
def stepN (p x:Int):Nat:=(foldI (wrap64 (x-p))).toNat
theorem wrap64_range (x:Int) : -9223372036854775808≤wrap64 x∧wrap64 x≤9223372036854775807:=by unfold wrap64;omega
theorem stepN_lt (p x:Int):stepN p x < 18446744073709551616:=by
 have h:=wrap64_range (x-p)
 have:=foldI_range _ h.1 h.2
 unfold stepN
 omega
theorem step_back (p x:Int)(h0 : -9223372036854775808≤x)(h1:x≤9223372036854775807):wrap64 (p+openI (stepN p x))=x:=by
 unfold stepN
 rw [open_fold]
 unfold wrap64
 omega
theorem step_forth (p:Int)(u:Nat)(hu:u < 18446744073709551616):stepN p (wrap64 (p+openI u))=u:=by
 have h:=openI_range u hu
 have e:wrap64 (wrap64 (p+openI u)-p)=openI u:=by unfold wrap64;omega
 unfold stepN
 rw [e,fold_open]
 rfl
def stepsB:Int→List Int→List UInt8
 | _,[]=>[]
 | p,x::l=>vp (stepN p x)++stepsB x l
def lastI (p:Int)(l:List Int):Int:=l.getLast?.getD p
def stepsP (l:List Int):List UInt8:=stepsB 0 l
theorem lastI_nil (p:Int):lastI p []=p:=rfl
theorem lastI_cons (p x:Int)(l:List Int):lastI p (x::l)=lastI x l:=by
 cases l with
 | nil=>rfl
 | cons y l =>
  unfold lastI
  rw [List.getLast?_cons_cons]
  cases h:(y::l).getLast? with
  | none=>simp at h
  | some z=>rfl
theorem lastI_snoc (p x:Int)(l:List Int):lastI p (l++[x])=x:=by simp [lastI]
theorem stepsB_append:∀ (p:Int)(l m:List Int),stepsB p (l++m)=stepsB p l++stepsB (lastI p l) m
 | p,[],m=>by rw [lastI_nil];rfl
 | p,x::l,m=>by
  rw [lastI_cons]
  simp only [List.cons_append,stepsB]
  rw [stepsB_append x l m,List.append_assoc]
theorem stepsB_snoc (p x:Int)(l:List Int):stepsB p (l++[x])=stepsB p l++vp (stepN (lastI p l) x):=by
 rw [stepsB_append];simp [stepsB]
theorem stepsB_prefix:∀ (p:Int)(l l':List Int)(r r':List UInt8),InR l→InR l'→l.length≤l'.length→stepsB p l++r=stepsB p l'++r'→∃ tl,l'=l++tl∧r=stepsB (lastI p l) tl++r'
 | p,[],l',r,r',_,_,_,h=>⟨l',rfl,h⟩
 | p,x::l,[],r,r',_,_,hl,_=>absurd hl (by simp)
 | p,x::l,y::l',r,r',h1,h2,hl,h=>by
  simp only [stepsB,List.append_assoc] at h
  obtain ⟨e,k⟩:=vp_prefix (stepN_lt p x) (stepN_lt p y) h
  have hx:=h1 x List.mem_cons_self
  have hy:=h2 y List.mem_cons_self
  have bx:=step_back p x hx.1 hx.2
  have by':=step_back p y hy.1 hy.2
  rw [e,by'] at bx
  subst bx
  obtain ⟨tl,e1,e2⟩:=stepsB_prefix y l l' r r' (fun z hz=>h1 z (List.mem_cons_of_mem _ hz)) (fun z hz=>h2 z (List.mem_cons_of_mem _ hz)) (by simpa using hl) k
  exact ⟨tl,by rw [e1];rfl,by rw [lastI_cons];exact e2⟩
def StepsAt (s:List UInt8)(many:Int)(l:List Int)(r:List UInt8):Prop:=0≤many∧many≤4096∧(l.length:Int)=many∧InR l∧s=stepsP l++r
theorem StepsAt.same {s:List UInt8}{many:Int}{l l':List Int}{r r':List UInt8}(h:StepsAt s many l r)(k:StepsAt s many l' r'):l=l'∧r=r':=by
 obtain ⟨_,_,h3,h4,h5⟩:=h
 obtain ⟨_,_,k3,k4,k5⟩:=k
 obtain ⟨tl,e1,e2⟩:=stepsB_prefix 0 l l' r r' h4 k4 (by omega) (h5.symm.trans k5)
 have ht:tl=[]:=by
  have:=congrArg List.length e1
  rw [List.length_append] at this
  exact List.eq_nil_of_length_eq_zero (by omega)
 subst ht
 exact ⟨by simpa using e1.symm,by simpa [stepsB] using e2⟩
theorem StepsAt.more {s r0:List UInt8}{many:Int}{l l0:List Int}{r:List UInt8}(h:StepsAt s many l r)(h0:InR l0)(e0:s=stepsP l0++r0)(hl:(l0.length:Int) < many) :
  ∃ u rest,u < 18446744073709551616∧r0=vp u++rest:=by
 obtain ⟨_,_,h3,h4,h5⟩:=h
 obtain ⟨tl,e1,e2⟩:=stepsB_prefix 0 l0 l r0 r h0 h4 (by omega) (e0.symm.trans h5)
 cases tl with
 | nil=>rw [List.append_nil] at e1;subst e1;omega
 | cons x tl=>exact ⟨stepN (lastI 0 l0) x,stepsB x tl++r,stepN_lt _ _,by rw [e2];simp [stepsB]⟩
def mayL (l:List ByteArray):Bool:=l.all isInt
def numsL (l:List ByteArray):List Int:=l.map numOf
theorem mayL_of {l:List ByteArray}(h:mayL l=true):∀ c∈l,isInt c=true:=by unfold mayL at h;rwa [List.all_eq_true] at h
theorem mayL_all {l:List ByteArray}(h:∀ c∈l,isInt c=true):mayL l=true:=by unfold mayL;rwa [List.all_eq_true]
theorem mayL_no {l:List ByteArray}{c:ByteArray}(h:c∈l)(hc:isInt c=false):mayL l=false:=by
 cases hm:mayL l with
 | false=>rfl
 | true=>rw [mayL_of hm c h] at hc;exact absurd hc (by decide)
theorem byteI_range (s:ByteArray)(i:Nat):0≤byteI s i∧byteI s i < 256:=byte_range _
theorem numOf_range (s:ByteArray) : -9223372036854775808≤numOf s∧numOf s≤9223372036854775807:=by
 have h1:=byteI_range s 1;have h2:=byteI_range s 2;have h3:=byteI_range s 3;have h4:=byteI_range s 4
 have h5:=byteI_range s 5;have h6:=byteI_range s 6;have h7:=byteI_range s 7;have h8:=byteI_range s 8
 unfold numOf offs
 omega
theorem numsL_range (l:List ByteArray):InR (numsL l):=by
 intro x hx
 obtain ⟨c,_,rfl⟩:=List.mem_map.1 hx
 exact numOf_range c
theorem numsL_length (l:List ByteArray):(numsL l).length=l.length:=List.length_map _
theorem num_both (s:ByteArray):Gives Tryz.prog 183 #[.string s] (.tuple #[.int .i64 (if isInt s then numOf s else 0),.bool (isInt s)]):=by
 cases h:isInt s with
 | true=>exact num_yes s h
 | false=>exact num_no s h
theorem ref_num_both (s:ByteArray):Gives Tryz.prog 157 #[.string s] (.tuple #[.int .i64 (if isInt s then numOf s else 0),.bool (isInt s)]):=by
 cases h:isInt s with
 | true=>exact ref_num_yes s h
 | false=>exact ref_num_no s h
set_option maxHeartbeats 400000 in
theorem may_calls {w:World}{v:Value}{l:List ByteArray}(h:StrsIn w v l):GivesAt Tryz.prog 168 #[v] w (.bool (mayL l)):=by
 have hm:=h.len
 unfold maxLen at hm
 obtain ⟨hb,hB⟩:=start w
 obtain ⟨A,cap,rfl,hat⟩:=one_at h
 have HAT:=Lib.hid hat
 clear h hat
 unfold GivesAt
 go_enter Tryz.func168,Tryz.ntmps168
 go_wp2
 go_loopw [9] (fun i wr=>∃ k:Nat,k≤l.length∧i=.int .i64 k∧Hid (∀ c∈l.take k,isInt c=true)∧Below w.heap.size w wr) (fun i _=>l.length-(intOf i).toNat)
 case atStart=>exact ⟨0,Nat.zero_le _,rfl,fun c hc=>absurd hc (by simp),hb⟩
 case round =>
  clear hb hB
  obtain ⟨k,hk,rfl,HS,hb⟩:=hrel
  have hB:=hb.size
  by_cases hlt:k < l.length
  ·obtain ⟨b,off,rfl,hbl,hc⟩:=HAT.out k hlt
   have hx:=(hb.cell (p:=⟨b,off+k,none⟩) hbl).trans (hc k hlt)
   have HT:=Lib.hid (take_add l k hlt)
   have HM:=Lib.hid (List.getElem_mem hlt)
   clear hc
   generalize l[k]=c at *
   have HN:=Lib.hid (num_both c)
   cases hi:isInt c with
   | true =>
    rw [hi] at HN
    have HI:=Lib.hid hi
    clear hi
    go_wp2_with (go_at_call 183;refine HN.out.step (w0:=w) (B:=w.heap.size) hb hB ?_;clear hb hB hx;intro w' hb hB)
    go_roundw
    case rel=>exact ⟨k+1,by omega,by go_num,fun d hd=>by
     rw [HT.out] at hd
     rcases List.mem_append.1 hd with hd|hd
     ·exact HS.out d hd
     ·rw [List.mem_singleton.1 hd];exact HI.out,hb⟩
    case measure=>simp [intOf];omega
   | false =>
    rw [hi] at HN
    have HD:=Lib.hid (mayL_no HM.out hi)
    clear hi
    go_wp2_with (go_at_call 183;refine HN.out.step (w0:=w) (B:=w.heap.size) hb hB ?_;clear hb hB hx;intro w' hb hB)
    go_ret
    exact ⟨ret_bool HD.out.symm,hb⟩
  ·obtain rfl:k=l.length:=by omega
   rw [List.take_length] at HS
   have HD:=Lib.hid (mayL_all HS.out)
   go_wp2
   go_ret
   exact ⟨ret_bool HD.out.symm,hb⟩
set_option maxHeartbeats 400000 in
theorem ref_may_calls {w:World}{v:Value}{l:List ByteArray}(h:StrsIn w v l):GivesAt Tryz.prog 128 #[v] w (.bool (mayL l)):=by
 have hm:=h.len
 unfold maxLen at hm
 obtain ⟨hb,hB⟩:=start w
 obtain ⟨A,cap,rfl,hat⟩:=one_at h
 have HAT:=Lib.hid hat
 clear h hat
 unfold GivesAt
 go_enter Tryz.func128,Tryz.ntmps128
 go_wp2
 go_loopw [3] (fun i wr=>∃ k:Nat,k≤l.length∧i=.int .i64 k∧Hid (∀ c∈l.take k,isInt c=true)∧Below w.heap.size w wr) (fun i _=>l.length-(intOf i).toNat)
 case atStart=>exact ⟨0,Nat.zero_le _,rfl,fun c hc=>absurd hc (by simp),hb⟩
 case round =>
  clear hb hB
  obtain ⟨k,hk,rfl,HS,hb⟩:=hrel
  have hB:=hb.size
  by_cases hlt:k < l.length
  ·obtain ⟨b,off,rfl,hbl,hc⟩:=HAT.out k hlt
   have hx:=(hb.cell (p:=⟨b,off+k,none⟩) hbl).trans (hc k hlt)
   have HT:=Lib.hid (take_add l k hlt)
   have HM:=Lib.hid (List.getElem_mem hlt)
   clear hc
   generalize l[k]=c at *
   have HN:=Lib.hid (ref_num_both c)
   cases hi:isInt c with
   | true =>
    rw [hi] at HN
    have HI:=Lib.hid hi
    clear hi
    go_wp2_with (go_at_call 157;refine HN.out.step (w0:=w) (B:=w.heap.size) hb hB ?_;clear hb hB hx;intro w' hb hB)
    go_roundw
    case rel=>exact ⟨k+1,by omega,by go_num,fun d hd=>by
     rw [HT.out] at hd
     rcases List.mem_append.1 hd with hd|hd
     ·exact HS.out d hd
     ·rw [List.mem_singleton.1 hd];exact HI.out,hb⟩
    case measure=>simp [intOf];omega
   | false =>
    rw [hi] at HN
    have HD:=Lib.hid (mayL_no HM.out hi)
    clear hi
    go_wp2_with (go_at_call 157;refine HN.out.step (w0:=w) (B:=w.heap.size) hb hB ?_;clear hb hB hx;intro w' hb hB)
    go_ret
    exact ⟨ret_bool HD.out.symm,hb⟩
  ·obtain rfl:k=l.length:=by omega
   rw [List.take_length] at HS
   have HD:=Lib.hid (mayL_all HS.out)
   go_wp2
   go_ret
   exact ⟨ret_bool HD.out.symm,hb⟩
theorem stepsB_size:∀ (p:Int)(l:List Int),(stepsB p l).length≤10*l.length
 | _,[]=>Nat.le_refl _
 | p,x::l=>by
  have h1:=stepsB_size x l
  have h2:=vp_len_10 (stepN_lt p x)
  show (vp (stepN p x)++stepsB x l).length≤10*(l.length+1)
  rw [List.length_append]
  omega
theorem steps_step (l:List Int)(k:Nat)(h:k < l.length):stepsP (l.take (k+1))=stepsP (l.take k)++(printB (stepN (lastI 0 (l.take k)) l[k])).data.toList∧lastI 0 (l.take (k+1))=l[k]:=by
 rw [take_add l k h]
 refine ⟨?_,lastI_snoc _ _ _⟩
 unfold stepsP
 rw [stepsB_snoc,print_data]
theorem numsL_get (l:List ByteArray)(k:Nat)(h:k < l.length):(numsL l)[k]? = some (numOf l[k]):=by unfold numsL;rw [List.getElem?_map,List.getElem?_eq_getElem h];rfl
def stepsT (l:List Int):ByteArray:=mkB (stepsP l)
def stepsG (l:List ByteArray):ByteArray:=if mayL l then stepsT (numsL l) else ⟨#[]⟩
theorem stepN_nat (p x:Int):((stepN p x:Nat):Int)=foldI (wrap64 (x-p)):=by
 have:=(foldI_range _ (wrap64_range (x-p)).1 (wrap64_range (x-p)).2).1
 unfold stepN;omega
theorem fold_step (p x:Int)(w:World):Calls Tryz.prog 110 #[.int .i64 (wrap64 (x-p))] w fun e w'=>e=.returned (.int .u64 (stepN p x))∧w=w':=by
 rw [stepN_nat]
 exact fold_calls _ (wrap64_range _).1 (wrap64_range _).2 w
theorem ref_fold_step (p x:Int)(w:World):Calls Tryz.prog 101 #[.int .i64 (wrap64 (x-p))] w fun e w'=>e=.returned (.int .u64 (stepN p x))∧w=w':=by
 rw [stepN_nat]
 exact ref_fold_calls _ (wrap64_range _).1 (wrap64_range _).2 w
set_option maxHeartbeats 1000000 in
set_option maxRecDepth 100000 in
theorem steps_print_calls {w:World}{v:Value}{l:List ByteArray}(h:StrsIn w v l)(hlen:l.length≤1000000):GivesAt Tryz.prog 167 #[v] w (.string (stepsG l)):=by
 obtain ⟨i0,hi,hz0,hz1,hz2⟩:=info_parts Tryz.infoB5
 obtain ⟨hb,hB⟩:=start w
 have H1:=Lib.hid (may_calls h)
 obtain ⟨A,cap,rfl,hat⟩:=one_at h
 have HAT:=Lib.hid hat
 clear h hat
 unfold GivesAt
 cases hm:mayL l with
 | false =>
  have HG:=Lib.hid (show stepsG l=⟨#[]⟩ by unfold stepsG;rw [hm];rfl)
  rw [hm] at H1
  clear hm
  go_enter Tryz.func167,Tryz.ntmps167
  go_wp2_with (go_at_call 168;refine H1.out.step (w0:=w) (B:=w.heap.size) hb hB ?_;clear hb hB;intro w' hb hB)
  go_ret
  exact ⟨ret_str HG.out.symm,hb⟩
 | true =>
  have HG:=Lib.hid (show stepsG l=mkB (stepsP (numsL l)) by unfold stepsG;rw [hm];rfl)
  rw [hm] at H1
  have HA:=Lib.hid (mayL_of hm)
  have HR:=Lib.hid (numsL_range l)
  have HL:=Lib.hid (numsL_length l)
  have HGET:=Lib.hid (numsL_get l)
  generalize numsL l=ns at *
  clear hm
  go_enter Tryz.func167,Tryz.ntmps167
  go_wp2_with (go_at_call 168;refine H1.out.step (w0:=w) (B:=w.heap.size) hb hB ?_;clear hb hB;intro w1 hb hB)
  go_loopw [3,4,14] (fun v p i wr=>∃ (k:Nat),k≤l.length∧i=.int .i64 k∧p=.int .i64 (lastI 0 (ns.take k))∧RowB wr w.heap.size 5 v (stepsP (ns.take k))∧Below w.heap.size w wr) (fun _ _ i _=>l.length-(intOf i).toNat)
  case atStart=>exact ⟨0,by omega,rfl,rfl,World.ownsRow_nil _ _ _ _,hb⟩
  case round =>
   clear hb hB
   obtain ⟨k,hk,rfl,rfl,hrow,hb⟩:=hrel
   have hB:=hb.size
   by_cases hlt:k < l.length
   ·obtain ⟨b,off,rfl,hbl,hc⟩:=HAT.out k hlt
    have hx:=(hb.cell (p:=⟨b,off+k,none⟩) hbl).trans (hc k hlt)
    obtain ⟨hkn,hge⟩:=List.getElem?_eq_some_iff.1 (HGET.out k hlt)
    have hS:=steps_step ns k hkn
    have hsz:=stepsB_size 0 (ns.take k)
    rw [List.length_take] at hsz
    have hszz:(stepsP (ns.take k)).length≤10000000:=by show (stepsB 0 (ns.take k)).length≤_;omega
    have HN:=Lib.hid (num_yes l[k] (HA.out _ (List.getElem_mem hlt)))
    rw [←hge] at HN
    have p1:=Lib.hid (fold_step (lastI 0 (ns.take k)) ns[k])
    have p2:=Lib.hid (print_calls (stepN (lastI 0 (ns.take k)) ns[k]) (stepN_lt _ _))
    have z2:(printB (stepN (lastI 0 (ns.take k)) ns[k])).size≤10:=by rw [print_len];exact vp_len_10 (stepN_lt _ _)
    have hwr:IntKind.i64.wrap (ns[k]-lastI 0 (ns.take k))=wrap64 (ns[k]-lastI 0 (ns.take k)):=by unfold wrap64;rw [IntKind.wrap_i64]
    have HS1:=Lib.hid hS.1
    have HS2:=Lib.hid hS.2
    clear hc hS hsz hge
    generalize ns[k]=x at *
    generalize stepsP (ns.take k)=L at *
    generalize lastI 0 (ns.take k)=p at *
    generalize stepN p x=q at *
    generalize l[k]=c at *
    obtain ⟨_,_,rfl⟩:=(hrow.own (by unfold maxLen;omega)).len
    go_wp2_with (first|(go_at_call 183;refine HN.out.stepB (w0:=wr) (B:=wr.heap.size) (.refl _ _) (Nat.le_refl _) ?_;intro w2 _ _ hq;replace hrow:=RowB.later hrow hq;replace hb:=hb.trans (hq.mono hB);replace hB:=Nat.le_trans hB hq.size;clear hx hq)|(go_at_call 110;refine (p1.out _).mono ?_;rintro e w' ⟨rfl,rfl⟩)|(go_at_call 109;refine p2.out.stepB (w0:=w2) (B:=w2.heap.size) (.refl _ _) (Nat.le_refl _) ?_;intro w4 _ _ hq;replace hrow:=RowB.later hrow hq;replace hb:=hb.trans (hq.mono hB);replace hB:=Nat.le_trans hB hq.size;clear hq)|(at_builtin;refine Lib.wpList_append_own_string _ rfl _ _ 97 9 rfl w.heap.size 5 i0 Tryz.underlying97 Tryz.underlying9 hi hz0 hz1 hz2 _ _ _ rfl hrow (printB q) rfl ?c1 ?c2 hB ?_))
    case c1=>unfold maxLen;omega
    case c2=>omega
    intro v5 w5 hrow5 hg5 _
    have hb5:=hb.grown hg5 hB (fun k hk=>(hrow.lt k hk).1)
    have HO:=Lib.hid (RowB.step hrow5 HS1.out rfl)
    clear hrow hb hB hg5 hrow5
    go_wp2
    go_roundw
    case rel=>exact ⟨k+1,by omega,by go_num,by rw [HS2.out],HO.out,hb5⟩
    case measure=>simp [intOf];omega
   ·obtain rfl:k=l.length:=by omega
    have hsz:=stepsB_size 0 ns
    have hln:=HL.out
    rw [List.take_of_length_le (by omega)] at hrow
    have hszz:(stepsP ns).length≤10000000:=by show (stepsB 0 ns).length≤_;omega
    have hconv:=run_string_own (hrow.own (by unfold maxLen;omega)) 97 9 5 Tryz.underlying97 Tryz.underlying5 Tryz.underlying9
    obtain ⟨_,_,rfl⟩:=(hrow.own (by unfold maxLen;omega)).len
    clear hrow hsz hln
    go_wp2
    go_ret
    exact ⟨ret_str HG.out.symm,hb⟩
end Go.Proofs.YtafmbnafibahkaaGreat
