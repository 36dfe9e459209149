/- The contract of Done of the answer's tape. -/
import Derived.Test.YtafmbnafibahkaaGreatGVary
import Derived.Deep.RegionWith
import Derived.Deep.QuietTactic
import Derived.BigQuiet
import Derived.Laws.Rows
import Derived.Lib.Strings
namespace Go.Proofs.YtafmbnafibahkaaGreat
open Go Go.RowKit
def firstR (s:ByteArray):Value:=.tuple #[.int .u64 (((nextNum s.data.toList).getD (0,0)).1:Nat),.int .i64 (((nextNum s.data.toList).getD (0,0)).2:Nat)]
theorem firstR_of (s:ByteArray)(o:Option (Nat×Nat))(h:nextNum s.data.toList=o):Ending.returned (.tuple #[.int .u64 ((o.getD (0,0)).1:Nat),.int .i64 ((o.getD (0,0)).2:Nat)])=.returned (firstR s):=by subst h;rfl
def accNat (l:List UInt8)(k:Nat):Nat:=val7 (l.take k) % 18446744073709551616
def accN (l:List UInt8)(k:Nat):Int:=(accNat l k:Int)
theorem byte_at (s:ByteArray)(k:Nat)(h:k < s.size):s.data.toList[k]? = some s[k]:=by
 have h':k < s.data.toList.length:=by rw [Array.length_toList];exact h
 rw [List.getElem?_eq_getElem h']
 rfl
theorem wrap_lt (n:Nat)(h:n < 18446744073709551616):IntKind.u64.wrap (n:Int)=(n:Int):=by rw [IntKind.wrap_u64];omega
theorem acc_step (s:ByteArray)(k:Nat)(h:k < s.size)(h9:k < 10) :
  bits .or .u64 (accN s.data.toList k) (IntKind.u64.wrap (IntKind.u64.wrap (bits .andNot .u8 (s[k].toNat:Int) 128)*2 ^ (7*k)))=accN s.data.toList (k+1):=by
 obtain ⟨h1,h2⟩:=val7_or s.data.toList k s[k] (byte_at s k h) h9
 rw [not_128,wrap_lt _ (by omega)]
 have e1:((s[k].toNat % 128:Nat):Int)*2 ^ (7*k)=((s[k].toNat % 128*2 ^ (7*k):Nat):Int):=by simp
 rw [e1,IntKind.wrap_u64]
 have e2:((s[k].toNat % 128*2 ^ (7*k):Nat):Int) % 18446744073709551616=((s[k].toNat % 128*2 ^ (7*k) % 18446744073709551616:Nat):Int):=by simp
 rw [e2]
 unfold accN accNat
 rw [←h1,Nat.mod_eq_of_lt (a:=val7 (List.take k s.data.toList)) (by omega),Nat.shiftLeft_eq]
 exact bits_or_u64_nat _ _ (by omega) (Nat.mod_lt _ (by decide))
theorem print_acc (l:List UInt8)(k:Nat):Gives Tryz.prog 109 #[.int .u64 (accN l k)] (.string (printB (accNat l k))) :=
 print_calls _ (Nat.mod_lt _ (by decide))
theorem print_test (s:ByteArray)(k:Nat) :
  (vp (accNat s.data.toList (k+1))=s.data.toList.take (k+1)→((printB (accNat s.data.toList (k+1))).toList==(s.extract 0 (k+1)).toList)=true∧((printB (accNat s.data.toList (k+1))).toList != (s.extract 0 (k+1)).toList)=false) ∧
  (¬vp (accNat s.data.toList (k+1))=s.data.toList.take (k+1)→((printB (accNat s.data.toList (k+1))).toList==(s.extract 0 (k+1)).toList)=false∧((printB (accNat s.data.toList (k+1))).toList != (s.extract 0 (k+1)).toList)=true):=by
 have e1:(printB (accNat s.data.toList (k+1))).toList=vp (accNat s.data.toList (k+1)):=by rw [ByteArray.toList_eq];rfl
 have e2:(s.extract 0 (k+1)).toList=s.data.toList.take (k+1):=by rw [Lib.extract_toList];simp
 rw [e1,e2]
 constructor
 ·intro hv;rw [hv];simp
 ·intro hv;simp [hv]
theorem acc_zero (l:List UInt8):accN l 0=0:=rfl
set_option maxRecDepth 100000 in
set_option maxHeartbeats 1000000 in
theorem first_short (s:ByteArray)(hs:s.size≤10):Gives Tryz.prog 196 #[.string s] (firstR s):=by
 intro w
 obtain ⟨hb,hB⟩:=start w
 go_enter Tryz.func196,Tryz.ntmps196
 go_wp2
 go_loop [4,9] (fun n i=>∃ k:Nat,k≤s.size∧i=.int .i64 k∧n=.int .u64 (accN s.data.toList k)∧Hid (∀ x∈s.data.toList.take k,128≤x.toNat)) (fun _ i=>s.size-(intOf i).toNat)
 case atStart=>exact ⟨0,Nat.zero_le _,rfl,rfl,fun x hx=>absurd hx (by simp)⟩
 case round =>
  obtain ⟨k,hk,rfl,rfl,ha⟩:=hrel
  by_cases hlt:k < s.size
  ·have hks:k < s.size:=by omega
   have HA:=Lib.hid (acc_step s k hks (by omega))
   have HK:=Lib.hid (byte_at s k hks)
   by_cases hc:s[k].toNat < 128
   ·have hd:decide (128≤((s[k].toNat:Nat):Int))=false:=by rw [decide_eq_false_iff_not];omega
    have HN:=Lib.hid (nextNum_stop s.data.toList k s[k] HK.out ha.out hc (by omega))
    have HT:=print_test s k
    have q1:IntKind.i64.wrap ((k:Int)+1)=(k:Int)+1:=IntWalk.i64_in _ (by omega)
    have q2:(0:Int)≤(k:Int)+1:=by omega
    have q3:((k:Int)+1).toNat=k+1:=by omega
    have q4:k+1≤s.size:=by omega
    by_cases hv:vp (accNat s.data.toList (k+1))=s.data.toList.take (k+1)
    ·obtain ⟨ht,ht'⟩:=HT.1 hv
     have HR:=Lib.hid (HN.out.trans (if_pos hv))
     clear HT hv HN
     go_wp2
     rw [HA.out]
     go_region_with (go_at_call 109;refine (print_acc _ _).step (w0:=w) (B:=w.heap.size) (by go_grown) (by go_size) ?_;intro w' hb hB)
     all_goals
      go_wp2
      go_ret2
      exact ⟨firstR_of s _ HR.out,by go_grown⟩
    ·obtain ⟨ht,ht'⟩:=HT.2 hv
     have HR:=Lib.hid (HN.out.trans (if_neg hv))
     clear HT hv HN
     go_wp2
     rw [HA.out]
     go_region_with (go_at_call 109;refine (print_acc _ _).step (w0:=w) (B:=w.heap.size) (by go_grown) (by go_size) ?_;intro w' hb hB)
     all_goals
      go_wp2
      go_ret2
      exact ⟨firstR_of s _ HR.out,by go_grown⟩
   ·have hd:decide (128≤((s[k].toNat:Nat):Int))=true:=by rw [decide_eq_true_eq];omega
    go_wp2
    go_round
    case rel=>exact ⟨k+1,by omega,by go_num,by rw [HA.out],fun x hx=>by
     rw [take_form _ _ _ HK.out] at hx
     rcases List.mem_append.1 hx with hx|hx
     ·exact ha.out x hx
     ·simp at hx;subst hx;omega⟩
    case measure=>simp [intOf];omega
  ·obtain rfl:k=s.size:=by omega
   have HR:=Lib.hid (nextNum_end s.data.toList s.size (by rw [Array.length_toList];show _=min s.size 10;omega) ha.out)
   go_wp2
   go_ret2
   exact ⟨firstR_of s _ HR.out,by go_grown⟩
set_option maxRecDepth 100000 in
set_option maxHeartbeats 1000000 in
theorem first_long (s:ByteArray)(hs:10 < s.size):Gives Tryz.prog 196 #[.string s] (firstR s):=by
 intro w
 obtain ⟨hb,hB⟩:=start w
 go_enter Tryz.func196,Tryz.ntmps196
 go_wp2
 go_loop [4,9] (fun n i=>∃ k:Nat,k≤10∧i=.int .i64 k∧n=.int .u64 (accN s.data.toList k)∧Hid (∀ x∈s.data.toList.take k,128≤x.toNat)) (fun _ i=>10-(intOf i).toNat)
 case atStart=>exact ⟨0,Nat.zero_le _,rfl,rfl,fun x hx=>absurd hx (by simp)⟩
 case round =>
  obtain ⟨k,hk,rfl,rfl,ha⟩:=hrel
  by_cases hlt:k < 10
  ·have hks:k < s.size:=by omega
   have HA:=Lib.hid (acc_step s k hks (by omega))
   have HK:=Lib.hid (byte_at s k hks)
   by_cases hc:s[k].toNat < 128
   ·have hd:decide (128≤((s[k].toNat:Nat):Int))=false:=by rw [decide_eq_false_iff_not];omega
    have HN:=Lib.hid (nextNum_stop s.data.toList k s[k] HK.out ha.out hc (by omega))
    have HT:=print_test s k
    have q1:IntKind.i64.wrap ((k:Int)+1)=(k:Int)+1:=IntWalk.i64_in _ (by omega)
    have q2:(0:Int)≤(k:Int)+1:=by omega
    have q3:((k:Int)+1).toNat=k+1:=by omega
    have q4:k+1≤s.size:=by omega
    by_cases hv:vp (accNat s.data.toList (k+1))=s.data.toList.take (k+1)
    ·obtain ⟨ht,ht'⟩:=HT.1 hv
     have HR:=Lib.hid (HN.out.trans (if_pos hv))
     clear HT hv HN
     go_wp2
     rw [HA.out]
     go_region_with (go_at_call 109;refine (print_acc _ _).step (w0:=w) (B:=w.heap.size) (by go_grown) (by go_size) ?_;intro w' hb hB)
     all_goals
      go_wp2
      go_ret2
      exact ⟨firstR_of s _ HR.out,by go_grown⟩
    ·obtain ⟨ht,ht'⟩:=HT.2 hv
     have HR:=Lib.hid (HN.out.trans (if_neg hv))
     clear HT hv HN
     go_wp2
     rw [HA.out]
     go_region_with (go_at_call 109;refine (print_acc _ _).step (w0:=w) (B:=w.heap.size) (by go_grown) (by go_size) ?_;intro w' hb hB)
     all_goals
      go_wp2
      go_ret2
      exact ⟨firstR_of s _ HR.out,by go_grown⟩
   ·have hd:decide (128≤((s[k].toNat:Nat):Int))=true:=by rw [decide_eq_true_eq];omega
    go_wp2
    go_round
    case rel=>exact ⟨k+1,by omega,by go_num,by rw [HA.out],fun x hx=>by
     rw [take_form _ _ _ HK.out] at hx
     rcases List.mem_append.1 hx with hx|hx
     ·exact ha.out x hx
     ·simp at hx;subst hx;omega⟩
    case measure=>simp [intOf];omega
  ·obtain rfl:k=10:=by omega
   have HR:=Lib.hid (nextNum_end s.data.toList 10 (by rw [Array.length_toList];show _=min s.size 10;omega) ha.out)
   go_wp2
   go_ret2
   exact ⟨firstR_of s _ HR.out,by go_grown⟩
theorem first_calls (s:ByteArray):Gives Tryz.prog 196 #[.string s] (firstR s):=by
 by_cases hs:s.size≤10
 ·exact first_short s hs
 ·exact first_long s (by omega)
def TapeIn (T:TypeId)(w:World)(b:Nat)(s:ByteArray)(bad:Bool):Prop:=w.heap[b]? = some (.cells #[.string s,.bool bad] T (0,0))
theorem TapeIn.c0 {T:TypeId}{w:World}{b:Nat}{s:ByteArray}{bad:Bool}(h:TapeIn T w b s bad):w.cell? ⟨b,0,none⟩=some (.string s):=cell_of_row w b 0 _ T _ h
theorem TapeIn.c1 {T:TypeId}{w:World}{b:Nat}{s:ByteArray}{bad:Bool}(h:TapeIn T w b s bad):w.cell? ⟨b,1,none⟩=some (.bool bad):=cell_of_row w b 1 _ T _ h
theorem TapeIn.f0 {T:TypeId}{w:World}{b:Nat}{s:ByteArray}{bad:Bool}(h:TapeIn T w b s bad)(i:Nat):w.frozen? ⟨b,i,none⟩=false:=frozen_of_row w b i _ T h
theorem TapeIn.lt {T:TypeId}{w:World}{b:Nat}{s:ByteArray}{bad:Bool}(h:TapeIn T w b s bad):b < w.heap.size:=lt_of_block h
theorem TapeIn.set0 {T:TypeId}{w:World}{b:Nat}{s:ByteArray}{bad:Bool}(h:TapeIn T w b s bad)(s':ByteArray):TapeIn T (w.setCell ⟨b,0,none⟩ (.string s')) b s' bad:=by
 unfold TapeIn;rw [heap_setCell_same w b 0 _ T _ h];rfl
theorem TapeIn.set1 {T:TypeId}{w:World}{b:Nat}{s:ByteArray}{bad:Bool}(h:TapeIn T w b s bad)(c:Bool):TapeIn T (w.setCell ⟨b,1,none⟩ (.bool c)) b s c:=by
 unfold TapeIn;rw [heap_setCell_same w b 1 _ T _ h];rfl
theorem TapeIn.kept {T:TypeId}{w w':World}{b:Nat}{s:ByteArray}{bad:Bool}(h:TapeIn T w b s bad)(hb:Below w.heap.size w w'):TapeIn T w' b s bad:=by
 unfold TapeIn;rw [hb.block b h.lt];exact h
theorem TapeIn.other {T:TypeId}{w w':World}{b c:Nat}{s:ByteArray}{bad:Bool}(h:TapeIn T w b s bad)(hg:w.grownBy w' (some c))(hn:b≠c):TapeIn T w' b s bad:=by
 unfold TapeIn;rw [hg.block b h.lt (by simpa using hn)];exact h
theorem grown_refl (w:World)(row:Option Nat):w.grownBy w row:=⟨rfl,rfl,rfl,Nat.le_refl _,fun _ _ _=>rfl⟩
theorem grown_below {w w':World}(h:Below w.heap.size w w')(row:Option Nat):w.grownBy w' row:=⟨h.os,h.tape,h.output,h.size,fun k hk _=>h.block k hk⟩
theorem grown_trans {a b c:World}{row:Option Nat}(h:a.grownBy b row)(k:b.grownBy c row):a.grownBy c row :=
 ⟨k.os.trans h.os,k.tape.trans h.tape,k.output.trans h.output,Nat.le_trans h.size k.size,fun i hi hr=>(k.block i (Nat.lt_of_lt_of_le hi h.size) hr).trans (h.block i hi hr)⟩
theorem grown_set {a w:World}{b:Nat}(h:a.grownBy w (some b))(i:Nat)(v:Value):a.grownBy (w.setCell ⟨b,i,none⟩ v) (some b) :=
 grown_trans h ⟨rfl,rfl,rfl,by simp,fun k _ hr=>heap_setCell_other w _ k v (by intro e;exact hr (by rw [e]))⟩
def Takes (P:Program)(T:TypeId)(f:FuncId)(more:List Value)(b:Nat)(s:ByteArray)(bad:Bool)(v:Value)(s':ByteArray)(bad':Bool):Prop :=
 ∀ w:World,TapeIn T w b s bad→Calls P f (Value.pointer (some ⟨b,0,none⟩)::more).toArray w fun e w'=>e=.returned v∧TapeIn T w' b s' bad'∧w.grownBy w' (some b)
theorem first_none (s:ByteArray)(h:nextNum s.data.toList=none):Gives Tryz.prog 196 #[.string s] (.tuple #[.int .u64 0,.int .i64 0]):=by
 have:=first_calls s
 unfold firstR at this
 rwa [h] at this
theorem first_some (s:ByteArray)(n k:Nat)(h:nextNum s.data.toList=some (n,k)):Gives Tryz.prog 196 #[.string s] (.tuple #[.int .u64 n,.int .i64 k]):=by
 have:=first_calls s
 unfold firstR at this
 rwa [h] at this
theorem Gives.tape {P:Program}{f:FuncId}{args:Array Value}{v:Value}(h:Gives P f args v){T:TypeId}{w0 w:World}{b:Nat}{s:ByteArray}{bad:Bool}(hT:TapeIn T w b s bad)
  (hg:w0.grownBy w (some b)) {R:Ending→World→Prop} (k:∀ w',TapeIn T w' b s bad→w0.grownBy w' (some b)→R (.returned v) w'):Calls P f args w R :=
 (h w).mono fun _ _ ⟨he,hw⟩=>he▸k _ (hT.kept hw) (grown_trans hg (grown_below hw _))
theorem stopped_calls (b:Nat)(s:ByteArray)(bad:Bool)(w:World)(hT:TapeIn 154 w b s bad) :
  Calls Tryz.prog 175 #[.pointer (some ⟨b,0,none⟩)] w fun e w'=>e=.returned (.bool bad)∧w=w':=by
 have hc1:=hT.c1
 go_enter Tryz.func175,Tryz.ntmps175
 go_wp2
 go_ret
 exact ⟨rfl,rfl⟩
set_option maxHeartbeats 400000 in
theorem num_bad (b:Nat)(s:ByteArray)(m:Int):Takes Tryz.prog 154 185 [.int .u64 m] b s true (.int .u64 0) s true:=by
 intro w hT
 go_enter Tryz.func185,Tryz.ntmps185
 go_wp2_with (go_at_call 175;refine (stopped_calls b s true _ hT).mono ?_;rintro e w' ⟨rfl,rfl⟩)
 go_ret
 exact ⟨rfl,hT,grown_refl _ _⟩
set_option maxHeartbeats 400000 in
theorem num_none (b:Nat)(s:ByteArray)(m:Int)(h:nextNum s.data.toList=none):Takes Tryz.prog 154 185 [.int .u64 m] b s false (.int .u64 0) s true:=by
 intro w hT
 have H:=Lib.hid h
 clear h
 have hc0:=hT.c0
 have hc1:=hT.c1
 have hf:=hT.f0 1
 go_enter Tryz.func185,Tryz.ntmps185
 go_wp2_with (first|(go_at_call 175;refine (stopped_calls b s false _ hT).mono ?_;rintro e w' ⟨rfl,rfl⟩)|(go_at_call 196;refine (first_none s H.out).tape hT (grown_refl w (some b)) ?_;clear hT hc0 hc1 hf;intro w' hT hg;have hc0:=hT.c0;have hc1:=hT.c1;have hf:=hT.f0 1))
 go_ret
 exact ⟨rfl,hT.set1 true,grown_set hg _ _⟩
set_option maxHeartbeats 400000 in
theorem num_over (b:Nat)(s:ByteArray)(m:Int)(n k:Nat)(h:nextNum s.data.toList=some (n,k))(hm:m < n):Takes Tryz.prog 154 185 [.int .u64 m] b s false (.int .u64 0) s true:=by
 intro w hT
 have hk:0 < k:=(nextNum_some h).2.2.2.2.1
 have H:=Lib.hid h
 have ht:((k:Int)==0)=false:=by rw [beq_eq_false_iff_ne];omega
 have ht2:decide (m < (n:Int))=true:=by rw [decide_eq_true_eq];exact hm
 clear h hk hm
 have hc0:=hT.c0
 have hc1:=hT.c1
 have hf:=hT.f0 1
 go_enter Tryz.func185,Tryz.ntmps185
 go_wp2_with (first|(go_at_call 175;refine (stopped_calls b s false _ hT).mono ?_;rintro e w' ⟨rfl,rfl⟩)|(go_at_call 196;refine (first_some s n k H.out).tape hT (grown_refl w (some b)) ?_;clear hT hc0 hc1 hf;intro w' hT hg;have hc0:=hT.c0;have hc1:=hT.c1;have hf:=hT.f0 1))
 go_ret
 exact ⟨rfl,hT.set1 true,grown_set hg _ _⟩
set_option maxHeartbeats 400000 in
theorem num_ok (b:Nat)(s:ByteArray)(m:Int)(n k:Nat)(h:nextNum s.data.toList=some (n,k))(hm:(n:Int)≤m):Takes Tryz.prog 154 185 [.int .u64 m] b s false (.int .u64 n) (s.extract k s.size) false:=by
 intro w hT
 have hk:0 < k:=(nextNum_some h).2.2.2.2.1
 have hks:k≤s.size:=by have:=(nextNum_some h).2.2.1;rwa [Array.length_toList] at this
 have H:=Lib.hid h
 have ht:((k:Int)==0)=false:=by rw [beq_eq_false_iff_ne];omega
 have ht2:decide (m < (n:Int))=false:=by rw [decide_eq_false_iff_not];omega
 clear h hk hm
 have hc0:=hT.c0
 have hc1:=hT.c1
 have hf:=hT.f0 0
 go_enter Tryz.func185,Tryz.ntmps185
 go_wp2_with (first|(go_at_call 175;refine (stopped_calls b s false _ hT).mono ?_;rintro e w' ⟨rfl,rfl⟩)|(go_at_call 196;refine (first_some s n k H.out).tape hT (grown_refl w (some b)) ?_;clear hT hc0 hc1 hf;intro w' hT hg;have hc0:=hT.c0;have hc1:=hT.c1;have hf:=hT.f0 0))
 go_ret
 exact ⟨rfl,hT.set0 _,grown_set hg _ _⟩
def numT (s:ByteArray)(bad:Bool)(m:Int):Nat×ByteArray×Bool :=
 if bad then (0,s,true) else match nextNum s.data.toList with
  | none=>(0,s,true)
  | some (n,k)=>if (n:Int)≤m then (n,s.extract k s.size,false) else (0,s,true)
theorem tnum_calls (b:Nat)(s:ByteArray)(bad:Bool)(m:Int) :
  Takes Tryz.prog 154 185 [.int .u64 m] b s bad (.int .u64 ((numT s bad m).1:Nat)) (numT s bad m).2.1 (numT s bad m).2.2:=by
 cases bad with
 | true=>exact num_bad b s m
 | false =>
  unfold numT
  cases h:nextNum s.data.toList with
  | none=>exact num_none b s m h
  | some p =>
   obtain ⟨n,k⟩:=p
   by_cases hm:(n:Int)≤m
   ·simp only [if_pos hm];exact num_ok b s m n k h hm
   ·simp only [if_neg hm];exact num_over b s m n k h (by omega)
theorem numT_lt (s:ByteArray)(bad:Bool)(m:Int):(numT s bad m).1 < 18446744073709551616:=by
 unfold numT
 cases bad with
 | true=>exact (by decide:(0:Nat) < 18446744073709551616)
 | false =>
  cases h:nextNum s.data.toList with
  | none=>exact (by decide:(0:Nat) < 18446744073709551616)
  | some p =>
   obtain ⟨n,k⟩:=p
   have:=(nextNum_some h).2.2.2.1
   simp only [Bool.false_eq_true,if_false]
   split
   ·exact this
   ·exact (by decide:(0:Nat) < 18446744073709551616)
theorem Takes.step {P:Program}{T:TypeId}{f:FuncId}{more:List Value}{b:Nat}{s s':ByteArray}{bad bad':Bool}{v:Value}(h:Takes P T f more b s bad v s' bad')
  {w0 w:World} (hT:TapeIn T w b s bad) (hg:w0.grownBy w (some b)) {R:Ending→World→Prop} (k:∀ w',TapeIn T w' b s' bad'→w0.grownBy w' (some b)→R (.returned v) w') :
  Calls P f (Value.pointer (some ⟨b,0,none⟩)::more).toArray w R :=
 (h w hT).mono fun _ _ ⟨he,hT',hw⟩=>he▸k _ hT' (grown_trans hg hw)
def maxU:Int:=18446744073709551615
set_option maxHeartbeats 400000 in
set_option maxRecDepth 100000 in
theorem tint_calls (b:Nat)(s:ByteArray)(bad:Bool) :
  Takes Tryz.prog 154 189 [] b s bad (.int .i64 (openI (numT s bad maxU).1)) (numT s bad maxU).2.1 (numT s bad maxU).2.2:=by
 intro w hT
 have hl:=Lib.hid (numT_lt s bad maxU)
 have hn:=Lib.hid (tnum_calls b s bad maxU)
 go_enter Tryz.func189,Tryz.ntmps189
 go_wp2_with (first|(go_at_call 185;refine hn.out.step hT (grown_refl w (some b)) ?_;clear hT;intro w' hT hg)|(go_at_call 200;refine (open_calls _ hl.out _).mono ?_;rintro e w' ⟨rfl,rfl⟩))
 go_ret
 exact ⟨rfl,hT,hg⟩
set_option maxHeartbeats 400000 in
theorem tdone_calls (b:Nat)(s:ByteArray)(bad:Bool)(w:World)(hT:TapeIn 154 w b s bad) :
  Calls Tryz.prog 148 #[.pointer (some ⟨b,0,none⟩)] w fun e w'=>e=.returned (.bool (!bad&&s.toList.isEmpty))∧w=w':=by
 have hc0:=hT.c0
 cases bad
 ·go_enter Tryz.func148,Tryz.ntmps148
  go_wp2_with (go_at_call 175;refine (stopped_calls b s _ _ hT).mono ?_;rintro e w' ⟨rfl,rfl⟩)
  go_ret
  exact ⟨by simp,rfl⟩
 ·go_enter Tryz.func148,Tryz.ntmps148
  go_wp2_with (go_at_call 175;refine (stopped_calls b s _ _ hT).mono ?_;rintro e w' ⟨rfl,rfl⟩)
  go_ret
  exact ⟨by simp,rfl⟩
def textT (s:ByteArray)(bad:Bool)(n:Nat):ByteArray×ByteArray×Bool :=
 if bad then (⟨#[]⟩,s,true) else if n≤s.size then (s.extract 0 n,s.extract n s.size,false) else (⟨#[]⟩,s,true)
theorem wrap_size (s:ByteArray)(hs:s.size≤9223372036854775807):IntKind.u64.wrap (s.size:Int)=(s.size:Int):=wrap_lt _ (by omega)
set_option maxHeartbeats 400000 in
theorem ttext_calls (b:Nat)(s:ByteArray)(bad:Bool)(n:Nat)(hs:s.size≤9223372036854775807) :
  Takes Tryz.prog 154 190 [.int .u64 n] b s bad (.string (textT s bad n).1) (textT s bad n).2.1 (textT s bad n).2.2:=by
 intro w hT
 have hw:=wrap_size s hs
 cases bad with
 | true =>
  clear hs hw
  go_enter Tryz.func190,Tryz.ntmps190
  go_wp2_with (go_at_call 175;refine (stopped_calls b s _ _ hT).mono ?_;rintro e w' ⟨rfl,rfl⟩)
  go_ret
  exact ⟨rfl,hT,grown_refl _ _⟩
 | false =>
  have hc0:=hT.c0
  have hc1:=hT.c1
  have hf0:=hT.f0 0
  have hf1:=hT.f0 1
  have hg:=grown_refl w (some b)
  by_cases hn:n≤s.size
  ·have HE:=Lib.hid (show textT s false n=(s.extract 0 n,s.extract n s.size,false) by unfold textT;rw [if_neg (by decide),if_pos hn])
   have hd:decide ((s.size:Int) < (n:Int))=false:=by rw [decide_eq_false_iff_not];omega
   have hd':decide (s.size < n)=false:=by rw [decide_eq_false_iff_not];omega
   clear hs
   go_enter Tryz.func190,Tryz.ntmps190
   go_wp2_with (go_at_call 175;refine (stopped_calls b s _ _ hT).mono ?_;rintro e w' ⟨rfl,rfl⟩)
   go_ret
   rw [HE.out]
   exact ⟨rfl,hT.set0 _,grown_set hg _ _⟩
  ·have HE:=Lib.hid (show textT s false n=(⟨#[]⟩,s,true) by unfold textT;rw [if_neg (by decide),if_neg hn])
   have hd:decide ((s.size:Int) < (n:Int))=true:=by rw [decide_eq_true_eq];omega
   have hd':decide (s.size < n)=true:=by rw [decide_eq_true_eq];omega
   clear hs
   go_enter Tryz.func190,Tryz.ntmps190
   go_wp2_with (go_at_call 175;refine (stopped_calls b s _ _ hT).mono ?_;rintro e w' ⟨rfl,rfl⟩)
   go_ret
   rw [HE.out]
   exact ⟨rfl,hT.set1 _,grown_set hg _ _⟩
theorem numT_ok (s:ByteArray)(m:Int)(n k:Nat)(h:nextNum s.data.toList=some (n,k))(hm:(n:Int)≤m):numT s false m=(n,s.extract k s.size,false):=by
 unfold numT;rw [h];simp only [Bool.false_eq_true,if_false];rw [if_pos hm]
theorem box_tape (w:World)(s:ByteArray)(bad:Bool)(T:TypeId):TapeIn T (w.alloc (.cells #[.string s,.bool bad] T)) w.heap.size s bad:=heap_alloc_new w _
theorem TapeIn.alloc {T:TypeId}{w:World}{b:Nat}{s:ByteArray}{bad:Bool}(h:TapeIn T w b s bad)(o:Obj):TapeIn T (w.alloc o) b s bad:=h.kept (Below.alloc (.refl _ _) (Nat.le_refl _) o)
theorem Takes.stepB {P:Program}{T:TypeId}{f:FuncId}{more:List Value}{b:Nat}{s s':ByteArray}{bad bad':Bool}{v:Value}(h:Takes P T f more b s bad v s' bad')
  {w0 w:World} {B:Nat} (hT:TapeIn T w b s bad) (hb:Below B w0 w) (hB:B≤w.heap.size) (hr:B≤b) {R:Ending→World→Prop}
  (k:∀ w',TapeIn T w' b s' bad'→Below B w0 w'→B≤w'.heap.size→w.grownBy w' (some b)→R (.returned v) w') :
  Calls P f (Value.pointer (some ⟨b,0,none⟩)::more).toArray w R :=
 (h w hT).mono fun _ _ ⟨he,hT',hw⟩=>he▸k _ hT' (hb.grown hw hB (fun k hk=>by cases hk;exact hr)) (Nat.le_trans hB hw.size) hw
theorem print_len (n:Nat):(printB n).size=(vp n).length:=by
 show (vp n).toArray.size=_
 exact List.size_toArray
theorem print_data (n:Nat):(printB n).data.toList=vp n:=rfl
theorem bytes_ext {a b:ByteArray}(h:a.data.toList=b.data.toList):a=b:=by
 cases a with|mk x=>cases b with|mk y=>cases x;cases y;cases h;rfl
theorem data_append (a b:ByteArray):(a++b).data.toList=a.data.toList++b.data.toList:=by simp
theorem data_extract (s:ByteArray)(a b:Nat):(s.extract a b).data.toList=(s.data.toList.drop a).take (b-a):=by
 have:=Lib.extract_toList s a b
 rwa [ByteArray.toList_eq] at this
theorem data_size (s:ByteArray):s.data.toList.length=s.size:=Array.length_toList
theorem extract_front (a b:ByteArray):(a++b).extract a.size (a++b).size=b:=by
 apply bytes_ext
 rw [data_extract,data_append]
 have h1:=data_size a
 have h2:=data_size (a++b)
 rw [data_append,List.length_append] at h2
 rw [←h1,List.drop_left,List.take_of_length_le]
 rw [h1] at h2 ⊢
 omega
theorem numT_print (n:Nat)(h:n < 18446744073709551616)(r:ByteArray)(m:Int)(hm:(n:Int)≤m):numT (printB n++r) false m=(n,r,false):=by
 have e:nextNum (printB n++r).data.toList=some (n,(vp n).length):=by rw [data_append];exact nextNum_vp n h _
 rw [numT_ok _ m _ _ e hm,←print_len,extract_front]
theorem fold_nat (n:Int)(h0 : -9223372036854775808≤n)(h1:n≤9223372036854775807)(w:World) :
  Calls Tryz.prog 110 #[.int .i64 n] w fun e w'=>e=.returned (.int .u64 ((foldI n).toNat:Nat))∧w=w':=by
 have k:=fold_calls n h0 h1 w
 have e:((foldI n).toNat:Int)=foldI n:=by have:=(foldI_range n h0 h1).1;omega
 rw [e];exact k
theorem TapeIn.drew {T:TypeId}{w:World}{b:Nat}{s:ByteArray}{bad:Bool}(h:TapeIn T w b s bad):TapeIn T w.drew b s bad:=h
theorem numT_size (s:ByteArray)(bad:Bool)(m:Int):(numT s bad m).2.1.size≤s.size:=by
 unfold numT
 cases bad with
 | true=>exact Nat.le_refl _
 | false =>
  cases h:nextNum s.data.toList with
  | none=>exact Nat.le_refl _
  | some p =>
   obtain ⟨n,k⟩:=p
   simp only [Bool.false_eq_true,if_false]
   split
   ·rw [ByteArray.size_extract];omega
   ·exact Nat.le_refl _
theorem textT_size (s:ByteArray)(bad:Bool)(n:Nat):(textT s bad n).2.1.size≤s.size:=by
 unfold textT
 split
 ·exact Nat.le_refl _
 ·split
  ·show (s.extract n s.size).size≤_;rw [ByteArray.size_extract];omega
  ·exact Nat.le_refl _
theorem TapeIn.drewN {T:TypeId}{w:World}{b:Nat}{s:ByteArray}{bad:Bool}(h:TapeIn T w b s bad)(n:Nat):TapeIn T (w.drewN n) b s bad:=h
theorem below_drewN {B:Nat}{a w:World}(h:Below B a w)(n:Nat):Below B a (w.drewN n):=⟨h.os,h.tape,h.output,h.size,h.block⟩
end Go.Proofs.YtafmbnafibahkaaGreat
