/- Layer 17's own appendTerm, Print. -/
import Derived.Test.YtnkhkkdmjabhnaaGZNormOrdered
namespace Go.Proofs.Ytnkhkkdmjabhnaa
open Go Go.RowKit
section
variable {P:Program}{w:World}
theorem run_append_Own_stringA (t u ty e:TypeId)(i:TypeInfo)(ht:P.underlying t=some (.slice e))(hu:P.underlying u=some .string)(hi:P.info? e=some i)(hz:i.zero=some (.int .u8 0))
  (hsize:i.size=1) (hby:i.bytes=1) {B:Nat} {v:Value} {n:Nat} {xs:List Value} (h:Own w B 1 v n xs) (s:ByteArray)
  (h63:n+s.size≤maxLen) (hbytes:n+s.size≤140737488355328) (hB:B≤w.heap.size) :
  ∃ v' w',(Builtin.append_ #[t,u] ty #[v,.string s]).run P w=.ok v' w'∧Own w' B 1 v' (n+s.size) (xs++Lib.strCells s)∧w.grownBy w' v.ownBlock∧∀ k,v'.ownBlock=some k→v.ownBlock=some k∨w.heap.size≤k:=by
 obtain ⟨hx,hn0,h3⟩:=h
 rcases h3 with ⟨rfl,rfl⟩ | ⟨g,off,cap,rfl,hBg,hg,hn,hc,hr⟩
 ·have:xs=[]:=List.eq_nil_of_length_eq_zero (by simpa using hx)
  subst this
  obtain ⟨v',w',r1,r2,r3,_⟩:=Lib.run_append_own_string (P:=P) w w.heap.size t u ty e i ht hu hi hz hsize hby (.slice none 0 0) 0 [] (World.ownsRow_nil w w.heap.size e 1) s h63 hbytes (Nat.le_refl _)
  exact ⟨v',w',r1,.of_row r2 h63 hB,r3,fun k hk=>.inr ((Own.of_row r2 h63 (Nat.le_refl _)).lt k hk).1⟩
 ·have hl:(Lib.strCells s).length=s.size:=Lib.strCells_length s
  by_cases hroom:n+s.size≤cap
  ·have hst:=run_storeCells_cells (P:=P) g (off+n*1) (Lib.strCells s) 0 w (fun j hj=>by rw [Nat.mul_one,Nat.add_zero,Nat.add_assoc];exact (hr _ (by omega)).1) (fun j hj=>by rw [Nat.mul_one,Nat.add_zero,Nat.add_assoc];exact (hr _ (by omega)).2) (Lib.strCells_oneCell s)
   simp only [Nat.add_zero,Nat.mul_one] at hst
   have hf:=Lib.run_firstCells_string (P:=P) w 1 s
   have hrun:(Builtin.append_ #[t,u] ty #[.slice (some ⟨g,off,none⟩) n cap,.string s]).run P w=.ok (.slice (some ⟨g,off,none⟩) (n+s.size) cap) (w.setCells g (off+n) (Lib.strCells s)):=by
    simp [Builtin.append_,run_underlying ht,run_underlying hu,sizeOf,typeInfo,hi,hsize,Builtin.lenOf,hroom,hf,Addr.add_lit,hst]
   have hO:=Own.room (g:=g) (off:=off) (cap:=cap) ⟨hx,hn0,.inr ⟨g,off,cap,rfl,hBg,hg,hn,hc,hr⟩⟩ (Lib.strCells s) (by omega) (by omega)
   rw [hl] at hO
   exact ⟨_,_,hrun,hO,setCells_grown g _ _ w,fun k hk=>.inl hk⟩
  ·have hrun:=Lib.run_append_grow_string (P:=P) w t u ty e i (.int .u8 0) ht hu hi hz ⟨g,off,none⟩ n cap xs (by rw [hsize];exact hx) (fun j v hj=>by rw [Addr.add_lit];exact hc j v hj) s (by omega) (by simp only [maxLen] at h63;omega) (by rw [hby];exact growslice_fits (by omega) (by omega))
   have hge:=grownCap_ge w (n+s.size) cap e
   have hcm:grownCap w (n+s.size) cap e≤maxLen:=grownCap_le_maxLen w (n+s.size) cap e h63
   have hlen:(xs++Lib.strCells s).length=(n+s.size)*1:=by rw [List.length_append,hl];omega
   refine ⟨_,_,hrun,Own.of_row (base:=w.heap.size) (e:=e) ⟨hlen,.inr ⟨w.heap.size,_,_,rfl,Nat.le_refl _,heap_alloc_new w.drew _,hge,hcm,?_,?_⟩⟩ h63 hB,⟨rfl,rfl,rfl,by simp,fun k hk _=>heap_alloc_old w.drew _ hk⟩,fun k hk=>.inr ?_⟩
   ·have hz1:(Value.int IntKind.u8 0).cells.size=1:=rfl
    simp only [Array.size_append,List.size_toArray,size_zeroCells,hz1,hl]
    omega
   ·simp only [Array.toList_append,List.append_assoc]
    rw [←List.append_assoc,←hlen]
    exact List.take_left
   ·have hk2:w.drew.heap.size=k:=Option.some.inj hk
    exact Nat.le_of_eq hk2
theorem wpList_append_Own_stringA {ops:Array Oper}{rest:List Oper}{o:Oper}{a:Act}{Q:Exit→Act→World→Prop}(hgd:o.guard=none)(sl x:Operand)(t u:TypeId)
  (ho:o.op=.call { callee:=.builtin .append,args:=#[sl,x],argTypes:=#[t,u] }) (e:TypeId) (i:TypeInfo) (ht:P.underlying t=some (.slice e)) (hu:P.underlying u=some .string) (hi:P.info? e=some i)
  (hz:i.zero=some (.int .u8 0)) (hsize:i.size=1) (hby:i.bytes=1) {B:Nat} (v:Value) (l:List UInt8) (hs:a.eval sl=v) (h:OwnB w B v l) (s:ByteArray) (hx:a.eval x=.string s)
  (h63:l.length+s.size≤140737488355328) (hB:B≤w.heap.size)
  (hK:∀ v' w',OwnB w' B v' (l++s.data.toList)→w.grownBy w' v.ownBlock→(∀ k,v'.ownBlock=some k→v.ownBlock=some k∨w.heap.size≤k)→wpList P ops Q rest (a.put o.dst v') w'):wpList P ops Q (o::rest) a w:=by
 refine wpList_plain hgd fun K hK'=>?_
 obtain ⟨v',w',hrun,r1,r2,r3⟩:=run_append_Own_stringA (P:=P) t u o.type e i ht hu hi hz hsize hby h s (by unfold maxLen;omega) h63 hB
 unfold Oper.wp execOp
 simp only [ho,resolve,invoke,builtin,Sem.run_bind,Sem.run_pure,Result.andThen_ok,List.map_toArray,List.map_cons,List.map_nil,hs,hx,hrun]
 refine hK' _ _ (hK v' w' ?_ r2 r3)
 unfold OwnB
 rw [List.length_append,show s.data.toList.length=s.size from Array.length_toList,show bytesV (l++s.data.toList)=bytesV l++Lib.strCells s from List.map_append]
 exact r1
end
theorem KidsQ.turn {v v' u:Value}{w w':World}{l:List Trm}(h:KidsQ (fun u=>RowOff v u) w u l)(hg:w.grownBy w' v.ownBlock)(hv:∀ k,v'.ownBlock=some k→v.ownBlock=some k∨w.heap.size≤k):KidsQ (fun u=>RowOff v' u) w' u l :=
 KidsQ.mono (KidsQ.off (v:=v) (KidsQ.old (Q':=fun u=>RowOff v' u∧RowOff v u) h fun _ _ _ hu hq=>⟨hu.turned hq hv,hq⟩) (fun _ hu=>hu.2) hg) fun _ hu=>hu.1
theorem kid_cellsQ {Q:Value→Prop}{w:World}{A:Option Addr}{n cap:Nat}{l:List Trm}(h:KidsQ Q w (.slice A n cap) l){i:Nat}(hi:i < l.length):∃ b off A' p',A=some ⟨b,off,none⟩∧b < w.heap.size∧Cells4 w b (off+i*4) l[i].op l[i].col l[i].cell (.slice A' l[i].kids.length p')∧TermQ Q w (.agg #[.int .u8 l[i].op,.int .i64 l[i].col,.string l[i].cell,.slice A' l[i].kids.length p']) l[i]:=by
 obtain ⟨A2,c2,e,hat⟩:=kids_at h
 injection e with e1 e2 e3
 subst e1
 obtain ⟨b,off,ea,hb,hc⟩:=hat i hi
 obtain ⟨kv,ho,hk,c0,c1,c2,c3⟩:=hc i hi
 obtain ⟨A',p',rfl,-⟩:=kids_at hk
 exact ⟨b,off,A',p',ea,hb,⟨c0,c1,c2,c3⟩,_,rfl,ho,hk⟩
theorem new_trans {v v1 v2:Value}{a b:Nat}(h:∀ k,v1.ownBlock=some k→v.ownBlock=some k∨a≤k)(hab:a≤b)(k:∀ k,v2.ownBlock=some k→v1.ownBlock=some k∨b≤k):∀ k,v2.ownBlock=some k→v.ownBlock=some k∨a≤k:=fun j hj=>by
 rcases k j hj with e|e
 ·exact h j e
 ·exact .inr (Nat.le_trans hab e)
theorem grown_turn {w w1 w2:World}{v v1:Value}(h:w.grownBy w1 v.ownBlock)(hv:∀ k,v1.ownBlock=some k→v.ownBlock=some k∨w.heap.size≤k)(k:w1.grownBy w2 v1.ownBlock):w.grownBy w2 v.ownBlock :=
 ⟨k.os.trans h.os,k.tape.trans h.tape,k.output.trans h.output,Nat.le_trans h.size k.size,fun i hi hr=>(k.block i (Nat.lt_of_lt_of_le hi h.size) fun e=>by
  rcases hv i e.symm with e2|e2
  ·exact hr e2.symm
  ·omega).trans (h.block i hi hr)⟩
theorem flat_take {l:List Trm}{i:Nat}(hi:i < l.length):((l.take (i+1)).map printL).flatten=((l.take i).map printL).flatten++printL l[i]:=by
 rw [List.take_add_one,List.getElem?_eq_getElem hi,List.map_append,List.flatten_append]
 show _++([printL l[i]]:List (List UInt8)).flatten=_
 simp
theorem flat_le {l:List Trm}{i:Nat}:((l.take i).map printL).flatten.length≤(l.map printL).flatten.length:=by
 have e:l.map printL=(l.take i).map printL++(l.drop i).map printL:=by rw [←List.map_append,List.take_append_drop]
 rw [e,List.flatten_append,List.length_append]
 omega
def AppEnd (w:World)(B:Nat)(v:Value)(L:List UInt8)(e:Ending)(w':World):Prop:=∃ v',e=.returned v'∧OwnB w' B v' L∧w.grownBy w' v.ownBlock∧∀ k,v'.ownBlock=some k→v.ownBlock=some k∨w.heap.size≤k
def AppAt (t:Trm):Prop:=Sm17 t→OrdT t→∀ (w:World)(tv v:Value)(B:Nat)(L:List UInt8),TermQ (fun u=>RowOff v u) w tv t→OwnB w B v L→B≤w.heap.size→L.length+(printL t).length≤100000000000 →
 Calls Try.prog 25 #[v,tv] w (AppEnd w B v (L++printL t))
set_option maxHeartbeats 8000000 in
set_option maxRecDepth 100000 in
theorem own_append_calls (t:Trm):AppAt t:=by
 refine Trm.ind (P:=AppAt) (fun t ih=>?_) t
 intro hs ho w tv v B L ht hO hBw hL
 obtain ⟨i0,hi,hz0,hz1,hz2⟩:=info_parts Try.infoB5
 have HH:=Lib.hid fun W (hW:Below w.heap.size w W)=>head_calls (ht.any.kept hW) (by have:=hs.parts.2.1;omega) (by have:=hs.parts.2.2.1;omega)
 have hpr:=ho.print
 have HIH:Hid (∀ k (hk:k∈t.kids),∀ (W:World) (u x:Value) (B:Nat) (L:List UInt8),TermQ (fun u=>RowOff x u) W u k→OwnB W B x L→B≤W.heap.size→L.length+(printL k).length≤100000000000→Calls Try.prog 25 #[x,u] W (AppEnd W B x (L++printL k))):=fun k hk=>ih k hk (hs.kid hk) (ho.kid hk)
 have hm:=hs.parts.2.2.1
 rw [hpr] at hL ⊢
 obtain ⟨kv,rfl,-,hk⟩:=ht
 obtain ⟨op,col,cell,ks⟩:=t
 obtain ⟨A,cap,rfl,-⟩:=kids_at hk
 dsimp only [trmA,Trm.op,Trm.col,Trm.cell,Trm.kids] at *
 obtain ⟨n,hn⟩:∃ n,ks.length=n:=⟨_,rfl⟩
 have HN:Hid (ks.length=n):=hn
 rw [hn] at hk HH hm hL ⊢
 generalize headL op col cell n=hd at *
 rw [List.length_append] at hL
 have HL:Hid (L.length+hd.length+(ks.map printL).flatten.length≤100000000000):=by show _≤_;omega
 have HK:=Lib.hid hk
 have HO:=Lib.hid hO
 have HBW:=Lib.hid hBw
 have HM:Hid (n≤1000):=hm
 clear hn hpr ih hs ho hk hO hBw hL hm
 have ha1:=Below.alloc (.refl w.heap.size w) (Nat.le_refl _) (.cells #[.int .u8 op,.int .i64 col,.string cell,.slice A n cap] 24)
 have hx:=trmbox_lit w 24 op col cell (.slice A n cap)
 have hs1:(w.alloc (.cells #[.int .u8 op,.int .i64 col,.string cell,.slice A n cap] 24)).heap.size=w.heap.size+1:=by simp
 have HX:=Lib.hid hx
 have HB:=Lib.hid ha1
 have HS:Hid (w.heap.size < (w.alloc (.cells #[.int .u8 op,.int .i64 col,.string cell,.slice A n cap] 24)).heap.size):=by show _ < _;rw [hs1];omega
 obtain ⟨c0,c1,c2,c3,-⟩:=HX.out.cells
 clear ha1 hx hs1
 obtain ⟨vA,vn,rfl⟩:=HO.out.len
 unfold AppEnd
 go_enter Try.func25,Try.ntmps25
 go_wp2_with fail
 generalize World.alloc w _=w1 at *
 clear c0 c1 c2 c3
 refine (HH.out w1 HB.out).stepB (w0:=w1) (B:=w1.heap.size) (.refl _ _) (Nat.le_refl _) ?_
 intro w2 _ _ hq
 have hO2:=(HO.out.later (HB.out.trans (hq.mono HB.out.size)))
 go_wp2_with (at_builtin;refine wpList_append_Own_stringA rfl _ _ 42 9 rfl 5 i0 Try.underlying42 Try.underlying9 hi hz0 hz1 hz2 _ _ rfl hO2 (mkB hd) rfl ?bnd (by have:=HBW.out;have:=HB.out.size;have:=hq.size;omega) ?_)
 case bnd=>have:=HL.out;rw [mkB_size];omega
 intro v5 w5 hO5 hg5 hn5
 have hb12:w.grownBy w2 (Value.slice vA L.length vn).ownBlock:=below_grown (HB.out.trans (hq.mono HB.out.size))
 have HG5:=Lib.hid (grown_tr2 hb12 hg5)
 have hsz:w.heap.size≤w2.heap.size:=Nat.le_trans HB.out.size hq.size
 have HN5:Hid (∀ k,v5.ownBlock=some k→(Value.slice vA L.length vn).ownBlock=some k∨w.heap.size+1≤k):=fun k hk=>by
  rcases hn5 k hk with h|h
  ·exact .inl h
  ·have:=HS.out;have:=hq.size;exact .inr (by omega)
 have HNE:Hid (∀ k,(Value.slice vA L.length vn).ownBlock=some k→k < w.heap.size):=fun k hk=>(HO.out.lt k hk).2
 have HO5:Hid (OwnB w5 B v5 (L++hd)):=hO5
 have HX5:=Lib.hid ((HX.out.later hq).other hg5 (fun e=>by have:=HNE.out _ e;omega))
 clear hO2 hO5 hg5 hn5 hb12 hsz hq HX HB HH HO
 obtain ⟨x0,x1,x2,x3,-⟩:=HX5.out.cells
 obtain ⟨vA5,vn5,rfl⟩:=HO5.out.len
 generalize (L++hd).length=m5 at *
 go_wp2
 clear x0 x1 x2 x3
 go_loopw [0,14] (fun tx i wr=>∃ (j:Nat) (to:Value),j≤n∧i=.int .i64 j∧tx=to∧Hid (OwnB wr B to (L++hd++((ks.take j).map printL).flatten))∧Hid (w.grownBy wr (Value.slice vA L.length vn).ownBlock)∧Hid (∀ k,to.ownBlock=some k→(Value.slice vA L.length vn).ownBlock=some k∨w.heap.size+1≤k)) (fun _ i _=>n-(intOf i).toNat)
 case atStart=>exact ⟨0,_,Nat.zero_le _,rfl,rfl,by rw [List.take_zero,List.map_nil,List.flatten_nil,List.append_nil];exact HO5,HG5,HN5⟩
 case round =>
  clear HO5 HG5 HN5 HX5
  obtain ⟨j,to,hj,rfl,et,HO,HG,HN5⟩:=hrel
  rw [et]
  clear et
  have hm:=HM.out
  by_cases hlt:j < n
  ·have hjk:j < ks.length:=by rw [HN.out];exact hlt
   have HT:=Lib.hid (HK.out.turn (v':=to) HG.out fun k hk=>by
    rcases HN5.out k hk with h|h
    ·exact .inl h
    ·exact .inr (by omega))
   obtain ⟨b,off,A',p',ea,hbl,hc4,htq⟩:=kid_cellsQ HT.out hjk
   subst ea
   have HI:=Lib.hid (HIH.out ks[j] (List.getElem_mem hjk))
   have hft:=flat_take hjk
   have HFT:=Lib.hid hft
   have hfl:=flat_le (l:=ks) (i:=j+1)
   rw [hft,List.length_append] at hfl
   have HLL:Hid ((L++hd++((ks.take j).map printL).flatten).length+(printL ks[j]).length≤100000000000):=by
    have:=HL.out
    show _≤_
    rw [List.length_append,List.length_append];omega
   obtain ⟨x0,x1,x2,x3⟩:=hc4
   have HTQ:=Lib.hid htq
   have i1:(j:Int) < (n:Int):=by omega
   have q1:IntKind.i64.wrap ((j:Int)+1)=(j:Int)+1:=by rw [IntKind.wrap_i64];omega
   clear hft hfl htq
   generalize ks[j]=kj at *
   clear hjk
   obtain ⟨ko,kc,kb,kk⟩:=kj
   dsimp only [Trm.op,Trm.col,Trm.cell,Trm.kids] at *
   have hq1:=Below.alloc (.refl wr.heap.size wr) (Nat.le_refl _) (.cells #[.int .u8 ko,.int .i64 kc,.string kb,.slice A' kk.length p'] 24)
   have HC:=Lib.hid (HI.out (wr.alloc (.cells #[.int .u8 ko,.int .i64 kc,.string kb,.slice A' kk.length p'] 24)) _ to B _ (HTQ.out.kept hq1) (HO.out.later hq1) (by have:=HBW.out;have:=HG.out.size;have:=hq1.size;omega) HLL.out)
   unfold AppEnd at HC
   have HG1:=Lib.hid (grown_tr2 HG.out (below_grown hq1))
   have HSZ:=Lib.hid (Nat.le_trans HG.out.size hq1.size)
   have HSZ2:Hid (w.heap.size < (wr.alloc (.cells #[.int .u8 ko,.int .i64 kc,.string kb,.slice A' kk.length p'] 24)).heap.size):=by
    have:=HG.out.size
    show _ < _
    simp;omega
   clear hq1 HTQ HI HT HLL
   obtain ⟨tA,tp,et⟩:=HO.out.len
   subst et
   generalize (L++hd++((ks.take j).map printL).flatten).length=ml at *
   generalize kk.length=nk at *
   go_wp2_with fail
   generalize World.alloc wr _=w7 at *
   refine HC.out.mono ?_
   rintro e w8 ⟨v8,rfl,h1,h2,h3⟩
   have HO8:Hid (OwnB w8 B v8 (L++hd++((ks.take (j+1)).map printL).flatten)):=by
    rw [HFT.out,←List.append_assoc];exact h1
   have HG8:=Lib.hid (grown_turn HG1.out (fun k hk=>by
    rcases HN5.out k hk with h|h
    ·exact .inl h
    ·exact .inr (by omega)) h2)
   have HN8:Hid (∀ k,v8.ownBlock=some k→(Value.slice vA L.length vn).ownBlock=some k∨w.heap.size+1≤k):=fun k hk=>by
    rcases h3 k hk with h|h
    ·exact HN5.out k h
    ·have:=HSZ2.out;exact .inr (by omega)
   clear h1 h2 h3 HC x0 x1 x2 x3
   obtain ⟨tA8,tp8,et8⟩:=HO8.out.len
   subst et8
   generalize (L++hd++((ks.take (j+1)).map printL).flatten).length=ml8 at *
   go_wp2
   go_roundw
   case rel=>exact ⟨j+1,_,hlt,by go_num,rfl,HO8,HG8,HN8⟩
   case measure=>simp [intOf];omega
  ·obtain rfl:j=n:=by omega
   have HOE:Hid (OwnB wr B to (L++(hd++(ks.map printL).flatten))):=by
    have h:=HO.out
    rw [List.take_of_length_le (by rw [HN.out];exact Nat.le_refl _),List.append_assoc] at h
    exact h
   clear HO
   obtain ⟨tA,tp,et⟩:=HOE.out.len
   subst et
   generalize (L++(hd++(ks.map printL).flatten)).length=ml at *
   go_wp2
   go_ret
   exact ⟨_,rfl,HOE.out,HG.out,fun k hk=>by
    rcases HN5.out k hk with h|h
    ·exact .inl h
    ·exact .inr (by omega)⟩
set_option maxHeartbeats 4000000 in
set_option maxRecDepth 100000 in
theorem norm_print_calls {w:World}{v:Value}{t:Trm}(ht:TermIn w v t)(hs:Sm17 t):GivesAt Try.prog 10 #[v] w (.string (mkB (printL t))):=by
 have HT:=Lib.hid ht
 have HSM:=Lib.hid hs
 obtain ⟨kv,rfl,ho,hk⟩:=ht
 obtain ⟨op,col,cell,ks⟩:=t
 obtain ⟨A,cap,rfl,-⟩:=kids_at hk
 dsimp only [trmA,Trm.op,Trm.col,Trm.cell,Trm.kids] at *
 obtain ⟨t,he⟩:∃ t,Trm.mk op col cell ks=t:=⟨_,rfl⟩
 rw [he] at HT HSM ⊢
 clear he ho hk hs
 generalize ks.length=n at *
 unfold GivesAt
 have ha1:=Below.alloc (.refl w.heap.size w) (Nat.le_refl _) (.cells #[.int .u8 op,.int .i64 col,.string cell,.slice A n cap] 24)
 have HB:=Lib.hid ha1
 have HC:=Lib.hid (own_ordered_calls t HSM.out _ _ (HT.out.kept ha1))
 clear ha1
 go_enter Try.func10,Try.ntmps10
 go_wp2_with fail
 generalize World.alloc w _=w1 at *
 refine HC.out.mono ?_
 rintro e w2 h2
 obtain ⟨A2,c2,rfl,ht2,hq2⟩:=TermEndQ.out h2
 have hp:=(ord_facts t).1
 have HAP:=Lib.hid (own_append_calls (ordT t) HSM.out.ord (ord_facts t).2 w2 _ (.slice none 0 0) w2.heap.size [] (ht2.mono fun u _=>RowOff.of_nil) (Own.nil_ _ _ _) (Nat.le_refl _) (by rw [hp];have:=HSM.out.parts.2.2.2.1;simp;omega))
 rw [hp,List.nil_append] at HAP
 have HB2:=Lib.hid (HB.out.trans (hq2.mono HB.out.size))
 clear h2 hq2 hp ht2 HC HB
 generalize (ordT t).kids.length=n2 at *
 generalize (ordT t).op=o2 at *
 generalize (ordT t).col=cc2 at *
 generalize (ordT t).cell=b2 at *
 unfold AppEnd at HAP
 go_wp2_with fail
 refine HAP.out.mono ?_
 rintro e w3 ⟨v3,rfl,h1,h2,h3⟩
 have hconv:=run_string_own h1 42 9 5 Try.underlying42 Try.underlying5 Try.underlying9
 have HB3:=Lib.hid (HB2.out.trans (Below.mono (Below.grown (.refl w2.heap.size w2) h2 (Nat.le_refl _) (fun k hk=>by cases hk)) HB2.out.size))
 obtain ⟨tA,tp,et⟩:=h1.len
 subst et
 clear h1 h2 h3
 go_wp2
 go_ret
 exact ⟨rfl,HB3.out⟩
end Go.Proofs.Ytnkhkkdmjabhnaa
