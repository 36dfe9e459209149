/- The contracts of the library's Clone at terms, and of layer 15's own Shift. -/
import Derived.Test.YtnkhkkdmjabhnaaGZTermOwnA
import Derived.Test.YtnkhkkdmjabhnaaGZTermShiftRef
namespace Go.Proofs.Ytnkhkkdmjabhnaa
open Go Go.RowKit
theorem clone_cells4 {w:World}{v:Value}{n:Nat}{xs:List Value}(h:SliceOf w 4 v n xs):∃ A c,v=.slice A n c∧(A=none→n=0):=by
 obtain ⟨A,c,e,hat⟩:=h.at_
 refine ⟨A,c,e,fun h0=>?_⟩
 rcases Nat.eq_zero_or_pos n with hn|hn
 ·exact hn
 ·obtain ⟨b,off,e1,_⟩:=hat hn
  rw [h0] at e1;cases e1
set_option maxHeartbeats 1000000 in
theorem clone_terms_calls {w:World}{v:Value}{n:Nat}{xs:List Value}(h:SliceOf w 4 v n xs)(h1:∀ u∈xs,u.oneCell'=true)(hl:n≤1000000):Calls Try.prog 42 #[v] w fun e w'=>∃ A p,e=.returned (.slice A n p)∧Own w' w.heap.size 4 (.slice A n p) n xs∧Below w.heap.size w w':=by
 obtain ⟨i0,hi,hz0,hz1,hz2⟩:=info_parts Try.infoCe24
 obtain ⟨hb,hB⟩:=start w
 obtain ⟨A,c,rfl,hat⟩:=clone_cells4 h
 have H:=Lib.hid h
 have H1:=Lib.hid h1
 clear h1
 have q22:∀ (w:World) (a:Option Addr) (n c n' c':Nat),(binOp .eql 22 (.slice a n c) (.slice none n' c')).run Try.prog w=.ok (.bool a.isNone) w:=fun w a n c n' c'=>Lib.run_eql_slice_nil w _ _ a n c n' c' Try.underlying22
 cases A with
 | none =>
  have h0:=hat rfl
  subst h0
  have hx:xs=[]:=List.eq_nil_of_length_eq_zero (by have:=h.1;omega)
  subst hx
  clear hat h
  go_enter Try.func42,Try.ntmps42
  go_wp2
  go_ret
  exact ⟨_,_,rfl,Own.nil_ _ _ _,hb⟩
 | some ad =>
  clear hat h
  go_enter Try.func42,Try.ntmps42
  go_wp2_with (at_builtin;refine wpList_append_src rfl (.tmp 5) (.tmp 6) 22 rfl 24 i0 (.agg #[.int .u8 0,.int .i64 0,.string ⟨#[]⟩,.slice none 0 0]) 4 56 Try.underlying22 hi hz0 hz1 hz2 rfl (by decide) (B:=w.heap.size) _ 0 [] rfl (own_empty 4 (Nat.le_refl _) (by simp)) _ n xs rfl (SliceOf.alloc H.out _) H1.out (by unfold maxLen;omega) (by omega) (by simp) ?_)
  intro v7 w7 hO7 hg7 _
  have hb7:=boxed_below hg7
  have hO:Own w7 w.heap.size 4 v7 n xs:=by simpa using hO7
  clear hO7 hg7 hb hB
  obtain ⟨A9,p9,rfl⟩:=hO.len
  have HO:=Lib.hid hO
  clear hO
  go_wp2
  go_ret
  exact ⟨_,_,rfl,HO.out,hb7⟩
theorem one_trms {Q:Value→Prop}{w:World}{tv:List (Value×Trm)}(h:∀ t∈tv,okT t.2∧KidsQ Q w t.1 t.2.kids):∀ u∈trmsV tv,u.oneCell'=true:=by
 intro u hu
 unfold trmsV at hu
 rw [List.mem_flatMap] at hu
 obtain ⟨t,ht,hu⟩:=hu
 exact one_trm (h t ht).2 u hu
theorem trmsV_set:∀ (tv:List (Value×Trm))(j:Nat)(t:Value×Trm),j < tv.length→((((trmsV tv).set (j*4) (.int .u8 t.2.op)).set (j*4+1) (.int .i64 t.2.col)).set (j*4+2) (.string t.2.cell)).set (j*4+3) t.1=trmsV (tv.set j t)
 | [],j,t,h=>absurd h (by simp)
 | x::tv,0,t,_=>rfl
 | x::tv,j+1,t,h=>by
  have e:(j+1)*4=j*4+4:=by omega
  have ih:=trmsV_set tv j t (by simpa using h)
  rw [e]
  show _::_::_::_::((((trmsV tv).set (j*4) (.int .u8 t.2.op)).set (j*4+1) (.int .i64 t.2.col)).set (j*4+2) (.string t.2.cell)).set (j*4+3) t.1=_
  rw [ih]
  rfl
def ShiftS (B:Nat)(wr:World)(kv:Value)(tv0:List (Value×Trm))(l:List Trm)(j:Nat):Prop :=
 ∃ tn:List (Value×Trm),tn.length=j∧tn.map Prod.snd=l∧Own wr B 4 kv tv0.length (trmsV (tn++tv0.drop j))∧∀ t∈tn,okT t.2∧KidsQ (fun u=>Fresh B u∧RowOff kv u) wr t.1 t.2.kids
section
variable {B:Nat}{w w':World}{kv:Value}{tv0:List (Value×Trm)}{l:List Trm}{j:Nat}
theorem ShiftS.begin (h:Own w B 4 kv tv0.length (trmsV tv0)):ShiftS B w kv tv0 [] 0:=⟨[],rfl,rfl,h,fun t ht=>absurd ht (by simp)⟩
theorem ShiftS.later (h:ShiftS B w kv tv0 l j)(hb:Below w.heap.size w w'):ShiftS B w' kv tv0 l j:=by
 obtain ⟨tn,h1,h2,h3,h4⟩:=h
 exact ⟨tn,h1,h2,h3.later hb,fun t ht=>⟨(h4 t ht).1,(h4 t ht).2.kept hb⟩⟩
theorem ShiftS.lt (h:ShiftS B w kv tv0 l j):∀ k,kv.ownBlock=some k→B≤k∧k < w.heap.size:=by
 obtain ⟨tn,_,_,h3,_⟩:=h
 exact h3.lt
theorem ShiftS.at_ {A:Option Addr}{n p:Nat}(h:ShiftS B w (.slice A n p) tv0 l j)(hj:j < tv0.length):∃ g off,A=some ⟨g,off,none⟩∧B≤g∧g < w.heap.size ∧
  (w.cell? ⟨g,off+j*4,none⟩=some (.int .u8 tv0[j].2.op)∧w.cell? ⟨g,off+j*4+1,none⟩=some (.int .i64 tv0[j].2.col)∧w.cell? ⟨g,off+j*4+2,none⟩=some (.string tv0[j].2.cell)∧w.cell? ⟨g,off+j*4+3,none⟩=some tv0[j].1) ∧
  (w.frozen? ⟨g,off+j*4,none⟩=false∧w.frozen? ⟨g,off+j*4+1,none⟩=false∧w.frozen? ⟨g,off+j*4+2,none⟩=false∧w.frozen? ⟨g,off+j*4+3,none⟩=false):=by
 obtain ⟨tn,h1,_,h3,_⟩:=h
 have hne:tv0.length≠0:=by omega
 obtain ⟨hs,hm,h⟩:=h3
 rcases h with ⟨_,h0⟩ | ⟨g,off,cap,e,k1,k2,k3,k4,k5⟩
 ·exact absurd h0 hne
 injection e with e1 e2 e3
 have hl:j < (tn++tv0.drop j).length:=by simp;omega
 have he:(tn++tv0.drop j)[j]'hl=tv0[j]:=by
  rw [List.getElem_append_right (by omega)]
  simp [h1]
 have hv:=trmsV_get (tn++tv0.drop j) j hl
 rw [he] at hv
 refine ⟨g,off,e1,k1,k2,⟨k4 _ _ hv.1,?_,?_,?_⟩,⟨(k5 (j*4) (by omega)).2,?_,?_,?_⟩⟩
 ·rw [Nat.add_assoc];exact k4 _ _ hv.2.1
 ·rw [Nat.add_assoc];exact k4 _ _ hv.2.2.1
 ·rw [Nat.add_assoc];exact k4 _ _ hv.2.2.2
 ·rw [Nat.add_assoc];exact (k5 (j*4+1) (by omega)).2
 ·rw [Nat.add_assoc];exact (k5 (j*4+2) (by omega)).2
 ·rw [Nat.add_assoc];exact (k5 (j*4+3) (by omega)).2
theorem set4_grown (w:World)(g o:Nat)(a b c d:Value):w.grownBy ((((w.setCell ⟨g,o,none⟩ a).setCell ⟨g,o+1,none⟩ b).setCell ⟨g,o+2,none⟩ c).setCell ⟨g,o+3,none⟩ d) (some g):=by
 have:=setCells_grown g [a,b,c,d] o w
 simpa [World.setCells,Nat.add_assoc] using this
theorem ShiftS.next {g off n p:Nat}(h:ShiftS B w (.slice (some ⟨g,off,none⟩) n p) tv0 l j)(hj:j < tv0.length)(hn:n=tv0.length){t:Value×Trm}(hok:okT t.2)(hk:KidsQ (fun u=>Fresh B u∧RowOff (.slice (some ⟨g,off,none⟩) n p) u) w t.1 t.2.kids) :
  ShiftS B ((((w.setCell ⟨g,off+j*4,none⟩ (.int .u8 t.2.op)).setCell ⟨g,off+j*4+1,none⟩ (.int .i64 t.2.col)).setCell ⟨g,off+j*4+2,none⟩ (.string t.2.cell)).setCell ⟨g,off+j*4+3,none⟩ t.1) (.slice (some ⟨g,off,none⟩) n p) tv0 (l++[t.2]) (j+1):=by
 subst hn
 obtain ⟨tn,h1,h2,h3,h4⟩:=h
 have hg:=set4_grown w g (off+j*4) (.int .u8 t.2.op) (.int .i64 t.2.col) (.string t.2.cell) t.1
 have s1:=Own.stored (Own.stored (Own.stored (Own.stored h3 (j*4) (by omega) (.int .u8 t.2.op)) (j*4+1) (by omega) (.int .i64 t.2.col)) (j*4+2) (by omega) (.string t.2.cell)) (j*4+3) (by omega) t.1
 simp only [←Nat.add_assoc] at s1
 have hl:j < (tn++tv0.drop j).length:=by simp;omega
 rw [trmsV_set _ _ _ hl] at s1
 have e:(tn++tv0.drop j).set j t=(tn++[t])++tv0.drop (j+1):=by
  rw [List.set_append_right _ _ (by omega),h1,Nat.sub_self,List.drop_eq_getElem_cons hj,List.set_cons_zero,List.append_assoc]
  rfl
 rw [e] at s1
 refine ⟨tn++[t],by rw [List.length_append,h1];rfl,by rw [List.map_append,h2];rfl,s1,fun u hu=>?_⟩
 rcases List.mem_append.1 hu with hu|hu
 ·exact ⟨(h4 u hu).1,(h4 u hu).2.off (fun x hx=>hx.2) hg⟩
 ·rw [List.mem_singleton.1 hu];exact ⟨hok,hk.off (fun x hx=>hx.2) hg⟩
theorem ShiftS.beside {c:Nat}(h:ShiftS B w kv tv0 l j)(hc:c < B)(hg:w.grownBy w' (some c)):ShiftS B w' kv tv0 l j:=by
 obtain ⟨tn,h1,h2,h3,h4⟩:=h
 refine ⟨tn,h1,h2,h3.other hg fun k hk e=>by have:=(h3.lt k hk).1;simp only [Option.some.injEq] at e;omega,fun t ht=>⟨(h4 t ht).1,(h4 t ht).2.off (v:=.slice (some ⟨c,0,none⟩) 1 1) (fun u hu=>RowOff.of_fresh hu.1 fun k hk=>by simp only [Value.ownBlock,Option.some.injEq] at hk;omega) hg⟩⟩
theorem ShiftS.done (h:ShiftS B w kv tv0 l tv0.length):KidsQ (Fresh B) w kv l:=by
 obtain ⟨tn,h1,h2,h3,h4⟩:=h
 have hf:Fresh B kv:=fun k hk=>(h3.lt k hk).1
 rw [List.drop_length,List.append_nil] at h3
 subst h2
 refine KidsQ.of tn rfl hf ?_ fun t ht=>⟨(h4 t ht).1,(h4 t ht).2.mono fun _ hu=>hu.1⟩
 rw [List.length_map,h1]
 exact h3.slice
end
end Go.Proofs.Ytnkhkkdmjabhnaa
