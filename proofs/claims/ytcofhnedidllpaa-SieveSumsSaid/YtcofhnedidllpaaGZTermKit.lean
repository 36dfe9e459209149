/- What the laws on terms stand on: constants, parts, what they come to; no program. -/
import Derived.Test.YtcofhnedidllpaaGZTermEnd
import Derived.Test.YtcofhnedidllpaaGZTermsOwn
namespace Go.Proofs.Ytcofhnedidllpaa
open Go Go.RowKit
def TrmP (t:Trm)(o c:Int)(b:ByteArray)(n:Nat):Value→World→Prop:=fun v w=>∃ A p,v=.agg #[.int .u8 o,.int .i64 c,.string b,.slice A n p]∧TermIn w v t
theorem TrmP.kept {t:Trm}{o c:Int}{b:ByteArray}{n:Nat}:∀ (v:Value)(w w':World),Below w.heap.size w w'→TrmP t o c b n v w→TrmP t o c b n v w':=fun v w w' hb h=>by
 obtain ⟨A,p,e,h1⟩:=h
 exact ⟨A,p,e,h1.kept hb⟩
def KidP (l:List Trm)(n:Nat):Value→World→Prop:=fun v w=>∃ A p,v=.slice A n p∧KidsIn w v l
theorem KidP.kept {l:List Trm}{n:Nat}:∀ (v:Value)(w w':World),Below w.heap.size w w'→KidP l n v w→KidP l n v w':=fun v w w' hb h=>by
 obtain ⟨A,p,e,h1⟩:=h
 exact ⟨A,p,e,h1.kept hb⟩
theorem one_built {w:World}(T:TypeId)(op:Int)(h1:0≤op)(h2:op≤255){a:Trm}{o c:Int}{b:ByteArray}{kv:Value}(ha:TermIn w (.agg #[.int .u8 o,.int .i64 c,.string b,kv]) a) :
  TermIn (w.alloc (.cells #[.int .u8 o,.int .i64 c,.string b,kv] T)) (.agg #[.int .u8 op,.int .i64 0,.string ⟨#[]⟩,.slice (some ⟨w.heap.size,0,none⟩) 1 1]) (oneT15 op a):=by
 obtain ⟨kv',e,ho,hk⟩:=ha
 simp only [trmA,Value.agg.injEq,Array.mk.injEq,List.cons.injEq,Value.int.injEq,Value.string.injEq,true_and,and_true] at e
 obtain ⟨rfl,rfl,rfl,rfl⟩:=e
 have hb:=Below.alloc (.refl w.heap.size w) (Nat.le_refl _) (.cells #[.int .u8 a.op,.int .i64 a.col,.string a.cell,kv] T)
 refine ⟨_,rfl,⟨h1,h2,by show (-9223372036854775808:Int)≤0;decide,by show (0:Int)≤9223372036854775807;decide⟩,?_⟩
 exact kids_lit T [(kv,a)] (fun t ht=>by rw [List.mem_singleton.1 ht];exact ⟨ho,hk⟩) (by show 1≤1000;decide) rfl rfl rfl _ rfl
theorem eval_one (row:List ByteArray)(op:Int)(a:Trm):evalT row (oneT15 op a)=opC row op 0 noC (evalT row a) noC:=by
 rw [oneT15,evalT,evalTs,evalTs]
 rfl
theorem eval_two (row:List ByteArray)(op:Int)(a b:Trm):evalT row (twoT15 op a b)=opC row op 0 noC (evalT row a) (evalT row b):=by
 rw [twoT15,evalT,evalTs,evalTs,evalTs]
 rfl
theorem eval_not (row:List ByteArray)(a:Trm):evalT row (oneT15 33 a)=notC (evalT row a):=by rw [eval_one];simp [opC]
theorem eval_and (row:List ByteArray)(a b:Trm):evalT row (twoT15 38 a b)=bothC (evalT row a) (evalT row b):=by rw [eval_two];simp [opC]
theorem eval_or (row:List ByteArray)(a b:Trm):evalT row (twoT15 124 a b)=notC (bothC (notC (evalT row a)) (notC (evalT row b))):=by rw [eval_two];simp [opC]
theorem empty_no (a:ByteArray):decide (a=noC)=a.toList.isEmpty:=by
 rcases no_cases a with ⟨h,h1,_⟩ | ⟨h,h1,_⟩
 ·rw [h1];exact decide_eq_true h
 ·rw [h1];exact decide_eq_false h
theorem eval_is (row:List ByteArray)(a:Trm):evalT row (oneT15 63 a)=boolCell (evalT row a).toList.isEmpty:=by rw [eval_one,←empty_no];simp [opC]
theorem yes_nay:yesC≠nayC:=by decide +kernel
theorem yes_no:yesC≠noC:=by decide +kernel
theorem not_yes:notC yesC=nayC:=by decide +kernel
theorem both_is_yes {a b:ByteArray}(h:bothC a b=yesC):notC (bothC (notC a) (notC b))=yesC:=by
 unfold bothC at h
 by_cases h1:a=nayC∨b=nayC
 ·rw [if_pos h1] at h;exact absurd h.symm yes_nay
 ·rw [if_neg h1] at h
  by_cases h2:a=yesC∧b=yesC
  ·rw [h2.1,h2.2,not_yes];decide +kernel
  ·rw [if_neg h2] at h;exact absurd h.symm yes_no
def constT (c:ByteArray):Trm:=.mk 107 0 c []
theorem RowOff.nil_ (v:Value):RowOff v (.slice none 0 0):=fun A n c k e h0=>by
 injection e with _ h2
 omega
theorem TermQ.parts {Q:Value→Prop}{w:World}{v:Value}{t:Trm}(h:TermQ Q w v t):∃ A cap,v=.agg #[.int .u8 t.op,.int .i64 t.col,.string t.cell,.slice A t.kids.length cap]:=by
 obtain ⟨kv,rfl,_,hk⟩:=h
 obtain ⟨A,cap,rfl,-⟩:=kids_at hk
 exact ⟨A,cap,rfl⟩
end Go.Proofs.Ytcofhnedidllpaa
