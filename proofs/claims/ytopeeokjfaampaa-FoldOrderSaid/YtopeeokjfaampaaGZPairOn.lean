/- Slices of arrays of two numbers, as lists; as an argument; no program. -/
import Derived.Test.YtopeeokjfaampaaGTimes
import Derived.Test.YtopeeokjfaampaaGOpen
import Derived.Test.YtopeeokjfaampaaGZPairPure
namespace Go.Proofs.Ytopeeokjfaampaa
open Go Go.RowKit
def onV (on:List Cl):List Value:=on.flatMap fun c=>[.int .i64 c.1,.int .i64 c.2]
def OnIn (w:World)(v:Value)(on:List Cl):Prop:=SliceOf w 2 v on.length (onV on)
theorem onV_cons (c:Cl)(on:List Cl):onV (c::on)=.int .i64 c.1::.int .i64 c.2::onV on:=rfl
theorem onV_length (on:List Cl):(onV on).length=on.length*2:=by
 induction on with
 | nil=>rfl
 | cons t tv ih=>rw [onV_cons,List.length_cons,List.length_cons,ih,List.length_cons];omega
theorem onV_get:∀ (on:List Cl)(j:Nat)(h:j < on.length),(onV on)[j*2]? = some (.int .i64 on[j].1)∧(onV on)[j*2+1]? = some (.int .i64 on[j].2)
 | [],j,h=>absurd h (by simp)
 | c::on,0,_=>⟨rfl,rfl⟩
 | c::on,j+1,h=>by
  have:=onV_get on j (by simpa using h)
  have e1:(j+1)*2=j*2+2:=by omega
  rw [e1]
  exact this
theorem take_onV:∀ (on:List Cl)(k:Nat),(onV on).take (k*2)=onV (on.take k)
 | [],k=>by rw [List.take_nil];exact List.take_nil
 | _::_,0=>rfl
 | t::tv,k+1=>by
  have e1:(k+1)*2=k*2+2:=by omega
  rw [e1]
  show Value.int .i64 t.1::Value.int .i64 t.2::(onV tv).take (k*2)=Value.int .i64 t.1::.int .i64 t.2::onV (tv.take k)
  rw [take_onV tv k]
section
variable {w w':World}
theorem OnIn.kept {v:Value}{on:List Cl}(h:OnIn w v on)(hb:Below w.heap.size w w'):OnIn w' v on:=SliceOf.later h hb
theorem OnIn.nil_ (w:World)(A:Option Addr)(cap:Nat):OnIn w (.slice A 0 cap) []:=SliceOf.nil_ _ _ _ _
theorem OnIn.len {v:Value}{on:List Cl}(h:OnIn w v on):on.length≤maxLen:=h.2.1
theorem OnIn.slice {v:Value}{on:List Cl}(h:OnIn w v on):∃ A p,v=.slice A on.length p:=by
 obtain ⟨_,_,A,p,e,_⟩:=h
 exact ⟨A,p,e⟩
theorem on_at {v:Value}{on:List Cl}(h:OnIn w v on):∃ A cap,v=.slice A on.length cap∧on.length≤cap ∧
  (∀ k,k < on.length→∃ b off,A=some ⟨b,off,none⟩∧b < w.heap.size∧∀ j (hj:j < on.length),w.cell? ⟨b,off+j*2,none⟩=some (.int .i64 on[j].1)∧w.cell? ⟨b,off+j*2+1,none⟩=some (.int .i64 on[j].2)):=by
 obtain ⟨_,_,A,cap,e,hr,h4⟩:=h
 refine ⟨A,cap,e,hr,fun k hk=>?_⟩
 obtain ⟨b,off,ea,hb,hc⟩:=h4 (by omega)
 refine ⟨b,off,ea,hb,fun j hj=>?_⟩
 have hv:=onV_get on j hj
 exact ⟨hc _ _ hv.1,hc _ _ hv.2⟩
theorem OnIn.front {A:Option Addr}{n cap m:Nat}{on:List Cl}(h:OnIn w (.slice A n cap) on)(hm:m≤on.length):OnIn w (.slice A m cap) (on.take m):=by
 obtain ⟨A',p,e⟩:=h.slice
 cases e
 have:=SliceOf.frontN h hm
 rw [take_onV] at this
 unfold OnIn
 rw [List.length_take,Nat.min_eq_left hm]
 exact this
theorem lit_on (w:World)(T:TypeId)(on:List Cl)(h:on.length≤1000):OnIn (w.alloc (.cells (onV on).toArray T)) (.slice (some ⟨w.heap.size,0,none⟩) on.length on.length) on :=
 (Own.lit (B:=0) (size:=2) w (onV on).toArray T on.length (Nat.zero_le _) (by unfold maxLen;omega) (by rw [List.size_toArray,onV_length])).slice
end
end Go.Proofs.Ytopeeokjfaampaa
