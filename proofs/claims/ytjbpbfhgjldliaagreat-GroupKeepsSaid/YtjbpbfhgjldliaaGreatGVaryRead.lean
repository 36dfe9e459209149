/- Tapes: lemmas for all layers above; no law. -/
import Derived.Test.YtjbpbfhgjldliaaGreatGVary
import Derived.Deep.RegionWith
import Derived.Deep.QuietTactic
import Derived.BigQuiet
import Derived.Laws.Rows
import Derived.Lib.Strings
namespace Go.Proofs.YtjbpbfhgjldliaaGreat
open Go Go.RowKit
def accNat (l:List UInt8)(k:Nat):Nat:=val7 (l.take k) % 18446744073709551616
def accN (l:List UInt8)(k:Nat):Int:=(accNat l k:Int)
theorem acc_zero (l:List UInt8):accN l 0=0:=rfl
def TapeIn (T:TypeId)(w:World)(b:Nat)(s:ByteArray)(bad:Bool):Prop:=w.heap[b]? = some (.cells #[.string s,.bool bad] T (0,0))
theorem TapeIn.c0 {T:TypeId}{w:World}{b:Nat}{s:ByteArray}{bad:Bool}(h:TapeIn T w b s bad):w.cell? ⟨b,0,none⟩=some (.string s):=cell_of_row w b 0 _ T _ h
theorem TapeIn.c1 {T:TypeId}{w:World}{b:Nat}{s:ByteArray}{bad:Bool}(h:TapeIn T w b s bad):w.cell? ⟨b,1,none⟩=some (.bool bad):=cell_of_row w b 1 _ T _ h
theorem TapeIn.f0 {T:TypeId}{w:World}{b:Nat}{s:ByteArray}{bad:Bool}(h:TapeIn T w b s bad)(i:Nat):w.frozen? ⟨b,i,none⟩=false:=frozen_of_row w b i _ T h
theorem TapeIn.lt {T:TypeId}{w:World}{b:Nat}{s:ByteArray}{bad:Bool}(h:TapeIn T w b s bad):b < w.heap.size:=lt_of_block h
theorem TapeIn.kept {T:TypeId}{w w':World}{b:Nat}{s:ByteArray}{bad:Bool}(h:TapeIn T w b s bad)(hb:Below w.heap.size w w'):TapeIn T w' b s bad:=by
 unfold TapeIn;rw [hb.block b h.lt];exact h
theorem TapeIn.other {T:TypeId}{w w':World}{b c:Nat}{s:ByteArray}{bad:Bool}(h:TapeIn T w b s bad)(hg:w.grownBy w' (some c))(hn:b≠c):TapeIn T w' b s bad:=by
 unfold TapeIn;rw [hg.block b h.lt (by simpa using hn)];exact h
theorem grown_refl (w:World)(row:Option Nat):w.grownBy w row:=⟨rfl,rfl,rfl,Nat.le_refl _,fun _ _ _=>rfl⟩
theorem grown_below {w w':World}(h:Below w.heap.size w w')(row:Option Nat):w.grownBy w' row:=⟨h.os,h.tape,h.output,h.size,fun k hk _=>h.block k hk⟩
theorem grown_trans {a b c:World}{row:Option Nat}(h:a.grownBy b row)(k:b.grownBy c row):a.grownBy c row :=
 ⟨k.os.trans h.os,k.tape.trans h.tape,k.output.trans h.output,Nat.le_trans h.size k.size,fun i hi hr=>(k.block i (Nat.lt_of_lt_of_le hi h.size) hr).trans (h.block i hi hr)⟩
theorem grown_set {a w:World}{b:Nat}(h:a.grownBy w (some b))(i:Nat)(v:Value):a.grownBy (w.setCell ⟨b,i,none⟩ v) (some b) :=
 grown_trans h ⟨rfl,rfl,rfl,by simp,fun k _ hr=>heap_setCell_other w _ k v (by intro e;exact hr (by rw [e]))⟩
def Takes (P:Program)(T:TypeId)(f:FuncId)(more:List Value)(b:Nat)(s:ByteArray)(bad:Bool)(v:Value)(s':ByteArray)(bad':Bool):Prop :=
 ∀ w:World,TapeIn T w b s bad→Calls P f (Value.pointer (some ⟨b,0,none⟩)::more).toArray w fun e w'=>e=.returned v∧TapeIn T w' b s' bad'∧w.grownBy w' (some b)
theorem Gives.tape {P:Program}{f:FuncId}{args:Array Value}{v:Value}(h:Gives P f args v){T:TypeId}{w0 w:World}{b:Nat}{s:ByteArray}{bad:Bool}(hT:TapeIn T w b s bad)
  (hg:w0.grownBy w (some b)) {R:Ending→World→Prop} (k:∀ w',TapeIn T w' b s bad→w0.grownBy w' (some b)→R (.returned v) w'):Calls P f args w R :=
 (h w).mono fun _ _ ⟨he,hw⟩=>he▸k _ (hT.kept hw) (grown_trans hg (grown_below hw _))
theorem Takes.step {P:Program}{T:TypeId}{f:FuncId}{more:List Value}{b:Nat}{s s':ByteArray}{bad bad':Bool}{v:Value}(h:Takes P T f more b s bad v s' bad')
  {w0 w:World} (hT:TapeIn T w b s bad) (hg:w0.grownBy w (some b)) {R:Ending→World→Prop} (k:∀ w',TapeIn T w' b s' bad'→w0.grownBy w' (some b)→R (.returned v) w') :
  Calls P f (Value.pointer (some ⟨b,0,none⟩)::more).toArray w R :=
 (h w hT).mono fun _ _ ⟨he,hT',hw⟩=>he▸k _ hT' (grown_trans hg hw)
theorem TapeIn.alloc {T:TypeId}{w:World}{b:Nat}{s:ByteArray}{bad:Bool}(h:TapeIn T w b s bad)(o:Obj):TapeIn T (w.alloc o) b s bad:=h.kept (Below.alloc (.refl _ _) (Nat.le_refl _) o)
theorem Takes.stepB {P:Program}{T:TypeId}{f:FuncId}{more:List Value}{b:Nat}{s s':ByteArray}{bad bad':Bool}{v:Value}(h:Takes P T f more b s bad v s' bad')
  {w0 w:World} {B:Nat} (hT:TapeIn T w b s bad) (hb:Below B w0 w) (hB:B≤w.heap.size) (hr:B≤b) {R:Ending→World→Prop}
  (k:∀ w',TapeIn T w' b s' bad'→Below B w0 w'→B≤w'.heap.size→w.grownBy w' (some b)→R (.returned v) w') :
  Calls P f (Value.pointer (some ⟨b,0,none⟩)::more).toArray w R :=
 (h w hT).mono fun _ _ ⟨he,hT',hw⟩=>he▸k _ hT' (hb.grown hw hB (fun k hk=>by cases hk;exact hr)) (Nat.le_trans hB hw.size) hw
theorem print_data (n:Nat):(printB n).data.toList=vp n:=rfl
theorem bytes_ext {a b:ByteArray}(h:a.data.toList=b.data.toList):a=b:=by
 cases a with|mk x=>cases b with|mk y=>cases x;cases y;cases h;rfl
theorem data_extract (s:ByteArray)(a b:Nat):(s.extract a b).data.toList=(s.data.toList.drop a).take (b-a):=by
 have:=Lib.extract_toList s a b
 rwa [ByteArray.toList_eq] at this
theorem data_size (s:ByteArray):s.data.toList.length=s.size:=Array.length_toList
theorem TapeIn.drew {T:TypeId}{w:World}{b:Nat}{s:ByteArray}{bad:Bool}(h:TapeIn T w b s bad):TapeIn T w.drew b s bad:=h
theorem TapeIn.drewN {T:TypeId}{w:World}{b:Nat}{s:ByteArray}{bad:Bool}(h:TapeIn T w b s bad)(n:Nat):TapeIn T (w.drewN n) b s bad:=h
theorem below_drewN {B:Nat}{a w:World}(h:Below B a w)(n:Nat):Below B a (w.drewN n):=⟨h.os,h.tape,h.output,h.size,h.block⟩
end Go.Proofs.YtjbpbfhgjldliaaGreat
