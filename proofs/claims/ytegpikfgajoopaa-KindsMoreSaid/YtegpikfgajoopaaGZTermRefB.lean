/- The contracts of layer 15's answer: Size, Same; and of its laws: great, small. -/
import Derived.Test.YtegpikfgajoopaaGZTermRef
namespace Go.Proofs.Ytegpikfgajoopaa
open Go Go.RowKit
def RefSizeAt (t:Trm):Prop:=∀ (w:World)(v:Value),TermIn w v t→GivesAt Try.prog 18 #[v] w (.int .i64 (wrap64 (sizeT t:Nat)))
set_option maxHeartbeats 1000000 in
theorem ref_size_calls (t:Trm):RefSizeAt t:=by
 refine Trm.ind (P:=RefSizeAt) (fun t ih=>?_) t
 intro w v ht
 obtain ⟨kv,rfl,ho,hk⟩:=ht
 have hm:=hk.len
 unfold maxLen at hm
 obtain ⟨A,cap,rfl,hat⟩:=kids_at hk
 have HAT:=Lib.hid hat
 have HIH:=Lib.hid ih
 have HB2:=Lib.hid (Below.alloc (.refl w.heap.size w) (Nat.le_refl _) (.cells #[.int .u8 (t).op,.int .i64 (t).col,.string (t).cell,.slice A (t).kids.length cap] 24))
 have HX:=Lib.hid (trmbox_lit w 24 t.op t.col t.cell (.slice A t.kids.length cap))
 have HSZ:=Lib.hid (sizeT_eq t)
 dsimp only [trmA]
 unfold GivesAt
 clear ho hk hat ih
 go_enter Try.func18,Try.ntmps18
 go_wp2
 generalize w.alloc _=w2 at *
 go_loopw [3,4] (fun n i wr=>∃ j:Nat,j≤t.kids.length∧i=.int .i64 j∧n=.int .i64 (wrap64 ((1+sizeTs (t.kids.take j):Nat):Int))∧Below w2.heap.size w2 wr) (fun _ i _=>t.kids.length-(intOf i).toNat)
 case atStart=>exact ⟨0,Nat.zero_le _,rfl,by rw [List.take_zero,sizeTs];exact congrArg (Value.int .i64) (by unfold wrap64;decide),.refl _ _⟩
 case round =>
  obtain ⟨j,hj,rfl,rfl,hb⟩:=hrel
  have hB:=hb.size
  have hbw:=HB2.out.trans (hb.mono HB2.out.size)
  obtain ⟨y0,y1,y2,y3,_⟩:=(HX.out.later hb).cells
  by_cases hlt:j < t.kids.length
  ·obtain ⟨b,off,ea,hb0,hc⟩:=HAT.out j hlt
   subst ea
   obtain ⟨kkv,ok,hkk,c0,c1,c2,c3⟩:=hc j hlt
   have x0:=(hbw.cell (p:=⟨b,off+j*4,none⟩) hb0).trans c0
   have x1:=(hbw.cell (p:=⟨b,off+j*4+1,none⟩) hb0).trans c1
   have x2:=(hbw.cell (p:=⟨b,off+j*4+2,none⟩) hb0).trans c2
   have x3:=(hbw.cell (p:=⟨b,off+j*4+3,none⟩) hb0).trans c3
   have i0:(0:Int)≤(j:Int):=by omega
   have i1:(j:Int) < (t.kids.length:Int):=by omega
   have HC:=Lib.hid (HIH.out t.kids[j] (List.getElem_mem hlt) wr (trmA (kkv,t.kids[j])) ⟨kkv,rfl,ok,hkk.kept hbw⟩)
   dsimp only [trmA] at HC
   obtain ⟨Ak,pk,rfl,-⟩:=kids_at hkk
   have HST:=Lib.hid (sizeTs_step hlt)
   clear hc c0 c1 c2 c3 hkk ok hbw
   generalize t.kids[j].kids.length=nk at *
   generalize t.kids[j].op=ok1 at *
   generalize t.kids[j].col=ok2 at *
   generalize t.kids[j].cell=ok3 at *
   generalize sizeT t.kids[j]=sk at *
   go_wp2_with (go_at_call 18;refine HC.out.step (w0:=w2) (B:=w2.heap.size) hb hB ?_;clear hb hB x0 x1 x2 x3 y0 y1 y2 y3;intro w3 hb hB)
   go_roundw
   case rel=>exact ⟨j+1,by omega,by go_num,by rw [HST.out,←Nat.add_assoc,←wrap_plus];rfl,hb⟩
   case measure=>simp [intOf];omega
  ·obtain rfl:j=t.kids.length:=by omega
   rw [List.take_length]
   go_wp2
   go_ret
   exact ⟨ret_int (by rw [HSZ.out]),hbw⟩
end Go.Proofs.Ytegpikfgajoopaa
