/- Layer 16's laws put terms together: col, two. -/
import Derived.Test.YtegpikfgajoopaaGZTermEnd
namespace Go.Proofs.Ytegpikfgajoopaa
open Go Go.RowKit
theorem col16_calls (c:Int)(h1 : -9223372036854775808≤c)(h2:c≤9223372036854775807)(w:World):Calls Try.prog 21 #[.int .i64 c] w (TermEnd w (colT15 c)):=by
 have ho:okT (colT15 c):=⟨by show (0:Int)≤99;decide,by show (99:Int)≤255;decide,h1,h2⟩
 have HO:=Lib.hid ho
 clear ho h1 h2
 obtain ⟨hb,hB⟩:=start w
 unfold TermEnd TermEndQ
 go_enter Try.func21,Try.ntmps21
 go_wp2
 refine ⟨rfl,trmA (.slice none 0 0,colT15 c),?_,_,rfl,⟨_,rfl,HO.out,KidsIn.nil_ _ _ _⟩,hb.alloc hB _⟩
 simp [results,Try.results21,go_sem,trmA,colT15,Trm.op,Trm.col,Trm.cell,noC]
theorem two16_q (Q:Value→Prop)(op:Int)(h1:0≤op)(h2:op≤255){a b:Trm}{w:World}{va vb:Value}(ha:TermQ Q w va a)(hbt:TermQ Q w vb b)(hQ:∀ u,Fresh w.heap.size u→Q u):Calls Try.prog 19 #[.int .u8 op,va,vb] w (TermEndQ Q w (twoT15 op a b)):=by
 have ho:okT (twoT15 op a b):=⟨h1,h2,by show (-9223372036854775808:Int)≤0;decide,by show (0:Int)≤9223372036854775807;decide⟩
 have HO:=Lib.hid ho
 obtain ⟨kv,rfl,hoa,hk⟩:=ha
 obtain ⟨ku,rfl,hob,hku⟩:=hbt
 have HK:=Lib.hid hk
 have HOA:=Lib.hid hoa
 have HU:=Lib.hid hku
 have HOB:=Lib.hid hob
 obtain ⟨A,cap,rfl,-⟩:=kids_at hk
 obtain ⟨D,dap,rfl,-⟩:=kids_at hku
 clear ho h1 h2 hk hoa hku hob
 obtain ⟨hb,hB⟩:=start w
 have hb0:=hb.alloc hB (.cells #[.int .u8 a.op,.int .i64 a.col,.string a.cell,.slice A a.kids.length cap] 24)
 have hb1:=hb0.alloc hb0.size (.cells #[.int .u8 b.op,.int .i64 b.col,.string b.cell,.slice D b.kids.length dap] 24)
 have hb2:=hb1.alloc hb1.size (.cells #[.int .u8 op,.int .i64 0,.string ⟨#[]⟩,.slice (some ⟨w.heap.size+1+1+1,0,none⟩) 2 2] 24)
 have HKK:=Lib.hid (kids_litQ (Q:=Q) 24 [(.slice A a.kids.length cap,a),(.slice D b.kids.length dap,b)] (fun t ht=>by
  rcases List.mem_cons.1 ht with rfl|ht
  ·exact ⟨HOA.out,HK.out.kept hb2⟩
  ·rw [List.mem_singleton.1 ht];exact ⟨HOB.out,HU.out.kept hb2⟩) (by show 2≤1000;decide) rfl (N:=w.heap.size+1+1+1) (by simp) rfl #[.int .u8 a.op,.int .i64 a.col,.string a.cell,.slice A a.kids.length cap,.int .u8 b.op,.int .i64 b.col,.string b.cell,.slice D b.kids.length dap] rfl (hQ _ fun k hk=>by simp only [Value.ownBlock,Option.some.injEq] at hk;omega))
 have HB3:=Lib.hid (hb2.alloc hb2.size (.cells #[.int .u8 a.op,.int .i64 a.col,.string a.cell,.slice A a.kids.length cap,.int .u8 b.op,.int .i64 b.col,.string b.cell,.slice D b.kids.length dap] 24))
 clear hb0 hb1 hb2
 dsimp only [trmA]
 unfold TermEndQ
 go_enter Try.func19,Try.ntmps19
 go_wp2
 refine ⟨rfl,trmA (.slice (some ⟨w.heap.size+1+1+1,0,none⟩) 2 2,twoT15 op a b),?_,_,rfl,⟨_,rfl,HO.out,HKK.out⟩,HB3.out⟩
 simp [results,Try.results19,go_sem,trmA,twoT15,Trm.op,Trm.col,Trm.cell,noC]
theorem two16_calls (op:Int)(h1:0≤op)(h2:op≤255){a b:Trm}{w:World}{va vb:Value}(ha:TermIn w va a)(hbt:TermIn w vb b):Calls Try.prog 19 #[.int .u8 op,va,vb] w (TermEnd w (twoT15 op a b)) :=
 two16_q (fun _=>True) op h1 h2 ha hbt fun _ _=>trivial
end Go.Proofs.Ytegpikfgajoopaa
