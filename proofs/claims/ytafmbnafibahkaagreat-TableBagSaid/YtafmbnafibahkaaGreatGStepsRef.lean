/- The contract of the answer's Read of layer 6. -/
import Derived.Test.YtafmbnafibahkaaGreatGSteps
import Derived.Test.YtafmbnafibahkaaGreatGStepsRead
namespace Go.Proofs.YtafmbnafibahkaaGreat
open Go Go.RowKit
theorem wrap_less (x p:Int):wrap64 (IntKind.u64.wrap (IntKind.u64.wrap x-IntKind.u64.wrap p))=wrap64 (x-p):=by
 simp only [IntKind.wrap_u64];unfold wrap64;omega
set_option maxHeartbeats 1000000 in
set_option maxRecDepth 100000 in
theorem ref_steps_print_calls {w:World}{v:Value}{l:List ByteArray}(h:StrsIn w v l)(hlen:l.length≤1000000):GivesAt Tryz.prog 127 #[v] w (.string (stepsG l)):=by
 obtain ⟨hb,hB⟩:=start w
 have H1:=Lib.hid (ref_may_calls h)
 obtain ⟨A,cap,rfl,hat⟩:=one_at h
 have HAT:=Lib.hid hat
 clear h hat
 unfold GivesAt
 cases hm:mayL l with
 | false =>
  have HG:=Lib.hid (show stepsG l=⟨#[]⟩ by unfold stepsG;rw [hm];rfl)
  rw [hm] at H1
  clear hm
  go_enter Tryz.func127,Tryz.ntmps127
  go_wp2_with (go_at_call 128;refine H1.out.step (w0:=w) (B:=w.heap.size) hb hB ?_;clear hb hB;intro w' hb hB)
  go_ret
  exact ⟨ret_str HG.out.symm,hb⟩
 | true =>
  have HG:=Lib.hid (show stepsG l=mkB (stepsP (numsL l)) by unfold stepsG;rw [hm];rfl)
  rw [hm] at H1
  have HA:=Lib.hid (mayL_of hm)
  have HL:=Lib.hid (numsL_length l)
  have HGET:=Lib.hid (numsL_get l)
  generalize numsL l=ns at *
  clear hm
  go_enter Tryz.func127,Tryz.ntmps127
  go_wp2_with (go_at_call 128;refine H1.out.step (w0:=w) (B:=w.heap.size) hb hB ?_;clear hb hB;intro w1 hb hB)
  go_loopw [3,4,5] (fun v p i wr=>∃ (k:Nat),k≤l.length∧i=.int .i64 k∧p=.int .i64 (lastI 0 (ns.take k))∧v=.string (mkB (stepsP (ns.take k)))∧Below w.heap.size w wr) (fun _ _ i _=>l.length-(intOf i).toNat)
  case atStart=>exact ⟨0,by omega,rfl,rfl,rfl,hb⟩
  case round =>
   clear hb hB
   obtain ⟨k,hk,rfl,rfl,rfl,hb⟩:=hrel
   have hB:=hb.size
   by_cases hlt:k < l.length
   ·obtain ⟨b,off,rfl,hbl,hc⟩:=HAT.out k hlt
    have hx:=(hb.cell (p:=⟨b,off+k,none⟩) hbl).trans (hc k hlt)
    obtain ⟨hkn,hge⟩:=List.getElem?_eq_some_iff.1 (HGET.out k hlt)
    have hS:=steps_step ns k hkn
    have hsz:=stepsB_size 0 (ns.take k)
    rw [List.length_take] at hsz
    have hszz:(mkB (stepsP (ns.take k))).size≤10000000:=by rw [mkB_size];show (stepsB 0 (ns.take k)).length≤_;omega
    have HN:=Lib.hid (ref_num_yes l[k] (HA.out _ (List.getElem_mem hlt)))
    rw [←hge] at HN
    have p1:=Lib.hid (ref_fold_step (lastI 0 (ns.take k)) ns[k])
    have p2:=Lib.hid (ref_print_calls (stepN (lastI 0 (ns.take k)) ns[k]) (stepN_lt _ _))
    have z2:(printB (stepN (lastI 0 (ns.take k)) ns[k])).size≤10:=by rw [print_len];exact vp_len_10 (stepN_lt _ _)
    have hwl:=wrap_less ns[k] (lastI 0 (ns.take k))
    have HS1:Hid (mkB (stepsP (ns.take k))++printB (stepN (lastI 0 (ns.take k)) ns[k])=mkB (stepsP (ns.take (k+1)))):=by
     show _=_
     rw [hS.1,←mkB_append,mkB_of]
    have HS2:=Lib.hid hS.2
    clear hc hS hsz hge
    generalize ns[k]=x at *
    generalize mkB (stepsP (ns.take k))=L at *
    generalize lastI 0 (ns.take k)=p at *
    generalize stepN p x=q at *
    generalize l[k]=c at *
    have t1:¬9223372036854775807 < L.size+(printB q).size:=by omega
    go_wp2_with (first|(go_at_call 157;refine HN.out.step (w0:=w) (B:=w.heap.size) hb hB ?_;clear hb hB hx;intro w2 hb hB)|(go_at_call 101;refine (p1.out _).mono ?_;rintro e w' ⟨rfl,rfl⟩)|(go_at_call 98;refine p2.out.step (w0:=w) (B:=w.heap.size) hb hB ?_;clear hb hB;intro w4 hb hB))
    go_roundw
    case rel=>exact ⟨k+1,by omega,by go_num,by rw [HS2.out],by rw [HS1.out],hb⟩
    case measure=>simp [intOf];omega
   ·obtain rfl:k=l.length:=by omega
    have hln:=HL.out
    rw [List.take_of_length_le (by omega)]
    clear hln
    go_wp2
    go_ret
    exact ⟨ret_str HG.out.symm,hb⟩
end Go.Proofs.YtafmbnafibahkaaGreat
