/- Contracts of the answer's Read of layer 3. -/
import Derived.Test.YtcoodplomnjkcaaShelfRead3
import Derived.Deep.RegionHeld3
namespace Go.Proofs.Ytcoodplomnjkcaa
open Go Go.RowKit

theorem unle_drop (l : List UInt8) (k : Nat) (h : k < l.length) : unle (l.drop k) = l[k].toNat + 256 * unle (l.drop (k + 1)) := by
  rw [List.drop_eq_getElem_cons h]; rfl
theorem or_byte (u b : Nat) (hu : u < 72057594037927936) (hb : b < 256) : bits .or .u64 (((u * 256 : Nat) : Int)) (b : Int) = ((b + 256 * u : Nat) : Int) := by
  have hor := Nat.two_pow_add_eq_or_of_lt (i := 8) (b := b) (by omega) u
  rw [bits_or_u64_nat _ _ (by omega) (by omega)]
  have e : u * 256 = 2 ^ 8 * u := by omega
  rw [e, ← hor]
  congr 1
  omega
theorem unle_back (s : ByteArray) (J : Nat) (h : J < s.size) (h8 : s.size ≤ 8) :
    bits .or .u64 (IntKind.u64.wrap ((unle (s.data.toList.drop (J + 1)) : Int) * 256)) (s[J].toNat : Int) = (unle (s.data.toList.drop J) : Int) ∧ bits .or .u64 (IntKind.u64.wrap ((unle (s.data.toList.drop (J + 1)) : Int) * 256)) (IntKind.u64.wrap (s[J].toNat : Int)) = (unle (s.data.toList.drop J) : Int) := by
  have hl : J < s.data.toList.length := by rw [data_size]; exact h
  have hb := s[J].toNat_lt
  have hv := unle_lt (s.data.toList.drop (J + 1))
  have hp : (256 : Nat) ^ (s.data.toList.drop (J + 1)).length ≤ 256 ^ 7 := Nat.pow_le_pow_right (by decide) (by rw [List.length_drop, data_size]; omega)
  have e7 : (256 : Nat) ^ 7 = 72057594037927936 := by decide
  have hk := or_byte (unle (s.data.toList.drop (J + 1))) s[J].toNat (by omega) (by omega)
  have eb : s.data.toList[J] = s[J] := rfl
  rw [unle_drop _ _ hl, eb]
  have ew : IntKind.u64.wrap ((unle (s.data.toList.drop (J + 1)) : Int) * 256) = ((unle (s.data.toList.drop (J + 1)) * 256 : Nat) : Int) := by
    rw [IntKind.wrap_u64]; omega
  rw [ew, wrap_lt s[J].toNat (by omega)]
  exact ⟨hk, hk⟩

theorem textT_le (s : ByteArray) (bad : Bool) (n : Nat) : (textT s bad n).1.size ≤ n := by
  unfold textT
  split
  · exact Nat.zero_le _
  · split
    · show (s.extract 0 n).size ≤ n; rw [ByteArray.size_extract]; omega
    · exact Nat.zero_le _
theorem textT_next {r r2 : ByteArray} {n k : Nat} (h1 : k * n ≤ r2.size) (h2 : r.size = r2.size - k * n) (h : (textT r false n).2.2 = false) : (k + 1) * n ≤ r2.size ∧ (textT r false n).2.1.size = r2.size - (k + 1) * n := by
  unfold textT at h ⊢
  rw [if_neg (by decide)] at h ⊢
  split at h
  · rename_i hn
    rw [if_pos hn, Nat.succ_mul]
    refine ⟨by omega, ?_⟩
    show (r.extract n r.size).size = _
    rw [ByteArray.size_extract]; omega
  · simp at h
theorem grown_drewN {a w : World} {row : Option Nat} (h : a.grownBy w row) (n : Nat) : a.grownBy (w.drewN n) row := ⟨h.os, h.tape, h.output, h.size, h.block⟩
theorem Takes.stepG {P : Program} {T : TypeId} {f : FuncId} {more : List Value} {b : Nat} {s s' : ByteArray} {bad bad' : Bool} {v : Value} (h : Takes P T f more b s bad v s' bad')
    {w0 w : World} (hT : TapeIn T w b s bad) (hg : w0.grownBy w (some b)) {R : Ending → World → Prop} (k : ∀ w', TapeIn T w' b s' bad' → w0.grownBy w' (some b) → w.grownBy w' (some b) → R (.returned v) w') :
    Calls P f (Value.pointer (some ⟨b, 0, none⟩) :: more).toArray w R :=
  (h w hT).mono fun _ _ ⟨he, hT', hw⟩ => he ▸ k _ hT' (grown_trans hg hw) hw

theorem TapeIn.appended {T : TypeId} {w w' : World} {b B size n : Nat} {s : ByteArray} {bad : Bool} {v : Value} {xs : List Value} (h : TapeIn T w b s bad) (hO : Own w B size v n xs) (hb : b < B) (hg : w.grownBy w' v.ownBlock) : TapeIn T w' b s bad := by
  unfold TapeIn
  rw [hg.block b h.lt (fun e => by have := (hO.lt b e.symm).1; omega)]
  exact h
theorem grown_appended {w0 w w' : World} {row : Option Nat} {size n : Nat} {v : Value} {xs : List Value} (h : w0.grownBy w row) (hO : Own w w0.heap.size size v n xs) (hg : w.grownBy w' v.ownBlock) : w0.grownBy w' row :=
  ⟨hg.os.trans h.os, hg.tape.trans h.tape, hg.output.trans h.output, Nat.le_trans h.size hg.size, fun k hk hr => (hg.block k (Nat.lt_of_lt_of_le hk h.size) (fun e => by have := (hO.lt k e.symm).1; omega)).trans (h.block k hk hr)⟩
theorem grown_alloc {w0 w : World} {row : Option Nat} (h : w0.grownBy w row) (o : Obj) : w0.grownBy (w.alloc o) row := grown_new h (World.grownBy_alloc w o none)

def predI : Nat → Int
  | 0 => -1
  | j + 1 => (j : Int)
theorem predI_eq (j : Nat) : predI j = (j : Int) - 1 := by cases j with | zero => rfl | succ j => show (j : Int) = ((j + 1 : Nat) : Int) - 1; omega

set_option maxHeartbeats 1000000 in
set_option maxRecDepth 100000 in
theorem ref_read_short (b : Nat) (s r1 r2 : ByteArray) (bad b1 : Bool) (m : Int) (n : Nat) (many : Int) (hn : n ≤ 8) (hs : r2.size ≤ 9223372036854775807) (w : World) (hT : TapeIn 31 w b s bad)
    (T1 : Takes Try.prog 31 28 [] b s bad (.int .i64 m) r1 b1) (T2 : Takes Try.prog 31 29 [.int .u64 8] b r1 b1 (.int .u64 n) r2 false)
    (M : Nat) (hM : (M : Int) ≤ many) (hM2 : M ≤ 4097) (hsh : r2.size < M * n) :
    Calls Try.prog 14 #[.pointer (some ⟨b, 0, none⟩), .int .i64 many] w fun e w' => ∃ r', e = .returned (.slice none 0 0) ∧ TapeIn 31 w' b r' true ∧ w.grownBy w' (some b) := by
  obtain ⟨i0, hi, hz0, hz1, hz2⟩ := info_parts Try.info3
  have hg := grown_refl w (some b)
  have H1 := Lib.hid T1
  have H2 := Lib.hid T2
  have HSH := Lib.hid hsh
  have hbw := hT.lt
  clear T1 T2 hsh
  go_enter Try.func14, Try.ntmps14
  go_wp2_with (first | (go_at_call 28; refine H1.out.step hT hg ?_; clear hT hg; intro w1 hT hg) | (go_at_call 29; refine H2.out.step hT hg ?_; clear hT hg; intro w2 hT hg; have c0 := hT.c0))
  clear c0
  go_loopw [7, 9] (fun v i wr => ∃ (k : Nat) (r : ByteArray) (c : Bool) (xs : List Value), k ≤ 4097 ∧ i = .int .i64 k ∧ Own wr w.heap.size 1 v k xs ∧ TapeIn 31 wr b r c ∧ w.grownBy wr (some b) ∧ r.size ≤ r2.size ∧ Hid (c = false → k * n ≤ r2.size ∧ r.size = r2.size - k * n)) (fun _ i _ => 4097 - (intOf i).toNat)
  case atStart => exact ⟨0, r2, false, [], by omega, rfl, Own.nil_ _ _ _, hT, hg, Nat.le_refl _, fun _ => by omega⟩
  case round =>
    clear hT hg
    obtain ⟨k, r, c, xs, hk, rfl, hO, hT, hg, hrz, HC⟩ := hrel
    cases c with
    | true =>
      have c1 := hT.c1
      have f1 := hT.f0 1
      by_cases g1 : (k : Int) < many <;> by_cases g2 : k ≤ 4096
      all_goals
        go_wp2
        go_quiet (fail)
        go_wp2
        go_ret
        exact ⟨r, rfl, (hT.drewN _).set1 _, grown_set (grown_drewN hg _) _ _⟩
    | false =>
      obtain ⟨hk1, hk2⟩ := HC.out rfl
      by_cases hd : (k : Int) < many ∧ k ≤ 4096
      · obtain ⟨g1, g2⟩ := hd
        have c1 := hT.c1
        have T3 := ref_ttext_calls b r false n (by omega)
        have hts := textT_le r false n
        have hrz' := textT_size r false n
        have HN : Hid ((textT r false n).2.2 = false → (k + 1) * n ≤ r2.size ∧ (textT r false n).2.1.size = r2.size - (k + 1) * n) := fun hx => textT_next hk1 hk2 hx
        generalize textT r false n = X at T3 hts HN hrz'
        obtain ⟨t, r', c'⟩ := X
        simp only at T3 hts HN hrz'
        have HT3 := Lib.hid T3
        have ht8 : t.size ≤ 8 := by omega
        clear T3 HC hk1 hk2 hts
        go_wp2_with (go_at_call 30; refine HT3.out.stepG hT hg ?_; clear hT hg c1; intro w3 hT hg hgg)
        have hO' := hO.other hgg (fun q hq e => by have := (hO.lt q hq).1; cases e; omega)
        clear hO hgg
        go_loop [11, 12] (fun u q => ∃ J : Nat, J ≤ t.size ∧ q = .int .i64 (predI J) ∧ u = .int .u64 (unle (t.data.toList.drop J))) (fun _ q => (intOf q + 1).toNat)
        case atStart => exact ⟨t.size, Nat.le_refl _, by rw [predI_eq], by rw [List.drop_of_length_le (by rw [data_size]; exact Nat.le_refl _)]; rfl⟩
        case round =>
          obtain ⟨J, hJ, rfl, rfl⟩ := hrel
          cases J with
          | zero =>
            have e0 : predI 0 = -1 := rfl
            go_wp2_with (at_builtin; refine wpList_append_Own rfl _ _ 22 rfl 3 i0 (.int .i64 0) 1 8 Try.underlying22 hi hz0 hz1 hz2 rfl (by decide) _ _ _ rfl (Own.alloc hO' _) ⟨w3.heap.size, 0, none⟩ 1 1 [_] rfl rfl (one_new _ _ _) (one_int _ _) ?c1 ?c2 (Nat.le_trans hg.size (by simp)) ?_)
            case c1 => unfold maxLen; omega
            case c2 => omega
            intro v' w4 hO4 hg4
            have hT4 := (hT.alloc _).appended (Own.alloc hO' _) hbw hg4
            have hg5 := grown_appended (grown_alloc hg _) (Own.alloc hO' _) hg4
            clear hT hg hg4 hO'
            go_wp2
            go_roundw
            case rel => exact ⟨k + 1, r', c', _, by omega, by go_num, hO4, hT4, hg5, by omega, HN⟩
            case measure => simp [intOf]; omega
          | succ j =>
            have e1 : predI (j + 1) = (j : Int) := rfl
            have HB := Lib.hid (unle_back t j (by omega) ht8)
            go_wp2
            go_round
            case rel => exact ⟨j, by omega, by rw [predI_eq], by first | rw [HB.out.1] | rw [HB.out.2]⟩
            case measure => simp [intOf]; omega
      · exfalso
        have : M ≤ k := by omega
        have := Nat.mul_le_mul_right n this
        have := HSH.out
        omega
end Go.Proofs.Ytcoodplomnjkcaa
