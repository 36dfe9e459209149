/- Contracts of layer 3's low and take. -/
import Derived.Test.YtcoodplomnjkcaaShelfPrintRef
namespace Go.Proofs.Ytcoodplomnjkcaa
open Go Go.RowKit

theorem unle_snoc (l : List UInt8) (b : UInt8) : unle (l ++ [b]) = unle l + 256 ^ l.length * b.toNat := by
  induction l with
  | nil => simp [unle]
  | cons x l ih =>
    simp only [List.cons_append, unle, ih, List.length_cons, Nat.pow_succ]
    rw [Nat.mul_add, Nat.mul_comm (256 ^ l.length) 256, Nat.mul_assoc]; omega
theorem unle_or (l : List UInt8) (k : Nat) (h : k < l.length) (h8 : k < 8) :
    bits .or .u64 (unle (l.take k) : Int) (((l[k].toNat * 2 ^ (8 * k) : Nat) : Int)) = (unle (l.take (k + 1)) : Int) := by
  have hlen : (l.take k).length = k := by rw [List.length_take]; omega
  have hv := unle_lt (l.take k)
  have e7 : (256 : Nat) ^ k = 2 ^ (8 * k) := by rw [Nat.pow_mul]
  rw [hlen, e7] at hv
  have hv1 := unle_lt (l.take (k + 1))
  rw [List.length_take, Nat.min_eq_left (by omega)] at hv1
  have hp : (256 : Nat) ^ (k + 1) ≤ 256 ^ 8 := Nat.pow_le_pow_right (by decide) (by omega)
  have e8 : (256 : Nat) ^ 8 = 18446744073709551616 := by decide
  rw [take_add l k h, unle_snoc, hlen, e7] at hv1 ⊢
  have hor := Nat.two_pow_add_eq_or_of_lt hv l[k].toNat
  rw [bits_or_u64_nat _ _ (by omega) (by rw [Nat.mul_comm]; omega)]
  rw [Nat.mul_comm l[k].toNat, Nat.or_comm, ← hor, Nat.add_comm]

theorem unle_step (s : ByteArray) (k : Nat) (h : k < s.size) (h8 : k < 8) :
    bits .or .u64 (unle (s.data.toList.take k) : Int) (IntKind.u64.wrap (IntKind.u64.wrap (s[k].toNat : Int) * 2 ^ (8 * k))) = (unle (s.data.toList.take (k + 1)) : Int) := by
  have hl : k < s.data.toList.length := by rw [data_size]; exact h
  have e := unle_or s.data.toList k hl h8
  have eb : s.data.toList[k] = s[k] := rfl
  rw [eb] at e
  have hb := s[k].toNat_lt
  have hp : (2 : Nat) ^ (8 * k) ≤ 2 ^ 56 := Nat.pow_le_pow_right (by decide) (by omega)
  have hm : s[k].toNat * 2 ^ (8 * k) ≤ 255 * 2 ^ 56 := Nat.mul_le_mul (by omega) hp
  have hm2 : s[k].toNat * 2 ^ (8 * k) < 18446744073709551616 := Nat.lt_of_le_of_lt hm (by decide)
  rw [wrap_lt _ (by omega)]
  have e1 : ((s[k].toNat : Nat) : Int) * 2 ^ (8 * k) = ((s[k].toNat * 2 ^ (8 * k) : Nat) : Int) := by simp
  rw [e1, wrap_lt _ hm2]
  exact e

set_option maxHeartbeats 400000 in
theorem low_calls (s : ByteArray) (hs : s.size ≤ 8) (w : World) : Reads Try.prog 35 #[.string s] w (.int .u64 (unle s.data.toList)) := by
  unfold Reads
  go_enter Try.func35, Try.ntmps35
  go_wp2
  go_loop [3, 7] (fun u i => ∃ k : Nat, k ≤ s.size ∧ i = .int .i64 k ∧ u = .int .u64 (unle (s.data.toList.take k))) (fun _ i => s.size - (intOf i).toNat)
  case atStart => exact ⟨0, by omega, rfl, rfl⟩
  case round =>
    obtain ⟨k, hk, rfl, rfl⟩ := hrel
    by_cases hlt : k < s.size
    · have HS := Lib.hid (unle_step s k hlt (by omega))
      go_wp2
      go_round
      case rel => exact ⟨k + 1, by omega, by go_num, by rw [HS.out]⟩
      case measure => simp [intOf]; omega
    · obtain rfl : k = s.size := by omega
      have HE := Lib.hid (show s.data.toList.take s.size = s.data.toList by rw [← data_size, List.take_length])
      go_wp2
      go_ret
      exact ⟨ret_int (by rw [HE.out]), rfl⟩

theorem Try.info3 : (Try.prog.info? 3).map (fun i => (i.zero, i.size, i.bytes)) = some (some (.int .i64 0), 1, 8) := by kernel_rfl

def rowsOf (m : Int) (n M : Nat) (t : List UInt8) : List Int := (List.range M).map fun i => wrap64 (m + unle ((t.drop (i * n)).take n))
theorem rowsOf_length (m : Int) (n M : Nat) (t : List UInt8) : (rowsOf m n M t).length = M := by simp [rowsOf]
/-- What take makes of a tape. -/
def takeT (s : ByteArray) (bad : Bool) (many : Int) : List Int × ByteArray × Bool :=
  if many < 0 ∨ 4096 < many then ([], s, true)
  else if (textT (numT (numT s bad maxU).2.1 (numT s bad maxU).2.2 8).2.1 (numT (numT s bad maxU).2.1 (numT s bad maxU).2.2 8).2.2 (many.toNat * (numT (numT s bad maxU).2.1 (numT s bad maxU).2.2 8).1)).2.2 then
    ([], (textT (numT (numT s bad maxU).2.1 (numT s bad maxU).2.2 8).2.1 (numT (numT s bad maxU).2.1 (numT s bad maxU).2.2 8).2.2 (many.toNat * (numT (numT s bad maxU).2.1 (numT s bad maxU).2.2 8).1)).2.1, true)
  else (rowsOf (openI (numT s bad maxU).1) (numT (numT s bad maxU).2.1 (numT s bad maxU).2.2 8).1 many.toNat
      (textT (numT (numT s bad maxU).2.1 (numT s bad maxU).2.2 8).2.1 (numT (numT s bad maxU).2.1 (numT s bad maxU).2.2 8).2.2 (many.toNat * (numT (numT s bad maxU).2.1 (numT s bad maxU).2.2 8).1)).1.data.toList,
      (textT (numT (numT s bad maxU).2.1 (numT s bad maxU).2.2 8).2.1 (numT (numT s bad maxU).2.1 (numT s bad maxU).2.2 8).2.2 (many.toNat * (numT (numT s bad maxU).2.1 (numT s bad maxU).2.2 8).1)).2.1, false)
theorem numT_le (s : ByteArray) (bad : Bool) (m : Int) (hm : 0 ≤ m) : ((numT s bad m).1 : Int) ≤ m := by
  unfold numT
  cases bad with
  | true => exact hm
  | false =>
    cases h : nextNum s.data.toList with
    | none => exact hm
    | some p =>
      obtain ⟨n, k⟩ := p
      simp only [Bool.false_eq_true, if_false]
      split
      · assumption
      · exact hm
theorem textT_good {s : ByteArray} {bad : Bool} {n : Nat} (h : (textT s bad n).2.2 = false) : (textT s bad n).1.size = n := by
  unfold textT at h ⊢
  split at h
  · simp at h
  · rename_i hb
    split at h
    · rename_i hn
      rw [if_neg hb, if_pos hn]
      show (s.extract 0 n).size = n
      rw [ByteArray.size_extract]; omega
    · simp at h

set_option maxHeartbeats 1000000 in
set_option maxRecDepth 100000 in
theorem take_over (b : Nat) (s : ByteArray) (bad : Bool) (many : Int) (h : many < 0 ∨ 4096 < many) (w : World) (hT : TapeIn 29 w b s bad) :
    Calls Try.prog 27 #[.pointer (some ⟨b, 0, none⟩), .int .i64 many] w fun e w' => e = .returned (.slice none 0 0) ∧ TapeIn 29 w' b s true ∧ w.grownBy w' (some b) := by
  have hc1 := hT.c1
  have hf1 := hT.f0 1
  have hg := grown_refl w (some b)
  by_cases h0 : many < 0
  · have d1 : decide (many < 0) = true := by rw [decide_eq_true_eq]; exact h0
    go_enter Try.func27, Try.ntmps27
    go_wp2
    go_ret
    exact ⟨rfl, hT.set1 true, grown_set hg _ _⟩
  · have d1 : decide (many < 0) = false := by rw [decide_eq_false_iff_not]; exact h0
    have d2 : decide (4096 < many) = true := by rw [decide_eq_true_eq]; omega
    go_enter Try.func27, Try.ntmps27
    go_wp2
    go_ret
    exact ⟨rfl, hT.set1 true, grown_set hg _ _⟩

theorem fill_set (F : Nat → Int) (k M : Nat) (h : k < M) : (((List.range k).map F ++ List.replicate (M - k) 0).map (Value.int .i64)).set k (.int .i64 (F k)) = ((List.range (k + 1)).map F ++ List.replicate (M - (k + 1)) 0).map (Value.int .i64) := by
  rw [show M - k = (M - (k + 1)) + 1 by omega, List.replicate_succ, List.map_append, List.map_cons, List.set_append_right _ _ (by simp)]
  simp [List.range_succ]
theorem fill_get (F : Nat → Int) (k M : Nat) (h : k < M) : (((List.range k).map F ++ List.replicate (M - k) 0).map (Value.int .i64))[k]? = some (.int .i64 0) := by
  rw [show M - k = (M - (k + 1)) + 1 by omega, List.replicate_succ, List.map_append, List.map_cons, List.getElem?_append_right (by simp)]
  simp
theorem wrap_back (m : Int) (x : Nat) : wrap64 (IntKind.u64.wrap (IntKind.u64.wrap m + (x : Int))) = wrap64 (m + x) := by
  simp only [IntKind.wrap_u64]; unfold wrap64; omega

theorem grown_own {w wr : World} {row : Option Nat} (h : w.grownBy wr row) {g : Nat} (hg : w.heap.size ≤ g) (i : Nat) (v : Value) : w.grownBy (wr.setCell ⟨g, i, none⟩ v) row :=
  ⟨h.os, h.tape, h.output, by simpa using h.size, fun k hk hr => (heap_setCell_other wr _ k v (by show k ≠ g; omega)).trans (h.block k hk hr)⟩
theorem grown_new {w wr w' : World} {row : Option Nat} (h : w.grownBy wr row) (k : wr.grownBy w' none) : w.grownBy w' row :=
  ⟨k.os.trans h.os, k.tape.trans h.tape, k.output.trans h.output, Nat.le_trans h.size k.size, fun i hi hr => (k.block i (Nat.lt_of_lt_of_le hi h.size) (by simp)).trans (h.block i hi hr)⟩
theorem TapeIn.new {T : TypeId} {w w' : World} {b : Nat} {s : ByteArray} {bad : Bool} (h : TapeIn T w b s bad) (k : w.grownBy w' none) : TapeIn T w' b s bad := by
  unfold TapeIn; rw [k.block b h.lt (by simp)]; exact h

set_option maxHeartbeats 1000000 in
set_option maxRecDepth 100000 in
theorem take_bad (b : Nat) (s r1 r2 r3 t : ByteArray) (bad b1 b2 : Bool) (m : Int) (n M : Nat) (hM : M ≤ 4096) (hn : n ≤ 8) (w : World) (hT : TapeIn 29 w b s bad)
    (T1 : Takes Try.prog 29 32 [] b s bad (.int .i64 m) r1 b1) (T2 : Takes Try.prog 29 33 [.int .u64 8] b r1 b1 (.int .u64 n) r2 b2)
    (T3 : Takes Try.prog 29 34 [.int .u64 ((M * n : Nat) : Int)] b r2 b2 (.string t) r3 true) :
    Calls Try.prog 27 #[.pointer (some ⟨b, 0, none⟩), .int .i64 M] w fun e w' => e = .returned (.slice none 0 0) ∧ TapeIn 29 w' b r3 true ∧ w.grownBy w' (some b) := by
  have hg := grown_refl w (some b)
  have hp : M * n ≤ 4096 * 8 := Nat.mul_le_mul hM hn
  have e1 : (M : Int) * (n : Int) = ((M * n : Nat) : Int) := by simp
  generalize M * n = S at hp e1 T3
  have H1 := Lib.hid T1
  have H2 := Lib.hid T2
  have H3 := Lib.hid T3
  clear T1 T2 T3
  go_enter Try.func27, Try.ntmps27
  go_wp2_with (first | (go_at_call 32; refine H1.out.step hT hg ?_; clear hT hg; intro w1 hT hg) | (go_at_call 33; refine H2.out.step hT hg ?_; clear hT hg; intro w2 hT hg) | (go_at_call 34; refine H3.out.step hT hg ?_; clear hT hg; intro w3 hT hg; have hc1 := hT.c1))
  go_ret
  exact ⟨rfl, hT, hg⟩

set_option maxHeartbeats 1000000 in
set_option maxRecDepth 100000 in
theorem take_good (b : Nat) (s r1 r2 r3 t : ByteArray) (bad b1 b2 : Bool) (m : Int) (n M : Nat) (hM : M ≤ 4096) (hn : n ≤ 8) (ht : t.size = M * n) (w : World) (hT : TapeIn 29 w b s bad)
    (T1 : Takes Try.prog 29 32 [] b s bad (.int .i64 m) r1 b1) (T2 : Takes Try.prog 29 33 [.int .u64 8] b r1 b1 (.int .u64 n) r2 b2)
    (T3 : Takes Try.prog 29 34 [.int .u64 ((M * n : Nat) : Int)] b r2 b2 (.string t) r3 false) :
    Calls Try.prog 27 #[.pointer (some ⟨b, 0, none⟩), .int .i64 M] w fun e w' => ∃ v, e = .returned v ∧ IntsIn w' v (rowsOf m n M t.data.toList) ∧ Fresh w.heap.size v ∧ TapeIn 29 w' b r3 false ∧ w.grownBy w' (some b) := by
  obtain ⟨i0, hi, hz0, hz1, hz2⟩ := info_parts Try.info3
  have hg := grown_refl w (some b)
  have hp : M * n ≤ 4096 * 8 := Nat.mul_le_mul hM hn
  have e1 : (M : Int) * (n : Int) = ((M * n : Nat) : Int) := by simp
  have HS := Lib.hid ht
  clear ht
  generalize hS : M * n = S at hp e1 T3 HS
  have HS2 := Lib.hid hS
  have H1 := Lib.hid T1
  have H2 := Lib.hid T2
  have H3 := Lib.hid T3
  clear T1 T2 T3 hS
  go_enter Try.func27, Try.ntmps27
  go_wp2_with (first | (go_at_call 32; refine H1.out.step hT hg ?_; clear hT hg; intro w1 hT hg) | (go_at_call 33; refine H2.out.step hT hg ?_; clear hT hg; intro w2 hT hg) | (go_at_call 34; refine H3.out.step hT hg ?_; clear hT hg; intro w3 hT hg; have hc1 := hT.c1) | (at_make; refine wpList_make_full _ rfl _ _ 22 rfl w.heap.size 3 i0 (.int .i64 0) 1 Try.underlying22 hi hz0 hz1 .i64 .i64 _ _ M rfl rfl rfl rfl (by rw [hz2]; omega) (by unfold maxLen; omega) hg.size ?_))
  intro w4 hrow hg2
  have hg3 := grown_new hg hg2
  have hT3 := hT.new hg2
  have hgb : b < w3.heap.size := hT.lt
  have hgw : w.heap.size ≤ w3.heap.size := hg.size
  rw [toList_madeCells_one] at hrow
  have hO := Own.of_row (B := w.heap.size) hrow (by unfold maxLen; omega) (Nat.le_refl _)
  clear hrow hg2 hT hg hc1
  generalize w3.heap.size = g at *
  generalize hF : (fun i => wrap64 (m + unle ((t.data.toList.drop (i * n)).take n))) = F
  have HF := Lib.hid hF
  clear hF
  go_wp2
  go_loopw [38] (fun i wr => ∃ (k : Nat), k ≤ M ∧ i = .int .i64 k ∧ Own wr w.heap.size 1 (.slice (some ⟨g, 0, none⟩) M M) M (((List.range k).map F ++ List.replicate (M - k) 0).map (Value.int .i64)) ∧ TapeIn 29 wr b r3 false ∧ w.grownBy wr (some b)) (fun i _ => M - (intOf i).toNat)
  case atStart => exact ⟨0, by omega, rfl, by simpa using hO, hT3, hg3⟩
  case round =>
    clear hO hT3 hg3
    obtain ⟨k, hk, rfl, hO, hT, hg⟩ := hrel
    by_cases hlt : k < M
    · have hk1 : k * n + n ≤ S := by rw [← HS2.out, ← Nat.succ_mul]; exact Nat.mul_le_mul_right _ hlt
      have e2 : (k : Int) * (n : Int) = ((k * n : Nat) : Int) := by simp
      have e3 : ((k : Int) + 1) * (n : Int) = ((k * n + n : Nat) : Int) := by rw [Int.add_mul]; simp
      have hts : S ≤ t.size := by rw [HS.out]; exact Nat.le_refl _
      have hLz : (t.extract (k * n) (k * n + n)).size ≤ 8 := by rw [ByteArray.size_extract]; omega
      have HLow := Lib.hid (low_calls (t.extract (k * n) (k * n + n)) hLz)
      have hEx : Hid ((t.extract (k * n) (k * n + n)).data.toList = (t.data.toList.drop (k * n)).take n) := by
        show _ = _
        rw [data_extract]; congr 1; omega
      generalize hKN : k * n = KN at *
      have HKN := Lib.hid hKN
      clear hKN hLz
      obtain ⟨_, _, _, hcv, hcell⟩ := hO.parts
      have hcl : wr.cell? ⟨g, k, none⟩ = some (.int .i64 0) := by have := hcv k _ (fill_get F k M hlt); rwa [Nat.zero_add] at this
      clear hcv
      have hFk : Hid (F k = wrap64 (m + unle ((t.data.toList.drop KN).take n))) := by show _ = _; rw [← HF.out, ← HKN.out]
      have hfr : wr.frozen? ⟨g, k, none⟩ = false := by have := (hcell k (by omega)).2; rwa [Nat.zero_add] at this
      clear hcell
      go_wp2_with (go_at_call 35; refine (HLow.out _).step ?_)
      have hO' := hO.stored k (by omega) (.int .i64 (F k))
      rw [fill_set F k M hlt, Nat.zero_add] at hO'
      clear hcl hfr
      go_roundw
      case rel =>
        refine ⟨k + 1, by omega, by go_num, ?_, ?_, ?_⟩
        · rw [wrap_back, ← hFk.out]; exact hO'
        · exact hT.other (grown_set (grown_refl wr (some g)) _ _) (by omega)
        · exact grown_own hg hgw _ _
      case measure => simp [intOf]; omega
    · obtain rfl : k = M := by omega
      go_wp2
      go_ret
      refine ⟨_, rfl, ?_, fun k hk => (hO.lt k hk).1, hT, hg⟩
      have h2 := hO.slice
      rw [Nat.sub_self, List.replicate_zero, List.append_nil, ← HF.out] at h2
      unfold IntsIn
      rw [rowsOf_length]
      exact h2
end Go.Proofs.Ytcoodplomnjkcaa
