/- The contract of the answer's Read of layer 3, said by what stands at the tape's beginning. -/
import Derived.Test.YtkgjbldlegcajaaGreatGShelfRead
import Derived.Deep.RegionHeld3
namespace Go.Proofs.YtkgjbldlegcajaaGreat
open Go Go.RowKit
theorem unle_drop (l : List UInt8) (k : Nat) (h : k < l.length) : unle (l.drop k) = l[k].toNat + 256 * unle (l.drop (k + 1)) := by
 rw [List.drop_eq_getElem_cons h]; rfl
theorem shelf_or_byte (u b : Nat) (hu : u < 72057594037927936) (hb : b < 256) : bits .or .u64 (((u * 256 : Nat) : Int)) (b : Int) = ((b + 256 * u : Nat) : Int) := by
 have hor := Nat.two_pow_add_eq_or_of_lt (i := 8) (b := b) (by omega) u
 rw [bits_or_u64_nat _ _ (by omega) (by omega)]
 have e : u * 256 = 2 ^ 8 * u := by omega
 rw [e, ← hor]
 congr 1
 omega
theorem unle_back (s : ByteArray) (J : Nat) (h : J < s.size) (h8 : s.size ≤ 8) :
  bits .or .u64 (IntKind.u64.wrap ((unle (s.data.toList.drop (J + 1)) : Int) * 256)) (s[J].toNat : Int) = (unle (s.data.toList.drop J) : Int) ∧ bits .or .u64 (IntKind.u64.wrap ((unle (s.data.toList.drop (J + 1)) : Int) * 256)) (IntKind.u64.wrap (s[J].toNat : Int)) = (unle (s.data.toList.drop J) : Int) := by
 have hl : J < s.data.toList.length := by rw [data_size]; exact h
 have hb := s[J].toNat_lt
 have hv := unle_lt (s.data.toList.drop (J + 1))
 have hp : (256 : Nat) ^ (s.data.toList.drop (J + 1)).length ≤ 256 ^ 7 := Nat.pow_le_pow_right (by decide) (by rw [List.length_drop, data_size]; omega)
 have e7 : (256 : Nat) ^ 7 = 72057594037927936 := by decide
 have hk := shelf_or_byte (unle (s.data.toList.drop (J + 1))) s[J].toNat (by omega) (by omega)
 have eb : s.data.toList[J] = s[J] := rfl
 rw [unle_drop _ _ hl, eb]
 have ew : IntKind.u64.wrap ((unle (s.data.toList.drop (J + 1)) : Int) * 256) = ((unle (s.data.toList.drop (J + 1)) * 256 : Nat) : Int) := by
  rw [IntKind.wrap_u64]; omega
 rw [ew, wrap_lt s[J].toNat (by omega)]
 exact ⟨hk, hk⟩
theorem textT_next {r r2 : ByteArray} {n k : Nat} (h1 : k * n ≤ r2.size) (h2 : r.size = r2.size - k * n) (h : (textT r false n).2.2 = false) : (k + 1) * n ≤ r2.size ∧ (textT r false n).2.1.size = r2.size - (k + 1) * n := by
 unfold textT at h ⊢
 rw [if_neg (by decide)] at h ⊢
 split at h
 ·rename_i hn
  rw [if_pos hn, Nat.succ_mul]
  refine ⟨by omega, ?_⟩
  show (r.extract n r.size).size = _
  rw [ByteArray.size_extract]; omega
 ·simp at h
def predI : Nat → Int
 | 0 => -1
 | j + 1 => (j : Int)
theorem predI_eq (j : Nat) : predI j = (j : Int) - 1 := by cases j with | zero => rfl | succ j => show (j : Int) = ((j + 1 : Nat) : Int) - 1; omega
set_option maxHeartbeats 1000000 in
set_option maxRecDepth 100000 in
theorem ref_read_short (b : Nat) (s r1 r2 : ByteArray) (bad b1 : Bool) (m : Int) (n : Nat) (many : Int) (hn : n ≤ 8) (hs : r2.size ≤ 9223372036854775807) (w : World) (hT : TapeIn 95 w b s bad)
  (T1 : Takes Tryz.prog 95 96 [] b s bad (.int .i64 m) r1 b1) (T2 : Takes Tryz.prog 95 97 [.int .u64 8] b r1 b1 (.int .u64 n) r2 false)
  (M : Nat) (hM : (M : Int) ≤ many) (hM2 : M ≤ 4097) (hsh : r2.size < M * n) :
  Calls Tryz.prog 64 #[.pointer (some ⟨b, 0, none⟩), .int .i64 many] w fun e w' => ∃ r', e = .returned (.slice none 0 0) ∧ TapeIn 95 w' b r' true ∧ w.grownBy w' (some b) := by
 obtain ⟨i0, hi, hz0, hz1, hz2⟩ := info_parts Tryz.info3
 have hg := grown_refl w (some b)
 have H1 := Lib.hid T1
 have H2 := Lib.hid T2
 have HSH := Lib.hid hsh
 have hbw := hT.lt
 clear T1 T2 hsh
 go_enter Tryz.func64, Tryz.ntmps64
 go_wp2_with (first | (go_at_call 96; refine H1.out.step hT hg ?_; clear hT hg; intro w1 hT hg) | (go_at_call 97; refine H2.out.step hT hg ?_; clear hT hg; intro w2 hT hg; have c0 := hT.c0))
 clear c0
 go_loopw [7, 9] (fun v i wr => ∃ (k : Nat) (r : ByteArray) (c : Bool) (xs : List Value), k ≤ 4097 ∧ i = .int .i64 k ∧ Own wr w.heap.size 1 v k xs ∧ TapeIn 95 wr b r c ∧ w.grownBy wr (some b) ∧ r.size ≤ r2.size ∧ Hid (c = false → k * n ≤ r2.size ∧ r.size = r2.size - k * n)) (fun _ i _ => 4097 - (intOf i).toNat)
 case atStart => exact ⟨0, r2, false, [], by omega, rfl, Own.nil_ _ _ _, hT, hg, Nat.le_refl _, fun _ => by omega⟩
 case round =>
  clear hT hg
  obtain ⟨k, r, c, xs, hk, rfl, hO, hT, hg, hrz, HC⟩ := hrel
  cases c with
  | true =>
   have c1 := hT.c1
   have f1 := hT.f0 1
   by_cases g1 : (k : Int) < many <;> by_cases g2 : k ≤ 4096
   all_goals
    go_wp2
    go_quiet (fail)
    go_wp2
    go_ret
    exact ⟨r, rfl, (hT.drewN _).set1 _, grown_set (grown_drewN hg _) _ _⟩
  | false =>
   obtain ⟨hk1, hk2⟩ := HC.out rfl
   by_cases hd : (k : Int) < many ∧ k ≤ 4096
   ·obtain ⟨g1, g2⟩ := hd
    have c1 := hT.c1
    have T3 := ref_ttext_calls b r false n (by omega)
    have hts := textT_le r false n
    have hrz' := textT_size r false n
    have HN : Hid ((textT r false n).2.2 = false → (k + 1) * n ≤ r2.size ∧ (textT r false n).2.1.size = r2.size - (k + 1) * n) := fun hx => textT_next hk1 hk2 hx
    generalize textT r false n = X at T3 hts HN hrz'
    obtain ⟨t, r', c'⟩ := X
    simp only at T3 hts HN hrz'
    have HT3 := Lib.hid T3
    have ht8 : t.size ≤ 8 := by omega
    clear T3 HC hk1 hk2 hts
    go_wp2_with (go_at_call 98; refine HT3.out.stepG hT hg ?_; clear hT hg c1; intro w3 hT hg hgg)
    have hO' := hO.other hgg (fun q hq e => by have := (hO.lt q hq).1; cases e; omega)
    clear hO hgg
    go_loop [11, 12] (fun u q => ∃ J : Nat, J ≤ t.size ∧ q = .int .i64 (predI J) ∧ u = .int .u64 (unle (t.data.toList.drop J))) (fun _ q => (intOf q + 1).toNat)
    case atStart => exact ⟨t.size, Nat.le_refl _, by rw [predI_eq], by rw [List.drop_of_length_le (by rw [data_size]; exact Nat.le_refl _)]; rfl⟩
    case round =>
     obtain ⟨J, hJ, rfl, rfl⟩ := hrel
     cases J with
     | zero =>
      have e0 : predI 0 = -1 := rfl
      go_wp2_with (at_builtin; refine wpList_append_Own rfl _ _ 83 rfl 3 i0 (.int .i64 0) 1 8 Tryz.underlying83 hi hz0 hz1 hz2 rfl (by decide) _ _ _ rfl (Own.alloc hO' _) ⟨w3.heap.size, 0, none⟩ 1 1 [_] rfl rfl (one_new _ _ _) (one_int _ _) ?c1 ?c2 (Nat.le_trans hg.size (by simp)) ?_)
      case c1 => unfold maxLen; omega
      case c2 => omega
      intro v' w4 hO4 hg4
      have hT4 := (hT.alloc _).appended (Own.alloc hO' _) hbw hg4
      have hg5 := grown_appended (grown_alloc hg _) (Own.alloc hO' _) hg4
      clear hT hg hg4 hO'
      go_wp2
      go_roundw
      case rel => exact ⟨k + 1, r', c', _, by omega, by go_num, hO4, hT4, hg5, by omega, HN⟩
      case measure => simp [intOf]; omega
     | succ j =>
      have e1 : predI (j + 1) = (j : Int) := rfl
      have HB := Lib.hid (unle_back t j (by omega) ht8)
      go_wp2
      go_round
      case rel => exact ⟨j, by omega, by rw [predI_eq], by first | rw [HB.out.1] | rw [HB.out.2]⟩
      case measure => simp [intOf]; omega
   ·exfalso
    have : M ≤ k := by omega
    have := Nat.mul_le_mul_right n this
    have := HSH.out
    omega
def RefPost (T : TypeId) (w : World) (b : Nat) (ok : Prop) (l : List Int) (r : ByteArray) (e : Ending) (w' : World) : Prop :=
 (ok ∧ ∃ v, e = .returned v ∧ IntsIn w' v l ∧ Fresh w.heap.size v ∧ TapeIn T w' b r false ∧ w.grownBy w' (some b)) ∨ (¬ ok ∧ ∃ r', e = .returned (.slice none 0 0) ∧ TapeIn T w' b r' true ∧ w.grownBy w' (some b))
theorem RefPost.yes {T : TypeId} {w w' : World} {b : Nat} {ok : Prop} {l l' : List Int} {r r' : ByteArray} {v : Value} (h : ok) (hl : l = l') (hr : r = r') (h1 : IntsIn w' v l') (h2 : Fresh w.heap.size v) (h3 : TapeIn T w' b r' false) (h4 : w.grownBy w' (some b)) :
  RefPost T w b ok l r (.returned v) w' := by subst hl; subst hr; exact .inl ⟨h, v, rfl, h1, h2, h3, h4⟩
theorem RefPost.no {T : TypeId} {w w' : World} {b : Nat} {ok : Prop} {l : List Int} {r r' : ByteArray} (h : ¬ ok) (h3 : TapeIn T w' b r' true) (h4 : w.grownBy w' (some b)) :
  RefPost T w b ok l r (.returned (.slice none 0 0)) w' := .inr ⟨h, r', rfl, h3, h4⟩
theorem ok_yes {k : Int} {l l' : List Int} {m : Int} {n : Nat} {F : Nat} {r2 rr rr' : ByteArray} (h4 : k ≤ 4096) (hl : l = l') (hm : leastI l' = m) (hn : bytesL l' = n) (hF : (foldI m).toNat = F) (hr : rr = rr') (he : shelfB l' = printB F ++ printB n ++ r2.extract 0 (r2.size - rr'.size)) :
  k ≤ 4096 ∧ leastI l = m ∧ bytesL l = n ∧ shelfB l = printB (foldI m).toNat ++ printB n ++ r2.extract 0 (r2.size - rr.size) := by
 subst hl; subst hr; subst hF; exact ⟨h4, hm, hn, he⟩
theorem ok_no {k : Int} {l l' : List Int} {m : Int} {n : Nat} {F : Nat} {r2 rr rr' : ByteArray} (hl : l = l') (hF : (foldI m).toNat = F) (hr : rr = rr') (he : shelfB l' ≠ printB F ++ printB n ++ r2.extract 0 (r2.size - rr'.size)) :
  ¬ (k ≤ 4096 ∧ leastI l = m ∧ bytesL l = n ∧ shelfB l = printB (foldI m).toNat ++ printB n ++ r2.extract 0 (r2.size - rr.size)) := by
 subst hl; subst hr; subst hF; exact fun h => he h.2.2.2
theorem rowsOf_step (m : Int) (n k : Nat) (t : List UInt8) : (rowsOf m n (k + 1) t).map (Value.int .i64) = (rowsOf m n k t).map (Value.int .i64) ++ [.int .i64 (wrap64 (m + unle ((t.drop (k * n)).take n)))] := by
 unfold rowsOf
 rw [List.range_succ, List.map_append, List.map_append]; rfl
theorem textT_at (r2 : ByteArray) (k n : Nat) (h : (k + 1) * n ≤ r2.size) : textT (r2.extract (k * n) r2.size) false n = (mkB ((r2.data.toList.drop (k * n)).take n), r2.extract ((k + 1) * n) r2.size, false) := by
 rw [Nat.succ_mul] at h ⊢
 have hz : (r2.extract (k * n) r2.size).size = r2.size - k * n := by rw [ByteArray.size_extract]; omega
 unfold textT
 rw [if_neg (by decide), if_pos (by omega), hz]
 congr 1
 ·apply bytes_ext
  rw [data_extract, data_extract, mkB_data, List.drop_zero, Nat.sub_zero, List.take_take]
  congr 1; omega
 ·congr 1
  apply bytes_ext
  rw [data_extract, data_extract, data_extract, List.drop_take, List.drop_drop, List.take_take]
  congr 1; omega
set_option maxHeartbeats 8000000 in
set_option maxRecDepth 100000 in
theorem ref_read_full (b : Nat) (s r1 r2 : ByteArray) (bad b1 : Bool) (m : Int) (n : Nat) (many : Int) (hn : n ≤ 8) (hs : r2.size ≤ 1000000000000) (w : World) (hT : TapeIn 95 w b s bad)
  (T1 : Takes Tryz.prog 95 96 [] b s bad (.int .i64 m) r1 b1) (T2 : Takes Tryz.prog 95 97 [.int .u64 8] b r1 b1 (.int .u64 n) r2 false)
  (M : Nat) (hM : (M : Int) ≤ many) (hM2 : M ≤ 4097) (hM3 : (M : Int) = many ∨ M = 4097) (hen : M * n ≤ r2.size) :
  Calls Tryz.prog 64 #[.pointer (some ⟨b, 0, none⟩), .int .i64 many] w fun e w' =>
   RefPost 95 w b (many ≤ 4096 ∧ leastI (rowsOf m n M r2.data.toList) = m ∧ bytesL (rowsOf m n M r2.data.toList) = n ∧
    shelfB (rowsOf m n M r2.data.toList) = printB (foldI m).toNat ++ printB n ++ r2.extract 0 (r2.size - (r2.extract (M * n) r2.size).size)) (rowsOf m n M r2.data.toList) (r2.extract (M * n) r2.size) e w' := by
 obtain ⟨i0, hi, hz0, hz1, hz2⟩ := info_parts Tryz.info3
 have hg := grown_refl w (some b)
 have H1 := Lib.hid T1
 have H2 := Lib.hid T2
 have HEN := Lib.hid hen
 have HM3 := Lib.hid hM3
 have hbw := hT.lt
 clear T1 T2 hen hM3
 go_enter Tryz.func64, Tryz.ntmps64
 go_wp2_with (first | (go_at_call 96; refine H1.out.step hT hg ?_; clear hT hg; intro w1 hT hg) | (go_at_call 97; refine H2.out.step hT hg ?_; clear hT hg; intro w2 hT hg; have c0 := hT.c0))
 clear c0
 go_loopw [7, 9] (fun v i wr => ∃ (k : Nat), k ≤ M ∧ i = .int .i64 k ∧ Own wr w.heap.size 1 v k ((rowsOf m n k r2.data.toList).map (Value.int .i64)) ∧ TapeIn 95 wr b (r2.extract (k * n) r2.size) false ∧ w.grownBy wr (some b)) (fun _ i _ => M - (intOf i).toNat)
 case atStart => exact ⟨0, by omega, rfl, Own.nil_ _ _ _, by rw [Nat.zero_mul, show r2.extract 0 r2.size = r2 from bytes_ext (by rw [data_extract, List.drop_zero, List.take_of_length_le (by rw [data_size]; omega)])]; exact hT, hg⟩
 case round =>
  clear hT hg
  obtain ⟨k, hk, rfl, hO, hT, hg⟩ := hrel
  have c1 := hT.c1
  by_cases hd : k < M
  ·have g1 : (k : Int) < many := by omega
   have g2 : k ≤ 4096 := by omega
   have hkn : (k + 1) * n ≤ r2.size := Nat.le_trans (Nat.mul_le_mul_right n hd) HEN.out
   have T3 := ref_ttext_calls b (r2.extract (k * n) r2.size) false n (by rw [ByteArray.size_extract]; omega)
   rw [textT_at r2 k n hkn] at T3
   have HT3 := Lib.hid T3
   have ht8 : (mkB ((r2.data.toList.drop (k * n)).take n)).size ≤ 8 := by rw [mkB_size, List.length_take]; omega
   have HR := Lib.hid (rowsOf_step m n k r2.data.toList)
   have ed : (mkB ((r2.data.toList.drop (k * n)).take n)).data.toList = (r2.data.toList.drop (k * n)).take n := mkB_data _
   rw [← ed] at HR
   clear T3 ed hkn
   generalize mkB ((r2.data.toList.drop (k * n)).take n) = t at HT3 ht8 HR
   go_wp2_with (go_at_call 98; refine HT3.out.stepG hT hg ?_; clear hT hg c1; intro w3 hT hg hgg)
   have hO' := hO.other hgg (fun q hq e => by have := (hO.lt q hq).1; cases e; omega)
   clear hO hgg
   go_loop [11, 12] (fun u q => ∃ J : Nat, J ≤ t.size ∧ q = .int .i64 (predI J) ∧ u = .int .u64 (unle (t.data.toList.drop J))) (fun _ q => (intOf q + 1).toNat)
   case atStart => exact ⟨t.size, Nat.le_refl _, by rw [predI_eq], by rw [List.drop_of_length_le (by rw [data_size]; exact Nat.le_refl _)]; rfl⟩
   case round =>
    obtain ⟨J, hJ, rfl, rfl⟩ := hrel
    cases J with
    | zero =>
     have e0 : predI 0 = -1 := rfl
     have HWB := Lib.hid (wrap_back m (unle t.data.toList))
     go_wp2_with (at_builtin; refine wpList_append_Own rfl _ _ 83 rfl 3 i0 (.int .i64 0) 1 8 Tryz.underlying83 hi hz0 hz1 hz2 rfl (by decide) _ _ _ rfl (Own.alloc hO' _) ⟨w3.heap.size, 0, none⟩ 1 1 [_] rfl rfl (one_new _ _ _) (one_int _ _) ?c1 ?c2 (Nat.le_trans hg.size (by simp)) ?_)
     case c1 => unfold maxLen; omega
     case c2 => omega
     intro v' w4 hO4 hg4
     have hT4 := (hT.alloc _).appended (Own.alloc hO' _) hbw hg4
     have hg5 := grown_appended (grown_alloc hg _) (Own.alloc hO' _) hg4
     clear hT hg hg4 hO'
     go_wp2
     go_roundw
     case rel => exact ⟨k + 1, by omega, by go_num, by rw [HR.out]; first | exact hO4 | (rw [← HWB.out]; exact hO4), hT4, hg5⟩
     case measure => simp [intOf]; omega
    | succ j =>
     have e1 : predI (j + 1) = (j : Int) := rfl
     have HB := Lib.hid (unle_back t j (by omega) ht8)
     go_wp2
     go_round
     case rel => exact ⟨j, by omega, by rw [predI_eq], by first | rw [HB.out.1] | rw [HB.out.2]⟩
     case measure => simp [intOf]; omega
  ·obtain rfl : k = M := by omega
   by_cases g4 : many ≤ 4096
   ·obtain rfl : many = (k : Int) := by have := HM3.out; omega
    obtain ⟨A, cap, rfl⟩ := hO.len
    have hl := hO.slice
    have hfr : Fresh w.heap.size (.slice A k cap) := fun q hq => (hO.lt q hq).1
    have hlen := rowsOf_length m n k r2.data.toList
    have hR := rowsOf_range m n k r2.data.toList
    clear hO
    generalize hLR : rowsOf m n k r2.data.toList = l at hl hlen hR
    have HLR := Lib.hid hLR
    clear hLR
    have hl' : IntsIn wr (.slice A k cap) l := by unfold IntsIn; rw [hlen]; exact hl
    clear hl
    subst hlen
    have d0 : decide ((l.length : Int) < 0) = false := by rw [decide_eq_false_iff_not]; omega
    have d1 : decide (4096 < (l.length : Int)) = false := by rw [decide_eq_false_iff_not]; omega
    have c0 := hT.c0
    have f1 := hT.f0 1
    have Hrr : Hid ((r2.extract (l.length * n) r2.size).size ≤ r2.size) := by show _ ≤ _; rw [ByteArray.size_extract]; omega
    generalize hRR : r2.extract (l.length * n) r2.size = rr at hT Hrr c0
    have HRR := Lib.hid hRR
    clear hRR
    have L1 := Lib.hid (ref_least_calls hl')
    have L2 := Lib.hid (ref_bytes_calls hl')
    by_cases e1 : leastI l = m
    ·subst e1
     by_cases e2 : bytesL l = n
     ·subst e2
      have hz : rr.size ≤ r2.size := Hrr.out
      have q1 : IntKind.i64.wrap ((r2.size : Int) - (rr.size : Int)) = (r2.size : Int) - (rr.size : Int) := IntWalk.i64_in _ (by omega)
      have q2 : (0 : Int) ≤ (r2.size : Int) - (rr.size : Int) := by omega
      have q3 : ((r2.size : Int) - (rr.size : Int)).toNat = r2.size - rr.size := by omega
      have q4 : (r2.size : Int) - (rr.size : Int) ≤ (r2.size : Int) := by omega
      have q5 : r2.size - rr.size ≤ r2.size := by omega
      have hrg := leastI_range l hR
      have hb8 : bytesL l ≤ 8 := bytesFrom_le_8 _ _
      have hF := foldI_nat l hR
      have hp1 : (printB (foldI (leastI l)).toNat).size ≤ 10 := by rw [print_len]; exact vp_len_10 hF
      have hp2 : (printB (bytesL l)).size ≤ 10 := by rw [print_len]; exact vp_len_10 (by omega)
      have hsz : (r2.extract 0 (r2.size - rr.size)).size = r2.size - rr.size := by rw [ByteArray.size_extract]; omega
      have p1 := Lib.hid (ref_fold_nat (leastI l) hrg.1 hrg.2)
      have p2 := Lib.hid (ref_print_calls (foldI (leastI l)).toNat hF)
      have p3 := Lib.hid (ref_print_calls (bytesL l) (by omega))
      have q6 : IntKind.u64.wrap (bytesL l : Int) = (bytesL l : Int) := wrap_lt _ (by omega)
      have q7 : r2.size - rr.size ≤ 1000000000000 := by omega
      have HT := Lib.hid hT
      have HL := Lib.hid hl'
      have k0 := fun d os => cell_regrown hT.c0 d os
      have k1 := fun d os => cell_regrown hT.c1 d os
      have hlen4 : l.length ≤ 4096 := by omega
      have hl4 : (l.length : Int) ≤ 4096 := by omega
      clear hT hrg hF c0 c1
      generalize hFF : (foldI (leastI l)).toNat = F at p1 p2 hp1
      have HFF := Lib.hid hFF
      clear hFF
      have t33 : ¬ 9223372036854775807 < (printB F).size + (printB (bytesL l)).size := by omega
      have t44 : ¬ 9223372036854775807 < (printB F).size + (printB (bytesL l)).size + (r2.size - rr.size) := by omega
      have t45 : ¬ 9223372036854775807 < (printB F).size + ((printB (bytesL l)).size + (r2.size - rr.size)) := by omega
      rcases str_ne_cases (shelfB l) (printB F ++ printB (bytesL l) ++ r2.extract 0 (r2.size - rr.size)) with ⟨he, g1, g2⟩ | ⟨he, g1, g2⟩
      ·have HE := Lib.hid he
       clear he
       go_wp2_with fail
       refine wp_region_quiet_below (by kernel_rfl) (by kernel_rfl) ?_
       repeat (first | go_big_quiet_skip | (go_big_quiet_want; go_big_quiet_op; first | go_big_quiet_on | (apply Exists.intro; refine ⟨fun _ => ?_, ?_⟩; (first | (go_at_call 84; exact Calls.regrown_of (ref_least_calls (IntsIn.kept HL.out (below_regrown wr _ _))).gives) | (go_at_call 85; exact Calls.regrown_of (ref_bytes_calls (IntsIn.kept HL.out (below_regrown wr _ _))).gives) | (go_at_call 86; exact Calls.regrown_of (Reads.gives (p1.out _))) | (go_at_call 54; exact Calls.regrown_of (ref_shelf_print_calls (IntsIn.kept HL.out (below_regrown wr _ _)) hR hlen4)) | (go_at_call_of 83 (Value.int .u64 (F : Int)); exact Calls.regrown_of (p2.out _)) | (go_at_call_of 83 (Value.int .u64 (bytesL l : Int)); exact Calls.regrown_of (p3.out _))); go_big_quiet_on)))
       refine wpQuiet_nil ?_
       rintro w3 ⟨p, hw3⟩
       have hb : Below wr.heap.size wr w3 := hw3 ▸ below_regrown wr p.d p.os
       clear hw3 k0 k1
       go_wp2
       go_ret
       have HG := grown_trans hg (grown_below hb (some b))
       have hI := IntsIn.kept HL.out hb
       have hTT := HT.out.kept hb
       exact RefPost.yes (ok_yes hl4 HLR.out rfl rfl HFF.out HRR.out HE.out) HLR.out HRR.out hI hfr hTT HG
      ·have HE := Lib.hid he
       clear he
       go_wp2_with fail
       refine wp_region_quiet_below (by kernel_rfl) (by kernel_rfl) ?_
       repeat (first | go_big_quiet_skip | (go_big_quiet_want; go_big_quiet_op; first | go_big_quiet_on | (apply Exists.intro; refine ⟨fun _ => ?_, ?_⟩; (first | (go_at_call 84; exact Calls.regrown_of (ref_least_calls (IntsIn.kept HL.out (below_regrown wr _ _))).gives) | (go_at_call 85; exact Calls.regrown_of (ref_bytes_calls (IntsIn.kept HL.out (below_regrown wr _ _))).gives) | (go_at_call 86; exact Calls.regrown_of (Reads.gives (p1.out _))) | (go_at_call 54; exact Calls.regrown_of (ref_shelf_print_calls (IntsIn.kept HL.out (below_regrown wr _ _)) hR hlen4)) | (go_at_call_of 83 (Value.int .u64 (F : Int)); exact Calls.regrown_of (p2.out _)) | (go_at_call_of 83 (Value.int .u64 (bytesL l : Int)); exact Calls.regrown_of (p3.out _))); go_big_quiet_on)))
       refine wpQuiet_nil ?_
       rintro w3 ⟨p, hw3⟩
       have hb : Below wr.heap.size wr w3 := hw3 ▸ below_regrown wr p.d p.os
       clear hw3 k0 k1
       have f2 := (HT.out.kept hb).f0 1
       have c2 := (HT.out.kept hb).c1
       go_wp2
       go_ret
       exact RefPost.no (ok_no HLR.out HFF.out HRR.out HE.out) ((HT.out.kept hb).set1 true) (grown_set (grown_trans hg (grown_below hb (some b))) 1 (.bool true))
     ·have n1 : ((bytesL l : Int) != (n : Int)) = true := by rw [bne_iff_ne]; omega
      have n2 : ((bytesL l : Int) == (n : Int)) = false := by rw [beq_eq_false_iff_ne]; omega
      go_wp2
      go_quiet ((first | (go_at_call 84; exact Reads.quiet (ref_least_calls (hl'.drewN _))) | (go_at_call 85; exact Reads.quiet (ref_bytes_calls (hl'.drewN _)))))
      go_wp2
      go_ret
      exact .inr ⟨fun h => e2 (by have := h.2.2.1; rwa [HLR.out] at this), rr, rfl, (hT.drewN _).set1 _, grown_set (grown_drewN hg _) _ _⟩
    ·have n1 : (leastI l != m) = true := by rw [bne_iff_ne]; exact e1
     have n2 : (leastI l == m) = false := by rw [beq_eq_false_iff_ne]; exact e1
     go_wp2
     go_quiet ((first | (go_at_call 84; exact Reads.quiet (ref_least_calls (hl'.drewN _)))))
     go_wp2
     go_ret
     exact .inr ⟨fun h => e1 (by have := h.2.1; rwa [HLR.out] at this), rr, rfl, (hT.drewN _).set1 _, grown_set (grown_drewN hg _) _ _⟩
   ·have f1 := hT.f0 1
    have g1 : decide (4096 < many) = true := by rw [decide_eq_true_eq]; omega
    have g0 : decide (many < 0) = false := by rw [decide_eq_false_iff_not]; omega
    by_cases g3 : (k : Int) < many
    ·obtain rfl : k = 4097 := by have := HM3.out; omega
     go_wp2
     go_quiet (fail)
     go_wp2
     go_ret
     exact .inr ⟨fun h => by have := h.1; omega, _, rfl, (hT.drewN _).set1 _, grown_set (grown_drewN hg _) _ _⟩
    ·go_wp2
     go_quiet (fail)
     go_wp2
     go_ret
     exact .inr ⟨fun h => by have := h.1; omega, _, rfl, (hT.drewN _).set1 _, grown_set (grown_drewN hg _) _ _⟩
set_option maxHeartbeats 1000000 in
set_option maxRecDepth 100000 in
theorem ref_read_out (b : Nat) (s r1 r2 : ByteArray) (bad b1 b2 : Bool) (m : Int) (n : Nat) (many : Int) (w : World) (hT : TapeIn 95 w b s bad)
  (T1 : Takes Tryz.prog 95 96 [] b s bad (.int .i64 m) r1 b1) (T2 : Takes Tryz.prog 95 97 [.int .u64 8] b r1 b1 (.int .u64 n) r2 b2)
  (hn : n ≤ 8) (h : b2 = true ∨ many < 0) :
  Calls Tryz.prog 64 #[.pointer (some ⟨b, 0, none⟩), .int .i64 many] w fun e w' => ∃ r', e = .returned (.slice none 0 0) ∧ TapeIn 95 w' b r' true ∧ w.grownBy w' (some b) := by
 have hg := grown_refl w (some b)
 have H1 := Lib.hid T1
 have H2 := Lib.hid T2
 clear T1 T2
 by_cases hneg : many < 0
 ·have d0 : decide (many < 0) = true := by rw [decide_eq_true_eq]; exact hneg
  have d1 : decide ((0 : Int) < many) = false := by rw [decide_eq_false_iff_not]; omega
  clear h
  cases b2
  all_goals
   go_enter Tryz.func64, Tryz.ntmps64
   go_wp2_with (first | (go_at_call 96; refine H1.out.step hT hg ?_; clear hT hg; intro w1 hT hg) | (go_at_call 97; refine H2.out.step hT hg ?_; clear hT hg; intro w2 hT hg; have c0 := hT.c0; have c1 := hT.c1; have f1 := hT.f0 1))
   refine wp_loop_rounds 1 ?_
   rw [rounds_succ]
   go_wp2
   go_quiet (fail)
   go_wp2
   go_ret
   exact ⟨r2, rfl, (hT.drewN _).set1 _, grown_set (grown_drewN hg _) _ _⟩
 ·obtain rfl : b2 = true := by
   rcases h with h | h
   ·exact h
   ·exact absurd h hneg
  clear h
  by_cases h0 : 0 < many
  all_goals
   go_enter Tryz.func64, Tryz.ntmps64
   go_wp2_with (first | (go_at_call 96; refine H1.out.step hT hg ?_; clear hT hg; intro w1 hT hg) | (go_at_call 97; refine H2.out.step hT hg ?_; clear hT hg; intro w2 hT hg; have c0 := hT.c0; have c1 := hT.c1; have f1 := hT.f0 1))
   refine wp_loop_rounds 1 ?_
   rw [rounds_succ]
   go_wp2
   go_quiet (fail)
   go_wp2
   go_ret
   exact ⟨r2, rfl, (hT.drewN _).set1 _, grown_set (grown_drewN hg _) _ _⟩
theorem at_nums {s : ByteArray} {many : Int} {l : List Int} {r : List UInt8} (h : ShelfAt s.data.toList many l r) :
  numT s false maxU = ((foldI (leastI l)).toNat, printB (bytesL l) ++ (mkB (rowsP (leastI l) (bytesL l) l) ++ mkB r), false) ∧
  numT (printB (bytesL l) ++ (mkB (rowsP (leastI l) (bytesL l) l) ++ mkB r)) false 8 = (bytesL l, mkB (rowsP (leastI l) (bytesL l) l) ++ mkB r, false) := by
 obtain ⟨h0, h1, hlen, hr, hs⟩ := h
 have hF := foldI_nat l hr
 have hn' : bytesL l ≤ 8 := bytesFrom_le_8 (leastI l) l
 have es : s = printB (foldI (leastI l)).toNat ++ (printB (bytesL l) ++ (mkB (rowsP (leastI l) (bytesL l) l) ++ mkB r)) := by
  apply bytes_ext
  rw [hs, data_append, data_append, data_append, print_data, print_data, mkB_data, mkB_data]
  unfold shelfP
  simp only [List.append_assoc]
 have e1 := numT_print (foldI (leastI l)).toNat hF (printB (bytesL l) ++ (mkB (rowsP (leastI l) (bytesL l) l) ++ mkB r)) maxU (by unfold maxU; omega)
 rw [← es] at e1
 exact ⟨e1, numT_print (bytesL l) (by omega) (mkB (rowsP (leastI l) (bytesL l) l) ++ mkB r) 8 (by omega)⟩
theorem rr_size {r2 : ByteArray} {k : Nat} (h : k ≤ r2.size) : r2.size - (r2.extract k r2.size).size = k := by rw [ByteArray.size_extract]; omega
theorem ref_shelf_read_some (b : Nat) (s : ByteArray) (hs : s.size ≤ 1000000000000) {many : Int} {l : List Int} {r : List UInt8} (h : ShelfAt s.data.toList many l r) :
  TakesInts Tryz.prog 95 64 [.int .i64 many] b s l (mkB r) := by
 intro w hT
 obtain ⟨e1, e2⟩ := at_nums h
 obtain ⟨h0, h1, hlen, hr, _⟩ := h
 have hn' : bytesL l ≤ 8 := bytesFrom_le_8 (leastI l) l
 have hd := bytesFrom_lt (leastI l) l
 have hrow := rowsP_length (leastI l) (bytesL l) l
 have z1 := numT_size s false maxU
 have z2 := numT_size (printB (bytesL l) ++ (mkB (rowsP (leastI l) (bytesL l) l) ++ mkB r)) false 8
 rw [e1] at z1
 rw [e2] at z2
 have T1 := ref_tint_calls b s false
 have T2 := ref_tnum_calls b (printB (bytesL l) ++ (mkB (rowsP (leastI l) (bytesL l) l) ++ mkB r)) false 8
 rw [e1, open_fold] at T1
 rw [e2] at T2
 simp only at T1 T2 z1 z2
 have hsz : (mkB (rowsP (leastI l) (bytesL l) l) ++ mkB r).size = bytesL l * l.length + r.length := by rw [ByteArray.size_append, mkB_size, mkB_size, hrow]
 have hle : l.length * bytesL l ≤ (mkB (rowsP (leastI l) (bytesL l) l) ++ mkB r).size := by rw [hsz, Nat.mul_comm]; omega
 have hk := ref_read_full b s _ _ false false (leastI l) (bytesL l) many hn' (by omega) w hT T1 T2 l.length (by omega) (by omega) (.inl (by omega)) hle
 have hro : rowsOf (leastI l) (bytesL l) l.length (mkB (rowsP (leastI l) (bytesL l) l) ++ mkB r).data.toList = l := by
  rw [data_append, mkB_data, mkB_data]; exact rowsOf_rows _ _ l r hr hd
 have hrr : (mkB (rowsP (leastI l) (bytesL l) l) ++ mkB r).extract (l.length * bytesL l) (mkB (rowsP (leastI l) (bytesL l) l) ++ mkB r).size = mkB r := by
  have := extract_front (mkB (rowsP (leastI l) (bytesL l) l)) (mkB r)
  rwa [mkB_size, hrow, Nat.mul_comm] at this
 rw [hro, hrr] at hk
 have hok : shelfB l = printB (foldI (leastI l)).toNat ++ printB (bytesL l) ++ (mkB (rowsP (leastI l) (bytesL l) l) ++ mkB r).extract 0 ((mkB (rowsP (leastI l) (bytesL l) l) ++ mkB r).size - (mkB r).size) := by
  apply bytes_ext
  rw [shelfB_data, data_append, data_append, data_extract, data_append, print_data, print_data, mkB_data, mkB_data, ByteArray.size_append, mkB_size, mkB_size]
  unfold shelfP
  simp
 refine hk.mono fun e w' hp => ?_
 rcases hp with ⟨_, hv⟩ | ⟨hno, _⟩
 ·exact hv
 ·exact absurd ⟨by omega, rfl, rfl, hok⟩ hno
theorem ref_shelf_read_none (b : Nat) (s : ByteArray) (hs : s.size ≤ 1000000000000) (many : Int) (h : ¬ ∃ l r, ShelfAt s.data.toList many l r) (w : World) (hT : TapeIn 95 w b s false) :
  Calls Tryz.prog 64 #[.pointer (some ⟨b, 0, none⟩), .int .i64 many] w fun e w' => ∃ r', e = .returned (.slice none 0 0) ∧ TapeIn 95 w' b r' true ∧ w.grownBy w' (some b) := by
 have T1 := ref_tint_calls b s false
 have z1 := numT_size s false maxU
 have k1 := @numT_good s false maxU
 have l1 := numT_lt s false maxU
 generalize numT s false maxU = A at *
 obtain ⟨F, r1, b1⟩ := A
 have T2 := ref_tnum_calls b r1 b1 8
 have z2 := numT_size r1 b1 8
 have k2 := @numT_good r1 b1 8
 have hn := numT_le r1 b1 8 (by decide)
 simp only at T1 z1 k1 l1
 generalize numT r1 b1 8 = C at *
 obtain ⟨n, r2, b2⟩ := C
 simp only at T2 z2 k2 hn
 by_cases ho : b2 = true ∨ many < 0
 ·exact ref_read_out b s r1 r2 false b1 b2 _ n many w hT T1 T2 (by omega) ho
 ·have hb2 : b2 = false := by cases b2 <;> simp_all
  subst hb2
  have hneg : ¬ many < 0 := fun hx => ho (.inr hx)
  obtain ⟨hb1, es2⟩ := k2 rfl
  subst hb1
  obtain ⟨_, es1⟩ := k1 rfl
  by_cases hsh : r2.size < (min many.toNat 4097) * n
  ·exact ref_read_short b s r1 r2 false false _ n many (by omega) (by omega) w hT T1 T2 (min many.toNat 4097) (by omega) (by omega) hsh
  ·have hk := ref_read_full b s r1 r2 false false _ n many (by omega) (by omega) w hT T1 T2 (min many.toNat 4097) (by omega) (by omega) (by omega) (by omega)
   refine hk.mono fun e w' hp => ?_
   rcases hp with ⟨⟨c1, c2, c3, c4⟩, _⟩ | ⟨_, hv⟩
   ·exfalso
    apply h
    have hM : min many.toNat 4097 = many.toNat := by omega
    rw [hM] at c2 c3 c4 hsh
    refine ⟨_, (r2.extract (many.toNat * n) r2.size).data.toList, by omega, c1, ?_, rowsOf_range (openI F) n many.toNat r2.data.toList, ?_⟩
    ·rw [rowsOf_length]; omega
    ·rw [← shelfB_data, c4, fold_open, Int.toNat_natCast, rr_size (by omega), es1, es2]
     simp only [data_append, List.append_assoc]
     congr 2
     rw [data_extract, data_extract, List.drop_zero, Nat.sub_zero, List.take_of_length_le (l := r2.data.toList.drop _) (by rw [List.length_drop, data_size]; omega), List.take_append_drop]
   ·exact hv
end Go.Proofs.YtkgjbldlegcajaaGreat
