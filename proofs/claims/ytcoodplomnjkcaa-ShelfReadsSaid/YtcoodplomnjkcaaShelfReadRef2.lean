/- The contract of the answer's Read of layer 3, where there are bytes enough. -/
import Derived.Test.YtcoodplomnjkcaaShelfReadRef
namespace Go.Proofs.Ytcoodplomnjkcaa
open Go Go.RowKit

/-- The answer's Read: numbers, or none. -/
def RefPost (T : TypeId) (w : World) (b : Nat) (ok : Prop) (l : List Int) (r : ByteArray) (e : Ending) (w' : World) : Prop :=
  (ok ∧ ∃ v, e = .returned v ∧ IntsIn w' v l ∧ Fresh w.heap.size v ∧ TapeIn T w' b r false ∧ w.grownBy w' (some b)) ∨ (¬ ok ∧ ∃ r', e = .returned (.slice none 0 0) ∧ TapeIn T w' b r' true ∧ w.grownBy w' (some b))
theorem RefPost.yes {T : TypeId} {w w' : World} {b : Nat} {ok : Prop} {l l' : List Int} {r r' : ByteArray} {v : Value} (h : ok) (hl : l = l') (hr : r = r') (h1 : IntsIn w' v l') (h2 : Fresh w.heap.size v) (h3 : TapeIn T w' b r' false) (h4 : w.grownBy w' (some b)) :
    RefPost T w b ok l r (.returned v) w' := by subst hl; subst hr; exact .inl ⟨h, v, rfl, h1, h2, h3, h4⟩
theorem RefPost.no {T : TypeId} {w w' : World} {b : Nat} {ok : Prop} {l : List Int} {r r' : ByteArray} (h : ¬ ok) (h3 : TapeIn T w' b r' true) (h4 : w.grownBy w' (some b)) :
    RefPost T w b ok l r (.returned (.slice none 0 0)) w' := .inr ⟨h, r', rfl, h3, h4⟩
theorem ok_yes {k : Int} {l l' : List Int} {m : Int} {n : Nat} {F : Nat} {r2 rr rr' : ByteArray} (h4 : k ≤ 4096) (hl : l = l') (hm : leastI l' = m) (hn : bytesL l' = n) (hF : (foldI m).toNat = F) (hr : rr = rr') (he : shelfB l' = printB F ++ printB n ++ r2.extract 0 (r2.size - rr'.size)) :
    k ≤ 4096 ∧ leastI l = m ∧ bytesL l = n ∧ shelfB l = printB (foldI m).toNat ++ printB n ++ r2.extract 0 (r2.size - rr.size) := by
  subst hl; subst hr; subst hF; exact ⟨h4, hm, hn, he⟩
theorem ok_no {k : Int} {l l' : List Int} {m : Int} {n : Nat} {F : Nat} {r2 rr rr' : ByteArray} (hl : l = l') (hF : (foldI m).toNat = F) (hr : rr = rr') (he : shelfB l' ≠ printB F ++ printB n ++ r2.extract 0 (r2.size - rr'.size)) :
    ¬ (k ≤ 4096 ∧ leastI l = m ∧ bytesL l = n ∧ shelfB l = printB (foldI m).toNat ++ printB n ++ r2.extract 0 (r2.size - rr.size)) := by
  subst hl; subst hr; subst hF; exact fun h => he h.2.2.2
theorem rowsOf_step (m : Int) (n k : Nat) (t : List UInt8) : (rowsOf m n (k + 1) t).map (Value.int .i64) = (rowsOf m n k t).map (Value.int .i64) ++ [.int .i64 (wrap64 (m + unle ((t.drop (k * n)).take n)))] := by
  unfold rowsOf
  rw [List.range_succ, List.map_append, List.map_append]; rfl
theorem textT_at (r2 : ByteArray) (k n : Nat) (h : (k + 1) * n ≤ r2.size) : textT (r2.extract (k * n) r2.size) false n = (mkB ((r2.data.toList.drop (k * n)).take n), r2.extract ((k + 1) * n) r2.size, false) := by
  rw [Nat.succ_mul] at h ⊢
  have hz : (r2.extract (k * n) r2.size).size = r2.size - k * n := by rw [ByteArray.size_extract]; omega
  unfold textT
  rw [if_neg (by decide), if_pos (by omega), hz]
  congr 1
  · apply bytes_ext
    rw [data_extract, data_extract, mkB_data, List.drop_zero, Nat.sub_zero, List.take_take]
    congr 1; omega
  · congr 1
    apply bytes_ext
    rw [data_extract, data_extract, data_extract, List.drop_take, List.drop_drop, List.take_take]
    congr 1; omega

set_option maxHeartbeats 8000000 in
set_option maxRecDepth 100000 in
theorem ref_read_full (b : Nat) (s r1 r2 : ByteArray) (bad b1 : Bool) (m : Int) (n : Nat) (many : Int) (hn : n ≤ 8) (hs : r2.size ≤ 1000000000000) (w : World) (hT : TapeIn 31 w b s bad)
    (T1 : Takes Try.prog 31 28 [] b s bad (.int .i64 m) r1 b1) (T2 : Takes Try.prog 31 29 [.int .u64 8] b r1 b1 (.int .u64 n) r2 false)
    (M : Nat) (hM : (M : Int) ≤ many) (hM2 : M ≤ 4097) (hM3 : (M : Int) = many ∨ M = 4097) (hen : M * n ≤ r2.size) :
    Calls Try.prog 14 #[.pointer (some ⟨b, 0, none⟩), .int .i64 many] w fun e w' =>
      RefPost 31 w b (many ≤ 4096 ∧ leastI (rowsOf m n M r2.data.toList) = m ∧ bytesL (rowsOf m n M r2.data.toList) = n ∧
        shelfB (rowsOf m n M r2.data.toList) = printB (foldI m).toNat ++ printB n ++ r2.extract 0 (r2.size - (r2.extract (M * n) r2.size).size)) (rowsOf m n M r2.data.toList) (r2.extract (M * n) r2.size) e w' := by
  obtain ⟨i0, hi, hz0, hz1, hz2⟩ := info_parts Try.info3
  have hg := grown_refl w (some b)
  have H1 := Lib.hid T1
  have H2 := Lib.hid T2
  have HEN := Lib.hid hen
  have HM3 := Lib.hid hM3
  have hbw := hT.lt
  clear T1 T2 hen hM3
  go_enter Try.func14, Try.ntmps14
  go_wp2_with (first | (go_at_call 28; refine H1.out.step hT hg ?_; clear hT hg; intro w1 hT hg) | (go_at_call 29; refine H2.out.step hT hg ?_; clear hT hg; intro w2 hT hg; have c0 := hT.c0))
  clear c0
  go_loopw [7, 9] (fun v i wr => ∃ (k : Nat), k ≤ M ∧ i = .int .i64 k ∧ Own wr w.heap.size 1 v k ((rowsOf m n k r2.data.toList).map (Value.int .i64)) ∧ TapeIn 31 wr b (r2.extract (k * n) r2.size) false ∧ w.grownBy wr (some b)) (fun _ i _ => M - (intOf i).toNat)
  case atStart => exact ⟨0, by omega, rfl, Own.nil_ _ _ _, by rw [Nat.zero_mul, show r2.extract 0 r2.size = r2 from bytes_ext (by rw [data_extract, List.drop_zero, List.take_of_length_le (by rw [data_size]; omega)])]; exact hT, hg⟩
  case round =>
    clear hT hg
    obtain ⟨k, hk, rfl, hO, hT, hg⟩ := hrel
    have c1 := hT.c1
    by_cases hd : k < M
    · have g1 : (k : Int) < many := by omega
      have g2 : k ≤ 4096 := by omega
      have hkn : (k + 1) * n ≤ r2.size := Nat.le_trans (Nat.mul_le_mul_right n hd) HEN.out
      have T3 := ref_ttext_calls b (r2.extract (k * n) r2.size) false n (by rw [ByteArray.size_extract]; omega)
      rw [textT_at r2 k n hkn] at T3
      have HT3 := Lib.hid T3
      have ht8 : (mkB ((r2.data.toList.drop (k * n)).take n)).size ≤ 8 := by rw [mkB_size, List.length_take]; omega
      have HR := Lib.hid (rowsOf_step m n k r2.data.toList)
      have ed : (mkB ((r2.data.toList.drop (k * n)).take n)).data.toList = (r2.data.toList.drop (k * n)).take n := mkB_data _
      rw [← ed] at HR
      clear T3 ed hkn
      generalize mkB ((r2.data.toList.drop (k * n)).take n) = t at HT3 ht8 HR
      go_wp2_with (go_at_call 30; refine HT3.out.stepG hT hg ?_; clear hT hg c1; intro w3 hT hg hgg)
      have hO' := hO.other hgg (fun q hq e => by have := (hO.lt q hq).1; cases e; omega)
      clear hO hgg
      go_loop [11, 12] (fun u q => ∃ J : Nat, J ≤ t.size ∧ q = .int .i64 (predI J) ∧ u = .int .u64 (unle (t.data.toList.drop J))) (fun _ q => (intOf q + 1).toNat)
      case atStart => exact ⟨t.size, Nat.le_refl _, by rw [predI_eq], by rw [List.drop_of_length_le (by rw [data_size]; exact Nat.le_refl _)]; rfl⟩
      case round =>
        obtain ⟨J, hJ, rfl, rfl⟩ := hrel
        cases J with
        | zero =>
          have e0 : predI 0 = -1 := rfl
          have HWB := Lib.hid (wrap_back m (unle t.data.toList))
          go_wp2_with (at_builtin; refine wpList_append_Own rfl _ _ 22 rfl 3 i0 (.int .i64 0) 1 8 Try.underlying22 hi hz0 hz1 hz2 rfl (by decide) _ _ _ rfl (Own.alloc hO' _) ⟨w3.heap.size, 0, none⟩ 1 1 [_] rfl rfl (one_new _ _ _) (one_int _ _) ?c1 ?c2 (Nat.le_trans hg.size (by simp)) ?_)
          case c1 => unfold maxLen; omega
          case c2 => omega
          intro v' w4 hO4 hg4
          have hT4 := (hT.alloc _).appended (Own.alloc hO' _) hbw hg4
          have hg5 := grown_appended (grown_alloc hg _) (Own.alloc hO' _) hg4
          clear hT hg hg4 hO'
          go_wp2
          go_roundw
          case rel => exact ⟨k + 1, by omega, by go_num, by rw [HR.out]; first | exact hO4 | (rw [← HWB.out]; exact hO4), hT4, hg5⟩
          case measure => simp [intOf]; omega
        | succ j =>
          have e1 : predI (j + 1) = (j : Int) := rfl
          have HB := Lib.hid (unle_back t j (by omega) ht8)
          go_wp2
          go_round
          case rel => exact ⟨j, by omega, by rw [predI_eq], by first | rw [HB.out.1] | rw [HB.out.2]⟩
          case measure => simp [intOf]; omega
    · obtain rfl : k = M := by omega
      by_cases g4 : many ≤ 4096
      · obtain rfl : many = (k : Int) := by have := HM3.out; omega
        obtain ⟨A, cap, rfl⟩ := hO.len
        have hl := hO.slice
        have hfr : Fresh w.heap.size (.slice A k cap) := fun q hq => (hO.lt q hq).1
        have hlen := rowsOf_length m n k r2.data.toList
        have hR := rowsOf_range m n k r2.data.toList
        clear hO
        generalize hLR : rowsOf m n k r2.data.toList = l at hl hlen hR
        have HLR := Lib.hid hLR
        clear hLR
        have hl' : IntsIn wr (.slice A k cap) l := by unfold IntsIn; rw [hlen]; exact hl
        clear hl
        subst hlen
        have d0 : decide ((l.length : Int) < 0) = false := by rw [decide_eq_false_iff_not]; omega
        have d1 : decide (4096 < (l.length : Int)) = false := by rw [decide_eq_false_iff_not]; omega
        have c0 := hT.c0
        have f1 := hT.f0 1
        have Hrr : Hid ((r2.extract (l.length * n) r2.size).size ≤ r2.size) := by show _ ≤ _; rw [ByteArray.size_extract]; omega
        generalize hRR : r2.extract (l.length * n) r2.size = rr at hT Hrr c0
        have HRR := Lib.hid hRR
        clear hRR
        have L1 := Lib.hid (ref_least_calls hl')
        have L2 := Lib.hid (ref_bytes_calls hl')
        by_cases e1 : leastI l = m
        · subst e1
          by_cases e2 : bytesL l = n
          · subst e2
            have hz : rr.size ≤ r2.size := Hrr.out
            have q1 : IntKind.i64.wrap ((r2.size : Int) - (rr.size : Int)) = (r2.size : Int) - (rr.size : Int) := IntWalk.i64_in _ (by omega)
            have q2 : (0 : Int) ≤ (r2.size : Int) - (rr.size : Int) := by omega
            have q3 : ((r2.size : Int) - (rr.size : Int)).toNat = r2.size - rr.size := by omega
            have q4 : (r2.size : Int) - (rr.size : Int) ≤ (r2.size : Int) := by omega
            have q5 : r2.size - rr.size ≤ r2.size := by omega
            have hrg := leastI_range l hR
            have hb8 : bytesL l ≤ 8 := bytesFrom_le_8 _ _
            have hF := foldI_nat l hR
            have hp1 : (printB (foldI (leastI l)).toNat).size ≤ 10 := by rw [print_len]; exact vp_len_10 hF
            have hp2 : (printB (bytesL l)).size ≤ 10 := by rw [print_len]; exact vp_len_10 (by omega)
            have hsz : (r2.extract 0 (r2.size - rr.size)).size = r2.size - rr.size := by rw [ByteArray.size_extract]; omega
            have p1 := Lib.hid (ref_fold_nat (leastI l) hrg.1 hrg.2)
            have p2 := Lib.hid (ref_print_calls (foldI (leastI l)).toNat hF)
            have p3 := Lib.hid (ref_print_calls (bytesL l) (by omega))
            have q6 : IntKind.u64.wrap (bytesL l : Int) = (bytesL l : Int) := wrap_lt _ (by omega)
            have q7 : r2.size - rr.size ≤ 1000000000000 := by omega
            have hb := Below.refl wr.heap.size wr
            have HT := Lib.hid hT
            have HL := Lib.hid hl'
            have HK : ∀ w', Below wr.heap.size wr w' → w'.cell? ⟨b, 0, none⟩ = some (.string rr) ∧ w'.cell? ⟨b, 1, none⟩ = some (.bool false) ∧ Hid (Below wr.heap.size wr w') := fun w' h => ⟨(HT.out.kept h).c0, (HT.out.kept h).c1, h⟩
            have HKH := Lib.hid HK
            have hlen4 : l.length ≤ 4096 := by omega
            have hl4 : (l.length : Int) ≤ 4096 := by omega
            clear hT HK hrg hF
            generalize hFF : (foldI (leastI l)).toNat = F at p1 p2 hp1
            have HFF := Lib.hid hFF
            clear hFF
            have t33 : ¬ 9223372036854775807 < (printB F).size + (printB (bytesL l)).size := by omega
            have t44 : ¬ 9223372036854775807 < (printB F).size + (printB (bytesL l)).size + (r2.size - rr.size) := by omega
            have t45 : ¬ 9223372036854775807 < (printB F).size + ((printB (bytesL l)).size + (r2.size - rr.size)) := by omega
            rcases str_ne_cases (shelfB l) (printB F ++ printB (bytesL l) ++ r2.extract 0 (r2.size - rr.size)) with ⟨he, g1, g2⟩ | ⟨he, g1, g2⟩
            · have HE := Lib.hid he
              clear he
              go_wp2_with fail
              go_region_held3 (fun w' => w'.cell? ⟨b, 0, none⟩ = some (.string rr) ∧ w'.cell? ⟨b, 1, none⟩ = some (.bool false) ∧ Hid (Below wr.heap.size wr w')) (first | exact HKH.out _ hb | exact HKH.out _ hb.drew)
                (first
                | (go_at_call 22; first | refine (ref_least_calls (IntsIn.kept HL.out hb)).step ?_ | refine (ref_least_calls (IntsIn.kept HL.out hb.drew)).step ?_)
                | (go_at_call 12; first | refine (ref_bytes_calls (IntsIn.kept HL.out hb)).step ?_ | refine (ref_bytes_calls (IntsIn.kept HL.out hb.drew)).step ?_)
                | (go_at_call 24; refine (p1.out _).mono ?_; rintro e w' ⟨rfl, rfl⟩)
                | (go_at_call 10; (first | refine (ref_shelf_print_calls (IntsIn.kept HL.out hb) hR hlen4).step hb hb.size ?_ | refine (ref_shelf_print_calls (IntsIn.kept HL.out hb.drew) hR hlen4).step hb.drew hb.size ?_); clear hb; intro w' hb _)
                | (go_at_call_of 23 (Value.int .u64 (F : Int)); (first | refine p2.out.step hb hb.size ?_ | refine p2.out.step hb.drew hb.size ?_); clear hb; intro w' hb _)
                | (go_at_call_of 23 (Value.int .u64 (bytesL l : Int)); (first | refine p3.out.step hb hb.size ?_ | refine p3.out.step hb.drew hb.size ?_); clear hb; intro w' hb _))
              go_wp2
              go_ret
              have HG := grown_trans hg (grown_below hb (some b))
              have hI := IntsIn.kept HL.out hb
              have hTT := HT.out.kept hb
              exact RefPost.yes (ok_yes hl4 HLR.out rfl rfl HFF.out HRR.out HE.out) HLR.out HRR.out hI hfr hTT HG
            · have HE := Lib.hid he
              clear he
              go_wp2_with fail
              go_region_held3 (fun w' => w'.cell? ⟨b, 0, none⟩ = some (.string rr) ∧ w'.cell? ⟨b, 1, none⟩ = some (.bool false) ∧ Hid (Below wr.heap.size wr w')) (first | exact HKH.out _ hb | exact HKH.out _ hb.drew)
                (first
                | (go_at_call 22; first | refine (ref_least_calls (IntsIn.kept HL.out hb)).step ?_ | refine (ref_least_calls (IntsIn.kept HL.out hb.drew)).step ?_)
                | (go_at_call 12; first | refine (ref_bytes_calls (IntsIn.kept HL.out hb)).step ?_ | refine (ref_bytes_calls (IntsIn.kept HL.out hb.drew)).step ?_)
                | (go_at_call 24; refine (p1.out _).mono ?_; rintro e w' ⟨rfl, rfl⟩)
                | (go_at_call 10; (first | refine (ref_shelf_print_calls (IntsIn.kept HL.out hb) hR hlen4).step hb hb.size ?_ | refine (ref_shelf_print_calls (IntsIn.kept HL.out hb.drew) hR hlen4).step hb.drew hb.size ?_); clear hb; intro w' hb _)
                | (go_at_call_of 23 (Value.int .u64 (F : Int)); (first | refine p2.out.step hb hb.size ?_ | refine p2.out.step hb.drew hb.size ?_); clear hb; intro w' hb _)
                | (go_at_call_of 23 (Value.int .u64 (bytesL l : Int)); (first | refine p3.out.step hb hb.size ?_ | refine p3.out.step hb.drew hb.size ?_); clear hb; intro w' hb _))
              have f2 := (HT.out.kept hb).f0 1
              have c2 := (HT.out.kept hb).c1
              go_wp2
              go_ret
              exact RefPost.no (ok_no HLR.out HFF.out HRR.out HE.out) ((HT.out.kept hb).set1 true) (grown_set (grown_trans hg (grown_below hb (some b))) 1 (.bool true))
          · have n1 : ((bytesL l : Int) != (n : Int)) = true := by rw [bne_iff_ne]; omega
            have n2 : ((bytesL l : Int) == (n : Int)) = false := by rw [beq_eq_false_iff_ne]; omega
            go_wp2
            go_quiet ((first | (go_at_call 22; exact Reads.quiet (ref_least_calls (hl'.drewN _))) | (go_at_call 12; exact Reads.quiet (ref_bytes_calls (hl'.drewN _)))))
            go_wp2
            go_ret
            exact .inr ⟨fun h => e2 (by have := h.2.2.1; rwa [HLR.out] at this), rr, rfl, (hT.drewN _).set1 _, grown_set (grown_drewN hg _) _ _⟩
        · have n1 : (leastI l != m) = true := by rw [bne_iff_ne]; exact e1
          have n2 : (leastI l == m) = false := by rw [beq_eq_false_iff_ne]; exact e1
          go_wp2
          go_quiet ((first | (go_at_call 22; exact Reads.quiet (ref_least_calls (hl'.drewN _)))))
          go_wp2
          go_ret
          exact .inr ⟨fun h => e1 (by have := h.2.1; rwa [HLR.out] at this), rr, rfl, (hT.drewN _).set1 _, grown_set (grown_drewN hg _) _ _⟩
      · have f1 := hT.f0 1
        have g1 : decide (4096 < many) = true := by rw [decide_eq_true_eq]; omega
        have g0 : decide (many < 0) = false := by rw [decide_eq_false_iff_not]; omega
        by_cases g3 : (k : Int) < many
        · obtain rfl : k = 4097 := by have := HM3.out; omega
          go_wp2
          go_quiet (fail)
          go_wp2
          go_ret
          exact .inr ⟨fun h => by have := h.1; omega, _, rfl, (hT.drewN _).set1 _, grown_set (grown_drewN hg _) _ _⟩
        · go_wp2
          go_quiet (fail)
          go_wp2
          go_ret
          exact .inr ⟨fun h => by have := h.1; omega, _, rfl, (hT.drewN _).set1 _, grown_set (grown_drewN hg _) _ _⟩
end Go.Proofs.Ytcoodplomnjkcaa
