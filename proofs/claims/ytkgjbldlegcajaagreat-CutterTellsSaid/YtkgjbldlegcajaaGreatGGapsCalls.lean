/- The contract of layer 7's Join. -/
import Derived.Test.YtkgjbldlegcajaaGreatGVaryRead
import Derived.Test.YtkgjbldlegcajaaGreatGStrs
import Derived.Test.YtkgjbldlegcajaaGreatGGaps
import Derived.Test.YtkgjbldlegcajaaGreatGRepeat
namespace Go.Proofs.YtkgjbldlegcajaaGreat
open Go Go.RowKit
def lenB : Value → Nat
 | .slice _ n _ => n
 | _ => 0
theorem spread_vals (ls : List Nat) (n : Nat) : (spreadG true (ls ++ [n])).map Value.bool = (spreadG true ls).map Value.bool ++ List.replicate n (Value.bool (flip true ls.length)) := by
 rw [spread_snoc, List.map_append, List.map_replicate]
set_option maxHeartbeats 1000000 in
set_option maxRecDepth 100000 in
theorem gaps_take_over (b : Nat) (s : ByteArray) (bad : Bool) (many : Int) (h : many < 0 ∨ 4096 < many) (w : World) (hT : TapeIn 132 w b s bad) :
  Calls Tryz.prog 152 #[.pointer (some ⟨b, 0, none⟩), .int .i64 many] w (GapsEnd 132 w b s bad many) := by
 have hc1 := hT.c1
 have hf1 := hT.f0 1
 have hg := grown_refl w (some b)
 have HN := Lib.hid (gaps_over (s := s.data.toList) h)
 by_cases h0 : many < 0
 ·have d1 : decide (many < 0) = true := by rw [decide_eq_true_eq]; exact h0
  clear h
  go_enter Tryz.func152, Tryz.ntmps152
  go_wp2
  go_ret
  exact ⟨_, [], s, true, rfl, SliceOf.nil_ _ _ _ _, fresh_nil _, hT.set1 true, grown_set hg _ _, by simp, .inr ⟨rfl, .inr HN.out⟩⟩
 ·have d1 : decide (many < 0) = false := by rw [decide_eq_false_iff_not]; exact h0
  have d2 : decide (4096 < many) = true := by rw [decide_eq_true_eq]; omega
  clear h
  go_enter Tryz.func152, Tryz.ntmps152
  go_wp2
  go_ret
  exact ⟨_, [], s, true, rfl, SliceOf.nil_ _ _ _ _, fresh_nil _, hT.set1 true, grown_set hg _ _, by simp, .inr ⟨rfl, .inr HN.out⟩⟩
set_option maxHeartbeats 2000000 in
set_option maxRecDepth 100000 in
theorem gaps_take_in (b : Nat) (s : ByteArray) (bad : Bool) (M : Nat) (hM : M ≤ 4096) (w : World) (hT : TapeIn 132 w b s bad) :
  Calls Tryz.prog 152 #[.pointer (some ⟨b, 0, none⟩), .int .i64 M] w (GapsEnd 132 w b s bad M) := by
 obtain ⟨i0, hi, hz0, hz1, hz2⟩ := info_parts Tryz.infoS4
 have hbw := hT.lt
 have hg := grown_refl w (some b)
 obtain ⟨n1, _, n3⟩ := (GState.first s bad (many := (M : Int)) (by omega)).next (.inl rfl)
 have n3 := n3 (.inl rfl)
 rw [show ((M : Int) - (sumN [] : Nat)) = M by simp [sumN]] at n1 n3
 have H1 := Lib.hid (tnum_calls b s bad (M : Int))
 generalize numT s bad (M : Int) = Y at *
 obtain ⟨n, r1, b1⟩ := Y
 simp only [List.nil_append] at n1 n3 H1
 have HS := Lib.hid n3
 have q1 : IntKind.u64.wrap (M : Int) = (M : Int) := wrap_lt _ (by omega)
 have q2 : IntKind.i64.wrap (n : Int) = (n : Int) := wrap_i64_nat _ (by omega)
 have hnM : n ≤ M := by omega
 have hl0 : BoolsIn (w.alloc (.cells #[.bool true] 4)) (.slice (some ⟨w.heap.size, 0, none⟩) 1 1) [true] := lit_ones Value.bool w 4 [true] (by decide)
 clear n1 n3
 go_enter Tryz.func152, Tryz.ntmps152
 go_wp2_with fail
 refine H1.out.stepG (hT.alloc _) (grown_alloc hg _) ?_
 clear hT hg
 intro w3 hT hg hq
 replace hl0 := SliceOf.fresh hl0 (fresh_at (Nat.le_refl w.heap.size)) hq hbw
 clear hq
 go_wp2_with fail
 refine (repeat_bools hl0 n (by omega)).mono ?_
 rintro e w4 ⟨v, rfl, hO, hq⟩
 replace hT := hT.kept hq
 replace hO := hO.mono hg.size
 replace hg := grown_trans hg (grown_below hq _)
 clear hq hl0 H1
 go_wp2
 go_loopw [5, 6] (fun v y wr => ∃ ls cur bb, Hid (GState s bad M ls cur bb) ∧ Hid (GoodG ls) ∧ sumN ls ≤ M ∧ y = .bool (flip true ls.length) ∧ Own wr w.heap.size 1 v (sumN ls) ((spreadG true ls).map Value.bool) ∧ TapeIn 132 wr b cur bb ∧ w.grownBy wr (some b)) (fun v _ _ => M - lenB v)
 case atStart =>
  have e0 : sumN [n] = n := by simp [sumN]
  exact ⟨[n], r1, b1, HS.out, ⟨n, [], rfl, by simp⟩, by rw [e0]; exact hnM, rfl, by rw [e0]; simpa [spreadG] using hO, hT, hg⟩
 case round =>
  clear hT hg HS hO q2 hnM
  obtain ⟨ls, cur, bb, HS, HG, hsl, rfl, hO, hT, hg⟩ := hrel
  obtain ⟨A, cap, rfl⟩ := hO.len
  have c1 := hT.c1
  have f1 := hT.f0 1
  by_cases hlt : sumN ls < M
  ·obtain ⟨n1, n2, n3⟩ := HS.out.next (.inr (by omega))
   have hD : (M : Int) - (sumN ls : Int) = ((M - sumN ls : Nat) : Int) := by omega
   rw [hD] at n1 n2 n3
   have H1 := Lib.hid (tnum_calls b cur bb ((M - sumN ls : Nat) : Int))
   have HNE := Lib.hid HG.out.ne
   generalize numT cur bb ((M - sumN ls : Nat) : Int) = Y at *
   obtain ⟨n, r1, b1⟩ := Y
   simp only at n1 n2 n3 H1
   have q2 : IntKind.u64.wrap ((M - sumN ls : Nat) : Int) = ((M - sumN ls : Nat) : Int) := wrap_lt _ (by omega)
   by_cases hn0 : n = 0
   ·subst hn0
    have HN := Lib.hid (n2 (.inr ⟨HNE.out, rfl⟩))
    clear n1 n2 n3 HS HG HNE
    generalize sumN ls = K at *
    generalize flip true ls.length = y at *
    go_wp2_with fail
    refine H1.out.stepG hT hg ?_
    clear hT hg c1 f1
    intro w3 hT hg hq
    have c1 := hT.c1
    have f1 := hT.f0 1
    go_wp2
    go_ret
    exact ⟨_, [], r1, true, rfl, SliceOf.nil_ _ _ _ _, fresh_nil _, hT.set1 true, grown_set hg _ _, by simp, .inr ⟨rfl, HN.out⟩⟩
   ·have HSN := Lib.hid (n3 (.inr hn0))
    have HGN := Lib.hid (Beg.snoc (ls := ls) (.inr HG.out) (n := n) (fun _ => by omega))
    have HSV := Lib.hid (spread_vals ls n)
    have HSN2 := Lib.hid (sumN_snoc ls n)
    have HFS := Lib.hid (flip_snoc ls n)
    have dn : ((n : Int) == 0) = false := by rw [beq_eq_false_iff_ne]; omega
    have q3 : IntKind.i64.wrap (n : Int) = (n : Int) := wrap_i64_nat _ (by omega)
    generalize hK : sumN ls = K at *
    generalize hy : flip true ls.length = y at *
    generalize (spreadG true ls).map Value.bool = xs at *
    clear n2 n3 HS HG HNE hK hy
    go_wp2_with fail
    refine H1.out.stepG hT hg ?_
    clear hT hg c1 f1
    intro w3 hT hg hq
    replace hO := own_aside hO hbw hq
    have hl0 : BoolsIn (w3.alloc (.cells #[.bool y] 4)) (.slice (some ⟨w3.heap.size, 0, none⟩) 1 1) [y] := lit_ones Value.bool w3 4 [y] (by show 1 ≤ 1000; decide)
    clear hq H1
    go_wp2_with fail
    refine (repeat_bools hl0 n (by omega)).mono ?_
    rintro e w4 ⟨v4, rfl, hO4, hq⟩
    replace hq := lit_below hq
    replace hT := hT.kept hq
    replace hO := hO.later hq
    replace hg := grown_trans hg (grown_below hq _)
    have hB4 : w.heap.size ≤ w4.heap.size := hg.size
    have hs4 := hO4.slice
    clear hl0 hq hO4
    go_wp2_with (at_builtin; refine wpList_append_src rfl (.tmp 42) (.tmp 47) 74 rfl 4 i0 (.bool false) 1 1 Tryz.underlying74 hi hz0 hz1 hz2 rfl (by decide) _ K xs rfl hO _ n _ rfl hs4 (one_rep _ _ rfl) (by unfold maxLen; omega) (by omega) hB4 ?_)
    intro v5 w5 hO5 hg5 _
    have hT5 := hT.appended hO hbw hg5
    have hgg := grown_appended hg hO hg5
    have hlen : lenB v5 = K + n := by obtain ⟨_, _, rfl⟩ := hO5.len; rfl
    clear hO hT hg hg5 hs4
    go_wp2
    go_roundw
    case rel => exact ⟨ls ++ [n], r1, b1, HSN.out, HGN.out, by rw [HSN2.out]; omega, by rw [HFS.out], by rw [HSN2.out, HSV.out]; exact hO5, hT5, hgg⟩
    case measure => rw [hlen]; simp [lenB]; omega
  ·have hK : sumN ls = M := by omega
   have HE := Lib.hid (HS.out.last HG.out (by omega) (by omega))
   have HL := Lib.hid (show sumN ls = (spreadG true ls).length from (spreadG_length true ls).symm)
   have HB := Lib.hid (bools_of hO HL.out)
   have HF := Lib.hid (fun k hk => (hO.lt k hk).1)
   clear HS HG hO
   go_wp2
   go_ret
   exact ⟨_, spreadG true ls, cur, bb, rfl, HB.out, HF.out, hT, hg, by rw [← HL.out]; omega, HE.out⟩
theorem gaps_take_calls (b : Nat) (s : ByteArray) (bad : Bool) (many : Int) (w : World) (hT : TapeIn 132 w b s bad) :
  Calls Tryz.prog 152 #[.pointer (some ⟨b, 0, none⟩), .int .i64 many] w (GapsEnd 132 w b s bad many) := by
 by_cases h : many < 0 ∨ 4096 < many
 ·exact gaps_take_over b s bad many h w hT
 ·obtain ⟨M, rfl⟩ : ∃ M : Nat, many = (M : Int) := ⟨many.toNat, by omega⟩
  exact gaps_take_in b s bad M (by omega) w hT
set_option maxHeartbeats 1000000 in
set_option maxRecDepth 100000 in
theorem gaps_read_callsS (b : Nat) (s : ByteArray) (bad : Bool) (many : Int) (w : World) (hT : TapeIn 132 w b s bad) :
  Calls Tryz.prog 135 #[.pointer (some ⟨b, 0, none⟩), .int .i64 many] w (GapsReadS 132 w b s bad many) := by
 have hc0 := hT.c0
 have hc1 := hT.c1
 have hbw := hT.lt
 have HK := Lib.hid (fun b' w hT => gaps_take_calls b' s bad many w hT)
 go_enter Tryz.func135, Tryz.ntmps135
 go_wp2_with fail
 refine (HK.out _ _ (box_tape w s bad _)).mono ?_
 rintro e w1 ⟨v, l, r, bad', rfl, hi, hfr, hA, hg, hll, hend⟩
 have hb1 := boxed_below hg
 have hT1 := hT.kept hb1
 have hfr' : Fresh (w.heap.size + 1) v := by simpa using hfr
 have hB1 := hb1.size
 have HF := Lib.hid hfr'
 have HI := Lib.hid hi
 have HTT := Lib.hid hT1
 have HBB := Lib.hid hb1
 have c0 := hT1.c0
 have c1 := hT1.c1
 have a0 := hA.c0
 have a1 := hA.c1
 have f0 := hT1.f0 0
 have f1 := hT1.f0 1
 obtain ⟨A, cap, rfl, _⟩ := one_at hi
 clear hT hc0 hc1 hg hfr hfr' hi
 rcases hend with ⟨rfl, rfl, hS⟩ | ⟨rfl, hN⟩
 ·have HS := Lib.hid hS
  clear hS
  go_wp2
  go_ret
  have hF2 := Fresh.mono HF.out (show w.heap.size ≤ w.heap.size + 1 by omega)
  refine .inl ⟨_, l, r.data.toList, rfl, rfl, HS.out, ?_, hF2, by rw [mkB_of]; exact (HTT.out.set0 _).set1 _, grown_set (grown_set (grown_below HBB.out _) _ _) _ _⟩
  exact SliceOf.fresh HI.out HF.out (grown_set (grown_set (grown_refl w1 (some b)) 0 (.string r)) 1 (.bool false)) (by omega)
 ·have HN := Lib.hid hN
  clear hN
  go_wp2
  go_ret
  exact .inr ⟨rfl, HTT.out.set1 _, grown_set (grown_below HBB.out _) _ _, HN.out⟩
theorem Tryz.infoJ9 : (Tryz.prog.info? 9).map (fun i => (i.zero, i.size, i.bytes)) = some (some (.string ⟨#[]⟩), 1, 16) := by kernel_rfl
def zeroBools (n : Nat) : List Value := List.replicate n (Value.bool false)
theorem isL_take (l : List ByteArray) (k : Nat) (h : k < l.length) : isL (l.take (k + 1)) = isL (l.take k) ++ [decide (l[k] ≠ ⟨#[]⟩)] := by
 unfold isL; rw [take_add l k h, List.map_append]; rfl
theorem fullL_take (l : List ByteArray) (k : Nat) (h : k < l.length) : (l[k] = ⟨#[]⟩ → fullL (l.take (k + 1)) = fullL (l.take k)) ∧ (l[k] ≠ ⟨#[]⟩ → fullL (l.take (k + 1)) = fullL (l.take k) ++ [l[k]]) := by
 unfold fullL
 rw [take_add l k h, List.filter_append]
 refine ⟨fun h => ?_, fun h => ?_⟩
 ·rw [List.filter_cons_of_neg (by simpa using h)]; simp
 ·rw [List.filter_cons_of_pos (by simpa using h)]; simp
theorem isL_get (l : List ByteArray) (k : Nat) (h : k < l.length) : ((isL l).map Value.bool)[k]? = some (.bool (decide (l[k] ≠ ⟨#[]⟩))) := by
 unfold isL; rw [List.getElem?_map, List.getElem?_map, List.getElem?_eq_getElem h]; rfl
theorem one_newS (w : World) (p : Addr) (v x : Value) (T : TypeId) : ∀ (j : Nat) (u : Value), [x][j]? = some u → ((w.setCell p v).alloc (.cells #[x] T)).cell? ((⟨w.heap.size, 0, none⟩ : Addr).add j) = some u := by
 have h := one_new (w.setCell p v) x T
 rwa [show (w.setCell p v).heap.size = w.heap.size by simp] at h
def SplitEnd (w : World) (l : List ByteArray) (e : Ending) (w' : World) : Prop :=
 ∃ v1 v2, e = .returned (.tuple #[v1, v2]) ∧ BoolsIn w' v1 (isL l) ∧ StrsIn w' v2 (fullL l) ∧ Below w.heap.size w w'
set_option maxHeartbeats 1000000 in
set_option maxRecDepth 100000 in
theorem split_calls {w : World} {v : Value} {l : List ByteArray} (h : StrsIn w v l) (hl : l.length ≤ 1000000) : Calls Tryz.prog 76 #[v] w (SplitEnd w l) := by
 obtain ⟨i0, hi, hz0, hz1, hz2⟩ := info_parts Tryz.infoS4
 obtain ⟨j0, hj, jz0, jz1, jz2⟩ := info_parts Tryz.infoJ9
 obtain ⟨hb, hB⟩ := start w
 obtain ⟨A, cap, rfl, hat⟩ := one_at h
 have HAT := Lib.hid hat
 clear h hat
 go_enter Tryz.func76, Tryz.ntmps76
 go_wp2_with (at_make; refine wpList_make_full _ rfl _ _ 74 rfl w.heap.size 4 i0 (.bool false) 1 Tryz.underlying74 hi hz0 hz1 .i64 .i64 _ _ l.length rfl rfl rfl rfl (by rw [hz2]; omega) (by unfold maxLen; omega) hB ?_)
 intro w1 hrow hg1
 rw [toList_madeCells_one] at hrow
 have hO : Own w1 w.heap.size 1 (.slice (some ⟨w.heap.size, 0, none⟩) l.length l.length) l.length (zeroBools l.length) := Own.of_row (B := w.heap.size) hrow (by unfold maxLen; omega) (Nat.le_refl _)
 have hb1 : Below w.heap.size w w1 := hb.grown hg1 hB (fun k hk => by cases hk)
 have hs1 : w.heap.size + 1 ≤ w1.heap.size := by have := hO.lt w.heap.size rfl; omega
 clear hrow hg1 hb hB
 have hX : ((isL l).map Value.bool).length = l.length := by rw [List.length_map, isL_length]
 have hZ : (zeroBools l.length).length = l.length := List.length_replicate
 have HX := Lib.hid hX
 have HZ := Lib.hid hZ
 clear hX hZ
 go_wp2
 go_loopw [5, 13] (fun v i wr => ∃ k : Nat, k ≤ l.length ∧ i = .int .i64 k ∧ Own wr w.heap.size 1 (.slice (some ⟨w.heap.size, 0, none⟩) l.length l.length) l.length (((isL l).map Value.bool).take k ++ (zeroBools l.length).drop k) ∧ Own wr (w.heap.size + 1) 1 v (fullL (l.take k)).length ((fullL (l.take k)).map Value.string) ∧ Below w.heap.size w wr ∧ w.heap.size + 1 ≤ wr.heap.size) (fun _ i _ => l.length - (intOf i).toNat)
 case atStart => exact ⟨0, Nat.zero_le _, rfl, by simpa using hO, Own.nil_ _ _ _, hb1, hs1⟩
 case round =>
  clear hO hb1 hs1
  obtain ⟨k, hk, rfl, hO, hP, hb, hs⟩ := hrel
  by_cases hlt : k < l.length
  ·obtain ⟨b, off, rfl, hbl, hc⟩ := HAT.out k hlt
   have hx := (hb.cell (p := ⟨b, off + k, none⟩) hbl).trans (hc k hlt)
   have HF := Lib.hid (fullL_take l k hlt)
   have HG := Lib.hid (isL_get l k hlt)
   have hfl := fullL_length (l.take k)
   rw [List.length_take] at hfl
   obtain ⟨hs1, hs2⟩ := hO.fillCell HX.out HZ.out hlt
   have hz9 : (zeroBools l.length)[k]? = some (Value.bool false) := by unfold zeroBools; rw [List.getElem?_replicate, if_pos hlt]
   have hz8 : (zeroBools l.length)[k]'(by rw [HZ.out]; exact hlt) = Value.bool false := by unfold zeroBools; rw [List.getElem_replicate]
   rw [hz8] at hs1
   have HO := Lib.hid hO
   have HP := Lib.hid hP
   obtain ⟨_, _, rfl⟩ := hP.len
   clear hc hO hP hz8
   generalize l[k] = c at *
   rcases str_ne_cases c ⟨#[]⟩ with ⟨he, g1, g2⟩ | ⟨he, g1, g2⟩
   ·rw [empty_toList] at g1 g2
    have g3 : c.toList.isEmpty = true := by rw [he, empty_toList]; rfl
    have HSK := Lib.hid (fill_skip ((isL l).map Value.bool) (zeroBools l.length) k (by rw [HX.out]; exact hlt) (by rw [HX.out, HZ.out]) (HG.out.trans (by rw [hz9, he]; rfl)))
    have HFF := Lib.hid (HF.out.1 he)
    clear hz9 HG hs1 hs2
    go_wp2
    go_roundw
    case rel => exact ⟨k + 1, by omega, by go_num, by rw [← HSK.out]; exact HO.out, by rw [HFF.out]; exact HP.out, hb, hs⟩
    case measure => simp [intOf]; omega
   ·rw [empty_toList] at g1 g2
    have g3 : c.toList.isEmpty = false := by simpa using g2
    have HFF := Lib.hid (HF.out.2 he)
    have HO' := Lib.hid (HO.out.filled HX.out HZ.out hlt (u := .bool true) (HG.out.trans (by rw [decide_eq_true he])))
    have hbb := hb.setCell (Nat.le_refl w.heap.size) (p := ⟨w.heap.size, k, none⟩) (.bool true)
    have HP' := Lib.hid (own_aside HP.out (Nat.lt_succ_self w.heap.size) (grown_set (grown_refl wr (some w.heap.size)) k (.bool true)))
    have hsz : w.heap.size + 1 ≤ (wr.setCell ⟨w.heap.size, k, none⟩ (.bool true)).heap.size := by simpa using hs
    clear hz9 HG HO HP
    go_wp2_with (at_builtin; refine wpList_append_Own rfl _ _ 28 rfl 9 j0 (.string ⟨#[]⟩) 1 16 Tryz.underlying28 hj jz0 jz1 jz2 rfl (by decide) _ _ _ rfl (Own.alloc HP'.out _) ⟨wr.heap.size, 0, none⟩ 1 1 [_] rfl rfl (one_newS _ _ _ _ _) (one_str _) ?c1 ?c2 (Nat.le_trans hsz (by simp)) ?_)
    case c1 => unfold maxLen; omega
    case c2 => omega
    intro v4 w4 hO4 hg4
    have hP1 := Own.alloc HP'.out (.cells #[Value.string c] 9)
    have hlt4 := fun k hk => (hP1.lt k hk).1
    have HO5 := Lib.hid ((Own.alloc HO'.out (.cells #[Value.string c] 9)).other hg4 (fun k hk e => by
     simp only [Value.ownBlock, Option.some.injEq] at hk
     have := hlt4 k e.symm; omega))
    have hb4 := (hbb.alloc (Nat.le_trans (Nat.le_succ _) hsz) (.cells #[Value.string c] 9)).grown hg4 (by have := hsz; simp at this ⊢; omega) (fun k hk => by have := hlt4 k hk; omega)
    have hs4 : w.heap.size + 1 ≤ w4.heap.size := Nat.le_trans hsz (Nat.le_trans (by simp) hg4.size)
    have HL4 := Lib.hid (show (fullL (l.take k) ++ [c]).length = (fullL (l.take k)).length + 1 by rw [List.length_append]; rfl)
    have HM4 := Lib.hid (show (fullL (l.take k) ++ [c]).map Value.string = (fullL (l.take k)).map Value.string ++ [Value.string c] by rw [List.map_append]; rfl)
    have HP4 := Lib.hid hO4
    clear hO4 hg4 hP1 hlt4 hbb hb hs hsz HP' HO'
    go_wp2
    go_roundw
    case rel => exact ⟨k + 1, by omega, by go_num, HO5.out, by rw [HFF.out, HL4.out, HM4.out]; exact HP4.out, hb4, hs4⟩
    case measure => simp [intOf]; omega
  ·obtain rfl : k = l.length := by omega
   have h2 := (hO.full HX.out HZ.out).slice
   rw [List.take_length] at hP
   have H3 := Lib.hid hP.slice
   obtain ⟨_, _, rfl⟩ := hP.len
   clear hO hP
   go_wp2
   go_ret2
   refine ⟨_, _, rfl, ?_, H3.out, hb⟩
   unfold BoolsIn
   rw [isL_length]
   exact h2
set_option maxHeartbeats 1000000 in
set_option maxRecDepth 100000 in
theorem ref_split_calls {w : World} {v : Value} {l : List ByteArray} (h : StrsIn w v l) (hl : l.length ≤ 1000000) : Calls Tryz.prog 79 #[v] w (SplitEnd w l) := by
 obtain ⟨i0, hi, hz0, hz1, hz2⟩ := info_parts Tryz.infoS4
 obtain ⟨j0, hj, jz0, jz1, jz2⟩ := info_parts Tryz.infoJ9
 obtain ⟨hb, hB⟩ := start w
 obtain ⟨A, cap, rfl, hat⟩ := one_at h
 have HAT := Lib.hid hat
 clear h hat
 go_enter Tryz.func79, Tryz.ntmps79
 go_wp2
 go_loopw [4, 5, 6] (fun x y i wr => ∃ (k : Nat), k ≤ l.length ∧ i = .int .i64 k ∧ Own wr w.heap.size 1 x k ((isL (l.take k)).map Value.bool) ∧ Own wr w.heap.size 1 y (fullL (l.take k)).length ((fullL (l.take k)).map Value.string) ∧ Aside x y ∧ Below w.heap.size w wr) (fun _ _ i _ => l.length - (intOf i).toNat)
 case atStart => exact ⟨0, by omega, rfl, Own.nil_ _ _ _, Own.nil_ _ _ _, fun k hk => by simp [Value.ownBlock] at hk, hb⟩
 case round =>
  clear hb hB
  obtain ⟨k, hk, rfl, hO, hP, hap, hb⟩ := hrel
  have hB := hb.size
  by_cases hlt : k < l.length
  ·obtain ⟨b, off, rfl, hbl, hc⟩ := HAT.out k hlt
   have hxw := hc k hlt
   have hx := (hb.cell (p := ⟨b, off + k, none⟩) hbl).trans hxw
   have HXW := Lib.hid hxw
   have HF := Lib.hid (fullL_take l k hlt)
   have HIS := Lib.hid (show (isL (l.take (k + 1))).map Value.bool = (isL (l.take k)).map Value.bool ++ [Value.bool (decide (l[k] ≠ ⟨#[]⟩))] by rw [isL_take l k hlt, List.map_append]; rfl)
   have hfl := fullL_length (l.take k)
   rw [List.length_take] at hfl
   obtain ⟨A1, p1, rfl⟩ := hO.len
   obtain ⟨A2, p2, rfl⟩ := hP.len
   generalize (isL (l.take k)).map Value.bool = xs at *
   clear hc hxw
   generalize l[k] = c at *
   obtain ⟨g, hg1, hg2⟩ : ∃ g, c.toList.isEmpty = !g ∧ decide (c ≠ ⟨#[]⟩) = g := by
    refine ⟨!c.toList.isEmpty, by simp, ?_⟩
    rcases str_ne_cases c ⟨#[]⟩ with ⟨he, _, g2⟩ | ⟨he, _, g2⟩
    ·rw [decide_eq_false (by simpa using he), he, empty_toList]; rfl
    ·rw [empty_toList] at g2; rw [decide_eq_true he]; simpa using g2.symm
   rw [hg2] at HIS
   have hce : (g = false → c = ⟨#[]⟩) ∧ (g = true → c ≠ ⟨#[]⟩) := by subst hg2; simp
   have HCE := Lib.hid hce
   clear hg2 hce
   cases g with
   | false =>
    have HFF := Lib.hid (HF.out.1 (HCE.out.1 rfl))
    go_wp2_with (at_builtin; refine wpList_append_OwnA rfl _ _ 74 rfl 4 i0 (.bool false) 1 1 Tryz.underlying74 hi hz0 hz1 hz2 rfl (by decide) _ _ _ rfl (Own.alloc hO _) ⟨wr.heap.size, 0, none⟩ 1 1 [_] rfl rfl (one_new _ _ _) (one_bool _) ?c1 ?c2 (below_alloc hb hB _).2 ?_)
    case c1 => unfold maxLen; omega
    case c2 => omega
    intro v3 w3 hO3 hg3 ha3
    have hb3 := (Own.alloc hO (.cells #[Value.bool false] 4)).grown (below_alloc hb hB _).1 (below_alloc hb hB _).2 hg3
    obtain ⟨hP3, hap3⟩ := own_beside (Own.alloc hP (.cells #[Value.bool false] 4)) hap hg3 (fun k hk => (ha3 k hk).imp id fun h => by simpa using h)
    have hx3 := (hb3.cell (p := ⟨b, off + k, none⟩) hbl).trans HXW.out
    have HO3 := Lib.hid hO3
    have HP3 := Lib.hid hP3
    have HAP3 := Lib.hid hap3
    clear hO hP hb hB hap hg3 ha3 hx hO3 hP3 hap3
    go_wp2
    go_roundw
    case rel => exact ⟨k + 1, by omega, by go_num, by rw [HIS.out]; exact HO3.out, by rw [HFF.out]; exact HP3.out, HAP3.out, hb3⟩
    case measure => simp [intOf]; omega
   | true =>
    have HFF := Lib.hid (HF.out.2 (HCE.out.2 rfl))
    go_wp2_with (at_builtin; refine wpList_append_OwnA rfl _ _ 74 rfl 4 i0 (.bool false) 1 1 Tryz.underlying74 hi hz0 hz1 hz2 rfl (by decide) _ _ _ rfl (Own.alloc hO _) ⟨wr.heap.size, 0, none⟩ 1 1 [_] rfl rfl (one_new _ _ _) (one_bool _) ?c1 ?c2 (below_alloc hb hB _).2 ?_)
    case c1 => unfold maxLen; omega
    case c2 => omega
    intro v3 w3 hO3 hg3 ha3
    have hb3 := (Own.alloc hO (.cells #[Value.bool true] 4)).grown (below_alloc hb hB _).1 (below_alloc hb hB _).2 hg3
    have hB3 := hb3.size
    obtain ⟨hP3, hap3⟩ := own_beside (Own.alloc hP (.cells #[Value.bool true] 4)) hap hg3 (fun k hk => (ha3 k hk).imp id fun h => by simpa using h)
    have hx3 := (hb3.cell (p := ⟨b, off + k, none⟩) hbl).trans HXW.out
    obtain ⟨A3, p3, rfl⟩ := hO3.len
    have HO3 := Lib.hid hO3
    have HAP3 := Lib.hid hap3
    clear hO hP hb hB hap hg3 ha3 hx hO3 hap3
    go_wp2_with (at_builtin; refine wpList_append_OwnA rfl _ _ 28 rfl 9 j0 (.string ⟨#[]⟩) 1 16 Tryz.underlying28 hj jz0 jz1 jz2 rfl (by decide) _ _ _ rfl (Own.alloc hP3 _) ⟨w3.heap.size, 0, none⟩ 1 1 [_] rfl rfl (one_new _ _ _) (one_str _) ?c3 ?c4 (below_alloc hb3 hB3 _).2 ?_)
    case c3 => unfold maxLen; omega
    case c4 => omega
    intro v5 w5 hP5 hg5 ha5
    have hb5 := (Own.alloc hP3 (.cells #[Value.string c] 9)).grown (below_alloc hb3 hB3 _).1 (below_alloc hb3 hB3 _).2 hg5
    obtain ⟨hO5, hap5⟩ := own_beside (Own.alloc HO3.out (.cells #[Value.string c] 9)) HAP3.out.sym hg5 (fun k hk => (ha5 k hk).imp id fun h => by simpa using h)
    have HO5 := Lib.hid hO5
    have HP5 := Lib.hid hP5
    have HAP5 := Lib.hid hap5.sym
    have HL4 := Lib.hid (show (fullL (l.take k) ++ [c]).length = (fullL (l.take k)).length + 1 by rw [List.length_append]; rfl)
    have HM4 := Lib.hid (show (fullL (l.take k) ++ [c]).map Value.string = (fullL (l.take k)).map Value.string ++ [Value.string c] by rw [List.map_append]; rfl)
    clear hP3 hb3 hB3 hx3 hg5 ha5 hO5 hP5 hap5 HO3 HAP3
    go_wp2
    go_roundw
    case rel => exact ⟨k + 1, by omega, by go_num, by rw [HIS.out]; exact HO5.out, by rw [HFF.out, HL4.out, HM4.out]; exact HP5.out, HAP5.out, hb5⟩
    case measure => simp [intOf]; omega
  ·obtain rfl : k = l.length := by omega
   rw [List.take_length] at hO hP
   have H3 := Lib.hid (strs_of hP rfl)
   have H2 := Lib.hid (bools_of hO (isL_length l).symm)
   obtain ⟨_, _, rfl⟩ := hO.len
   obtain ⟨_, _, rfl⟩ := hP.len
   clear hO hP hap
   go_wp2
   go_ret2
   exact ⟨_, _, rfl, H2.out, H3.out, hb⟩
def zeroTexts (n : Nat) : List Value := List.replicate n (Value.string ⟨#[]⟩)
theorem joinL_length (is : List Bool) (l : List ByteArray) : (joinL is l).length ≤ is.length := by
 unfold joinL
 split
 ·rw [joinF_length]; exact Nat.le_refl _
 ·simp
def JoinEnd (w : World) (is : List Bool) (l : List ByteArray) (e : Ending) (w' : World) : Prop :=
 ∃ v, e = .returned (.tuple #[v, .bool (joinOk is l)]) ∧ StrsIn w' v (joinL is l) ∧ Below w.heap.size w w'
theorem join_no {w w' : World} {is : List Bool} {l : List ByteArray} (h : cnt is ≠ l.length) (hb : Below w.heap.size w w') : JoinEnd w is l (.returned (.tuple #[.slice none 0 0, .bool false])) w' := by
 have e1 : joinOk is l = false := by unfold joinOk; rw [decide_eq_false h]
 have e2 : joinL is l = [] := by unfold joinL; rw [if_neg h]
 exact ⟨_, by rw [e1], by rw [e2]; exact SliceOf.nil_ _ _ _ _, hb⟩
theorem join_yes {w w' : World} {is : List Bool} {l : List ByteArray} {v : Value} (h : cnt is = l.length) (hv : StrsIn w' v (joinF is l)) (hb : Below w.heap.size w w') : JoinEnd w is l (.returned (.tuple #[v, .bool true])) w' := by
 have e1 : joinOk is l = true := by unfold joinOk; rw [decide_eq_true h]
 have e2 : joinL is l = joinF is l := by unfold joinL; rw [if_pos h]
 exact ⟨_, by rw [e1], by rw [e2]; exact hv, hb⟩
set_option maxHeartbeats 1000000 in
set_option maxRecDepth 100000 in
theorem join_calls {w : World} {vi v : Value} {is : List Bool} {l : List ByteArray} (hi : BoolsIn w vi is) (h : StrsIn w v l) (hl : l.length ≤ 1000000) (hn : is.length ≤ 1000000) :
  Calls Tryz.prog 138 #[vi, v] w (JoinEnd w is l) := by
 obtain ⟨j0, hj, jz0, jz1, jz2⟩ := info_parts Tryz.infoJ9
 obtain ⟨hb, hB⟩ := start w
 obtain ⟨A1, cap1, rfl, hat1⟩ := one_at hi
 obtain ⟨A2, cap2, rfl, hat2⟩ := one_at h
 have HAT1 := Lib.hid hat1
 have HAT2 := Lib.hid hat2
 clear h hi hat1 hat2
 go_enter Tryz.func138, Tryz.ntmps138
 go_wp2_with (at_make; refine wpList_make_full _ rfl _ _ 28 rfl w.heap.size 9 j0 (.string ⟨#[]⟩) 1 Tryz.underlying28 hj jz0 jz1 .i64 .i64 _ _ is.length rfl rfl rfl rfl (by rw [jz2]; omega) (by unfold maxLen; omega) hB ?_)
 intro w1 hrow hg1
 rw [toList_madeCells_one] at hrow
 have hO : Own w1 w.heap.size 1 (.slice (some ⟨w.heap.size, 0, none⟩) is.length is.length) is.length (zeroTexts is.length) := Own.of_row (B := w.heap.size) hrow (by unfold maxLen; omega) (Nat.le_refl _)
 have hb1 : Below w.heap.size w w1 := hb.grown hg1 hB (fun k hk => by cases hk)
 clear hrow hg1 hb hB
 have HX := Lib.hid (show ((joinF is l).map Value.string).length = is.length by rw [List.length_map, joinF_length])
 have HZ := Lib.hid (show (zeroTexts is.length).length = is.length from List.length_replicate)
 go_wp2
 go_loopw [7, 15] (fun u i wr => ∃ k : Nat, k ≤ is.length ∧ i = .int .i64 k ∧ u = .int .i64 (cnt (is.take k)) ∧ cnt (is.take k) ≤ l.length ∧ Own wr w.heap.size 1 (.slice (some ⟨w.heap.size, 0, none⟩) is.length is.length) is.length (((joinF is l).map Value.string).take k ++ (zeroTexts is.length).drop k) ∧ Below w.heap.size w wr) (fun _ i _ => is.length - (intOf i).toNat)
 case atStart => exact ⟨0, Nat.zero_le _, rfl, rfl, Nat.zero_le _, by simpa using hO, hb1⟩
 case round =>
  clear hO hb1
  obtain ⟨k, hk, rfl, rfl, hu, hO, hb⟩ := hrel
  by_cases hlt : k < is.length
  ·obtain ⟨b, off, rfl, hbl, hc⟩ := HAT1.out k hlt
   have hx := (hb.cell (p := ⟨b, off + k, none⟩) hbl).trans (hc k hlt)
   have HC := Lib.hid (cnt_take is k hlt)
   have HCL := Lib.hid (cnt_take_le is (k + 1))
   have HGET := Lib.hid (List.getElem?_eq_getElem hlt)
   have HJN := Lib.hid (joinF_no is l k)
   have HJY := Lib.hid (joinF_yes is l k)
   obtain ⟨hs1, hs2⟩ := hO.fillCell HX.out HZ.out hlt
   have hz9 : (zeroTexts is.length)[k]? = some (Value.string ⟨#[]⟩) := by unfold zeroTexts; rw [List.getElem?_replicate, if_pos hlt]
   have hz8 : (zeroTexts is.length)[k]'(by rw [HZ.out]; exact hlt) = Value.string ⟨#[]⟩ := by unfold zeroTexts; rw [List.getElem_replicate]
   rw [hz8] at hs1
   have HO := Lib.hid hO
   clear hc hO hz8
   generalize is[k] = y at *
   cases y with
   | false =>
    have HC0 := Lib.hid (show cnt (is.take (k + 1)) = cnt (is.take k) from HC.out)
    have HSK := Lib.hid (fill_skip ((joinF is l).map Value.string) (zeroTexts is.length) k (by rw [HX.out]; exact hlt) (by rw [HX.out, HZ.out]) (by rw [hz9, List.getElem?_map, HJN.out HGET.out]; rfl))
    clear hz9 hs1 hs2
    go_wp2
    go_roundw
    case rel => exact ⟨k + 1, by omega, by go_num, by rw [HC0.out], by rw [HC0.out]; exact hu, by rw [← HSK.out]; exact HO.out, hb⟩
    case measure => simp [intOf]; omega
   | true =>
    have HC1 := Lib.hid (show cnt (is.take (k + 1)) = cnt (is.take k) + 1 from HC.out)
    generalize hq : cnt (is.take k) = q at *
    by_cases hql : q < l.length
    ·obtain ⟨b2, off2, rfl, hbl2, hc2⟩ := HAT2.out q hql
     have hx2 := (hb.cell (p := ⟨b2, off2 + q, none⟩) hbl2).trans (hc2 q hql)
     have HY := Lib.hid (HJY.out HGET.out l[q] (by rw [List.getElem?_eq_getElem hql]))
     have HO' := Lib.hid (HO.out.filled HX.out HZ.out hlt (u := .string l[q]) (by rw [List.getElem?_map, HY.out]; rfl))
     have hbb := hb.setCell (Nat.le_refl w.heap.size) (p := ⟨w.heap.size, k, none⟩) (.string l[q])
     have d1 : ((q : Int) == (l.length : Int)) = false := by rw [beq_eq_false_iff_ne]; omega
     clear hc2 hz9 HJN HJY HY HO
     generalize l[q] = c at *
     go_wp2
     go_roundw
     case rel => exact ⟨k + 1, by omega, by go_num, by rw [HC1.out]; go_num, by rw [HC1.out]; omega, HO'.out, hbb⟩
     case measure => simp [intOf]; omega
    ·have d1 : ((q : Int) == (l.length : Int)) = true := by rw [beq_iff_eq]; omega
     have HNE := Lib.hid (show cnt is ≠ l.length by have h1 := HC1.out; have h2 := HCL.out; omega)
     clear hz9 HJN HJY HO
     go_wp2
     go_ret2
     exact join_no HNE.out hb
  ·obtain rfl : k = is.length := by omega
   have HT := Lib.hid (show cnt (is.take is.length) = cnt is by rw [List.take_length])
   rw [List.take_length] at hu ⊢
   generalize hq : cnt is = q at *
   by_cases hql : q < l.length
   ·have HNE := Lib.hid (show cnt is ≠ l.length by omega)
    clear hq HT hO
    go_wp2
    go_ret2
    exact join_no HNE.out hb
   ·have HE := Lib.hid (show cnt is = l.length by omega)
    have H2 := Lib.hid (strs_of (hO.full HX.out HZ.out) (joinF_length is l).symm)
    clear hq HT hO
    go_wp2
    go_ret2
    exact join_yes HE.out H2.out hb
end Go.Proofs.YtkgjbldlegcajaaGreat
