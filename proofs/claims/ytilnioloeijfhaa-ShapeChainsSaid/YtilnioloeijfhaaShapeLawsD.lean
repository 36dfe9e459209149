/- The law ShapeChains. -/
import Derived.Test.YtilnioloeijfhaaShapeLaws
import Derived.Test.YtilnioloeijfhaaOpenU8s
namespace Go.Proofs.Ytilnioloeijfhaa
open Go Go.RowKit

def natI (l : List Nat) : List Int := l.map fun (n : Nat) => (n : Int)
def intsV (l : List Int) : List Value := l.map (Value.int .i64)
/-- Columns out of bytes. -/
def modL (n : Nat) (l : List Nat) : List Nat := l.map fun x => x % n
/-- Columns of columns. -/
def bothL (f s : List Nat) : List Nat := s.map fun k => f.getD k 0
theorem pick_ok {row : List ByteArray} {l : List Nat} (h : ∀ c ∈ l, c < row.length) : pickOk row (natI l) = true := pickOk_of fun c hc => by
  obtain ⟨n, hn, rfl⟩ := List.mem_map.1 hc
  have := h n hn; omega
theorem pickF_nat (row : List ByteArray) (l : List Nat) : pickF row (natI l) = l.map fun c => row.getD c ⟨#[]⟩ := by
  unfold pickF natI
  rw [List.map_map]; rfl
theorem pick_chain (row : List ByteArray) (f s : List Nat) (hs : ∀ k ∈ s, k < f.length) : pickF (pickF row (natI f)) (natI s) = pickF row (natI (bothL f s)) := by
  rw [pickF_nat, pickF_nat, pickF_nat]
  unfold bothL
  rw [List.map_map]
  refine List.map_congr_left fun k hk => ?_
  have := hs k hk
  simp [List.getD_eq_getElem?_getD, this]
theorem pick_all (row : List ByteArray) : pickF row (natI (List.range row.length)) = row := by
  rw [pickF_nat]
  refine List.ext_getElem (by simp) fun i h1 h2 => ?_
  simp [List.getD_eq_getElem?_getD, h2]
theorem modL_lt {n : Nat} (h : 0 < n) (l : List Nat) : ∀ c ∈ modL n l, c < n := by
  intro c hc
  obtain ⟨x, _, rfl⟩ := List.mem_map.1 hc
  exact Nat.mod_lt _ h
theorem bothL_lt {n : Nat} {f s : List Nat} (hf : ∀ c ∈ f, c < n) (hs : ∀ k ∈ s, k < f.length) : ∀ c ∈ bothL f s, c < n := by
  intro c hc
  obtain ⟨k, hk, rfl⟩ := List.mem_map.1 hc
  have := hs k hk
  rw [List.getD_eq_getElem?_getD, List.getElem?_eq_getElem this]
  exact hf _ (List.getElem_mem this)
theorem modL_step (n : Nat) (l : List Nat) (k : Nat) (h : k < l.length) : intsV (natI (modL n (l.take (k + 1)))) = intsV (natI (modL n (l.take k))) ++ [Value.int .i64 ((l[k] % n : Nat) : Int)] := by
  unfold intsV natI modL
  rw [take_add l k h]
  simp only [List.map_append, List.map_cons, List.map_nil]
theorem bothL_step (f : List Nat) (n : Nat) (l : List Nat) (k : Nat) (h : k < l.length) : intsV (natI (bothL f (modL n (l.take (k + 1))))) = intsV (natI (bothL f (modL n (l.take k)))) ++ [Value.int .i64 ((f.getD (l[k] % n) 0 : Nat) : Int)] := by
  unfold intsV natI bothL modL
  rw [take_add l k h]
  simp only [List.map_append, List.map_cons, List.map_nil]
theorem range_step (k : Nat) : intsV (natI (List.range (k + 1))) = intsV (natI (List.range k)) ++ [Value.int .i64 (k : Int)] := by
  unfold intsV natI
  rw [List.range_succ]
  simp only [List.map_append, List.map_cons, List.map_nil]
theorem modL_length (n : Nat) (l : List Nat) : (modL n l).length = l.length := List.length_map _
theorem bothL_length (f s : List Nat) : (bothL f s).length = s.length := List.length_map _
theorem natI_length (l : List Nat) : (natI l).length = l.length := List.length_map _
theorem ints_own {w : World} {B n : Nat} {v : Value} {l : List Nat} (h : Own w B 1 v n (intsV (natI l))) (hn : n = l.length) : IntsIn w v (natI l) := by
  have := h.slice
  unfold IntsIn
  rw [natI_length, ← hn]
  exact this

theorem ints_cells {w : World} {A : Option Addr} {n p : Nat} {l : List Nat} (h : IntsIn w (.slice A n p) (natI l)) : ∀ k, k < l.length → ∃ b off, A = some ⟨b, off, none⟩ ∧ b < w.heap.size ∧ w.cell? ⟨b, off + k, none⟩ = some (.int .i64 ((l.getD k 0 : Nat) : Int)) := by
  intro k hk
  obtain ⟨A', c', e, hat⟩ := one_at h
  cases e
  obtain ⟨b, off, e1, hb, hc⟩ := hat k (by rw [natI_length]; exact hk)
  refine ⟨b, off, e1, hb, (hc k (by rw [natI_length]; exact hk)).trans ?_⟩
  unfold natI
  rw [List.getElem_map, List.getD_eq_getElem?_getD, List.getElem?_eq_getElem hk]; rfl
theorem Try.infoC3 : (Try.prog.info? 3).map (fun i => (i.zero, i.size, i.bytes)) = some (some (.int .i64 0), 1, 8) := by kernel_rfl

set_option maxHeartbeats 4000000 in
set_option maxRecDepth 100000 in
theorem shapeChains_short {w : World} {vr va vb : Value} {row : List ByteArray} {a b : List Nat} (hr : StrsIn w vr row) (ha : U8sIn w va a) (hb' : U8sIn w vb b) (ra : ∀ x ∈ a, x < 256) (rb : ∀ x ∈ b, x < 256)
    (sr : smallL row = true) (h0 : 0 < row.length) (la : a.length ≤ 10) (lb : b.length ≤ 10) (la0 : 0 < a.length) :
    GivesAt Try.prog 5 #[vr, va, vb] w (.bool true) := by
  obtain ⟨i0, hi, hz0, hz1, hz2⟩ := info_parts Try.infoC3
  obtain ⟨hb, hB⟩ := start w
  have hsr := small_calls hr
  rw [sr] at hsr
  have lr := (smallL_of sr).1
  have HR := Lib.hid hr
  obtain ⟨A1, p1, rfl, _⟩ := one_at hr
  obtain ⟨A2, p2, rfl, hat2⟩ := one_at ha
  obtain ⟨A3, p3, rfl, hat3⟩ := one_at hb'
  have HAT2 := Lib.hid hat2
  have HAT3 := Lib.hid hat3
  have HRA := Lib.hid ra
  have HRB := Lib.hid rb
  have d1 : ((row.length : Int) == 0) = false := by rw [beq_eq_false_iff_ne]; omega
  have d2 : decide (10 < (a.length : Int)) = false := by rw [decide_eq_false_iff_not]; omega
  have d3 : decide (10 < (b.length : Int)) = false := by rw [decide_eq_false_iff_not]; omega
  have d4 : ((a.length : Int) == 0) = false := by rw [beq_eq_false_iff_ne]; omega
  clear sr hr ha hb' hat2 hat3 ra rb
  unfold GivesAt
  go_enter Try.func5, Try.ntmps5
  go_wp2_with fail
  refine hsr.step ?_
  clear hsr
  go_wp2
  go_loopw [7, 11] (fun x i wr => ∃ k : Nat, k ≤ a.length ∧ i = .int .i64 k ∧ Own wr w.heap.size 1 x k (intsV (natI (modL row.length (a.take k)))) ∧ Below w.heap.size w wr) (fun _ i _ => a.length - (intOf i).toNat)
  case atStart => exact ⟨0, Nat.zero_le _, rfl, Own.nil_ _ _ _, hb⟩
  case round =>
    clear hb hB
    obtain ⟨k, hk, rfl, hO, hb⟩ := hrel
    have hB := hb.size
    by_cases hlt : k < a.length
    · obtain ⟨b1, o1, rfl, hl1, hc1⟩ := HAT2.out k hlt
      have hx : wr.cell? ⟨b1, o1 + k, none⟩ = some (.int .u8 ((a[k] : Nat) : Int)) := (hb.cell (p := ⟨b1, o1 + k, none⟩) hl1).trans (hc1 k hlt)
      have HS := Lib.hid (modL_step row.length a k hlt)
      have hq := HRA.out _ (List.getElem_mem hlt)
      clear hc1
      generalize a[k] = q at *
      have HC := Lib.hid (Int.natCast_emod q row.length)
      generalize intsV (natI (modL row.length (a.take k))) = xs at *
      obtain ⟨A9, p9, rfl⟩ := hO.len
      go_wp2_with (at_builtin; refine wpList_append_Own rfl _ _ 23 rfl 3 i0 (.int .i64 0) 1 8 Try.underlying23 hi hz0 hz1 hz2 rfl (by decide) _ _ _ rfl (Own.alloc hO _) ⟨wr.heap.size, 0, none⟩ 1 1 [_] rfl rfl (one_new _ _ _) (one_int _ _) ?c1 ?c2 (below_alloc hb hB _).2 ?_)
      case c1 => unfold maxLen; omega
      case c2 => omega
      intro v3 w3 hO3 hg3
      have hb3 := (Own.alloc hO (.cells #[Value.int .i64 ((q : Int) % (row.length : Int))] 3)).grown (below_alloc hb hB _).1 (below_alloc hb hB _).2 hg3
      have HX := Lib.hid hO3
      clear hO hb hB hg3 hO3
      go_wp2
      go_roundw
      case rel => exact ⟨k + 1, by omega, by go_num, by rw [HS.out, HC.out]; exact HX.out, hb3⟩
      case measure => simp [intOf]; omega
    · obtain rfl : k = a.length := by omega
      rw [List.take_length] at hO
      have HF := Lib.hid (ints_own hO (modL_length _ _).symm)
      have hfl : (modL row.length a).length = a.length := modL_length _ _
      have HFLT := Lib.hid (modL_lt h0 a)
      obtain ⟨w1, hw1⟩ : ∃ w1, w1 = wr := ⟨_, rfl⟩
      subst hw1
      obtain ⟨A7, p7, rfl⟩ := hO.len
      generalize modL row.length a = f at *
      have HFL := Lib.hid hfl
      have HFC := Lib.hid (ints_cells HF.out)
      have HB0 := Lib.hid hb
      obtain ⟨hb, hB⟩ := start w1
      clear hO hfl hlt
      go_wp2
      go_loopw [8, 9, 12] (fun x y i wr => ∃ k : Nat, k ≤ b.length ∧ i = .int .i64 k ∧ Own wr w1.heap.size 1 x k (intsV (natI (modL a.length (b.take k)))) ∧ Own wr w1.heap.size 1 y k (intsV (natI (bothL f (modL a.length (b.take k))))) ∧ Aside x y ∧ Below w1.heap.size w1 wr) (fun _ _ i _ => b.length - (intOf i).toNat)
      case atStart => exact ⟨0, Nat.zero_le _, rfl, Own.nil_ _ _ _, Own.nil_ _ _ _, fun k hk => by simp [Value.ownBlock] at hk, hb⟩
      case round =>
        clear hb hB hk
        obtain ⟨k, hk, rfl, hO, hP, hap, hb⟩ := hrel
        have hB := hb.size
        by_cases hlt : k < b.length
        · obtain ⟨b1, o1, rfl, hl1, hc1⟩ := HAT3.out k hlt
          have hx : wr.cell? ⟨b1, o1 + k, none⟩ = some (.int .u8 ((b[k] : Nat) : Int)) := (hb.cell (p := ⟨b1, o1 + k, none⟩) (Nat.lt_of_lt_of_le hl1 HB0.out.size)).trans ((HB0.out.cell (p := ⟨b1, o1 + k, none⟩) hl1).trans (hc1 k hlt))
          have HS := Lib.hid (modL_step a.length b k hlt)
          have HS2 := Lib.hid (bothL_step f a.length b k hlt)
          have hq := HRB.out _ (List.getElem_mem hlt)
          clear hc1
          generalize b[k] = q at *
          generalize intsV (natI (modL a.length (b.take k))) = xs at *
          generalize intsV (natI (bothL f (modL a.length (b.take k)))) = ys at *
          obtain ⟨r, hrr⟩ : ∃ r, q % a.length = r := ⟨_, rfl⟩
          have hri : ((q : Int) % (a.length : Int)) = (r : Int) := by rw [← hrr, Int.natCast_emod]
          have hra : r < a.length := by rw [← hrr]; exact Nat.mod_lt _ la0
          rw [hrr] at HS HS2
          obtain ⟨b7, o7, rfl, hl7, hx7⟩ := HFC.out r (by have := HFL.out; omega)
          generalize f.getD r 0 = z at *
          obtain ⟨A9, p9, rfl⟩ := hO.len
          obtain ⟨A8, p8, rfl⟩ := hP.len
          clear hrr
          go_wp2_with (at_builtin; refine wpList_append_OwnA rfl _ _ 23 rfl 3 i0 (.int .i64 0) 1 8 Try.underlying23 hi hz0 hz1 hz2 rfl (by decide) _ _ _ rfl (Own.alloc hO _) ⟨wr.heap.size, 0, none⟩ 1 1 [_] rfl rfl (one_new _ _ _) (one_int _ _) ?c1 ?c2 (below_alloc hb hB _).2 ?_)
          case c1 => unfold maxLen; omega
          case c2 => omega
          intro v3 w3 hO3 hg3 ha3
          have hb3 := (Own.alloc hO (.cells #[Value.int .i64 (r : Int)] 3)).grown (below_alloc hb hB _).1 (below_alloc hb hB _).2 hg3
          obtain ⟨hP3, hap3⟩ := own_beside (Own.alloc hP (.cells #[Value.int .i64 (r : Int)] 3)) hap hg3 (fun k hk => (ha3 k hk).imp id fun h => by simpa using h)
          have hB3 := hb3.size
          have hz := (hb3.cell (p := ⟨b7, o7 + r, none⟩) hl7).trans hx7
          clear hO hP hap hb hB hg3 ha3 hx hx7
          obtain ⟨A9, p9, rfl⟩ := hO3.len
          go_wp2_with (at_builtin; refine wpList_append_OwnA rfl _ _ 23 rfl 3 i0 (.int .i64 0) 1 8 Try.underlying23 hi hz0 hz1 hz2 rfl (by decide) _ _ _ rfl (Own.alloc hP3 _) ⟨w3.heap.size, 0, none⟩ 1 1 [_] rfl rfl (one_new _ _ _) (one_int _ _) ?d1 ?d2 (below_alloc hb3 hB3 _).2 ?_)
          case d1 => unfold maxLen; omega
          case d2 => omega
          intro v4 w4 hP4 hg4 ha4
          have hb4 := (Own.alloc hP3 (.cells #[Value.int .i64 (z : Int)] 3)).grown (below_alloc hb3 hB3 _).1 (below_alloc hb3 hB3 _).2 hg4
          obtain ⟨hO4, hap4⟩ := own_beside (Own.alloc hO3 (.cells #[Value.int .i64 (z : Int)] 3)) hap3.sym hg4 (fun k hk => (ha4 k hk).imp id fun h => by simpa using h)
          have HO4 := Lib.hid hO4
          have HP4 := Lib.hid hP4
          have HAP4 := Lib.hid hap4.sym
          clear hO3 hP3 hap3 hb3 hB3 hg4 ha4 hz hO4 hP4 hap4
          go_wp2
          go_roundw
          case rel => exact ⟨k + 1, by omega, by go_num, by rw [HS.out]; exact HO4.out, by rw [HS2.out]; exact HP4.out, HAP4.out, hb4⟩
          case measure => simp [intOf]; omega
        · obtain rfl : k = b.length := by omega
          rw [List.take_length] at hO hP
          have HS1 := Lib.hid (ints_own hO (modL_length _ _).symm)
          have HS2 := Lib.hid (ints_own hP (by rw [bothL_length, modL_length]))
          have HSLT := Lib.hid (modL_lt la0 b)
          obtain ⟨w2, hw2⟩ : ∃ w2, w2 = wr := ⟨_, rfl⟩
          subst hw2
          obtain ⟨A8, p8, rfl⟩ := hO.len
          obtain ⟨A9, p9, rfl⟩ := hP.len
          have HGL := Lib.hid (modL_length a.length b)
          generalize modL a.length b = g at *
          have HB1 := Lib.hid (hb.mono (Nat.le_refl _))
          obtain ⟨hb, hB⟩ := start w2
          clear hO hP hap hlt
          go_wp2
          go_loopw [10, 14] (fun x i wr => ∃ k : Nat, k ≤ row.length ∧ i = .int .i64 k ∧ Own wr w2.heap.size 1 x k (intsV (natI (List.range k))) ∧ Below w2.heap.size w2 wr) (fun _ i _ => row.length - (intOf i).toNat)
          case atStart => exact ⟨0, Nat.zero_le _, rfl, Own.nil_ _ _ _, hb⟩
          case round =>
            clear hb hB hk
            obtain ⟨k, hk, rfl, hO, hb⟩ := hrel
            have hB := hb.size
            by_cases hlt : k < row.length
            · have HS := Lib.hid (range_step k)
              generalize intsV (natI (List.range k)) = xs at *
              obtain ⟨A4, p4, rfl⟩ := hO.len
              go_wp2_with (at_builtin; refine wpList_append_Own rfl _ _ 23 rfl 3 i0 (.int .i64 0) 1 8 Try.underlying23 hi hz0 hz1 hz2 rfl (by decide) _ _ _ rfl (Own.alloc hO _) ⟨wr.heap.size, 0, none⟩ 1 1 [_] rfl rfl (one_new _ _ _) (one_int _ _) ?e1 ?e2 (below_alloc hb hB _).2 ?_)
              case e1 => unfold maxLen; omega
              case e2 => omega
              intro v3 w3 hO3 hg3
              have hb3 := (Own.alloc hO (.cells #[Value.int .i64 (k : Int)] 3)).grown (below_alloc hb hB _).1 (below_alloc hb hB _).2 hg3
              have HX := Lib.hid hO3
              clear hO hb hB hg3 hO3
              go_wp2
              go_roundw
              case rel => exact ⟨k + 1, by omega, by go_num, by rw [HS.out]; exact HX.out, hb3⟩
              case measure => simp [intOf]; omega
            · obtain rfl : k = row.length := by omega
              have hall := ints_own hO (by rw [List.length_range])
              obtain ⟨A4, p4, rfl⟩ := hO.len
              clear hO hlt
              have hB1 := HB1.out
              have hrow := StrsIn.kept (StrsIn.kept (StrsIn.kept HR.out HB0.out) hB1) hb
              have hf := IntsIn.kept (IntsIn.kept HF.out hB1) hb
              have hs1 := IntsIn.kept HS1.out hb
              have hs2 := IntsIn.kept HS2.out hb
              have hfl := HFL.out
              have hgl := HGL.out
              have ok1 := pick_ok HFLT.out
              have ok2 : pickOk (pickF row (natI f)) (natI g) = true := pick_ok (fun c hc => by rw [pickF_length, natI_length, hfl]; exact HSLT.out c hc)
              have ok3 := pick_ok (bothL_lt HFLT.out (fun c hc => by rw [hfl]; exact HSLT.out c hc) (s := g))
              have ok4 : pickOk row (natI (List.range row.length)) = true := pick_ok (fun c hc => List.mem_range.1 hc)
              have ch : pickF (pickF row (natI f)) (natI g) = pickF row (natI (bothL f g)) := pick_chain row f g (fun c hc => by rw [hfl]; exact HSLT.out c hc)
              have hall2 := pick_all row
              have n1 : (natI f).length ≤ 1000000 := by rw [natI_length]; omega
              have n2 : (natI g).length ≤ 1000000 := by rw [natI_length]; omega
              have n3 : (natI (bothL f g)).length ≤ 1000000 := by rw [natI_length, bothL_length]; omega
              have n4 : (natI (List.range row.length)).length ≤ 1000000 := by rw [natI_length, List.length_range]; omega
              have lx : (pickF row (natI (bothL f g))).length ≤ 1000000 := by rw [pickF_length]; exact n3
              replace hb : Below w.heap.size w wr := HB0.out.trans ((hB1.mono HB0.out.size).trans (hb.mono (Nat.le_trans HB0.out.size hB1.size)))
              replace hB := hb.size
              clear hB1 HR HF HS1 HS2 HFL HGL HFLT HSLT HB0 HB1 HFC HAT2 HAT3 HRA HRB hfl hgl
              generalize natI f = F at *
              generalize natI g = G at *
              generalize natI (bothL f g) = E at *
              generalize natI (List.range row.length) = R at *
              have OK2 := Lib.hid ok2
              have OK3 := Lib.hid ok3
              have OK4 := Lib.hid ok4
              have CH := Lib.hid ch
              have ALL := Lib.hid hall2
              clear ok2 ok3 ok4 ch hall2
              go_wp2_with fail
              refine (shape_pick_calls hrow hf n1).mono ?_
              rintro e w5 ⟨v5, he, h5, hk⟩
              rw [ok1] at he
              rw [pickL_yes ok1] at h5
              subst he
              replace hrow := StrsIn.kept hrow hk
              replace hs1 := IntsIn.kept hs1 hk
              replace hs2 := IntsIn.kept hs2 hk
              replace hall := IntsIn.kept hall hk
              replace hb := hb.trans (hk.mono hB)
              replace hB := hb.size
              clear hk hf ok1
              go_wp2_with fail
              refine (shape_pick_calls h5 hs1 n2).mono ?_
              rintro e w6 ⟨v6, he, h6, hk⟩
              rw [OK2.out] at he
              rw [pickL_yes OK2.out, CH.out] at h6
              subst he
              replace hrow := StrsIn.kept hrow hk
              replace hs2 := IntsIn.kept hs2 hk
              replace hall := IntsIn.kept hall hk
              replace hb := hb.trans (hk.mono hB)
              replace hB := hb.size
              clear hk hs1 h5
              go_wp2_with fail
              refine (shape_pick_calls hrow hs2 n3).mono ?_
              rintro e w7 ⟨v7, he, h7, hk⟩
              rw [OK3.out] at he
              rw [pickL_yes OK3.out] at h7
              subst he
              replace hrow := StrsIn.kept hrow hk
              replace h6 := StrsIn.kept h6 hk
              replace hall := IntsIn.kept hall hk
              replace hb := hb.trans (hk.mono hB)
              replace hB := hb.size
              clear hk hs2
              go_wp2_with fail
              refine (shape_pick_calls hrow hall n4).mono ?_
              rintro e w8 ⟨v8, he, h8, hk⟩
              rw [OK4.out] at he
              rw [pickL_yes OK4.out, ALL.out] at h8
              subst he
              replace hrow := StrsIn.kept hrow hk
              replace h6 := StrsIn.kept h6 hk
              replace h7 := StrsIn.kept h7 hk
              replace hb := hb.trans (hk.mono hB)
              replace hB := hb.size
              clear hk hall
              go_wp2_with fail
              refine awake_calls.stepB (w0 := w) (B := w.heap.size) hb hB ?_
              clear hb hB
              intro w9 hb hB hk
              replace hrow := StrsIn.kept hrow hk
              replace h6 := StrsIn.kept h6 hk
              replace h7 := StrsIn.kept h7 hk
              replace h8 := StrsIn.kept h8 hk
              clear hk
              go_wp2_with fail
              have hq := same_strs h6 h7 lx lx
              rw [decide_eq_true rfl] at hq
              refine hq.stepB (w0 := w) (B := w.heap.size) hb hB ?_
              clear hb hB hq
              intro w10 hb hB hk
              replace hrow := StrsIn.kept hrow hk
              replace h8 := StrsIn.kept h8 hk
              clear hk h6 h7
              go_wp2_with fail
              have hq := same_strs h8 hrow (by omega) (by omega)
              rw [decide_eq_true rfl] at hq
              refine hq.step (w0 := w) (B := w.heap.size) hb hB ?_
              clear hb hB hq
              intro w11 hb hB
              go_wp2
              go_ret
              exact ⟨rfl, hb⟩

set_option maxHeartbeats 2000000 in
theorem shapeChains_calls {w : World} {vr va vb : Value} {row : List ByteArray} {a b : List Nat} (hr : StrsIn w vr row) (ha : U8sIn w va a) (hb' : U8sIn w vb b) (ra : ∀ x ∈ a, x < 256) (rb : ∀ x ∈ b, x < 256) :
    GivesAt Try.prog 5 #[vr, va, vb] w (.bool true) := by
  by_cases hgo : smallL row = true ∧ 0 < row.length ∧ a.length ≤ 10 ∧ b.length ≤ 10 ∧ 0 < a.length
  · exact shapeChains_short hr ha hb' ra rb hgo.1 hgo.2.1 hgo.2.2.1 hgo.2.2.2.1 hgo.2.2.2.2
  · have hsr := small_calls hr
    obtain ⟨hb, hB⟩ := start w
    obtain ⟨A1, p1, rfl, _⟩ := one_at hr
    obtain ⟨A2, p2, rfl, _⟩ := one_at ha
    obtain ⟨A3, p3, rfl, _⟩ := one_at hb'
    clear hr ha hb' ra rb
    unfold GivesAt
    cases sr : smallL row with
    | false =>
      rw [sr] at hsr
      clear sr hgo
      go_enter Try.func5, Try.ntmps5
      go_wp2_with fail
      refine hsr.step ?_
      clear hsr
      go_wp2_with (go_at_call 7; refine awake_calls.step (w0 := w) (B := w.heap.size) hb hB ?_; clear hb hB; intro w' hb hB)
      go_ret
      exact ⟨rfl, hb⟩
    | true =>
      rw [sr] at hsr
      rw [sr] at hgo
      clear sr
      have hcase : (row.length = 0) ∨ (0 < row.length ∧ 10 < a.length) ∨ (0 < row.length ∧ a.length ≤ 10 ∧ 10 < b.length) ∨ (0 < row.length ∧ a.length ≤ 10 ∧ b.length ≤ 10 ∧ a.length = 0) := by
        by_cases h1 : row.length = 0
        · exact .inl h1
        · by_cases h2 : 10 < a.length
          · exact .inr (.inl ⟨by omega, h2⟩)
          · by_cases h3 : 10 < b.length
            · exact .inr (.inr (.inl ⟨by omega, by omega, h3⟩))
            · exact .inr (.inr (.inr ⟨by omega, by omega, by omega, by
                by_cases h4 : a.length = 0
                · exact h4
                · exact absurd ⟨rfl, by omega, by omega, by omega, by omega⟩ hgo⟩))
      clear hgo
      rcases hcase with h1 | ⟨h1, h2⟩ | ⟨h1, h2, h3⟩ | ⟨h1, h2, h3, h4⟩
      · have d1 : ((row.length : Int) == 0) = true := by rw [beq_iff_eq]; omega
        clear h1
        go_enter Try.func5, Try.ntmps5
        go_wp2_with fail
        refine hsr.step ?_
        clear hsr
        go_wp2_with (go_at_call 7; refine awake_calls.step (w0 := w) (B := w.heap.size) hb hB ?_; clear hb hB; intro w' hb hB)
        go_ret
        exact ⟨rfl, hb⟩
      · have d1 : ((row.length : Int) == 0) = false := by rw [beq_eq_false_iff_ne]; omega
        have d2 : decide (10 < (a.length : Int)) = true := by rw [decide_eq_true_eq]; omega
        go_enter Try.func5, Try.ntmps5
        go_wp2_with fail
        refine hsr.step ?_
        clear hsr
        go_wp2_with (go_at_call 7; refine awake_calls.step (w0 := w) (B := w.heap.size) hb hB ?_; clear hb hB; intro w' hb hB)
        go_ret
        exact ⟨rfl, hb⟩
      · have d1 : ((row.length : Int) == 0) = false := by rw [beq_eq_false_iff_ne]; omega
        have d2 : decide (10 < (a.length : Int)) = false := by rw [decide_eq_false_iff_not]; omega
        have d3 : decide (10 < (b.length : Int)) = true := by rw [decide_eq_true_eq]; omega
        go_enter Try.func5, Try.ntmps5
        go_wp2_with fail
        refine hsr.step ?_
        clear hsr
        go_wp2_with (go_at_call 7; refine awake_calls.step (w0 := w) (B := w.heap.size) hb hB ?_; clear hb hB; intro w' hb hB)
        go_ret
        exact ⟨rfl, hb⟩
      · have d1 : ((row.length : Int) == 0) = false := by rw [beq_eq_false_iff_ne]; omega
        have d2 : decide (10 < (a.length : Int)) = false := by rw [decide_eq_false_iff_not]; omega
        have d3 : decide (10 < (b.length : Int)) = false := by rw [decide_eq_false_iff_not]; omega
        have d4 : ((a.length : Int) == 0) = true := by rw [beq_iff_eq]; omega
        clear h4
        go_enter Try.func5, Try.ntmps5
        go_wp2_with fail
        refine hsr.step ?_
        clear hsr
        go_wp2_with (go_at_call 7; refine awake_calls.step (w0 := w) (B := w.heap.size) hb hB ?_; clear hb hB; intro w' hb hB)
        go_ret
        exact ⟨rfl, hb⟩
end Go.Proofs.Ytilnioloeijfhaa
