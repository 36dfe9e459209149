/- Contracts of layer 3's Print. -/
import Derived.Test.YtcoodplomnjkcaaShelfWalks
import Derived.Test.YtcoodplomnjkcaaOwn
import Derived.Test.YtcoodplomnjkcaaTape
namespace Go.Proofs.Ytcoodplomnjkcaa
open Go Go.RowKit

theorem Try.info5 : (Try.prog.info? 5).map (fun i => (i.zero, i.size, i.bytes)) = some (some (.int .u8 0), 1, 1) := by kernel_rfl

def bytesV (l : List UInt8) : List Value := l.map fun b => Value.int .u8 b.toNat
/-- Bytes that a call owns. -/
def OwnB (w : World) (B : Nat) (v : Value) (l : List UInt8) : Prop := Own w B 1 v l.length (bytesV l)
theorem OwnB.snoc {w : World} {B : Nat} {v : Value} {l : List UInt8} {n : Nat} {x : Int} (h : Own w B 1 v n (bytesV l ++ [Value.int .u8 x])) (hx : 0 ≤ x) (hx2 : x < 256) (hn : n = l.length + 1) : OwnB w B v (l ++ [UInt8.ofNat x.toNat]) := by
  unfold OwnB
  have e1 : bytesV (l ++ [UInt8.ofNat x.toNat]) = bytesV l ++ [Value.int .u8 x] := by
    unfold bytesV
    rw [List.map_append]
    simp only [List.map_cons, List.map_nil]
    rw [toNat_ofNat (by omega)]
    congr 3
    omega
  rw [e1, List.length_append]
  subst hn
  exact h

theorem one_new (w : World) (x : Value) (T : TypeId) : ∀ (j : Nat) (u : Value), [x][j]? = some u → (w.alloc (.cells #[x] T)).cell? ((⟨w.heap.size, 0, none⟩ : Addr).add j) = some u := by
  intro j u hu
  cases j with
  | zero => simp only [List.getElem?_cons_zero, Option.some.injEq] at hu; subst hu; simp [Addr.add]
  | succ j => simp at hu
theorem one_int (k : IntKind) (x : Int) : ∀ u ∈ [Value.int k x], u.oneCell' = true := by
  intro u hu; rw [List.mem_singleton] at hu; subst hu; rfl
theorem below_alloc {B : Nat} {a w : World} (h : Below B a w) (hB : B ≤ w.heap.size) (o : Obj) : Below B a (w.alloc o) ∧ B ≤ (w.alloc o).heap.size := ⟨h.alloc hB o, by simp; omega⟩

/-- '[]byte(s)', for the walk. -/
theorem wpList_bytes {P : Program} {w : World} {ops : Array Oper} {rest : List Oper} {o : Oper} {a : Act} {Q : Exit → Act → World → Prop} (hgd : o.guard = none) (x : Operand) (src dst e : TypeId) (ho : o.op = .convert src dst x)
    (hs : P.underlying src = some .string) (hd : P.underlying dst = some (.slice e)) (he : P.underlying e = some (.int .u8)) (s : ByteArray) (hx : a.eval x = .string s) (B : Nat) (hB : B ≤ w.heap.size) (hn : s.size ≤ maxLen)
    (hK : ∀ v' w', OwnB w' B v' s.data.toList → Below w.heap.size w w' → wpList P ops Q rest (a.put o.dst v') w') : wpList P ops Q (o :: rest) a w := by
  refine wpList_plain hgd fun K hK' => ?_
  have hrun := run_bytes_of_string (P := P) w src dst e s hs hd he
  have hc := grownCap_ge w s.size 0 e
  have hown := Own.bytes (B := B) w e s _ hB hn hc
  have hbel : Below w.heap.size w (w.drew.alloc (.cells (bytesRow s (grownCap w s.size 0 e)) e ((bytesRow s (grownCap w s.size 0 e)).size, (bytesRow s (grownCap w s.size 0 e)).size + 1))) :=
    (Below.refl _ w).drew.alloc (Nat.le_refl _) _
  generalize w.drew.alloc (.cells (bytesRow s (grownCap w s.size 0 e)) e ((bytesRow s (grownCap w s.size 0 e)).size, (bytesRow s (grownCap w s.size 0 e)).size + 1)) = W at hrun hown hbel
  generalize grownCap w s.size 0 e = c at hrun hown
  have hlen : s.data.toList.length = s.size := Array.length_toList
  unfold Oper.wp
  simp [execOp, ho, hx, hrun, Result.andThen]
  refine hK' _ _ (hK _ _ ?_ hbel)
  unfold OwnB
  rw [hlen]
  exact hown
/-- 'string(b)'. -/
theorem run_string_own {P : Program} {w : World} {B : Nat} {v : Value} {l : List UInt8} (h : OwnB w B v l) (src dst e : TypeId) (hs : P.underlying src = some (.slice e)) (he : P.underlying e = some (.int .u8)) (hd : P.underlying dst = some .string) :
    (convert src dst v).run P w = .ok (.string ⟨l.toArray⟩) w := by
  rcases h.2.2 with ⟨rfl, h0⟩ | ⟨g, off, cap, rfl, _, _, _, hc, _⟩
  · obtain rfl : l = [] := List.eq_nil_of_length_eq_zero h0
    have := run_convert_bytes_nil (P := P) (w := w) src e hs he 0 0 dst hd
    exact this
  · exact run_convert_bytes_back w src dst e ⟨g, off, none⟩ cap l hs he hd (fun j hj => by
      rw [Addr.add_lit]
      exact hc j _ (by unfold bytesV; rw [List.getElem?_map, List.getElem?_eq_getElem hj]; rfl))

set_option maxHeartbeats 1000000 in
theorem appendLow_calls {w : World} {B : Nat} {v : Value} {l : List UInt8} (h : OwnB w B v l) (hB : B ≤ w.heap.size) (U size : Nat) (hU : U < 18446744073709551616) (hs : size ≤ 8) (hl : l.length ≤ 1000000) :
    Calls Try.prog 20 #[v, .int .u64 U, .int .i64 size] w fun e w' => ∃ v', e = .returned v' ∧ OwnB w' B v' (l ++ le size U) ∧ Below B w w' := by
  obtain ⟨i0, hi, hz0, hz1, hz2⟩ := info_parts Try.info5
  have hb := Below.refl B w
  obtain ⟨A, cap, rfl⟩ := h.len
  have HU := Lib.hid hU
  clear hU
  go_enter Try.func20, Try.ntmps20
  go_wp2
  go_loopw [0, 1, 8] (fun v u i wr => ∃ (k : Nat), k ≤ size ∧ i = .int .i64 k ∧ u = .int .u64 (U / 256 ^ k : Nat) ∧ OwnB wr B v (l ++ le k U) ∧ Below B w wr ∧ B ≤ wr.heap.size) (fun _ _ i _ => size - (intOf i).toNat)
  case atStart => exact ⟨0, by omega, rfl, by simp, by simpa [le] using h, hb, hB⟩
  case round =>
    obtain ⟨k, hk, rfl, rfl, hown, hb, hB⟩ := hrel
    by_cases hlt : k < size
    · have hlen : (l ++ le k U).length + 1 ≤ 1000009 := by rw [List.length_append, le_length]; omega
      have HU' := Lib.hid hlen
      have HS := Lib.hid (le_snoc k U)
      clear hlen
      go_wp2_with (at_builtin; refine wpList_append_Own rfl _ _ 43 rfl 5 i0 (.int .u8 0) 1 1 Try.underlying43 hi hz0 hz1 hz2 rfl (by decide) _ _ _ rfl (Own.alloc hown _) ⟨wr.heap.size, 0, none⟩ 1 1 [_] rfl rfl (one_new _ _ _) (one_int _ _) ?c1 ?c2 (below_alloc hb hB _).2 ?_)
      case c1 => have := HU'.out; unfold maxLen; omega
      case c2 => have := HU'.out; omega
      intro v' w' hown' hg
      have hb' := (Own.alloc hown (.cells #[Value.int .u8 ((U : Int) / 256 ^ k % 256)] 5)).grown (below_alloc hb hB _).1 (below_alloc hb hB _).2 hg
      have hB' : B ≤ w'.heap.size := Nat.le_trans (below_alloc hb hB (.cells #[Value.int .u8 ((U : Int) / 256 ^ k % 256)] 5)).2 hg.size
      have HO := OwnB.snoc hown' (by omega) (by omega) (by rw [List.length_append])
      clear hown hown' hb hB hg
      go_wp2
      go_roundw
      case rel =>
        refine ⟨k + 1, by omega, by go_num, ?_, ?_, hb', hB'⟩
        · rw [Nat.pow_succ, ← Nat.div_div_eq_div_mul]; simp
        · rw [HS.out, ← List.append_assoc]
          have e : UInt8.ofNat ((U : Int) / 256 ^ k % 256).toNat = UInt8.ofNat (U / 256 ^ k % 256) := by congr 1
          rw [← e]
          exact HO
      case measure => simp [intOf]; omega
    · obtain rfl : k = size := by omega
      go_wp2
      go_ret
      exact ⟨_, rfl, hown, hb⟩

def shelfB (l : List Int) : ByteArray := ⟨(shelfP l).toArray⟩
theorem shelfB_data (l : List Int) : (shelfB l).data.toList = shelfP l := rfl
theorem shelfP_take (l : List Int) : shelfP l = (printB (foldI (leastI l)).toNat ++ printB (bytesL l)).data.toList ++ rowsP (leastI l) (bytesL l) l := by
  rw [data_append, print_data, print_data, List.append_assoc]; rfl
theorem rowsP_step (m : Int) (n : Nat) (l : List Int) (k : Nat) (h : k < l.length) : rowsP m n (l.take (k + 1)) = rowsP m n (l.take k) ++ le n (dist l[k] m) := by
  rw [take_add l k h, rowsP_snoc]

set_option maxHeartbeats 1000000 in
theorem shelf_print_calls {w : World} {v : Value} {l : List Int} (h : IntsIn w v l) (hr : InR l) (hlen : l.length ≤ 4096) : GivesAt Try.prog 9 #[v] w (.string (shelfB l)) := by
  obtain ⟨hb, hB⟩ := start w
  have hL := leastI_range l hr
  have hF := Lib.hid (foldI_nat l hr)
  have hN := bytesFrom_le_8 (leastI l) l
  have HL := Lib.hid (shelfP_take l)
  have p1 := Lib.hid (fold_nat (leastI l) hL.1 hL.2)
  have H1 := Lib.hid (least_calls h)
  have H2 := Lib.hid (bytes_calls h hr)
  have H := Lib.hid h
  have hN' : bytesL l ≤ 8 := hN
  obtain ⟨A, cap, rfl, hat⟩ := one_at h
  have HAT := Lib.hid hat
  clear h hr hN hat
  generalize hm : leastI l = m at *
  generalize hn : bytesL l = n at *
  clear hm hn
  have p2 := Lib.hid (print_calls (foldI m).toNat hF.out)
  have p3 := Lib.hid (print_calls n (by omega))
  have hp1 : (printB (foldI m).toNat).size ≤ 10 := by rw [print_len]; exact vp_len_10 hF.out
  have hp2 : (printB n).size ≤ 10 := by rw [print_len]; exact vp_len_10 (by omega)
  generalize (foldI m).toNat = F at *
  unfold GivesAt
  go_enter Try.func9, Try.ntmps9
  go_wp2_with (first | (go_at_call 19; refine H1.out.step ?_) | (go_at_call 11; refine H2.out.step ?_) | (go_at_call 18; refine (p1.out _).mono ?_; rintro e w' ⟨rfl, rfl⟩) | (go_at_call_of 17 (Value.int .u64 (F : Int)); refine p2.out.step (w0 := w) (B := w.heap.size) hb hB ?_; clear hb hB; intro wb hb hB) | (go_at_call_of 17 (Value.int .u64 (n : Int)); refine p3.out.step (w0 := w) (B := w.heap.size) hb hB ?_; clear hb hB; intro wb hb hB) | (refine wpList_bytes rfl _ 9 43 5 rfl Try.underlying9 Try.underlying43 Try.underlying5 (printB F ++ printB n) rfl w.heap.size hB ?cs ?_))
  case cs => rw [ByteArray.size_append]; unfold maxLen; omega
  have hsz : (printB F ++ printB n).data.toList.length = (printB F).size + (printB n).size := by rw [data_append, List.length_append, data_size, data_size]
  intro vb w2 hown0 hbe
  have hown : OwnB w2 w.heap.size vb (printB F ++ printB n).data.toList := by first | exact hown0 | (rw [data_append]; exact hown0)
  clear hown0
  generalize (printB F ++ printB n).data.toList = P0 at HL hsz hown
  have HZ := Lib.hid (show P0.length ≤ 20 by omega)
  clear hsz hp1 hp2 p1 p2 p3
  have hb2 := hb.trans (hbe.mono hB)
  have hB2 := Nat.le_trans hB hbe.size
  clear hb hB hbe
  go_wp2
  go_loopw [5, 22] (fun v i wr => ∃ (k : Nat), k ≤ l.length ∧ i = .int .i64 k ∧ OwnB wr w.heap.size v (P0 ++ rowsP m n (l.take k)) ∧ Below w.heap.size w wr ∧ w.heap.size ≤ wr.heap.size) (fun _ i _ => l.length - (intOf i).toNat)
  case atStart => exact ⟨0, by omega, rfl, by simpa [rowsP] using hown, hb2, hB2⟩
  case round =>
    clear hown hb2 hB2
    obtain ⟨k, hk, rfl, hown, hb, hB⟩ := hrel
    by_cases hlt : k < l.length
    · obtain ⟨b, off, rfl, hbl, hc⟩ := HAT.out k hlt
      have hx := (hb.cell (p := ⟨b, off + k, none⟩) hbl).trans (hc k hlt)
      have HS := Lib.hid (rowsP_step m n l k hlt)
      have HC := Lib.hid (distance_calls l[k] m)
      have hd := Lib.hid (dist_lt l[k] m)
      generalize dist l[k] m = D at HC hd HS
      have HO := Lib.hid hown
      have HR := Lib.hid (rowsP_length m n (l.take k))
      have HM : n * (l.take k).length ≤ 8 * 4096 := Nat.mul_le_mul hN' (by rw [List.length_take]; omega)
      have HT := Lib.hid (appendLow_calls hown hB D n hd.out hN' (by rw [List.length_append, HR.out]; have := HZ.out; omega))
      clear hc hown HM
      go_wp2_with (first | (go_at_call 21; refine (HC.out _).step ?_) | (go_at_call 20; refine HT.out.mono ?_))
      rintro e w' ⟨v', rfl, hown', hb'⟩
      have hb2 := hb.trans hb'
      have hB2 := Nat.le_trans hB hb'.size
      clear hb hB hb' hx HT HO
      go_wp2
      go_roundw
      case rel => exact ⟨k + 1, by omega, by go_num, by rw [HS.out, ← List.append_assoc]; exact hown', hb2, hB2⟩
      case measure => simp [intOf]; omega
    · obtain rfl : k = l.length := by omega
      rw [List.take_length] at hown
      have hconv := run_string_own hown 43 9 5 Try.underlying43 Try.underlying5 Try.underlying9
      clear hown
      go_wp2
      go_ret
      exact ⟨ret_str (by unfold shelfB; rw [HL.out]), hb⟩
end Go.Proofs.Ytcoodplomnjkcaa
