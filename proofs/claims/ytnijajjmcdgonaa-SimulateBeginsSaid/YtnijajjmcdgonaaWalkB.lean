import Derived.Test.YtnijajjmcdgonaaWalkA
namespace Go.Proofs.Ytnijajjmcdgonaa
open Go.RowKit
set_option linter.unusedVariables false

/-- The number after k steps. -/
def it : Nat → Int → Int
  | 0, n => n
  | k + 1, n => nx (it k n)
theorem it_bd (n : Int) (h0 : 0 ≤ n) (h1 : n < 2147483647) : ∀ k, 0 ≤ it k n ∧ it k n < 2147483647
  | 0 => ⟨h0, h1⟩
  | k + 1 => nx_bd _
/-- The first k numbers of a seed. -/
def nums (n : Int) : Nat → List Int
  | 0 => []
  | k + 1 => nums n k ++ [it (k + 1) n]
theorem nums_len (n : Int) : ∀ k, (nums n k).length = k
  | 0 => rfl
  | k + 1 => by simp [nums, nums_len n k]

theorem infoInt : (Try.prog.info? 3).map (fun i => (i.zero, i.size, i.bytes)) = some (some (.int .i64 0), 1, 8) := by kernel_rfl

/-- What a slice of numbers of a call's own is. -/
abbrev ownInts (w : World) (B : Nat) (v : Value) (l : List Int) : Prop := w.ownsRow B 3 1 v l.length (l.map (Value.int .i64))

theorem hsz0 {B : Nat} {wr : World} {v : Value} (hD : wr.cell? ⟨B, 0, none⟩ = some v) : B + 1 ≤ wr.heap.size := by
  unfold World.cell? at hD
  split at hD
  · rename_i h
    have := (Array.getElem?_eq_some_iff.1 h).1
    exact this
  · cases hD

theorem rel_next {B k : Nat} {n : Int} {w wr w1 : World} {u v' : Value} {o : Obj} (hB : B + 1 ≤ wr.heap.size)
    (hown : ownInts wr (B + 1) u (nums n k)) (hD : wr.cell? ⟨B, 0, none⟩ = some (.int .i64 (it k n))) (hDf : wr.frozen? ⟨B, 0, none⟩ = false) (hnx : Below B w wr)
    (hown' : w1.ownsRow (B + 1) 3 1 v' ((nums n k).length + 1) ((nums n k).map (Value.int .i64) ++ [.int .i64 (it (k + 1) n)]))
    (hgrow : ((wr.setCell ⟨B, 0, none⟩ (.int .i64 (it (k + 1) n))).alloc o).grownBy w1 u.ownBlock) :
    ownInts w1 (B + 1) v' (nums n (k + 1)) ∧ w1.cell? ⟨B, 0, none⟩ = some (.int .i64 (it (k + 1) n)) ∧ w1.frozen? ⟨B, 0, none⟩ = false ∧ Below B w w1 := by
  have hne : ∀ j, j < B + 1 → some j ≠ u.ownBlock := fun j hj h => by have := hown.lt j h.symm; omega
  have hsz : (wr.setCell ⟨B, 0, none⟩ (.int .i64 (it (k + 1) n))).heap.size = wr.heap.size := by simp [World.setCell]
  have hcell : (wr.setCell ⟨B, 0, none⟩ (.int .i64 (it (k + 1) n))).cell? ⟨B, 0, none⟩ = some (.int .i64 (it (k + 1) n)) := World.cell?_setCell_same _ _ _ hD
  refine ⟨by simpa [ownInts, nums] using hown', hgrow.cell ((World.cell?_alloc_past _ _ _ (by show B < _; omega)).trans hcell) (hne B (by omega)), ?_,
    ((hnx.setCell (Nat.le_refl B) _).alloc (by omega) o).grown hgrow (by simp; omega) (fun j hj => by have := (hown.lt j hj).1; omega)⟩
  rw [World.frozen?_of_block (w := (wr.setCell ⟨B, 0, none⟩ (.int .i64 (it (k + 1) n))).alloc o) (hgrow.block B (by simp; omega) (hne B (by omega)))]
  exact ((World.frozen?_alloc_past _ _ _ (by show B < _; omega)).trans (World.frozen?_setCell _ _ _ _)).trans hDf

set_option maxHeartbeats 1600000 in
set_option maxRecDepth 100000 in
theorem numbersOf_ok (n c : Int) (w : World) (hs : 1 ≤ n ∧ n < 2147483647) (hc : 0 ≤ c ∧ c ≤ 300) :
    Calls Try.prog 11 #[.int .i64 n, .int .i64 c] w fun e w' => ∃ v, e = .returned (.tuple #[v, .int .i64 0]) ∧ ownInts w' (w.heap.size + 1) v (nums n c.toNat) ∧ Below w.heap.size w w' := by
  obtain ⟨i0, hi, hz0, hz1, hz2⟩ := info_parts infoInt
  have hsd : seedOk n = true := by simp [seedOk]; omega
  have HS := Lib.hid hsd; clear hsd
  obtain ⟨hs1, hs2⟩ := hs
  obtain ⟨hc1, hc2⟩ := hc
  obtain ⟨c, rfl⟩ := Int.eq_ofNat_of_zero_le hc1
  rw [Int.toNat_natCast]
  go_enter Try.func11, Try.ntmps11
  go_wp2_with fail
  refine (isSeed_any _ _).mono ?_
  rw [HS.out]
  rintro e w1 ⟨rfl, rfl⟩
  go_wp2
  go_loopw [7, 21] (fun v i wr => ∃ k : Nat, k ≤ c ∧ i = .int .i64 k ∧ ownInts wr (w1.heap.size + 1) v (nums n k) ∧ wr.cell? ⟨w1.heap.size, 0, none⟩ = some (.int .i64 (it k n)) ∧
      wr.frozen? ⟨w1.heap.size, 0, none⟩ = false ∧ Below w1.heap.size w1 wr)
    (fun _ i _ => c - (intOf i).toNat)
  case atStart => exact ⟨0, Nat.zero_le _, rfl, World.ownsRow_nil _ _ _ _, World.cell?_alloc_at _ _ _ _ rfl, World.frozen?_alloc_at _ _ _ _ rfl, (Below.refl _ _).alloc (Nat.le_refl _) _⟩
  case round =>
    obtain ⟨k, hk, rfl, hown, hD, hDf, hnx⟩ := hrel
    have hb := it_bd n (by omega) (by omega) k
    have hb2 := it_bd n (by omega) (by omega) (k + 1)
    have hl := nums_len n k
    have HL := Lib.hid hl; clear hl
    by_cases hlt : k < c
    · go_wp2_with (first
        | (go_at_call 42; refine (next_any _ _ _ _ hb.1 hb.2 hD hDf).mono ?_; rintro e w' ⟨rfl, rfl⟩)
        | (at_builtin; refine wpList_append_own _ rfl _ _ 23 rfl (w1.heap.size + 1) 3 i0 (.int .i64 0) 1 8 Try.underlying23 hi hz0 hz1 hz2 rfl (by decide) _ _ _ rfl ((ownsRow_setCell_below hown (by show w1.heap.size < w1.heap.size + 1; omega) _).alloc _) ⟨wr.heap.size, 0, none⟩ 1 1 [.int .i64 (nx (it k n))] rfl rfl ?c1 ?c2 ?c3 ?c4 ?c5 ?_))
      case c1 =>
        intro j u hj
        match j, hj with
        | 0, hj => simp at hj; subst hj; simp [Addr.add]; exact World.cell?_alloc_at _ _ _ _ (by simp [World.setCell])
      case c2 => intro u hu; simp at hu; subst hu; rfl
      case c3 => rw [HL.out]; unfold maxLen; omega
      case c4 => rw [HL.out]; omega
      case c5 => have := hnx.size; simp [World.setCell]; omega
      · intro v' w' hown' hgrow _
        have hsz : w1.heap.size + 1 ≤ wr.heap.size := hsz0 hD
        have R := rel_next hsz hown hD hDf hnx hown' hgrow
        clear hown' hgrow hown hD hDf hnx
        go_wp2
        go_roundw
        case rel => exact ⟨k + 1, by omega, by go_num, R.1, R.2.1, R.2.2.1, R.2.2.2⟩
        case measure => simp [intOf]; omega
    · have : k = c := by omega
      subst this
      go_wp2
      go_ret2
      exact ⟨_, rfl, hown, hnx⟩

set_option maxHeartbeats 1600000 in
set_option maxRecDepth 100000 in
theorem numbers_ok (n : Int) (c : Int) (w : World) (hs : 1 ≤ n ∧ n < 2147483647) (hc : 0 ≤ c ∧ c ≤ 301) :
    Calls Try.prog 15 #[.int .i64 n, .int .i64 c] w fun e w' => ∃ v, e = .returned v ∧ ownInts w' w.heap.size v (nums n c.toNat) ∧ Below w.heap.size w w' := by
  obtain ⟨i0, hi, hz0, hz1, hz2⟩ := info_parts infoInt
  obtain ⟨hs1, hs2⟩ := hs
  obtain ⟨hc1, hc2⟩ := hc
  obtain ⟨c, rfl⟩ := Int.eq_ofNat_of_zero_le hc1
  rw [Int.toNat_natCast]
  go_enter Try.func15, Try.ntmps15
  go_wp2
  go_loopw [0, 5, 6] (fun s v i wr => ∃ k : Nat, k ≤ c ∧ i = .int .i64 k ∧ s = .int .i64 (it k n) ∧ ownInts wr w.heap.size v (nums n k) ∧ Below w.heap.size w wr)
    (fun _ _ i _ => c - (intOf i).toNat)
  case atStart => exact ⟨0, Nat.zero_le _, rfl, rfl, World.ownsRow_nil _ _ _ _, Below.refl _ _⟩
  case round =>
    obtain ⟨k, hk, rfl, rfl, hown, hnx⟩ := hrel
    have hb := it_bd n (by omega) (by omega) k
    have hl := nums_len n k
    have HL := Lib.hid hl; clear hl
    by_cases hlt : k < c
    · go_wp2_with (at_builtin; refine wpList_append_own _ rfl _ _ 23 rfl w.heap.size 3 i0 (.int .i64 0) 1 8 Try.underlying23 hi hz0 hz1 hz2 rfl (by decide) _ _ _ rfl (hown.alloc _) ⟨wr.heap.size, 0, none⟩ 1 1 [.int .i64 (it (k + 1) n)] rfl rfl ?c1 ?c2 ?c3 ?c4 ?c5 ?_)
      case c1 =>
        intro j u hj
        match j, hj with
        | 0, hj => simp at hj; subst hj; simp [Addr.add]; rfl
      case c2 => intro u hu; simp at hu; subst hu; rfl
      case c3 => rw [HL.out]; unfold maxLen; omega
      case c4 => rw [HL.out]; omega
      case c5 => have := hnx.size; simp; omega
      · intro v' w' hown' hgrow _
        have R1 : ownInts w' w.heap.size v' (nums n (k + 1)) := by simpa [ownInts, nums] using hown'
        have R2 : Below w.heap.size w w' := (hnx.alloc (hnx.size) _).grown hgrow (by have := hnx.size; simp; omega) (fun j hj => (hown.lt j hj).1)
        clear hown' hgrow hown hnx
        go_wp2
        go_roundw
        case rel => exact ⟨k + 1, by omega, by go_num, rfl, R1, R2⟩
        case measure => simp [intOf]; omega
    · have : k = c := by omega
      subst this
      go_wp2
      go_ret
      exact ⟨_, rfl, hown, hnx⟩

/-- The number at a place of a list. -/
def gi (l : List Int) (j : Nat) : Int := l[j]?.getD 0

/-- The cells from an address on read as these numbers. -/
def IntsCells (w : World) (a : Option Addr) (l : List Int) : Prop :=
  ∀ j, j < l.length → ∃ b off, a = some ⟨b, off, none⟩ ∧ w.cell? ⟨b, off + j, none⟩ = some (.int .i64 (gi l j))
/-- A slice that reads as these numbers. -/
def IntsAt (w : World) (v : Value) (l : List Int) : Prop :=
  ∃ a cap, v = .slice a l.length cap ∧ l.length ≤ maxLen ∧ IntsCells w a l
theorem cell_lt {w : World} {a : Addr} {v : Value} (h : w.cell? a = some v) : a.block < w.heap.size := by
  unfold World.cell? at h
  split at h
  · rename_i h'
    exact (Array.getElem?_eq_some_iff.1 h').1
  · cases h
theorem Below.keeps {B : Nat} {w w' : World} (hb : Below B w w') {a : Addr} {v : Value} (h : w.cell? a = some v) (hB : w.heap.size ≤ B) : w'.cell? a = some v :=
  (hb.cell (p := a) (Nat.lt_of_lt_of_le (cell_lt h) hB)).trans h
theorem IntsCells.later {w w' : World} {a : Option Addr} {l : List Int} (h : IntsCells w a l) (hb : Below w.heap.size w w') : IntsCells w' a l := by
  intro j hj
  obtain ⟨b, off, e, h⟩ := h j hj
  exact ⟨b, off, e, Below.keeps hb h (Nat.le_refl _)⟩
theorem IntsAt.later {w w' : World} {v : Value} {l : List Int} (h : IntsAt w v l) (hb : Below w.heap.size w w') : IntsAt w' v l := by
  obtain ⟨a, cap, rfl, hm, hc⟩ := h
  exact ⟨a, cap, rfl, hm, hc.later hb⟩
theorem IntsAt.of_own {w : World} {B : Nat} {v : Value} {l : List Int} (h : ownInts w B v l) : IntsAt w v l := by
  obtain ⟨hlen, h⟩ := h
  rcases h with ⟨rfl, h0⟩ | ⟨g, cap, cur, rfl, hB, hg, hn, hm, hs, ht⟩
  · exact ⟨none, 0, by rw [h0], by rw [h0]; exact Nat.zero_le _, fun j hj => by omega⟩
  · refine ⟨_, _, rfl, Nat.le_trans hn hm, fun j hj => ⟨g, 0, rfl, ?_⟩⟩
    have h2 : (cur.toList.take (l.length * 1))[j]? = (l.map (Value.int .i64))[j]? := by rw [ht]
    simp only [Nat.mul_one] at h2
    rw [List.getElem?_take_of_lt hj] at h2
    have h3 : cur[j]? = some (.int .i64 (gi l j)) := by
      rw [← Array.getElem?_toList, h2]; simp [gi, List.getElem?_map, List.getElem?_eq_getElem hj]
    unfold World.cell?
    simp only [hg, Nat.zero_add]
    simpa using h3
set_option maxHeartbeats 1600000 in
set_option maxRecDepth 100000 in
theorem equalInts_any (x y : Value) (l m : List Int) (w : World) (hx : IntsAt w x l) (hy : IntsAt w y m) :
    Calls Try.prog 14 #[x, y] w fun e w' => e = .returned (.bool (decide (l = m))) ∧ ∃ n, w' = w.drewN n := by
  obtain ⟨a, ca, rfl, hm1, hc1⟩ := hx
  obtain ⟨b, cb, rfl, hm2, hc2⟩ := hy
  unfold maxLen at hm1 hm2
  have hfin : ∀ r : Bool, (r = true ↔ l = m) → r = decide (l = m) := fun r h => by cases r <;> simp_all
  by_cases hl : l.length = m.length
  · have HL := Lib.hid hl
    have hall : (∀ j, j < l.length → gi l j = gi m j) → l = m := fun h => List.ext_getElem hl fun j h1 h2 => by
      have := h j h1
      simpa [gi, List.getElem?_eq_getElem h1, List.getElem?_eq_getElem h2] using this
    rw [← hl] at hm2 ⊢
    have HA := Lib.hid hall; have HF := Lib.hid hfin; have H1 := Lib.hid hc1; have H2 := Lib.hid hc2
    clear hall hfin hc1 hc2 hl
    go_enter Try.func14, Try.ntmps14
    go_wp2
    go_loopw [5] (fun i wr => ∃ k : Nat, k ≤ l.length ∧ i = .int .i64 k ∧ Hid (∀ j, j < k → gi l j = gi m j) ∧ ∃ n, wr = w.drewN n)
      (fun i _ => l.length - (intOf i).toNat)
    case atStart => exact ⟨0, Nat.zero_le _, rfl, fun j hj => by omega, 0, rfl⟩
    case round =>
      obtain ⟨k, hk, rfl, hsame, n, rfl⟩ := hrel
      by_cases hlt : k < l.length
      · obtain ⟨b1, o1, e1, c1⟩ := H1.out k hlt
        obtain ⟨b2, o2, e2, c2⟩ := H2.out k (by rw [← HL.out]; exact hlt)
        subst e1 e2
        by_cases he : gi l k = gi m k
        · have HE := Lib.hid he
          have hne : (gi l k != gi m k) = false := by rw [he]; simp
          clear he
          go_wp2
          go_quiet (fail)
          go_wp2
          exact ⟨⟨k + 1, by omega, by go_num, fun j hj => (by rcases Nat.lt_succ_iff_lt_or_eq.1 hj with h | h; exact hsame.out j h; rw [h]; exact HE.out), _, rfl⟩, by simp [intOf]; omega⟩
        · have HE := Lib.hid he
          have hne : (gi l k != gi m k) = true := by simpa using he
          clear he
          go_wp2
          go_quiet (fail)
          go_wp2
          go_ret
          exact ⟨ret_bool (HF.out false ⟨fun h => (by cases h), fun h => absurd (by rw [h]) HE.out⟩), _, World.drewN_drewN ..⟩
      · have hk2 : k = l.length := by omega
        subst hk2
        go_wp2
        go_ret
        exact ⟨ret_bool (HF.out true ⟨fun _ => HA.out hsame.out, fun _ => rfl⟩), _, rfl⟩
  · have HF := Lib.hid (hfin false ⟨fun h => (by cases h), fun h => absurd (by rw [h]) hl⟩)
    have hne : ((l.length : Int) != (m.length : Int)) = true := by simpa using (by omega : ¬ (l.length : Int) = m.length)
    clear hfin hc1 hc2
    go_enter Try.func14, Try.ntmps14
    go_wp2
    go_ret
    exact ⟨ret_bool HF.out, 0, rfl⟩
end Go.Proofs.Ytnijajjmcdgonaa
