import Derived.Test.YtciopdlmjciieaaRows
import Derived.WalkKit
import Derived.WalkSpells
import Derived.WalkLawsBesides
import Derived.BigQuiet
import Derived.Deep.QuietTactic
import Derived.Lib.Hide
import Derived.IntWalk
import Derived.OwnWalk
import Derived.Laws.OwnMore
import Derived.Laws.CopyOwn
import Derived.Laws.MathBits
import Derived.Deep.Heap
import Derived.Deep.RegionHeld3
import Derived.Deep.RegionLaw
import Derived.Deep.DeepCutAuto
import Derived.StillTailTactics
import Derived.Deep.LoopGhost
import Derived.Deep.RegionWith
import Derived.Handy
import Derived.Maps.AppendAt
import Derived.Deep.OwnRows
namespace Go.Proofs.Ytciopdlmjciieaa
open Go.RowKit
set_option linter.unusedVariables false

theorem ret_bool {a b : Bool} (h : a = b) : Ending.returned (.bool a) = .returned (.bool b) := by rw [h]
theorem ret_int {k : IntKind} {a b : Int} (h : a = b) : Ending.returned (.int k a) = .returned (.int k b) := by rw [h]
def between (x a b : Int) : Bool := decide (a ≤ x ∧ x ≤ b)
set_option maxHeartbeats 400000 in
theorem between_any (x a b : Int) (w : World) :
    Calls Try.prog 27 #[.int .i64 x, .int .i64 a, .int .i64 b] w fun e w' => e = .returned (.bool (between x a b)) ∧ w' = w := by
  have hs : ∀ r, decide (a ≤ x ∧ x ≤ b) = r → r = between x a b := fun r h => by rw [← h]; rfl
  by_cases h1 : a ≤ x
  · by_cases h2 : x ≤ b
    · have H := Lib.hid (hs true (by simp; omega)); clear hs
      go_enter Try.func27, Try.ntmps27
      go_wp2
      go_ret
      exact ⟨ret_bool H.out, rfl⟩
    · have H := Lib.hid (hs false (by simp; omega)); clear hs
      go_enter Try.func27, Try.ntmps27
      go_wp2
      go_ret
      exact ⟨ret_bool H.out, rfl⟩
  · have H := Lib.hid (hs false (by simp; omega)); clear hs
    go_enter Try.func27, Try.ntmps27
    go_wp2
    go_ret
    exact ⟨ret_bool H.out, rfl⟩
theorem between_yes {x a b : Int} (w : World) (h : a ≤ x ∧ x ≤ b) :
    Calls Try.prog 27 #[.int .i64 x, .int .i64 a, .int .i64 b] w fun e w' => e = .returned (.bool true) ∧ w' = w := by
  refine (between_any x a b w).mono ?_
  rintro e w' ⟨rfl, rfl⟩
  exact ⟨by unfold between; rw [decide_eq_true h], rfl⟩
theorem between_no {x a b : Int} (w : World) (h : ¬ (a ≤ x ∧ x ≤ b)) :
    Calls Try.prog 27 #[.int .i64 x, .int .i64 a, .int .i64 b] w fun e w' => e = .returned (.bool false) ∧ w' = w := by
  refine (between_any x a b w).mono ?_
  rintro e w' ⟨rfl, rfl⟩
  exact ⟨by unfold between; rw [decide_eq_false h], rfl⟩
theorem infoInt : (Try.prog.info? 3).map (fun i => (i.zero, i.size, i.bytes)) = some (some (.int .i64 0), 1, 8) := by kernel_rfl
/-- What a slice of numbers of a call's own is. -/
abbrev ownInts (w : World) (B : Nat) (v : Value) (l : List Int) : Prop := w.ownsRow B 3 1 v l.length (l.map (Value.int .i64))
theorem hsz0 {B : Nat} {wr : World} {v : Value} (hD : wr.cell? ⟨B, 0, none⟩ = some v) : B + 1 ≤ wr.heap.size := by
  unfold World.cell? at hD
  split at hD
  · rename_i h
    have := (Array.getElem?_eq_some_iff.1 h).1
    exact this
  · cases hD
/-- The number at a place of a list. -/
def gi (l : List Int) (j : Nat) : Int := l[j]?.getD 0
/-- The cells from an address on read as these numbers. -/
def IntsCells (w : World) (a : Option Addr) (l : List Int) : Prop :=
  ∀ j, j < l.length → ∃ b off, a = some ⟨b, off, none⟩ ∧ w.cell? ⟨b, off + j, none⟩ = some (.int .i64 (gi l j))
/-- A slice that reads as these numbers. -/
def IntsAt (w : World) (v : Value) (l : List Int) : Prop :=
  ∃ a cap, v = .slice a l.length cap ∧ l.length ≤ maxLen ∧ IntsCells w a l
theorem cell_lt {w : World} {a : Addr} {v : Value} (h : w.cell? a = some v) : a.block < w.heap.size := by
  unfold World.cell? at h
  split at h
  · rename_i h'
    exact (Array.getElem?_eq_some_iff.1 h').1
  · cases h
theorem Below.keeps {B : Nat} {w w' : World} (hb : Below B w w') {a : Addr} {v : Value} (h : w.cell? a = some v) (hB : w.heap.size ≤ B) : w'.cell? a = some v :=
  (hb.cell (p := a) (Nat.lt_of_lt_of_le (cell_lt h) hB)).trans h
theorem IntsCells.later {w w' : World} {a : Option Addr} {l : List Int} (h : IntsCells w a l) (hb : Below w.heap.size w w') : IntsCells w' a l := by
  intro j hj
  obtain ⟨b, off, e, h⟩ := h j hj
  exact ⟨b, off, e, Below.keeps hb h (Nat.le_refl _)⟩
theorem IntsAt.later {w w' : World} {v : Value} {l : List Int} (h : IntsAt w v l) (hb : Below w.heap.size w w') : IntsAt w' v l := by
  obtain ⟨a, cap, rfl, hm, hc⟩ := h
  exact ⟨a, cap, rfl, hm, hc.later hb⟩
theorem IntsAt.of_own {w : World} {B : Nat} {v : Value} {l : List Int} (h : ownInts w B v l) : IntsAt w v l := by
  obtain ⟨hlen, h⟩ := h
  rcases h with ⟨rfl, h0⟩ | ⟨g, cap, cur, rfl, hB, hg, hn, hm, hs, ht⟩
  · exact ⟨none, 0, by rw [h0], by rw [h0]; exact Nat.zero_le _, fun j hj => by omega⟩
  · refine ⟨_, _, rfl, Nat.le_trans hn hm, fun j hj => ⟨g, 0, rfl, ?_⟩⟩
    have h2 : (cur.toList.take (l.length * 1))[j]? = (l.map (Value.int .i64))[j]? := by rw [ht]
    simp only [Nat.mul_one] at h2
    rw [List.getElem?_take_of_lt hj] at h2
    have h3 : cur[j]? = some (.int .i64 (gi l j)) := by
      rw [← Array.getElem?_toList, h2]; simp [gi, List.getElem?_map, List.getElem?_eq_getElem hj]
    unfold World.cell?
    simp only [hg, Nat.zero_add]
    simpa using h3
set_option maxHeartbeats 1600000 in
set_option maxRecDepth 100000 in
theorem equalInts_any (x y : Value) (l m : List Int) (w : World) (hx : IntsAt w x l) (hy : IntsAt w y m) :
    Calls Try.prog 24 #[x, y] w fun e w' => e = .returned (.bool (decide (l = m))) ∧ ∃ n, w' = w.drewN n := by
  obtain ⟨a, ca, rfl, hm1, hc1⟩ := hx
  obtain ⟨b, cb, rfl, hm2, hc2⟩ := hy
  unfold maxLen at hm1 hm2
  have hfin : ∀ r : Bool, (r = true ↔ l = m) → r = decide (l = m) := fun r h => by cases r <;> simp_all
  by_cases hl : l.length = m.length
  · have HL := Lib.hid hl
    have hall : (∀ j, j < l.length → gi l j = gi m j) → l = m := fun h => List.ext_getElem hl fun j h1 h2 => by
      have := h j h1
      simpa [gi, List.getElem?_eq_getElem h1, List.getElem?_eq_getElem h2] using this
    rw [← hl] at hm2 ⊢
    have HA := Lib.hid hall; have HF := Lib.hid hfin; have H1 := Lib.hid hc1; have H2 := Lib.hid hc2
    clear hall hfin hc1 hc2 hl
    go_enter Try.func24, Try.ntmps24
    go_wp2
    go_loopw [5] (fun i wr => ∃ k : Nat, k ≤ l.length ∧ i = .int .i64 k ∧ Hid (∀ j, j < k → gi l j = gi m j) ∧ ∃ n, wr = w.drewN n)
      (fun i _ => l.length - (intOf i).toNat)
    case atStart => exact ⟨0, Nat.zero_le _, rfl, fun j hj => by omega, 0, rfl⟩
    case round =>
      obtain ⟨k, hk, rfl, hsame, n, rfl⟩ := hrel
      by_cases hlt : k < l.length
      · obtain ⟨b1, o1, e1, c1⟩ := H1.out k hlt
        obtain ⟨b2, o2, e2, c2⟩ := H2.out k (by rw [← HL.out]; exact hlt)
        subst e1 e2
        by_cases he : gi l k = gi m k
        · have HE := Lib.hid he
          have hne : (gi l k != gi m k) = false := by rw [he]; simp
          clear he
          go_wp2
          go_quiet (fail)
          go_wp2
          exact ⟨⟨k + 1, by omega, by go_num, fun j hj => (by rcases Nat.lt_succ_iff_lt_or_eq.1 hj with h | h; exact hsame.out j h; rw [h]; exact HE.out), _, rfl⟩, by simp [intOf]; omega⟩
        · have HE := Lib.hid he
          have hne : (gi l k != gi m k) = true := by simpa using he
          clear he
          go_wp2
          go_quiet (fail)
          go_wp2
          go_ret
          exact ⟨ret_bool (HF.out false ⟨fun h => (by cases h), fun h => absurd (by rw [h]) HE.out⟩), _, World.drewN_drewN ..⟩
      · have hk2 : k = l.length := by omega
        subst hk2
        go_wp2
        go_ret
        exact ⟨ret_bool (HF.out true ⟨fun _ => HA.out hsame.out, fun _ => rfl⟩), _, rfl⟩
  · have HF := Lib.hid (hfin false ⟨fun h => (by cases h), fun h => absurd (by rw [h]) hl⟩)
    have hne : ((l.length : Int) != (m.length : Int)) = true := by simpa using (by omega : ¬ (l.length : Int) = m.length)
    clear hfin hc1 hc2
    go_enter Try.func24, Try.ntmps24
    go_wp2
    go_ret
    exact ⟨ret_bool HF.out, 0, rfl⟩
theorem Below.keepsF {B : Nat} {w w' : World} (hb : Below B w w') {a : Addr} (h : w.frozen? a = false) (hB : a.block < B) : w'.frozen? a = false := (hb.frozen (p := a) hB).trans h
theorem ownsRow_later {w w' : World} {base : Nat} {e : TypeId} {size : Nat} {v : Value} {n : Nat} {xs : List Value} (h : w.ownsRow base e size v n xs) (hb : Below w.heap.size w w') : w'.ownsRow base e size v n xs := by
  obtain ⟨h0, h⟩ := h
  refine ⟨h0, ?_⟩
  rcases h with h | ⟨g, cap, cur, h1, h2, h3, h4⟩
  · exact .inl h
  · exact .inr ⟨g, cap, cur, h1, h2, (hb.block g (Array.getElem?_eq_some_iff.1 h3).1).trans h3, h4⟩
theorem own_form {w : World} {B : Nat} {v : Value} {l : List Int} (h : ownInts w B v l) : ∃ a c, v = .slice a l.length c := by
  obtain ⟨_, h⟩ := h
  rcases h with ⟨h, h0⟩ | ⟨g, cap, cur, h, _⟩
  · exact ⟨none, 0, by rw [h, h0]⟩
  · exact ⟨_, _, h⟩
theorem own_mono {w : World} {B B' : Nat} {v : Value} {l : List Int} (h : ownInts w B v l) (hB : B' ≤ B) : ownInts w B' v l := by
  obtain ⟨h0, h⟩ := h
  refine ⟨h0, ?_⟩
  rcases h with h | ⟨g, cap, cur, h1, h2, h3⟩
  · exact .inl h
  · exact .inr ⟨g, cap, cur, h1, by omega, h3⟩
theorem own_cells {w : World} {B : Nat} {a : Option Addr} {n c : Nat} {l : List Int} (h : ownInts w B (.slice a n c) l) : n = l.length ∧ IntsCells w a l ∧ l.length ≤ maxLen := by
  obtain ⟨a', c', e, hm, hc⟩ := IntsAt.of_own h
  injection e with e1 e2 e3
  subst e1
  exact ⟨e2, hc, hm⟩
theorem drop_at {l : List Int} {j : Nat} (h : j < l.length) : l.drop j = gi l j :: l.drop (j + 1) := by
  rw [List.drop_eq_getElem_cons h]; simp [gi, List.getElem?_eq_getElem h]
theorem gi_mem {l : List Int} {j : Nat} (h : j < l.length) : gi l j ∈ l := by
  simp [gi, List.getElem?_eq_getElem h]
theorem mem_gi {l : List Int} {x : Int} : x ∈ l ↔ ∃ k, k < l.length ∧ gi l k = x := by
  constructor
  · intro h
    obtain ⟨k, hk, rfl⟩ := List.getElem_of_mem h
    exact ⟨k, hk, by simp [gi, List.getElem?_eq_getElem hk]⟩
  · rintro ⟨k, hk, rfl⟩
    exact gi_mem hk
theorem row_form {w : World} {B : Nat} {t : TypeId} {k : Nat} {v : Value} {n : Nat} {l : List Value} (h : w.ownsRow B t k v n l) : ∃ a c, v = .slice a n c := by
  rcases h.2 with ⟨rfl, rfl⟩ | ⟨g, cap, cur, rfl, -⟩
  · exact ⟨_, _, rfl⟩
  · exact ⟨_, _, rfl⟩
theorem own_ne {w : World} {B : Nat} {v : Value} {l : List Int} (h : ownInts w B v l) (k : Nat) (hk : k < B ∨ w.heap.size ≤ k) : v.ownBlock = none ∨ v.ownBlock ≠ some k := by
  refine .inr fun e => ?_
  have := h.lt k e
  omega
theorem row_mono {w : World} {B B' : Nat} {t : TypeId} {s : Nat} {v : Value} {n : Nat} {xs : List Value} (h : w.ownsRow B t s v n xs) (hB : B' ≤ B) : w.ownsRow B' t s v n xs := by
  obtain ⟨h0, h | ⟨g, cap, cur, h1, h2, h3⟩⟩ := h
  · exact ⟨h0, .inl h⟩
  · exact ⟨h0, .inr ⟨g, cap, cur, h1, Nat.le_trans hB h2, h3⟩⟩
theorem row_set {w : World} {B : Nat} {t : TypeId} {s : Nat} {v : Value} {n : Nat} {xs : List Value} (h : w.ownsRow B t s v n xs) {a : Addr} (ha : v.ownBlock = none ∨ v.ownBlock ≠ some a.block) (u : Value) : (w.setCell a u).ownsRow B t s v n xs := by
  obtain ⟨h0, h | ⟨g, cap, cur, h1, h2, h3, h4⟩⟩ := h
  · exact ⟨h0, .inl h⟩
  · refine ⟨h0, .inr ⟨g, cap, cur, h1, h2, ?_, h4⟩⟩
    have hne : g ≠ a.block := by
      rcases ha with ha | ha
      · rw [h1] at ha; simp [Value.ownBlock] at ha
      · rw [h1] at ha; simp [Value.ownBlock] at ha; exact ha
    rw [Deep.blk_setCell_other w a u g hne]
    exact h3
theorem row_cell {w : World} {B : Nat} {t : TypeId} {g n c : Nat} {xs : List Value} (h : w.ownsRow B t 1 (.slice (some ⟨g, 0, none⟩) n c) n xs) {j : Nat} {u : Value} (hj : xs[j]? = some u) : w.cell? ⟨g, j, none⟩ = some u := by
  obtain ⟨h0, h | ⟨g', cap, cur, h1, h2, h3, h4, h5, h6, h7⟩⟩ := h
  · simp at h
  · injection h1 with h1
    injection h1 with h1
    injection h1 with h1
    subst h1
    have hlt := (List.getElem?_eq_some_iff.1 hj).1
    rw [← h7, List.getElem?_take_of_lt (by rw [h0] at hlt; simpa using hlt)] at hj
    have h8 : cur[j]? = some u := by rw [← Array.getElem?_toList]; exact hj
    unfold World.cell?
    simp only [h3]
    simpa using h8
def gb (l : List Bool) (j : Nat) : Bool := l[j]?.getD false
theorem gb_set (l : List Bool) (j i : Nat) (hj : j < l.length) : gb (l.set j true) i = (gb l i || decide (i = j)) := by
  unfold gb
  by_cases h : i = j
  · subst h; simp [hj]
  · rw [List.getElem?_set_ne (by omega)]; simp [h]
theorem row_apart {w : World} {B B' : Nat} {t t' : TypeId} {s s' : Nat} {v v' : Value} {n n' : Nat} {xs xs' : List Value} (h : w.ownsRow B t s v n xs) (h' : w.ownsRow B' t' s' v' n' xs') (ht : t ≠ t') : v.ownBlock = none ∨ v.ownBlock ≠ v'.ownBlock := by
  rcases h.2 with ⟨rfl, -⟩ | ⟨g, cap, cur, rfl, -, hg, -⟩
  · exact .inl rfl
  · right
    rcases h'.2 with ⟨rfl, -⟩ | ⟨g', cap', cur', rfl, -, hg', -⟩
    · simp [Value.ownBlock]
    · intro he
      simp [Value.ownBlock] at he
      subst he
      rw [hg] at hg'
      injection hg' with hg'
      injection hg' with h1 h2
      exact ht h2
/-- 'make' of a slice, as go_simp leaves it in a region that draws its order. -/
theorem upon_make {P : Program} {w : World} {o : Oper} {a : Act} {K : Act → World → Prop} {Q : Exit → Act → World → Prop} (t : TypeId)
    (base : Nat) (e : TypeId) (i : TypeInfo) (z : Value) (size : Nat) (h1 : P.underlying t = some (.slice e)) (h2 : P.info? e = some i) (h3 : i.zero = some z) (h4 : i.size = size)
    (kl kc : IntKind) (n : Nat) (b2 : i.bytes * n ≤ 281474976710656) (b3 : n ≤ maxLen) (b4 : base ≤ w.heap.size)
    (hK : ∀ w', w'.ownsRow base e size (.slice (some ⟨w.heap.size, 0, none⟩) n n) n (madeCells z.cells (n * size)).toList → w.grownBy w' none → K (a.put o.dst (.slice (some ⟨w.heap.size, 0, none⟩) n n)) w') :
    Oper.upon P o a K Q (((Instr.makeSlice t (.int kl (n : Int)) (.int kc (n : Int))).run P w).andThen fun v w' => .ok (.value v) w') := by
  obtain ⟨w', hrun, r1, r2⟩ := run_make_full (P := P) w base t e i z size h1 h2 h3 h4 kl kc n b2 b3 b4
  rw [hrun]
  exact hK w' r1 r2
theorem alloc_size (w : World) (o : Obj) : (w.alloc o).heap.size = w.heap.size + 1 := by simp
theorem drew_size (w : World) : w.drew.heap.size = w.heap.size := rfl
theorem own_zero {w : World} {B n : Nat} {v : Value} (h : w.ownsRow B 3 1 v n (madeCells (Value.cells (.int .i64 0)) (n * 1)).toList) : ownInts w B v (List.replicate n 0) := by
  unfold ownInts
  rw [List.length_replicate, List.map_replicate]
  have : (madeCells (Value.cells (.int .i64 0)) (n * 1)).toList = List.replicate n (Value.int .i64 0) := by
    show (madeCells #[Value.int .i64 0] (n * 1)).toList = _
    rw [toList_madeCells_one, Nat.mul_one]
  rw [this] at h
  exact h
theorem own_other {w : World} {B g n c : Nat} {l : List Int} (h : ownInts w B (.slice (some ⟨g, 0, none⟩) n c) l) {a : Addr} (ha : g ≠ a.block) (u : Value) : ownInts (w.setCell a u) B (.slice (some ⟨g, 0, none⟩) n c) l := by
  obtain ⟨h0, h⟩ := h
  refine ⟨h0, ?_⟩
  rcases h with h | ⟨g', cap, cur, h1, h2, h3, h4⟩
  · exact .inl h
  · refine .inr ⟨g', cap, cur, h1, h2, ?_, h4⟩
    injection h1 with h1
    injection h1 with h1
    injection h1 with h1
    subst h1
    rw [Deep.blk_setCell_other w a u g ha]
    exact h3
theorem own_ge {w : World} {B g n c : Nat} {l : List Int} (h : ownInts w B (.slice (some ⟨g, 0, none⟩) n c) l) : B ≤ g ∧ g < w.heap.size := World.ownsRow.lt h g rfl
theorem own_at {w : World} {B g n c : Nat} {l : List Int} (h : ownInts w B (.slice (some ⟨g, 0, none⟩) n c) l) (j : Nat) (hj : j < l.length) : w.cell? ⟨g, j, none⟩ = some (.int .i64 (gi l j)) := by
  obtain ⟨_, hc, _⟩ := own_cells h
  obtain ⟨b, o, e, hh⟩ := hc j hj
  injection e with e
  injection e with e1 e2 e3
  subst e1 e2
  simpa using hh
theorem own_ptr {w : World} {B : Nat} {v : Value} {l : List Int} (h : ownInts w B v l) (hl : 0 < l.length) : ∃ g c, v = .slice (some ⟨g, 0, none⟩) l.length c ∧ B ≤ g ∧ g < w.heap.size := by
  obtain ⟨_, h⟩ := h
  rcases h with ⟨h, h0⟩ | ⟨g, cap, cur, h, hB, hg, _⟩
  · omega
  · exact ⟨g, cap, h, hB, (Array.getElem?_eq_some_iff.1 hg).1⟩
theorem own_frozen {w : World} {B g n c : Nat} {l : List Int} (h : ownInts w B (.slice (some ⟨g, 0, none⟩) n c) l) (j : Nat) : w.frozen? ⟨g, j, none⟩ = false := by
  obtain ⟨e, _, _⟩ := own_cells h
  subst e
  exact World.ownsRow.frozenAt h j
theorem own_store' {w : World} {B g n c : Nat} {l : List Int} (h : ownInts w B (.slice (some ⟨g, 0, none⟩) n c) l) (j : Nat) (u : Int) : ownInts (w.setCell ⟨g, j, none⟩ (.int .i64 u)) B (.slice (some ⟨g, 0, none⟩) n c) (l.set j u) := by
  obtain ⟨e, _, _⟩ := own_cells h
  subst e
  have := (World.ownsRow.stored h j (.int .i64 u)).1
  unfold ownInts
  rw [List.length_set, List.map_set]
  exact this
theorem own_under {w w' : World} {B B' g n c : Nat} {l : List Int} (h : ownInts w B (.slice (some ⟨g, 0, none⟩) n c) l) (hb : Below B' w w') (hg : g < B') : ownInts w' B (.slice (some ⟨g, 0, none⟩) n c) l := by
  obtain ⟨h0, h⟩ := h
  refine ⟨h0, ?_⟩
  rcases h with h | ⟨g', cap, cur, h1, h2, h3, h4⟩
  · exact .inl h
  · refine .inr ⟨g', cap, cur, h1, h2, ?_, h4⟩
    injection h1 with h1
    injection h1 with h1
    injection h1 with h1
    subst h1
    exact (hb.block g hg).trans h3
theorem own_store {w : World} {B g c : Nat} {l : List Int} (h : ownInts w B (.slice (some ⟨g, 0, none⟩) l.length c) l) (j : Nat) (u : Int) : ownInts (w.setCell ⟨g, j, none⟩ (.int .i64 u)) B (.slice (some ⟨g, 0, none⟩) (l.set j u).length c) (l.set j u) := by
  have := (World.ownsRow.stored h j (.int .i64 u)).1
  unfold ownInts
  rw [List.length_set, List.map_set]
  exact this
theorem gi_ext {l m : List Int} (hl : l.length = m.length) (h : ∀ s, s < l.length → gi l s = gi m s) : l = m := by
  apply List.ext_getElem hl
  intro i h1 h2
  have := h i h1
  unfold gi at this
  rw [List.getElem?_eq_getElem h1, List.getElem?_eq_getElem h2] at this
  exact this
theorem gi_set_same {l : List Int} {j : Nat} {u : Int} (h : j < l.length) : gi (l.set j u) j = u := by unfold gi; simp [h]
theorem gi_set_other {l : List Int} {i j : Nat} {u : Int} (h : i ≠ j) : gi (l.set j u) i = gi l i := by unfold gi; rw [List.getElem?_set_ne (by omega)]
theorem gi_app_lt {l m : List Int} {j : Nat} (h : j < l.length) : gi (l ++ m) j = gi l j := by unfold gi; rw [List.getElem?_append_left h]
theorem gi_app_at {l : List Int} {x : Int} : gi (l ++ [x]) l.length = x := by unfold gi; simp
theorem gi_mem' {l : List Int} {j : Nat} (h : j < l.length) : gi l j ∈ l := mem_gi.2 ⟨j, h, rfl⟩
theorem w64 {x : Int} (h0 : 0 ≤ x) (h1 : x ≤ 1000000) : IntKind.u64.wrap x = x := by unfold IntKind.wrap; simp [IntKind.bits, IntKind.signed]; omega
set_option maxHeartbeats 400000 in
theorem mul1n (n : Nat) (hn : n ≤ 100000) (w : World) : Calls Try.prog 69 #[.int .u64 1, .int .u64 n] w fun e w' => e = .returned (.tuple #[.int .u64 0, .int .u64 n]) ∧ w = w' := by
  have h1 : bits BinOp.and IntKind.u64 1 4294967295 = 1 := by kernel_rfl
  have h2 : bits BinOp.and IntKind.u64 (n : Int) 4294967295 = n := by rw [and_low32 _ (by omega) (by omega)]; omega
  have h3 : (n : Int) / 4294967296 = 0 := by omega
  have h4 : IntKind.u64.wrap (n : Int) = n := w64 (by omega) (by omega)
  go_enter Try.func69, Try.ntmps69
  go_wp2
  go_ret2
  exact ⟨by kernel_rfl, rfl⟩
/-- A row of which the first k are -1, the others 0. -/
def fil (k n : Nat) : List Value := List.replicate k (.int .i64 (-1)) ++ List.replicate (n - k) (.int .i64 0)
theorem fil_len {k n : Nat} (h : k ≤ n) : (fil k n).length = n := by simp [fil]; omega
theorem fil_splice {k n m : Nat} (h : k + m ≤ n) : splice (fil k n) k (List.replicate m (.int .i64 (-1))) = fil (k + m) n := by
  unfold splice fil
  rw [List.take_append_of_le_length (by simp), List.take_of_length_le (by simp), List.drop_append]
  rw [List.drop_eq_nil_of_le (by simp)]
  simp only [List.length_replicate, List.nil_append, List.drop_replicate]
  rw [← List.append_assoc, List.replicate_append_replicate]
  congr 2
  omega
theorem fil_get {k n j : Nat} (h : j < k) : (fil k n)[j]? = some (.int .i64 (-1)) := by
  unfold fil
  rw [List.getElem?_append_left (by simpa using h)]
  simp [h]
theorem row_at {w : World} {g : Nat} {L : List Value} {t : TypeId} (h : w.heap[g]? = some (.cells L.toArray t (0, 0))) {j : Nat} {v : Value} (hj : L[j]? = some v) : w.cell? ⟨g, j, none⟩ = some v := by
  simp [World.cell?, h, hj]
set_option maxHeartbeats 2000000 in
set_option maxRecDepth 100000 in
theorem repeat_any (n : Nat) (hn : n ≤ 100000) (b : Nat) (w : World) (hc : w.cell? ⟨b, 0, none⟩ = some (.int .i64 (-1))) :
    Calls Try.prog 52 #[.slice (some ⟨b, 0, none⟩) 1 1, .int .i64 n] w fun e w' => ∃ go, e = .returned (.slice (some ⟨go, 0, none⟩) n n) ∧ w.heap.size ≤ go ∧ ownInts w' w.heap.size (.slice (some ⟨go, 0, none⟩) n n) (List.replicate n (-1)) ∧ Below w.heap.size w w' := by
  obtain ⟨i0, hi, hz0, hz1, hz2⟩ := info_parts infoInt
  have hsz1 : (Try.prog.info? 3).map (·.size) = some 1 := by rw [hi]; simp [hz1]
  have hwu : IntKind.u64.wrap (n : Int) = n := w64 (by omega) (by omega)
  have hwi : IntKind.i64.wrap (n : Int) = n := IntWalk.i64_in _ (by omega)
  have hgt : decide ((9223372036854775807 : Int) < (n : Int)) = false := decide_eq_false (by omega)
  go_enter Try.func52, Try.ntmps52
  go_wp2_with (first | (at_make; refine wpList_make_full w rfl _ _ 22 rfl w.heap.size 3 i0 (.int .i64 0) 1 Try.underlying22 hi hz0 hz1 .i64 .i64 n n n rfl rfl rfl rfl (by rw [hz2]; omega) (by unfold maxLen; omega) (Nat.le_refl _) ?_) | (go_at_call 69; refine (mul1n n hn _).mono ?_; rintro e w' ⟨rfl, rfl⟩))
  intro w1 hown hgrow
  have hrow : w1.heap[w.heap.size]? = some (.cells (fil 0 n).toArray 3 (0, 0)) := by
    obtain ⟨_, h⟩ := hown
    rcases h with ⟨h, _⟩ | ⟨g, cap, cur, h1, h2, h3, h4, h5, h6, h7⟩
    · cases h
    · injection h1 with h1 h8 h9
      injection h1 with h1
      injection h1 with h1
      subst h1 h9
      rw [h3]
      have : cur.toList = fil 0 n := by
        rw [List.take_of_length_le (by rw [Array.length_toList, h6]; exact Nat.le_refl _)] at h7
        rw [h7]
        show (madeCells #[Value.int .i64 0] n).toList = _
        rw [toList_madeCells_one]
        simp [fil]
      rw [← this]
  have hb1 : Below w.heap.size w w1 := (Below.refl _ _).grown hgrow (Nat.le_refl _) (fun j hj => by cases hj)
  have hc1 : w1.cell? ⟨b, 0, none⟩ = some (.int .i64 (-1)) := Below.keeps hb1 hc (Nat.le_refl _)
  clear hown hgrow hgt
  obtain ⟨m, hm⟩ : ∃ m, m = Nat.min 1 n := ⟨_, rfl⟩
  have hm' : m ≤ n ∧ m ≤ 1 ∧ (0 < n → m = 1) := by
    have : m = min 1 n := hm
    omega
  have hfs : splice (fil 0 n) 0 (List.replicate m (.int .i64 (-1))) = fil (0 + m) n := fil_splice (by omega)
  have HFS := Lib.hid hfs
  have HM := Lib.hid hm
  have hfl := fil_len (k := 0) (n := n) (by omega)
  have HFL := Lib.hid hfl
  have HM' := Lib.hid hm'
  clear hfs hm hfl hm'
  go_wp2_with (with_reducible refine wpList_copy_splice rfl _ _ 22 22 rfl 3 Try.underlying22 hsz1 (some ⟨w.heap.size, 0, none⟩) (some ⟨b, 0, none⟩) n n 1 1 rfl rfl w.heap.size 0 (fil 0 n) 3 hrow (List.replicate m (.int .i64 (-1))) (by rw [List.length_replicate]; exact HM.out) ?d1 (by rw [List.length_replicate, HFL.out]; have := HM'.out; omega) ?d2 w.heap.size w hb1 (Nat.le_refl _) ?d3)
  case d1 =>
    intro hp j v hj
    have h1 := (List.getElem?_eq_some_iff.1 hj).1
    rw [List.length_replicate] at h1
    have hj0 : j = 0 := by have := HM'.out; omega
    subst hj0
    have hv := List.eq_of_mem_replicate (List.mem_of_getElem? hj)
    subst hv
    simpa [Addr.add] using hc1
  case d2 => intro v hv; have := List.eq_of_mem_replicate hv; subst this; rfl
  case d3 =>
    intro w2 hr2 hb2
    have HR2 : Hid (w2.heap[w.heap.size]? = some (.cells (fil m n).toArray 3 (0, 0))) := by have h := hr2.out; rw [HFS.out] at h; unfold Hid; simpa using h
    have HB2 := Lib.hid hb2
    clear hr2 hrow hc1 hb1 hb2
    go_wp2_with fail
    go_loopw [8] (fun s wr => ∃ k : Nat, k ≤ n ∧ (0 < n → 0 < k) ∧ s = .int .i64 k ∧ Hid (wr.heap[w.heap.size]? = some (.cells (fil k n).toArray 3 (0, 0))) ∧ Below w.heap.size w wr) (fun s _ => n - (intOf s).toNat)
    case atStart => exact ⟨m, by have := HM'.out; omega, by have := HM'.out; omega, rfl, HR2, HB2.out⟩
    case round =>
      obtain ⟨k, hk, hk0, rfl, HR, hb⟩ := hrel
      clear HR2 HB2 HM HM' HFS
      by_cases hlt : k < n
      · obtain ⟨q, hq⟩ : ∃ q, q = Nat.min k (n - k) := ⟨_, rfl⟩
        have hq' : k + q ≤ n ∧ q ≤ k ∧ 0 < q := by
          have : q = min k (n - k) := hq
          have := hk0 (by omega)
          omega
        have HQ := Lib.hid hq
        have HQ' := Lib.hid hq'
        have HW : Hid (IntKind.i64.wrap ((k : Int) + (q : Int)) = ((k + q : Nat) : Int)) := by
          unfold Hid; rw [IntWalk.i64_in _ (by omega)]; omega
        have HB := Lib.hid hb
        clear hq hq' hb
        have hk1 : (0 : Int) ≤ (k : Int) := by omega
        have hk2 : (k : Int) ≤ (n : Int) := by omega
        have hk3 : (k : Int) < (n : Int) := by omega
        have hnk : ¬ n = k := by omega
        have HE3 : Hid ((List.replicate q (Value.int .i64 (-1))).length = Nat.min k (n - k)) := by unfold Hid; rw [List.length_replicate]; exact HQ.out
        have HE4 : Hid (∀ j v, (List.replicate q (Value.int .i64 (-1)))[j]? = some v → wr.drew.cell? ((⟨w.heap.size, 0, none⟩ : Addr).add j) = some v) := by
          intro j v hj
          have h1 := (List.getElem?_eq_some_iff.1 hj).1
          rw [List.length_replicate] at h1
          have hv := List.eq_of_mem_replicate (List.mem_of_getElem? hj)
          subst hv
          show wr.cell? _ = _
          have := row_at HR.out (fil_get (k := k) (n := n) (j := j) (by have := HQ'.out; omega))
          by_cases h0 : j = 0
          · subst h0; simpa [Addr.add] using this
          · simpa [Addr.add, h0] using this
        have HE5 : Hid (k + (List.replicate q (Value.int .i64 (-1))).length ≤ (fil k n).length) := by unfold Hid; rw [List.length_replicate, fil_len (by omega)]; exact HQ'.out.1
        have HE6 : Hid (∀ v ∈ List.replicate q (Value.int .i64 (-1)), v.oneCell' = true) := fun v hv => by have := List.eq_of_mem_replicate hv; subst this; rfl
        have HRd : Hid (wr.drew.heap[w.heap.size]? = some (.cells (fil k n).toArray 3 (0, 0))) := HR.out
        go_wp2_with fail
        go_region_law ((with_reducible refine step_copy_splice rfl (.tmp 41) (.tmp 44) 22 22 rfl 3 Try.underlying22 hsz1 (some ⟨w.heap.size, k, none⟩) (some ⟨w.heap.size, 0, none⟩) (n - k) (n - k) k n (by go_simp) (by go_simp) w.heap.size k (fil k n) 3 HRd.out (List.replicate q (.int .i64 (-1))) HE3.out (fun _ => ⟨rfl, _, rfl, HE4.out⟩) HE5.out HE6.out w.heap.size w (HB.out.drew) (Nat.le_refl _) ?_; intro w3 hr3 hb3))
        have HR3 : Hid (w3.heap[w.heap.size]? = some (.cells (fil (k + q) n).toArray 3 (0, 0))) := by have h := hr3.out; rw [fil_splice HQ'.out.1] at h; unfold Hid; exact h
        clear hr3 HE3 HE4 HE5 HE6 HRd
        go_simp
        go_roundw
        case rel => (repeat apply Exists.intro); exact ⟨⟨k + q, by have := HQ'.out; omega, by omega, by rw [HW.out], HR3, hb3⟩, rfl⟩
        case measure => simp [intOf]; rw [HW.out]; have := HQ'.out; omega
      · have : k = n := by omega
        subst this
        go_wp2
        go_ret
        refine ⟨_, rfl, Nat.le_refl _, ?_, hb⟩
        unfold ownInts
        rw [List.length_replicate, List.map_replicate]
        exact ⟨by simp, .inr ⟨w.heap.size, k, _, rfl, Nat.le_refl _, HR.out, Nat.le_refl _, by unfold maxLen; omega, by simp [fil_len], by simp [fil]⟩⟩
set_option maxHeartbeats 800000 in
set_option maxRecDepth 100000 in
theorem clone_any (l : List Int) (v : Value) (w : World) (hl : IntsAt w v l) (hr : l.length ≤ 100000) :
    Calls Try.prog 58 #[v] w fun e w' => ∃ v', e = .returned v' ∧ ownInts w' w.heap.size v' l ∧ Below w.heap.size w w' := by
  obtain ⟨i0, hi, hz0, hz1, hz2⟩ := info_parts infoInt
  obtain ⟨a, c, rfl, hm, hc⟩ := hl
  rcases a with _ | a
  · have h0 : l.length = 0 := by
      rcases Nat.eq_zero_or_pos l.length with h | h
      · exact h
      · obtain ⟨_, _, e, _⟩ := hc 0 h; cases e
    have hl0 : l = [] := List.length_eq_zero_iff.1 h0
    subst hl0
    have he := Lib.run_eql_slice_nil (P := Try.prog) w 22 3 none 0 c 0 0 Try.underlying22
    go_enter Try.func58, Try.ntmps58
    go_wp2
    go_ret
    exact ⟨_, rfl, World.ownsRow_nil _ _ _ _, Below.refl _ _⟩
  · have he := Lib.run_eql_slice_nil (P := Try.prog) w 22 3 (some a) l.length c 0 0 Try.underlying22
    have hcell : ∀ j u, (l.map (Value.int .i64))[j]? = some u → w.cell? (a.add j) = some u := by
      intro j u hj
      have hjl : j < l.length := by
        have := (List.getElem?_eq_some_iff.1 hj).1
        simpa using this
      obtain ⟨b, off, e, h⟩ := hc j hjl
      injection e with e
      subst e
      rw [List.getElem?_map, List.getElem?_eq_getElem hjl] at hj
      simp at hj
      subst hj
      have : gi l j = l[j] := by simp [gi, List.getElem?_eq_getElem hjl]
      rw [← this]
      by_cases h0 : j = 0
      · subst h0; simpa [Addr.add] using h
      · simpa [Addr.add, h0] using h
    have HC := Lib.hid hcell; clear hcell hc
    have hown := World.ownsRow_lit (base := w.heap.size) (e := 3) (size := 1) w #[] 0 (Nat.le_refl _) (Nat.zero_le _) rfl
    have hb0 : Below w.heap.size w (w.alloc (.cells #[] 3)) := (Below.refl _ _).alloc (Nat.le_refl _) _
    go_enter Try.func58, Try.ntmps58
    go_wp2_with (at_builtin; refine wpList_append_own _ rfl _ _ 22 rfl w.heap.size 3 i0 (.int .i64 0) 1 8 Try.underlying22 hi hz0 hz1 hz2 rfl (by decide) _ 0 [] rfl hown a l.length c (l.map (Value.int .i64)) rfl ?c0 ?c1 ?c2 ?c3 ?c4 ?c5 ?_)
    case c1 =>
      intro j u hj
      refine Below.keeps hb0 (HC.out j _ ?_) (Nat.le_refl _)
      rw [List.getElem?_map, hj]; rfl
    case c2 => intro u hu; rfl
    case c4 => omega
    · intro v' w' hown' hgrow _
      have R1 : ownInts w' w.heap.size v' l := hown'
      have R2 : Below w.heap.size w w' := hb0.grown hgrow (by simp) (fun j hj => by injection hj with hj; simp at hj; omega)
      clear hown' hgrow hown hb0
      go_wp2
      go_ret
      exact ⟨_, rfl, R1, R2⟩
set_option maxHeartbeats 800000 in
set_option maxRecDepth 100000 in
theorem holds_any (l : List Int) (x : Int) (v : Value) (w : World) (hl : IntsAt w v l) :
    Calls Try.prog 41 #[v, .int .i64 x] w fun e w' => e = .returned (.bool (decide (x ∈ l))) ∧ w' = w := by
  obtain ⟨a, c, rfl, hm, hc⟩ := hl
  unfold maxLen at hm
  have HE : ∀ r : Bool, (r = true ↔ x ∈ l) → Hid (r = decide (x ∈ l)) := fun r h => by unfold Hid; cases r <;> simp_all
  have H := Lib.hid hc; clear hc
  go_enter Try.func41, Try.ntmps41
  go_wp2
  go_loop [5] (fun i => ∃ k : Nat, k ≤ l.length ∧ i = .int .i64 k ∧ Hid (∀ j, j < k → gi l j ≠ x)) (fun i => l.length - (intOf i).toNat)
  case atStart => exact ⟨0, Nat.zero_le _, rfl, fun j hj => by omega⟩
  case round =>
    obtain ⟨k, hk, rfl, hall⟩ := hrel
    by_cases hlt : k < l.length
    · obtain ⟨b, o, e1, c1⟩ := H.out k hlt
      subst e1
      by_cases he : gi l k = x
      · have HX := HE true ⟨fun _ => mem_gi.2 ⟨k, hlt, he⟩, fun _ => rfl⟩
        have heq : (gi l k == x) = true := by simpa using he
        clear he
        go_wp2
        go_ret
        exact ⟨ret_bool HX.out, rfl⟩
      · have HN := Lib.hid he
        have heq : (gi l k == x) = false := by simpa using he
        clear he
        go_wp2
        go_round
        case rel => exact ⟨k + 1, by omega, by go_num, fun j hj => (by rcases Nat.lt_succ_iff_lt_or_eq.1 hj with h | h; exact hall.out j h; rw [h]; exact HN.out)⟩
        case measure => simp [intOf]; omega
    · have hkk : k = l.length := by omega
      subst hkk
      have HX := HE false ⟨fun h => (by cases h), fun h => by obtain ⟨j, hj, e⟩ := mem_gi.1 h; exact absurd e (hall.out j hj)⟩
      go_wp2
      go_ret
      exact ⟨ret_bool HX.out, rfl⟩
/-- What Index says of a number in a list. -/
def IdxSaid (l : List Int) (x r : Int) : Prop := (0 ≤ r ∧ x ∈ l) ∨ (r = -1 ∧ x ∉ l)
set_option maxHeartbeats 800000 in
set_option maxRecDepth 100000 in
theorem index_any (l : List Int) (x : Int) (v : Value) (w : World) (hl : IntsAt w v l) :
    Calls Try.prog 59 #[v, .int .i64 x] w fun e w' => (∃ r, e = .returned (.int .i64 r) ∧ Hid (IdxSaid l x r)) ∧ w' = w := by
  obtain ⟨a, c, rfl, hm, hc⟩ := hl
  unfold maxLen at hm
  have H := Lib.hid hc; clear hc
  go_enter Try.func59, Try.ntmps59
  go_wp2
  go_loop [8] (fun i => ∃ k : Nat, k ≤ l.length ∧ i = .int .i64 k ∧ Hid (∀ j, j < k → gi l j ≠ x)) (fun i => l.length - (intOf i).toNat)
  case atStart => exact ⟨0, Nat.zero_le _, rfl, fun j hj => by omega⟩
  case round =>
    obtain ⟨k, hk, rfl, hall⟩ := hrel
    by_cases hlt : k < l.length
    · obtain ⟨b, o, e1, c1⟩ := H.out k hlt
      subst e1
      by_cases he : gi l k = x
      · have HX : Hid (IdxSaid l x (k : Int)) := .inl ⟨by omega, mem_gi.2 ⟨k, hlt, he⟩⟩
        have heq : (x == gi l k) = true := by simpa using he.symm
        clear he
        go_wp2
        go_ret
        exact ⟨⟨_, rfl, HX⟩, rfl⟩
      · have HN := Lib.hid he
        have heq : (x == gi l k) = false := by simpa using fun h => he h.symm
        clear he
        go_wp2
        go_round
        case rel => exact ⟨k + 1, by omega, by go_num, fun j hj => (by rcases Nat.lt_succ_iff_lt_or_eq.1 hj with h | h; exact hall.out j h; rw [h]; exact HN.out)⟩
        case measure => simp [intOf]; omega
    · have hkk : k = l.length := by omega
      subst hkk
      have HX : Hid (IdxSaid l x (-1)) := .inr ⟨rfl, fun h => by obtain ⟨j, hj, e⟩ := mem_gi.1 h; exact absurd e (hall.out j hj)⟩
      go_wp2
      go_ret
      exact ⟨⟨_, rfl, HX⟩, rfl⟩
set_option maxHeartbeats 400000 in
theorem contains_any (l : List Int) (x : Int) (v : Value) (w : World) (hl : IntsAt w v l) :
    Calls Try.prog 40 #[v, .int .i64 x] w fun e w' => e = .returned (.bool (decide (x ∈ l))) ∧ w' = w := by
  go_enter Try.func40, Try.ntmps40
  go_wp2_with fail
  refine (index_any l x _ _ hl).mono ?_
  rintro e w' ⟨⟨r, rfl, hr⟩, rfl⟩
  rcases hr.out with ⟨h, hx⟩ | ⟨h, hx⟩
  · have HX := Lib.hid (decide_eq_true hx).symm
    have hd : decide (0 ≤ r) = true := decide_eq_true h
    clear hx
    go_wp2
    go_ret
    exact ⟨ret_bool HX.out, rfl⟩
  · have HX := Lib.hid (decide_eq_false hx).symm
    subst h
    clear hx
    go_wp2
    go_ret
    exact ⟨ret_bool HX.out, rfl⟩
set_option maxHeartbeats 800000 in
set_option maxRecDepth 100000 in
theorem ownInts_any (l : List Int) (v : Value) (w : World) (hl : IntsAt w v l) (hr : l.length ≤ 100000) :
    Calls Try.prog 17 #[v] w fun e w' => ∃ v', e = .returned v' ∧ ownInts w' w.heap.size v' l ∧ Below w.heap.size w w' := by
  obtain ⟨i0, hi, hz0, hz1, hz2⟩ := info_parts infoInt
  obtain ⟨a, c, rfl, hm, hc⟩ := hl
  have hown := World.ownsRow_lit (base := w.heap.size) (e := 3) (size := 1) w #[] 0 (Nat.le_refl _) (Nat.zero_le _) rfl
  have hb0 : Below w.heap.size w (w.alloc (.cells #[] 3)) := (Below.refl _ _).alloc (Nat.le_refl _) _
  rcases a with _ | a
  · have h0 : l.length = 0 := by
      rcases Nat.eq_zero_or_pos l.length with h | h
      · exact h
      · obtain ⟨_, _, e, _⟩ := hc 0 h; cases e
    have hl0 : l = [] := List.length_eq_zero_iff.1 h0
    subst hl0
    go_enter Try.func17, Try.ntmps17
    go_wp2
    go_ret
    exact ⟨_, rfl, hown, hb0⟩
  · have hcell : ∀ j u, (l.map (Value.int .i64))[j]? = some u → w.cell? (a.add j) = some u := by
      intro j u hj
      have hjl : j < l.length := by
        have := (List.getElem?_eq_some_iff.1 hj).1
        simpa using this
      obtain ⟨b, off, e, h⟩ := hc j hjl
      injection e with e
      subst e
      rw [List.getElem?_map, List.getElem?_eq_getElem hjl] at hj
      simp at hj
      subst hj
      have : gi l j = l[j] := by simp [gi, List.getElem?_eq_getElem hjl]
      rw [← this]
      by_cases h0 : j = 0
      · subst h0; simpa [Addr.add] using h
      · simpa [Addr.add, h0] using h
    have HC := Lib.hid hcell; clear hcell hc
    go_enter Try.func17, Try.ntmps17
    go_wp2_with (at_builtin; refine wpList_append_own _ rfl _ _ 22 rfl w.heap.size 3 i0 (.int .i64 0) 1 8 Try.underlying22 hi hz0 hz1 hz2 rfl (by decide) _ 0 [] rfl hown a l.length c (l.map (Value.int .i64)) rfl ?c0 ?c1 ?c2 ?c3 ?c4 ?c5 ?_)
    case c1 =>
      intro j u hj
      refine Below.keeps hb0 (HC.out j _ ?_) (Nat.le_refl _)
      rw [List.getElem?_map, hj]; rfl
    case c2 => intro u hu; rfl
    case c4 => omega
    · intro v' w' hown' hgrow _
      have R1 : ownInts w' w.heap.size v' l := hown'
      have R2 : Below w.heap.size w w' := hb0.grown hgrow (by simp) (fun j hj => by injection hj with hj; simp at hj; omega)
      clear hown' hgrow hown hb0
      go_wp2
      go_ret
      exact ⟨_, rfl, R1, R2⟩
end Go.Proofs.Ytciopdlmjciieaa
