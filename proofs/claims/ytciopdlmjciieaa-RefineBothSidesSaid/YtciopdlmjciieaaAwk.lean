import Derived.Test.YtciopdlmjciieaaExW
import Derived.Test.YtciopdlmjciieaaSame
import Derived.Test.YtciopdlmjciieaaCheckM
import Derived.Test.YtciopdlmjciieaaSimOf
import Derived.Test.YtciopdlmjciieaaRanksOf
import Derived.Test.YtciopdlmjciieaaUpD
namespace Go.Proofs.Ytciopdlmjciieaa
open Go.RowKit
set_option linter.unusedVariables false

theorem lit_ints (w : World) (l : List Int) (t : TypeId) (hl : l.length ≤ 10) : IntsAt (w.alloc (.cells (l.map (Value.int .i64)).toArray t)) (.slice (some ⟨w.heap.size, 0, none⟩) l.length l.length) l := by
  refine ⟨_, _, rfl, by unfold maxLen; omega, fun j hj => ⟨_, _, rfl, ?_⟩⟩
  rw [World.cell?_alloc_at _ _ _ _ rfl]
  simp [gi, List.getElem?_eq_getElem hj]
theorem lit2 (w : World) (a b : Int) (t : TypeId) (k : Nat) (hk : k = w.heap.size) : IntsAt (w.alloc (.cells #[.int .i64 a, .int .i64 b] t)) (.slice (some ⟨k, 0, none⟩) 2 2) [a, b] := by
  subst hk; exact lit_ints w [a, b] t (by simp)
theorem lit3 (w : World) (a b c : Int) (t : TypeId) (k : Nat) (hk : k = w.heap.size) : IntsAt (w.alloc (.cells #[.int .i64 a, .int .i64 b, .int .i64 c] t)) (.slice (some ⟨k, 0, none⟩) 3 3) [a, b, c] := by
  subst hk; exact lit_ints w [a, b, c] t (by simp)
theorem bk_moves {w : World} {v : Value} (h : MovesAt w v [⟨0, 0, 3, 0⟩, ⟨0, 1, 0, -1⟩, ⟨1, 0, 2, 1⟩, ⟨1, 1, 0, -1⟩, ⟨2, 0, 0, -1⟩, ⟨2, 1, 1, 2⟩]) :
    ∃ b o c, v = .slice (some ⟨b, o, none⟩) 6 c ∧ w.cell? ⟨b, o + 2, none⟩ = some (.int .i64 3) ∧ w.cell? ⟨b, o + 10, none⟩ = some (.int .i64 2) ∧ w.cell? ⟨b, o + 22, none⟩ = some (.int .i64 1) := by
  obtain ⟨am, cm, rfl, -, hmm⟩ := h
  obtain ⟨bm, om, rfl, -, -, m0, -⟩ := hmm 0 _ rfl
  obtain ⟨bm', om', em, -, -, m2, -⟩ := hmm 2 _ rfl
  injection em with em; injection em with em1 em2 _; subst em1 em2
  obtain ⟨bm', om', em, -, -, m5, -⟩ := hmm 5 _ rfl
  injection em with em; injection em with em1 em2 _; subst em1 em2
  exact ⟨_, _, _, rfl, m0, m2, m5⟩
/-- A list of three rows of two numbers, written out. -/
theorem rows3 {w : World} {b k0 k1 k2 : Nat} {a0 b0 a1 b1 a2 b2 : Int} (h0 : IntsAt w (.slice (some ⟨k0, 0, none⟩) 2 2) [a0, b0]) (h1 : IntsAt w (.slice (some ⟨k1, 0, none⟩) 2 2) [a1, b1]) (h2 : IntsAt w (.slice (some ⟨k2, 0, none⟩) 2 2) [a2, b2])
    (c0 : w.cell? ⟨b, 0, none⟩ = some (.slice (some ⟨k0, 0, none⟩) 2 2)) (c1 : w.cell? ⟨b, 1, none⟩ = some (.slice (some ⟨k1, 0, none⟩) 2 2)) (c2 : w.cell? ⟨b, 2, none⟩ = some (.slice (some ⟨k2, 0, none⟩) 2 2)) :
    RowsV w (.slice (some ⟨b, 0, none⟩) 3 3) [[a0, b0], [a1, b1], [a2, b2]] := by
  refine ⟨_, _, rfl, (by show 3 ≤ maxLen; decide), fun i l hl => ?_⟩
  match i, hl with
  | 0, hl => injection hl with hl; subst hl; exact ⟨_, _, _, _, rfl, c0, h0⟩
  | 1, hl => injection hl with hl; subst hl; exact ⟨_, _, _, _, rfl, c1, h1⟩
  | 2, hl => injection hl with hl; subst hl; exact ⟨_, _, _, _, rfl, c2, h2⟩
theorem below_alloc (w : World) (o : Obj) : Below w.heap.size w (w.alloc o) := (Below.refl _ _).alloc (Nat.le_refl _) _

set_option maxHeartbeats 4000000 in
set_option maxRecDepth 100000 in
theorem awake_true (w : World) : Calls Try.prog 5 #[] w fun e w' => e = .returned (.bool true) ∧ Below w.heap.size w w' := by
  go_enter Try.func5, Try.ntmps5
  go_wp2_with fail
  refine (example_any _).mono ?_
  rintro e w1 ⟨v1, rfl, hv1, hb1⟩
  go_wp2_with fail
  refine (checkM_any Ex [0, 0, 1] v1 _ _ (hv1.later (below_alloc _ _)) (lit3 _ _ _ _ _ _ rfl) ex_ok form_001 3 2 rfl rfl).mono ?_
  rintro e w2 ⟨k, a, err, pa, ap, cp, i, rfl, hi, hsaid, -, hb2⟩
  obtain rfl := said_001 hi hsaid
  have hB : Below w.heap.size w w2 := hb1.trans (((below_alloc _ _).trans (hb2.mono (below_alloc _ _).size)).mono hb1.size)
  clear hv1 hb1 hi hsaid hb2
  go_wp2_with fail
  have hB2 := hB.trans ((below_alloc w2 (Obj.cells #[.int .i64 k, .int .i64 a, .slice ap pa.length cp] 49)).mono hB.size)
  generalize w2.alloc (Obj.cells #[.int .i64 k, .int .i64 a, .slice ap pa.length cp] 49) = w2b at *
  generalize w2.heap.size = bf1 at *
  clear hB
  refine (example_any _).mono ?_
  rintro e w3 ⟨v3, rfl, hv3, hb3⟩
  replace hB2 := hB2.trans (hb3.mono hB2.size)
  clear hb3
  go_wp2_with fail
  refine (checkM_any Ex [0, 1, 1] v3 _ _ (hv3.later (below_alloc _ _)) (lit3 _ _ _ _ _ _ rfl) ex_ok form_011 3 2 rfl rfl).mono ?_
  rintro e w4 ⟨k4, a4, err4, pa4, ap4, cp4, i4, rfl, hi, hsaid, hI4, hb4⟩
  obtain ⟨rfl, rfl, rfl, rfl⟩ := said_011 hi hsaid
  have hB := hB2.trans (((below_alloc _ _).trans (hb4.mono (below_alloc _ _).size)).mono hB2.size)
  clear hv3 hi hsaid hb4 hB2
  have e2 : ([0, 1] : List Int).length = 2 := rfl
  rw [e2] at hI4 ⊢
  go_wp2_with fail
  have hbx : Below w4.heap.size w4 (w4.alloc (Obj.cells #[.int .i64 0, .int .i64 1, .slice ap4 2 cp4] 49)) := below_alloc _ _
  have x0 : (w4.alloc (Obj.cells #[.int .i64 0, .int .i64 1, .slice ap4 2 cp4] 49)).cell? ⟨w4.heap.size, 0, none⟩ = some (.int .i64 0) := box_cell _ _ _ 0 _ rfl
  have x1 : (w4.alloc (Obj.cells #[.int .i64 0, .int .i64 1, .slice ap4 2 cp4] 49)).cell? ⟨w4.heap.size, 1, none⟩ = some (.int .i64 1) := box_cell _ _ _ 1 _ rfl
  have x2 : (w4.alloc (Obj.cells #[.int .i64 0, .int .i64 1, .slice ap4 2 cp4] 49)).cell? ⟨w4.heap.size, 2, none⟩ = some (.slice ap4 2 cp4) := box_cell _ _ _ 2 _ rfl
  replace hI4 := hI4.later hbx
  replace hB := hB.trans (hbx.mono hB.size)
  clear hbx
  generalize w4.alloc (Obj.cells #[.int .i64 0, .int .i64 1, .slice ap4 2 cp4] 49) = wb at *
  generalize w4.heap.size = bf at *
  have X : Hid (wb.cell? ⟨bf, 0, none⟩ = some (.int .i64 0) ∧ wb.cell? ⟨bf, 1, none⟩ = some (.int .i64 1) ∧ wb.cell? ⟨bf, 2, none⟩ = some (.slice ap4 2 cp4)) := ⟨x0, x1, x2⟩
  have HI := Lib.hid hI4; have HB := Lib.hid hB
  clear x0 x1 x2 hI4 hB
  refine (example_any _).mono ?_
  rintro e w5 ⟨v5, rfl, hv5, hb5⟩
  have HV := Lib.hid hv5
  have H5 : Hid (Below wb.heap.size wb w5) := hb5
  clear hv5 hb5
  go_wp2_with fail
  refine (simOf_any Ex v5 _ HV.out ex_ok 3 2 rfl rfl).mono ?_
  rintro e w6 ⟨R, S, xs, rfl, hF, hrows, hb6⟩
  rw [fin_ex hF.out] at hrows
  have H6 : Hid (Below wb.heap.size wb w6) := H5.out.trans (hb6.mono H5.out.size)
  have HR := Lib.hid hrows
  clear hrows hb6 hF HV H5
  go_wp2_with fail
  refine (back_any _).mono ?_
  rintro e w7 ⟨v7, rfl, hv7, hb7⟩
  have HV := Lib.hid hv7
  have H7 : Hid (Below w6.heap.size w6 w7) := hb7
  clear hv7 hb7
  go_wp2_with fail
  refine (ranksOf_any Bk v7 _ HV.out bk_ok 3 2 rfl rfl).mono ?_
  rintro e w8 ⟨R', S', xr, rfl, hF, hm, hb8⟩
  rw [fin_bk hF.out] at hm
  have H8 : Hid (Below w6.heap.size w6 w8) := H7.out.trans (hb8.mono H7.out.size)
  replace HR := Lib.hid (HR.out.later H8.out)
  have H8w : Hid (Below wb.heap.size wb w8) := H6.out.trans (H8.out.mono H6.out.size)
  have HM := Lib.hid hm
  clear hm hb8 hF HV H7 H8 H6
  go_wp2_with fail
  refine (example_any _).mono ?_
  rintro e w9 ⟨v9, rfl, hv9, hb9⟩
  have HV := Lib.hid hv9
  have H9 : Hid (Below w8.heap.size w8 w9) := hb9
  clear hv9 hb9
  go_wp2_with fail
  refine (upper_any Ex v9 _ [0, 1, 2] _ (HV.out.later (below_alloc _ _)) (lit3 _ _ _ _ _ _ rfl) ex_ok path_012 3 2 rfl rfl).mono ?_
  rintro e w10 ⟨xu, err, q, rfl, hq, hu, hb10⟩
  obtain ⟨rfl, rfl⟩ : err = 0 ∧ q = [0, 0, 1] := by
    rcases hu.out with ⟨h1, h2⟩ | ⟨-, -, h2⟩
    · rw [up_012] at h2; injection h2 with h2; exact ⟨h1, h2.symm⟩
    · rw [up_012] at h2; cases h2
  have H10 : Hid (Below w8.heap.size w8 w10) := H9.out.trans (((below_alloc w9 _).trans (hb10.mono (below_alloc w9 _).size)).mono H9.out.size)
  have HQ := Lib.hid hq
  replace HR := Lib.hid (HR.out.later H10.out)
  replace HM := Lib.hid (HM.out.later H10.out)
  have HW : Hid (Below wb.heap.size wb w10) := H8w.out.trans (H10.out.mono H8w.out.size)
  have x0 := Below.keeps HW.out X.out.1 (Nat.le_refl _); have x1 := Below.keeps HW.out X.out.2.1 (Nat.le_refl _); have x2 := Below.keeps HW.out X.out.2.2 (Nat.le_refl _)
  replace HI := Lib.hid (HI.out.later HW.out)
  replace HB := Lib.hid (HB.out.trans (HW.out.mono HB.out.size))
  clear hq hu hb10 HV H9 H10 H8w HW X
  obtain ⟨bm, om, cm, rfl, m0, m2, m5⟩ := bk_moves HM.out
  clear HM
  go_wp2_with fail
  refine (sameFault_yes 0 1 [0, 1] _ _ _ (HI.out.later (below_alloc _ _)) (lit2 _ _ _ _ _ rfl)).mono ?_
  rintro e w11 ⟨rfl, hb11⟩
  have H11 : Hid (Below w10.heap.size w10 w11) := (below_alloc w10 _).trans (hb11.mono (below_alloc w10 _).size)
  clear hb11
  replace HR := Lib.hid (HR.out.later H11.out)
  replace HQ := Lib.hid (HQ.out.later H11.out)
  replace HB := Lib.hid (HB.out.trans (H11.out.mono HB.out.size))
  replace m0 := Below.keeps H11.out m0 (Nat.le_refl _); replace m2 := Below.keeps H11.out m2 (Nat.le_refl _); replace m5 := Below.keeps H11.out m5 (Nat.le_refl _)
  clear H11 HI x0 x1 x2
  go_wp2_with fail
  have q1 := below_alloc w11 (Obj.cells #[.int .i64 0, .int .i64 0] 3)
  have q2 := below_alloc (w11.alloc (Obj.cells #[.int .i64 0, .int .i64 0] 3)) (Obj.cells #[.int .i64 1, .int .i64 0] 3)
  have q3 := below_alloc ((w11.alloc (Obj.cells #[.int .i64 0, .int .i64 0] 3)).alloc (Obj.cells #[.int .i64 1, .int .i64 0] 3)) (Obj.cells #[.int .i64 2, .int .i64 1] 3)
  have q4 := below_alloc (((w11.alloc (Obj.cells #[.int .i64 0, .int .i64 0] 3)).alloc (Obj.cells #[.int .i64 1, .int .i64 0] 3)).alloc (Obj.cells #[.int .i64 2, .int .i64 1] 3)) (Obj.cells #[.slice (some ⟨w11.heap.size, 0, none⟩) 2 2, .slice (some ⟨w11.heap.size + 1, 0, none⟩) 2 2, .slice (some ⟨w11.heap.size + 1 + 1, 0, none⟩) 2 2] 22)
  have i1 := (((lit2 w11 0 0 3 _ rfl).later q2).later q3).later q4
  have i2 := ((lit2 (w11.alloc (Obj.cells #[.int .i64 0, .int .i64 0] 3)) 1 0 3 (w11.heap.size + 1) (by simp)).later q3).later q4
  have i3 := (lit2 ((w11.alloc (Obj.cells #[.int .i64 0, .int .i64 0] 3)).alloc (Obj.cells #[.int .i64 1, .int .i64 0] 3)) 2 1 3 (w11.heap.size + 1 + 1) (by simp)).later q4
  have bk : ∀ (W : World) (cs : Array Value) (t : TypeId) (k : Nat), W.heap.size = k → ∀ i v, cs[i]? = some v → (W.alloc (.cells cs t)).cell? ⟨k, i, none⟩ = some v := fun W cs t k hk i v h => by subst hk; exact box_cell _ _ _ i v h
  have hZ : (((w11.alloc (Obj.cells #[.int .i64 0, .int .i64 0] 3)).alloc (Obj.cells #[.int .i64 1, .int .i64 0] 3)).alloc (Obj.cells #[.int .i64 2, .int .i64 1] 3)).heap.size = w11.heap.size + 1 + 1 + 1 := by simp
  have R3 := rows3 i1 i2 i3 (bk _ _ _ _ hZ 0 _ rfl) (bk _ _ _ _ hZ 1 _ rfl) (bk _ _ _ _ hZ 2 _ rfl)
  have q12 := q1.trans (q2.mono q1.size)
  have q13 := q12.trans (q3.mono q12.size)
  have q14 : Hid (Below w11.heap.size w11 _) := q13.trans (q4.mono q13.size)
  clear q1 q2 q3 q4 i1 i2 i3 bk hZ q12 q13
  generalize (((w11.alloc (Obj.cells #[.int .i64 0, .int .i64 0] 3)).alloc (Obj.cells #[.int .i64 1, .int .i64 0] 3)).alloc (Obj.cells #[.int .i64 2, .int .i64 1] 3)).alloc (Obj.cells #[.slice (some ⟨w11.heap.size, 0, none⟩) 2 2, .slice (some ⟨w11.heap.size + 1, 0, none⟩) 2 2, .slice (some ⟨w11.heap.size + 1 + 1, 0, none⟩) 2 2] 22) = w12 at *
  refine (equalLists_yes [[0, 0], [1, 0], [2, 1]] _ _ _ (HR.out.later q14.out) R3).mono ?_
  rintro e w13 ⟨rfl, hb13⟩
  have H13 : Hid (Below w11.heap.size w11 w13) := q14.out.trans (hb13.mono q14.out.size)
  clear hb13 q14 R3
  replace HQ := Lib.hid (HQ.out.later H13.out)
  replace HB := Lib.hid (HB.out.trans (H13.out.mono HB.out.size))
  replace m0 := Below.keeps H13.out m0 (Nat.le_refl _); replace m2 := Below.keeps H13.out m2 (Nat.le_refl _); replace m5 := Below.keeps H13.out m5 (Nat.le_refl _)
  clear H13 HR
  go_wp2_with fail
  refine (equal_q _ _ [0, 0, 1] _ (HQ.out.later (below_alloc _ _)) (lit3 _ _ _ _ _ _ rfl)).mono ?_
  rintro e w14 ⟨rfl, n, rfl⟩
  go_wp2
  go_ret
  exact ⟨rfl, below_drewN (HB.out.trans ((below_alloc w13 _).mono HB.out.size)) _⟩
end Go.Proofs.Ytciopdlmjciieaa
