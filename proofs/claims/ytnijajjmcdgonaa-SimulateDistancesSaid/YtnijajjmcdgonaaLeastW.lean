import Derived.Test.YtnijajjmcdgonaaDist
import Derived.Test.YtnijajjmcdgonaaWalkY
import Derived.Test.YtnijajjmcdgonaaLeastB
import Derived.Test.YtnijajjmcdgonaaWalkM
namespace Go.Proofs.Ytnijajjmcdgonaa
open Go.RowKit
set_option linter.unusedVariables false

/-- What DistancesIn answers. -/
noncomputable def dR (g : G) : List Int := if isG g = true then dl g else []
def DIPost (w : World) (g : G) (e : Ending) (w' : World) : Prop :=
  ∃ v, e = .returned (.tuple #[v, .int .i64 (gErr g)]) ∧ ownInts w' w.heap.size v (dR g) ∧ (isG g = true → DistOk g (dl g)) ∧ Below w.heap.size w w'

set_option maxHeartbeats 800000 in
set_option maxRecDepth 100000 in
theorem distIn_any (g : G) (v : Value) (w : World) (hg : GraphAt w v g) :
    Calls Try.prog 34 #[v] w (DIPost w g) := by
  have hg' := hg
  obtain ⟨vi, ve, rfl, -, -⟩ := hg
  have HG := Lib.hid hg'
  clear hg'
  go_enter Try.func34, Try.ntmps34
  go_wp2_with fail
  have hb0 : Below w.heap.size w (w.alloc (Obj.cells #[.int .i64 g.n, vi, ve] 34)) := (Below.refl _ _).alloc (Nat.le_refl _) _
  have c0 : (w.alloc (Obj.cells #[.int .i64 g.n, vi, ve] 34)).cell? ⟨w.heap.size, 0, none⟩ = some (.int .i64 g.n) := World.cell?_alloc_at _ _ _ _ rfl
  have c1 : (w.alloc (Obj.cells #[.int .i64 g.n, vi, ve] 34)).cell? ⟨w.heap.size, 1, none⟩ = some vi := World.cell?_alloc_at _ _ _ _ rfl
  have c2 : (w.alloc (Obj.cells #[.int .i64 g.n, vi, ve] 34)).cell? ⟨w.heap.size, 2, none⟩ = some ve := World.cell?_alloc_at _ _ _ _ rfl
  generalize (w.alloc (Obj.cells #[.int .i64 g.n, vi, ve] 34)) = w0 at *
  refine (checkGraph_any g _ _ (HG.out.later hb0)).mono ?_
  rintro e w1 ⟨rfl, hb1⟩
  have hbw := hb0.trans (hb1.mono hb0.size)
  replace c0 := Below.keeps hb1 c0 (Nat.le_refl _)
  replace c1 := Below.keeps hb1 c1 (Nat.le_refl _)
  replace c2 := Below.keeps hb1 c2 (Nat.le_refl _)
  clear hb0 hb1
  rcases hcg : isG g with _ | _
  · have he : gErr g = 5 := by rw [gErr_isG, hcg]; rfl
    have hd : dR g = [] := by unfold dR; rw [hcg]; rfl
    rw [he]
    have hp : DIPost w g (.returned (.tuple #[.slice none 0 0, .int .i64 5])) w1 := ⟨.slice none 0 0, by rw [he], by rw [hd]; exact World.ownsRow_nil _ _ _ _, fun h => (by rw [hcg] at h; cases h), hbw⟩
    go_wp2
    exact bodyPost_ret (v := .tuple #[.slice none 0 0, .int .i64 5]) (by simp [results, Try.results34, go_sem]) rfl hp
  · have he : gErr g = 0 := by rw [gErr_isG, hcg]; rfl
    have hd : dR g = dl g := by unfold dR; rw [hcg]; rfl
    rw [he]
    have hok := (isG_iff g).1 hcg
    go_wp2_with fail
    refine (distancesIn_any g _ _ (HG.out.later hbw) hok).mono ?_
    rintro e w2 ⟨vD, rfl, oD, hD, hb2⟩
    have hs := hbw.size
    have hp : DIPost w g (.returned (.tuple #[vD, .int .i64 0])) w2 := ⟨vD, by rw [he], by rw [hd]; exact own_mono oD hs, fun _ => hD.out, hbw.trans (hb2.mono hs)⟩
    go_wp2
    exact bodyPost_ret (v := .tuple #[vD, .int .i64 0]) (by simp [results, Try.results34, go_sem]) rfl hp
end Go.Proofs.Ytnijajjmcdgonaa
namespace Go.Proofs.Ytnijajjmcdgonaa
open Go.RowKit
set_option linter.unusedVariables false

/-- What LeastWalk answers: a walk and an error. -/
def LWSaid (g : G) (t : Int) (x : W3) (e : Int) : Prop :=
  (isG g = false ∧ e = 5 ∧ x = ⟨0, [], false⟩) ∨
  (isG g = true ∧ (t < 0 ∨ g.n ≤ t) ∧ e = 3 ∧ x = ⟨0, [], false⟩) ∨
  (isG g = true ∧ 0 ≤ t ∧ t < g.n ∧ (∀ d, NoHit g (fun _ s => s == t) d) ∧ e = 25 ∧ x = ⟨0, [], false⟩) ∨
  (isG g = true ∧ 0 ≤ t ∧ t < g.n ∧ (∃ d, LeastIn (Hit g (fun _ s => s == t) d) (key x) ∧ ∀ d', d' < d → NoHit g (fun _ s => s == t) d') ∧ e = 0 ∧ x.stuck = false)
def LWPost (w : World) (g : G) (t : Int) (e : Ending) (w' : World) : Prop :=
  ∃ (f : Int) (L : List Int) (r : Int) (a : Option Addr) (c : Nat), e = .returned (.tuple #[.agg #[.int .i64 f, .slice a L.length c, .bool false], .int .i64 r]) ∧ ownInts w' w.heap.size (.slice a L.length c) L ∧ LWSaid g t ⟨f, L, false⟩ r ∧ Below w.heap.size w w'

set_option maxHeartbeats 3200000 in
set_option maxRecDepth 100000 in
theorem leastWalk_any (g : G) (t : Int) (v : Value) (w : World) (hg : GraphAt w v g) :
    Calls Try.prog 35 #[v, .int .i64 t] w (LWPost w g t) := by
  have hg' := hg
  obtain ⟨vi, ve, rfl, hvi, -⟩ := hg
  have HG := Lib.hid hg'
  have HVI := Lib.hid hvi
  clear hg' hvi
  go_enter Try.func35, Try.ntmps35
  go_wp2_with fail
  have hb0 : Below w.heap.size w (((w.alloc (Obj.cells #[.int .i64 g.n, vi, ve] 34)).alloc (Obj.cells #[.int .i64 t] 3)).alloc (Obj.cells #[.int .i64 0, .slice none 0 0, .bool false] 39)) := (((Below.refl _ _).alloc (Nat.le_refl _) _).alloc (by simp) _).alloc (by simp; omega) _
  refine (checkGraph_any g _ _ (HG.out.later hb0)).mono ?_
  rintro e w1 ⟨rfl, hb1⟩
  have c0 : w1.cell? ⟨w.heap.size, 0, none⟩ = some (.int .i64 g.n) := Below.keeps hb1 (by rw [World.cell?_alloc_past _ _ _ (by simp; omega), World.cell?_alloc_past _ _ _ (by simp), World.cell?_alloc_at _ _ _ _ rfl]; rfl) (by simp)
  have c1 : w1.cell? ⟨w.heap.size, 1, none⟩ = some vi := Below.keeps hb1 (by rw [World.cell?_alloc_past _ _ _ (by simp; omega), World.cell?_alloc_past _ _ _ (by simp), World.cell?_alloc_at _ _ _ _ rfl]; rfl) (by simp)
  have c2 : w1.cell? ⟨w.heap.size, 2, none⟩ = some ve := Below.keeps hb1 (by rw [World.cell?_alloc_past _ _ _ (by simp; omega), World.cell?_alloc_past _ _ _ (by simp), World.cell?_alloc_at _ _ _ _ rfl]; rfl) (by simp)
  have t0 : w1.cell? ⟨w.heap.size + 1, 0, none⟩ = some (.int .i64 t) := Below.keeps hb1 (by rw [World.cell?_alloc_past _ _ _ (by simp), World.cell?_alloc_at _ _ _ _ (by simp)]; rfl) (by simp)
  have r0 : w1.cell? ⟨w.heap.size + 1 + 1, 0, none⟩ = some (.int .i64 0) := Below.keeps hb1 (by rw [World.cell?_alloc_at _ _ _ _ (by simp)]; rfl) (by simp)
  have r1 : w1.cell? ⟨w.heap.size + 1 + 1, 1, none⟩ = some (.slice none 0 0) := Below.keeps hb1 (by rw [World.cell?_alloc_at _ _ _ _ (by simp)]; rfl) (by simp)
  have r2 : w1.cell? ⟨w.heap.size + 1 + 1, 2, none⟩ = some (.bool false) := Below.keeps hb1 (by rw [World.cell?_alloc_at _ _ _ _ (by simp)]; rfl) (by simp)
  have rf : ∀ i, w1.frozen? ⟨w.heap.size + 1 + 1, i, none⟩ = false := fun i => Below.keepsF hb1 (World.frozen?_alloc_at _ _ _ _ (by simp)) (by simp)
  have rf0 := rf 0
  have rf1 := rf 1
  have rf2 := rf 2
  have hbw : Below w.heap.size w w1 := hb0.trans (hb1.mono (by simp; omega))
  have hsz : w.heap.size + 1 + 1 < w1.heap.size := cell_lt r0
  clear hb0 hb1 rf
  have hbz : ∀ w' : World, Below w.heap.size w w' → Below w.heap.size w (((w'.setCell ⟨w.heap.size + 1 + 1, 0, none⟩ (.int .i64 0)).setCell ⟨w.heap.size + 1 + 1, 1, none⟩ (.slice none 0 0)).setCell ⟨w.heap.size + 1 + 1, 2, none⟩ (.bool false)) := fun w' h => ((h.setCell (by show w.heap.size ≤ w.heap.size + 1 + 1; omega) _).setCell (by show w.heap.size ≤ w.heap.size + 1 + 1; omega) _).setCell (by show w.heap.size ≤ w.heap.size + 1 + 1; omega) _
  rcases hcg : isG g with _ | _
  · have he : gErr g = 5 := by rw [gErr_isG, hcg]; rfl
    rw [he]
    have HS : Hid (LWSaid g t ⟨0, [], false⟩ 5) := .inl ⟨hcg, rfl, rfl⟩
    have HBZ := Lib.hid hbz
    have HBW := Lib.hid hbw
    clear he hcg hbz hbw hsz c0 c1 c2 t0
    go_wp2
    refine bodyPost_ret (v := .tuple #[.agg #[.int .i64 0, .slice none 0 0, .bool false], .int .i64 5]) (by simp [results, Try.results35, go_sem, r0, r1, r2]) rfl ⟨0, [], 5, none, 0, rfl, World.ownsRow_nil _ _ _ _, HS.out, ?_⟩
    first | exact HBW.out | exact HBZ.out _ HBW.out
  · have he : gErr g = 0 := by rw [gErr_isG, hcg]; rfl
    rw [he]
    have HOK := Lib.hid ((isG_iff g).1 hcg)
    by_cases hr : 0 ≤ t ∧ t < g.n
    · have HS1 : Hid ((∀ d, NoHit g (fun _ s => s == t) d) → LWSaid g t ⟨0, [], false⟩ 25) := fun h => .inr (.inr (.inl ⟨hcg, hr.1, hr.2, h, rfl, rfl⟩))
      have HS2 : Hid (∀ (x : W3), x.stuck = false → (∃ d, LeastIn (Hit g (fun _ s => s == t) d) (key x) ∧ ∀ d', d' < d → NoHit g (fun _ s => s == t) d') → LWSaid g t x 0) := fun x hx h => .inr (.inr (.inr ⟨hcg, hr.1, hr.2, h, rfl, hx⟩))
      have hd1 : decide (t < 0) = false := decide_eq_false (by omega)
      have hd2 : decide (g.n ≤ t) = false := decide_eq_false (by omega)
      clear he hcg hr
      go_wp2_with fail
      refine (least_any g g.init 53 (.pointer (some ⟨w.heap.size + 1, 0, none⟩)) (fun _ s => s == t) _ _ _ (HG.out.later hbw) (HVI.out.later hbw) HOK.out ?hk ?hp).mono ?_
      case hk => intro args W; rfl
      case hp => intro i s W hW; exact wanted_any i s (w.heap.size + 1) t W (Below.keeps hW t0 (Nat.le_refl _))
      rintro e w2 ⟨f, L, b, a, c, rfl, oL, HLS, hz, hb3⟩
      have hb4 : Below w2.heap.size w2 (w2.alloc (Obj.cells #[.int .i64 f, .slice a L.length c, .bool false] 39)) := (Below.refl _ _).alloc (Nat.le_refl _) _
      have hb5 : Below w1.heap.size w1 (w2.alloc (Obj.cells #[.int .i64 f, .slice a L.length c, .bool false] 39)) := hb3.trans (hb4.mono hb3.size)
      have q0 := Below.keeps hb5 r0 (Nat.le_refl _)
      have q1 := Below.keeps hb5 r1 (Nat.le_refl _)
      have q2 := Below.keeps hb5 r2 (Nat.le_refl _)
      have qf0 := Below.keepsF hb5 rf0 (by show w.heap.size + 1 + 1 < w1.heap.size; omega)
      have qf1 := Below.keepsF hb5 rf1 (by show w.heap.size + 1 + 1 < w1.heap.size; omega)
      have qf2 := Below.keepsF hb5 rf2 (by show w.heap.size + 1 + 1 < w1.heap.size; omega)
      have HBW := Lib.hid (hbw.trans (hb5.mono hbw.size))
      have y0 : (w2.alloc (Obj.cells #[.int .i64 f, .slice a L.length c, .bool false] 39)).cell? ⟨w2.heap.size, 0, none⟩ = some (.int .i64 f) := World.cell?_alloc_at _ _ _ _ rfl
      have y1 : (w2.alloc (Obj.cells #[.int .i64 f, .slice a L.length c, .bool false] 39)).cell? ⟨w2.heap.size, 1, none⟩ = some (.slice a L.length c) := World.cell?_alloc_at _ _ _ _ rfl
      have y2 : (w2.alloc (Obj.cells #[.int .i64 f, .slice a L.length c, .bool false] 39)).cell? ⟨w2.heap.size, 2, none⟩ = some (.bool false) := World.cell?_alloc_at _ _ _ _ rfl
      have HOL := Lib.hid (ownsRow_later oL hb4)
      have HSZ : Hid (w.heap.size + 2 < w1.heap.size + 2) := by unfold Hid; omega
      have HZ := Lib.hid hz
      clear hbw hb3 hb4 hb5 r0 r1 r2 rf0 rf1 rf2 c0 c1 c2 t0 oL hz hsz hbz
      cases b
      · obtain ⟨rfl, rfl⟩ := HZ.out rfl
        have HS : Hid (LWSaid g t ⟨0, [], false⟩ 25) := HS1.out (by
          rcases HLS.out with ⟨h, -⟩ | ⟨-, h⟩
          · cases h
          · exact h)
        clear HS1 HS2 HLS HZ HOL
        simp only [List.length_nil] at q0 q1 q2 qf0 qf1 qf2 y0 y1 y2 HBW
        go_wp2_with fail
        generalize (w2.alloc (Obj.cells #[.int .i64 0, .slice a 0 c, .bool false] 39)) = w3 at *
        refine bodyPost_ret (v := .tuple #[.agg #[.int .i64 0, .slice none 0 0, .bool false], .int .i64 25]) (by simp [results, Try.results35, go_sem, q0, q1, q2]) rfl ⟨0, [], 25, none, 0, rfl, World.ownsRow_nil _ _ _ _, HS.out, ?_⟩
        first | exact HBW.out | exact ((HBW.out.setCell (by show w.heap.size ≤ w.heap.size + 1 + 1; omega) _).setCell (by show w.heap.size ≤ w.heap.size + 1 + 1; omega) _).setCell (by show w.heap.size ≤ w.heap.size + 1 + 1; omega) _
      · have HS : Hid (LWSaid g t ⟨f, L, false⟩ 0) := HS2.out _ rfl (by
          rcases HLS.out with ⟨-, h⟩ | ⟨h, -⟩
          · exact h
          · cases h)
        clear HS1 HS2 HLS HZ
        go_wp2_with fail
        generalize (w2.alloc (Obj.cells #[.int .i64 f, .slice a L.length c, .bool false] 39)) = w3 at *
        refine bodyPost_ret (v := .tuple #[.agg #[.int .i64 f, .slice a L.length c, .bool false], .int .i64 0]) (by simp [results, Try.results35, go_sem, q0, q1, q2]) rfl ⟨f, L, 0, a, c, rfl, ?_, HS.out, ?_⟩
        · have := HSZ.out
          refine own_mono (B := w1.heap.size + 2) (ownsRow_setCell_below (ownsRow_setCell_below (ownsRow_setCell_below HOL.out ?_ _) ?_ _) ?_ _) (by omega)
          all_goals (show w.heap.size + 1 + 1 < w1.heap.size + 2; omega)
        · exact ((HBW.out.setCell (by show w.heap.size ≤ w.heap.size + 1 + 1; omega) _).setCell (by show w.heap.size ≤ w.heap.size + 1 + 1; omega) _).setCell (by show w.heap.size ≤ w.heap.size + 1 + 1; omega) _
    · have HS : Hid (LWSaid g t ⟨0, [], false⟩ 3) := .inr (.inl ⟨hcg, by omega, rfl, rfl⟩)
      have HBZ := Lib.hid hbz
      have HBW := Lib.hid hbw
      clear he hcg hbz hbw
      by_cases h0 : t < 0
      · have hd1 : decide (t < 0) = true := decide_eq_true h0
        clear hr h0
        go_wp2
        refine bodyPost_ret (v := .tuple #[.agg #[.int .i64 0, .slice none 0 0, .bool false], .int .i64 3]) (by simp [results, Try.results35, go_sem, r0, r1, r2]) rfl ⟨0, [], 3, none, 0, rfl, World.ownsRow_nil _ _ _ _, HS.out, ?_⟩
        first | exact HBW.out | exact HBZ.out _ HBW.out
      · have hd1 : decide (t < 0) = false := decide_eq_false h0
        have hd2 : decide (g.n ≤ t) = true := decide_eq_true (by omega)
        clear hr h0
        go_wp2
        refine bodyPost_ret (v := .tuple #[.agg #[.int .i64 0, .slice none 0 0, .bool false], .int .i64 3]) (by simp [results, Try.results35, go_sem, r0, r1, r2]) rfl ⟨0, [], 3, none, 0, rfl, World.ownsRow_nil _ _ _ _, HS.out, ?_⟩
        first | exact HBW.out | exact HBZ.out _ HBW.out
end Go.Proofs.Ytnijajjmcdgonaa
