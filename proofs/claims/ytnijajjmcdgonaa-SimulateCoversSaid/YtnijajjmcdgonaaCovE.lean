import Derived.Test.YtnijajjmcdgonaaCovD
import Derived.Test.YtnijajjmcdgonaaRefDist
namespace Go.Proofs.Ytnijajjmcdgonaa
open Go.RowKit
set_option linter.unusedVariables false

/-- The steps that can be reached and are not taken, of the first k. -/
def uncK (g : G) (D E : List Int) : Nat → List Int
  | 0 => []
  | k + 1 => if gi D (ge g.edges k).f.toNat ≠ -1 ∧ gi E k = 0 then uncK g D E k ++ [(k : Int)] else uncK g D E k
theorem uncK_len (g : G) (D E : List Int) : ∀ k, (uncK g D E k).length ≤ k
  | 0 => Nat.le_refl _
  | k + 1 => by
    have := uncK_len g D E k
    unfold uncK
    split
    · simp; omega
    · omega
noncomputable def uncR (g : G) (l : List W3) : List Int := if wsErr g l = 0 then uncK g (dl g) (covK g l l.length).2 g.edges.length else []

theorem ints_cell {w : World} {v : Value} {l : List Int} (h : IntsAt w v l) : ∃ a c, v = .slice a l.length c ∧ IntsCells w a l ∧ l.length ≤ maxLen := by
  obtain ⟨a, c, rfl, h1, h2⟩ := h
  exact ⟨a, c, rfl, h2, h1⟩

set_option maxHeartbeats 4000000 in
set_option maxRecDepth 100000 in
theorem refUnc_any (g : G) (l : List W3) (vg vl : Value) (w : World) (hg : GraphAt w vg g) (hl : WalksAt w vl l) (hok : bOk g) (hall : ∀ j, j < l.length → (ckW g (gw l j).first (gw l j).steps).2 = 0) (h60 : l.length ≤ 60) :
    Calls Try.prog 33 #[vg, vl] w fun e w' => ∃ v, e = .returned v ∧ IntsAt w' v (uncK g (dl g) (covK g l l.length).2 g.edges.length) ∧ Hid (DistOk g (dl g)) ∧ Below w.heap.size w w' := by
  have hg' := hg
  obtain ⟨vi, ve, rfl, hvi, ⟨ae, ce, rfl, hme, hce⟩⟩ := hg
  obtain ⟨i0, hi, hz0, hz1, hz2⟩ := info_parts infoInt
  have HG := Lib.hid hg'
  have HL := Lib.hid hl
  have HOK := Lib.hid hok
  have HALL := Lib.hid hall
  have hel : g.edges.length ≤ 2000 := hok.2.2.2.1
  clear hg' hl hok hall hme hvi
  go_enter Try.func33, Try.ntmps33
  go_wp2_with fail
  have hb0 : Below w.heap.size w (w.alloc (Obj.cells #[.int .i64 g.n, vi, .slice ae g.edges.length ce] 34)) := (Below.refl _ _).alloc (Nat.le_refl _) _
  have g0 : (w.alloc (Obj.cells #[.int .i64 g.n, vi, .slice ae g.edges.length ce] 34)).cell? ⟨w.heap.size, 0, none⟩ = some (.int .i64 g.n) := World.cell?_alloc_at _ _ _ _ rfl
  have g1 : (w.alloc (Obj.cells #[.int .i64 g.n, vi, .slice ae g.edges.length ce] 34)).cell? ⟨w.heap.size, 1, none⟩ = some vi := World.cell?_alloc_at _ _ _ _ rfl
  have g2 : (w.alloc (Obj.cells #[.int .i64 g.n, vi, .slice ae g.edges.length ce] 34)).cell? ⟨w.heap.size, 2, none⟩ = some (.slice ae g.edges.length ce) := World.cell?_alloc_at _ _ _ _ rfl
  generalize (w.alloc (Obj.cells #[.int .i64 g.n, vi, .slice ae g.edges.length ce] 34)) = w0 at *
  refine (refDistances_any g _ _ (HG.out.later hb0) HOK.out).mono ?_
  rintro e w1 ⟨vD, rfl, oD, HDK, hb1⟩
  have iD := IntsAt.of_own oD
  replace g0 := Below.keeps hb1 g0 (Nat.le_refl _)
  replace g1 := Below.keeps hb1 g1 (Nat.le_refl _)
  replace g2 := Below.keeps hb1 g2 (Nat.le_refl _)
  replace hb0 := hb0.trans (hb1.mono hb0.size)
  clear oD hb1
  go_wp2_with fail
  refine (refCov_any g l _ _ _ (HG.out.later hb0) (HL.out.later hb0) HOK.out HALL.out h60).mono ?_
  rintro e w2 ⟨vS, vE, rfl, iS, iE, hb2⟩
  replace g2 := Below.keeps hb2 g2 (Nat.le_refl _)
  replace iD := iD.later hb2
  replace hb0 := hb0.trans (hb2.mono hb0.size)
  clear hb2 g0 g1
  obtain ⟨aS, cS, rfl, -, -⟩ := ints_cell iS
  clear iS
  obtain ⟨aD, cD, rfl, icD, hmD⟩ := ints_cell iD
  obtain ⟨aE, cE, rfl, icE, hmE⟩ := ints_cell iE
  clear iD iE hmD hmE
  have hb3 : Below w2.heap.size w2 (w2.alloc (Obj.cells #[.slice aS (covK g l l.length).1.length cS, .slice aE (covK g l l.length).2.length cE] 57)) := (Below.refl _ _).alloc (Nat.le_refl _) _
  have t1 : (w2.alloc (Obj.cells #[.slice aS (covK g l l.length).1.length cS, .slice aE (covK g l l.length).2.length cE] 57)).cell? ⟨w2.heap.size, 1, none⟩ = some (.slice aE (covK g l l.length).2.length cE) := World.cell?_alloc_at _ _ _ _ rfl
  have G2 := Lib.hid (Below.keeps hb3 g2 (Nat.le_refl _))
  have ID := Lib.hid (icD.later hb3)
  have IE := Lib.hid (icE.later hb3)
  have HB0 := Lib.hid (hb0.trans (hb3.mono hb0.size))
  have hlD : (dl g).length = g.n.toNat := HDK.out.len
  have hlE : (covK g l l.length).2.length = g.edges.length := by obtain ⟨b, -, h⟩ := CV.walks HOK.out HALL.out l.length (Nat.le_refl _); exact h.l2
  have HLD := Lib.hid hlD
  have HLE := Lib.hid hlE
  clear hlD hlE g2 icD icE hb0
  go_wp2_with fail
  clear hb3
  obtain ⟨m, hm⟩ : ∃ m, m = w2.heap.size := ⟨_, rfl⟩
  rw [← hm] at t1 ⊢
  have T1 := Lib.hid t1
  clear t1 hm
  generalize (w2.alloc (Obj.cells #[.slice aS (covK g l l.length).1.length cS, .slice aE (covK g l l.length).2.length cE] 57)) = w3 at *
  have hO : ownInts w3 w3.heap.size (.slice none 0 0) (uncK g (dl g) (covK g l l.length).2 0) := World.ownsRow_nil _ _ _ _
  go_loopw [7, 8] (fun vo i wr => ∃ k : Nat, k ≤ g.edges.length ∧ i = .int .i64 k ∧ ownInts wr w3.heap.size vo (uncK g (dl g) (covK g l l.length).2 k) ∧ Below w3.heap.size w3 wr) (fun _ i _ => g.edges.length - (intOf i).toNat)
  case atStart => exact ⟨0, Nat.zero_le _, rfl, hO, Below.refl _ _⟩
  case round =>
    clear hO
    obtain ⟨k, hk, rfl, hO, hb⟩ := hrel
    have g2 := Below.keeps hb G2.out (Nat.le_refl _)
    have t1 := Below.keeps hb T1.out (Nat.le_refl _)
    by_cases hlt : k < g.edges.length
    · have hlt' : (k : Int) < (g.edges.length : Int) := by omega
      have hk0 : (0 : Int) ≤ (k : Int) := by omega
      obtain ⟨q1, q2, q3, q4⟩ := edge_in' HOK.out hlt
      obtain ⟨b, o, e1, c1, -, -⟩ := (hce.later (HB0.out.trans (hb.mono HB0.out.size))) k hlt
      subst e1
      obtain ⟨bD, oD, eD, cD'⟩ := ID.out.later hb (ge g.edges k).f.toNat (by rw [HLD.out]; omega)
      subst eD
      obtain ⟨bE, oE, eE, cE'⟩ := IE.out.later hb k (by rw [HLE.out]; omega)
      subst eE
      have q2' : (ge g.edges k).f < ((dl g).length : Int) := by rw [HLD.out]; omega
      have hkE : (k : Int) < ((covK g l l.length).2.length : Int) := by rw [HLE.out]; omega
      have hun := uncK_len g (dl g) (covK g l l.length).2 k
      by_cases hA : gi (dl g) (ge g.edges k).f.toNat = -1
      · have hS : Hid (uncK g (dl g) (covK g l l.length).2 (k + 1) = uncK g (dl g) (covK g l l.length).2 k) := by unfold Hid; rw [uncK, if_neg (fun h => h.1 hA)]
        have hA' : (gi (dl g) (ge g.edges k).f.toNat != -1) = false := by simpa using hA
        clear hA
        go_wp2
        exact ⟨⟨k + 1, by omega, by go_num, by rw [hS.out]; exact hO, hb⟩, by simp [intOf]; omega⟩
      · have hA' : (gi (dl g) (ge g.edges k).f.toNat != -1) = true := by simpa using hA
        by_cases hB : gi (covK g l l.length).2 k = 0
        · have hS : Hid (uncK g (dl g) (covK g l l.length).2 (k + 1) = uncK g (dl g) (covK g l l.length).2 k ++ [(k : Int)]) := by unfold Hid; rw [uncK, if_pos ⟨hA, hB⟩]
          have hB' : (gi (covK g l l.length).2 k == 0) = true := by simpa using hB
          clear hA hB
          have HO := Lib.hid hO
          have HB := Lib.hid hb
          clear hO hb
          go_wp2_with (at_builtin; refine wpList_append_own _ rfl _ _ 23 rfl w3.heap.size 3 i0 (.int .i64 0) 1 8 Try.underlying23 hi hz0 hz1 hz2 rfl (by decide) _ _ _ rfl (HO.out.alloc _) ⟨wr.heap.size, 0, none⟩ 1 1 [.int .i64 (k : Int)] rfl rfl ?c1 ?c2 ?c3 ?c4 ?c5 ?_)
          case c1 =>
            intro j u hj
            match j, hj with
            | 0, hj => simp at hj; subst hj; simp [Addr.add]
          case c2 => intro u hu; simp at hu; subst hu; rfl
          case c3 => unfold maxLen; omega
          case c4 => omega
          case c5 => have := HB.out.size; simp; omega
          · intro v' w' hown' hgrow _
            have hb' : Below w3.heap.size w3 w' := (HB.out.alloc HB.out.size _).grown hgrow (by have := HB.out.size; simp; omega) (fun j hj => (HO.out.lt j hj).1)
            have hO' : ownInts w' w3.heap.size v' (uncK g (dl g) (covK g l l.length).2 (k + 1)) := by rw [hS.out]; simpa [ownInts] using hown'
            have g2 := Below.keeps hb' G2.out (Nat.le_refl _)
            clear hown' hgrow HO HB t1 c1 cD' cE'
            go_wp2
            exact ⟨⟨k + 1, by omega, by go_num, hO', hb'⟩, by simp [intOf]; omega⟩
        · have hS : Hid (uncK g (dl g) (covK g l l.length).2 (k + 1) = uncK g (dl g) (covK g l l.length).2 k) := by unfold Hid; rw [uncK, if_neg (fun h => hB h.2)]
          have hB' : (gi (covK g l l.length).2 k == 0) = false := by simpa using hB
          clear hA hB
          go_wp2
          exact ⟨⟨k + 1, by omega, by go_num, by rw [hS.out]; exact hO, hb⟩, by simp [intOf]; omega⟩
    · have hkk : k = g.edges.length := by omega
      subst hkk
      have iO := IntsAt.of_own hO
      have bw := HB0.out.trans (hb.mono HB0.out.size)
      clear hO t1
      go_wp2
      go_ret
      exact ⟨_, rfl, iO, HDK, bw⟩
end Go.Proofs.Ytnijajjmcdgonaa
