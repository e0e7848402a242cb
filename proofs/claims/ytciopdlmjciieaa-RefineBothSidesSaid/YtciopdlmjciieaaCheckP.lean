import Derived.Test.YtciopdlmjciieaaBox
namespace Go.Proofs.Ytciopdlmjciieaa
open Go.RowKit
set_option linter.unusedVariables false

def badL (x : Int) : Bool := decide (x < 0 ∨ 10000 < x)
set_option maxHeartbeats 400000 in
theorem badLabel_any (l : List Int) (w : World) : Asks 49 #[] badL l w := by
  intro n j hj
  show Calls Try.prog 49 #[Value.int .i64 (gi l j)] _ _
  generalize gi l j = x
  have hs : ∀ b, decide (x < 0 ∨ 10000 < x) = b → b = badL x := fun b h => h.symm
  have HS := Lib.hid hs; clear hs
  by_cases h1 : x < 0
  · have HX := Lib.hid (HS.out true (by simp; omega))
    go_enter Try.func49, Try.ntmps49
    go_wp2
    go_ret
    exact ⟨ret_bool HX.out, 0, rfl⟩
  · by_cases h2 : 10000 < x
    · have HX := Lib.hid (HS.out true (by simp; omega))
      go_enter Try.func49, Try.ntmps49
      go_wp2
      go_ret
      exact ⟨ret_bool HX.out, 0, rfl⟩
    · have HX := Lib.hid (HS.out false (by simp; omega))
      go_enter Try.func49, Try.ntmps49
      go_wp2
      go_ret
      exact ⟨ret_bool HX.out, 0, rfl⟩

set_option maxHeartbeats 1000000 in
set_option maxRecDepth 100000 in
theorem checkPair_ok (p : P2) (v : Value) (w : World) (hv : PairV w v p) (hok : PairFull p) :
    Calls Try.prog 28 #[v] w fun e w' => e = .returned (.int .i64 0) ∧ Below w.heap.size w w' := by
  obtain ⟨i1, e1, i2, e2, l1, l2, c1, d1, c2, d2, k1, k2, rfl, hR⟩ := hv.open
  have HR := Lib.hid hR; clear hR hv
  have hL1 : p.ll.length ≤ 40 := by have := hok.ll; have := hok.l40; omega
  have hL2 : p.ul.length ≤ 40 := by have := hok.ul; have := hok.u40; omega
  have g1 : ¬ (40 < p.lo.n) := by have := hok.l40; omega
  have g2 : ¬ (40 < p.up.n) := by have := hok.u40; omega
  have q1 : ((p.ll.length : Int) != p.lo.n) = false := by rw [hok.ll]; simp
  have q2 : ((p.ul.length : Int) != p.up.n) = false := by rw [hok.ul]; simp
  have HW1 : Hid (wGraph p.lo = true) := (wGraph_iff _).2 hok.lo
  have HW2 : Hid (wGraph p.up = true) := (wGraph_iff _).2 hok.up
  have HBL : Hid (anyP badL (p.ll ++ p.ul) = false) := anyP_no fun j hj => by
    have := hok.lab _ (gi_mem hj)
    unfold badL; simp; omega
  clear hok
  go_enter Try.func28, Try.ntmps28
  go_wp2_with fail
  have hB := PB.made HR.out 27
  generalize w.alloc _ = wb at *
  refine (walksGraph_any p.lo _ _ hB.r.lo).mono ?_
  rw [HW1.out]
  rintro e wa ⟨rfl, hba⟩
  replace hB := hB.later hba
  clear hba
  have b3 := hB.b3; have b4 := hB.b4; have b5 := hB.b5
  have HB := Lib.hid hB; clear hB
  go_wp2_with fail
  refine (walksGraph_any p.up _ _ HB.out.r.up).mono ?_
  rw [HW2.out]
  rintro e wc ⟨rfl, hbc⟩
  have hB := HB.out.later hbc
  clear HB hbc b3 b4 b5
  have b0 := hB.b0; have b3 := hB.b3; have b6 := hB.b6; have b7 := hB.b7
  have HB := Lib.hid hB; clear hB
  go_wp2_with fail
  have hbx : Below wc.heap.size wc (wc.alloc (Obj.cells #[Value.slice l1 p.ll.length k1, Value.slice l2 p.ul.length k2] 22)) := (Below.refl _ _).alloc (Nat.le_refl _) _
  refine (concat2_any p.ll p.ul _ _ _ _ (box_cell _ _ _ 0 _ rfl) (box_cell _ _ _ 1 _ rfl) (HB.out.r.r5.later hbx) (HB.out.r.r6.later hbx) hL1 hL2).mono ?_
  rintro e wd ⟨vc, rfl, hI, hbd⟩
  have hbw : Hid (Below w.heap.size w wd) := (HB.out.bw.trans (hbx.mono HB.out.bw.size)).trans (hbd.mono (Nat.le_trans HB.out.bw.size hbx.size))
  have HI := Lib.hid hI
  clear hbx hbd hI HB
  go_wp2_with fail
  refine (containsF_any 49 #[] badL (fun _ _ => rfl) _ _ _ HI.out (badLabel_any _ _)).mono ?_
  rw [HBL.out]
  rintro e we ⟨rfl, m, rfl⟩
  go_wp2
  go_ret
  exact ⟨rfl, below_drewN hbw.out _⟩
end Go.Proofs.Ytciopdlmjciieaa
