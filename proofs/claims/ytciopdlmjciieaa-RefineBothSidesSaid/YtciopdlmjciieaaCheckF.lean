import Derived.Test.YtciopdlmjciieaaCheckP
namespace Go.Proofs.Ytciopdlmjciieaa
open Go.RowKit
set_option linter.unusedVariables false

def outB (N : Int) (x : Int) : Bool := decide (x < 0 ∨ N ≤ x)
set_option maxHeartbeats 400000 in
theorem outForm_any (l : List Int) (b : Nat) (N : Int) (w : World) (hc : w.cell? ⟨b, 3, none⟩ = some (.int .i64 N)) : Asks 57 #[.pointer (some ⟨b, 0, none⟩)] (outB N) l w := by
  intro n j hj
  show Calls Try.prog 57 #[Value.int .i64 (gi l j), .pointer (some ⟨b, 0, none⟩)] _ _
  generalize gi l j = x
  have hs : ∀ c, decide (x < 0 ∨ N ≤ x) = c → c = outB N x := fun c h => h.symm
  have HS := Lib.hid hs; clear hs
  by_cases h1 : x < 0
  · have HX := Lib.hid (HS.out true (by simp; omega))
    go_enter Try.func57, Try.ntmps57
    go_wp2
    go_ret
    exact ⟨ret_bool HX.out, 0, rfl⟩
  · by_cases h2 : N ≤ x
    · have HX := Lib.hid (HS.out true (by simp; omega))
      go_enter Try.func57, Try.ntmps57
      go_wp2
      go_ret
      exact ⟨ret_bool HX.out, 0, rfl⟩
    · have HX := Lib.hid (HS.out false (by simp; omega))
      go_enter Try.func57, Try.ntmps57
      go_wp2
      go_ret
      exact ⟨ret_bool HX.out, 0, rfl⟩
set_option maxHeartbeats 400000 in
theorem outPath_any (l : List Int) (b : Nat) (N : Int) (w : World) (hc : w.cell? ⟨b, 0, none⟩ = some (.int .i64 N)) : Asks 43 #[.pointer (some ⟨b, 0, none⟩)] (outB N) l w := by
  intro n j hj
  show Calls Try.prog 43 #[Value.int .i64 (gi l j), .pointer (some ⟨b, 0, none⟩)] _ _
  generalize gi l j = x
  have hs : ∀ c, decide (x < 0 ∨ N ≤ x) = c → c = outB N x := fun c h => h.symm
  have HS := Lib.hid hs; clear hs
  by_cases h1 : x < 0
  · have HX := Lib.hid (HS.out true (by simp; omega))
    go_enter Try.func43, Try.ntmps43
    go_wp2
    go_ret
    exact ⟨ret_bool HX.out, 0, rfl⟩
  · by_cases h2 : N ≤ x
    · have HX := Lib.hid (HS.out true (by simp; omega))
      go_enter Try.func43, Try.ntmps43
      go_wp2
      go_ret
      exact ⟨ret_bool HX.out, 0, rfl⟩
    · have HX := Lib.hid (HS.out false (by simp; omega))
      go_enter Try.func43, Try.ntmps43
      go_wp2
      go_ret
      exact ⟨ret_bool HX.out, 0, rfl⟩
theorem outB_no {N : Int} {l : List Int} (h : ∀ x ∈ l, 0 ≤ x ∧ x < N) : anyP (outB N) l = false := anyP_no fun j hj => by
  have := h _ (gi_mem hj)
  unfold outB; simp; omega

/-- A mapping of the right form. -/
structure FormOk (p : P2) (m : List Int) : Prop where
  len : (m.length : Int) = p.lo.n
  rng : ∀ x ∈ m, 0 ≤ x ∧ x < p.up.n

set_option maxHeartbeats 1000000 in
set_option maxRecDepth 100000 in
theorem checkForm_ok (p : P2) (m : List Int) (v vm : Value) (w : World) (hv : PairV w v p) (hm : IntsAt w vm m) (hok : PairFull p) (hf : FormOk p m) :
    Calls Try.prog 38 #[v, vm] w fun e w' => e = .returned (.int .i64 0) ∧ Below w.heap.size w w' := by
  obtain ⟨i1, e1, i2, e2, l1, l2, c1, d1, c2, d2, k1, k2, rfl, hR⟩ := hv.open
  obtain ⟨am, cm, rfl⟩ : ∃ a c, vm = .slice a m.length c := by obtain ⟨a, c, rfl, -, -⟩ := hm; exact ⟨a, c, rfl⟩
  have HR := Lib.hid hR; have HM := Lib.hid hm; clear hR hv hm
  have q1 : ((m.length : Int) != p.lo.n) = false := by rw [hf.len]; simp
  have HBL : Hid (anyP (outB p.up.n) m = false) := outB_no hf.rng
  have HOK := Lib.hid hok
  clear hok hf
  go_enter Try.func38, Try.ntmps38
  go_wp2_with fail
  have hB := PB.made HR.out 27
  have hM := HM.out.later hB.bw
  generalize w.alloc _ = wb at *
  refine (checkPair_ok p _ _ hB.r.val HOK.out).mono ?_
  rintro e wa ⟨rfl, hba⟩
  replace hM := hM.later hba
  replace hB := hB.later hba
  clear hba
  have b0 := hB.b0; have b3 := hB.b3
  have HB := Lib.hid hB; have HM2 := Lib.hid hM; clear hB hM
  go_wp2_with fail
  refine (containsF_any 57 _ (outB p.up.n) (fun _ _ => rfl) _ _ _ HM2.out (outForm_any m w.heap.size p.up.n _ b3)).mono ?_
  rw [HBL.out]
  rintro e we ⟨rfl, q, rfl⟩
  go_wp2
  go_ret
  exact ⟨rfl, below_drewN HB.out.bw _⟩
end Go.Proofs.Ytciopdlmjciieaa
