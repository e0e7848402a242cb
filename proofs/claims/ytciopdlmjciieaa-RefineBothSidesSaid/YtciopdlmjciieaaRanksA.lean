import Derived.Test.YtciopdlmjciieaaMathR
import Derived.Test.YtciopdlmjciieaaTabB
import Derived.Test.YtciopdlmjciieaaBox
namespace Go.Proofs.Ytciopdlmjciieaa
open Go.RowKit
set_option linter.unusedVariables false

set_option maxHeartbeats 800000 in
set_option maxRecDepth 100000 in
theorem open_any (R : Nat → List Int) (t N1 N2 T1 bR ed kb cT : Nat) (aT : Option Addr) (k : Int) (l : List Int) (w : World) (ht : t < N1) (hR : w.cell? ⟨bR, 0, none⟩ = some (.slice (some ⟨T1, 0, none⟩) N1 N1)) (hE : w.cell? ⟨ed, 1, none⟩ = some (.int .i64 t)) (hk : w.cell? ⟨kb, 0, none⟩ = some (.int .i64 k))
    (hT : w.cell? ⟨T1, t, none⟩ = some (.slice aT N2 cT)) (hI : IntsCells w aT (R t)) (hl : (R t).length = N2) (hr : ∀ v ∈ l, 0 ≤ v ∧ v < (N2 : Int)) :
    Asks 53 #[.pointer (some ⟨bR, 0, none⟩), .pointer (some ⟨ed, 0, none⟩), .pointer (some ⟨kb, 0, none⟩)] (opn R t k) l w := by
  intro n j hj
  show Calls Try.prog 53 #[Value.int .i64 (gi l j), .pointer (some ⟨bR, 0, none⟩), .pointer (some ⟨ed, 0, none⟩), .pointer (some ⟨kb, 0, none⟩)] _ _
  have hx := hr _ (gi_mem hj)
  generalize gi l j = x at *
  obtain ⟨v, rfl⟩ : ∃ v : Nat, x = (v : Int) := ⟨x.toNat, by omega⟩
  have hv : v < N2 := by omega
  obtain ⟨b, o, e1, c1⟩ := hI v (by omega)
  subst e1
  have e3 : ((v : Int)).toNat = v := by omega
  have hopn : opn R t k (v : Int) = (decide (gi (R t) v = -1) || decide (k ≤ gi (R t) v)) := by unfold opn; rw [e3]
  have HO := Lib.hid hopn
  clear hopn hI hl hr hx e3
  generalize gi (R t) v = q at *
  have hRd : (w.drewN n).cell? ⟨bR, 0, none⟩ = some (.slice (some ⟨T1, 0, none⟩) N1 N1) := by simpa using hR
  have hEd : (w.drewN n).cell? ⟨ed, 1, none⟩ = some (.int .i64 t) := by simpa using hE
  have hkd : (w.drewN n).cell? ⟨kb, 0, none⟩ = some (.int .i64 k) := by simpa using hk
  have hTd : (w.drewN n).cell? ⟨T1, t, none⟩ = some (.slice (some ⟨b, o, none⟩) N2 cT) := by simpa using hT
  have hcd : (w.drewN n).cell? ⟨b, o + v, none⟩ = some (.int .i64 q) := by simpa using c1
  clear hR hE hk hT c1
  generalize w.drewN n = W at *
  by_cases h1 : q = -1
  · subst h1
    have HX : Hid (true = opn R t k (v : Int)) := by unfold Hid; rw [HO.out]; simp
    go_enter Try.func53, Try.ntmps53
    go_wp2
    go_quiet (fail)
    go_wp2
    go_ret
    exact ⟨ret_bool HX.out, _, rfl⟩
  · have q1 : (q == -1) = false := by simpa using h1
    have HX : Hid (decide (k ≤ q) = opn R t k (v : Int)) := by unfold Hid; rw [HO.out]; simp [h1]
    clear h1
    go_enter Try.func53, Try.ntmps53
    go_wp2
    go_quiet (fail)
    go_wp2
    go_ret
    exact ⟨ret_bool HX.out, _, rfl⟩
end Go.Proofs.Ytciopdlmjciieaa
