import Derived.Test.YtciopdlmjciieaaUpA
namespace Go.Proofs.Ytciopdlmjciieaa
open Go.RowKit Go.Shelf
set_option linter.unusedVariables false

set_option maxHeartbeats 800000 in
set_option maxRecDepth 100000 in
theorem can1_any (F : Nat → Bool) (i n N2 T bT bi g : Nat) (l : List Int) (w : World) (hn : n ≤ 1000) (hi : i + 1 < n) (hT : w.cell? ⟨bT, 0, none⟩ = some (.slice (some ⟨T, 0, none⟩) n n)) (hI : w.cell? ⟨bi, 0, none⟩ = some (.int .i64 i))
    (hR : w.cell? ⟨T, i + 1, none⟩ = some (.slice (some ⟨g, 0, none⟩) N2 N2)) (hG : ∀ u, u < N2 → w.cell? ⟨g, u, none⟩ = some (.bool (F u))) (hr : ∀ v ∈ l, 0 ≤ v ∧ v < (N2 : Int)) :
    Asks 62 #[.pointer (some ⟨bT, 0, none⟩), .pointer (some ⟨bi, 0, none⟩)] (fun v => F v.toNat) l w := by
  intro q j hj
  show Calls Try.prog 62 #[Value.int .i64 (gi l j), .pointer (some ⟨bT, 0, none⟩), .pointer (some ⟨bi, 0, none⟩)] _ _
  have hx := hr _ (gi_mem hj)
  generalize gi l j = x at *
  obtain ⟨v, rfl⟩ : ∃ v : Nat, x = (v : Int) := ⟨x.toNat, by omega⟩
  have hv : v < N2 := by omega
  have e3 : ((v : Int)).toNat = v := by omega
  have h4 := hG v hv
  have hFv : F ((v : Int)).toNat = F v := by rw [e3]
  have HFV := Lib.hid hFv
  have hTd : (w.drewN q).cell? ⟨bT, 0, none⟩ = some (.slice (some ⟨T, 0, none⟩) n n) := by simpa using hT
  have hId : (w.drewN q).cell? ⟨bi, 0, none⟩ = some (.int .i64 i) := by simpa using hI
  have hRd : (w.drewN q).cell? ⟨T, i + 1, none⟩ = some (.slice (some ⟨g, 0, none⟩) N2 N2) := by simpa using hR
  have hGd : (w.drewN q).cell? ⟨g, v, none⟩ = some (.bool (F v)) := by simpa using h4
  clear hT hI hR hG h4 hr hx hFv e3
  generalize w.drewN q = W at *
  generalize F v = fb at *
  go_enter Try.func62, Try.ntmps62
  go_wp2
  go_ret
  exact ⟨ret_bool HFV.out.symm, 0, rfl⟩

set_option maxHeartbeats 800000 in
set_option maxRecDepth 100000 in
theorem can2_any (F : Nat → Bool) (i n N2 T bT bi g : Nat) (l : List Int) (w : World) (hn : n ≤ 1000) (hi : i < n) (hT : w.cell? ⟨bT, 0, none⟩ = some (.slice (some ⟨T, 0, none⟩) n n)) (hI : w.cell? ⟨bi, 0, none⟩ = some (.int .i64 i))
    (hR : w.cell? ⟨T, i, none⟩ = some (.slice (some ⟨g, 0, none⟩) N2 N2)) (hG : ∀ u, u < N2 → w.cell? ⟨g, u, none⟩ = some (.bool (F u))) (hr : ∀ v ∈ l, 0 ≤ v ∧ v < (N2 : Int)) :
    Asks 63 #[.pointer (some ⟨bT, 0, none⟩), .pointer (some ⟨bi, 0, none⟩)] (fun v => F v.toNat) l w := by
  intro q j hj
  show Calls Try.prog 63 #[Value.int .i64 (gi l j), .pointer (some ⟨bT, 0, none⟩), .pointer (some ⟨bi, 0, none⟩)] _ _
  have hx := hr _ (gi_mem hj)
  generalize gi l j = x at *
  obtain ⟨v, rfl⟩ : ∃ v : Nat, x = (v : Int) := ⟨x.toNat, by omega⟩
  have hv : v < N2 := by omega
  have e3 : ((v : Int)).toNat = v := by omega
  have h4 := hG v hv
  have hFv : F ((v : Int)).toNat = F v := by rw [e3]
  have HFV := Lib.hid hFv
  have hTd : (w.drewN q).cell? ⟨bT, 0, none⟩ = some (.slice (some ⟨T, 0, none⟩) n n) := by simpa using hT
  have hId : (w.drewN q).cell? ⟨bi, 0, none⟩ = some (.int .i64 i) := by simpa using hI
  have hRd : (w.drewN q).cell? ⟨T, i, none⟩ = some (.slice (some ⟨g, 0, none⟩) N2 N2) := by simpa using hR
  have hGd : (w.drewN q).cell? ⟨g, v, none⟩ = some (.bool (F v)) := by simpa using h4
  clear hT hI hR hG h4 hr hx hFv e3
  generalize w.drewN q = W at *
  generalize F v = fb at *
  go_enter Try.func63, Try.ntmps63
  go_wp2
  go_ret
  exact ⟨ret_bool HFV.out.symm, 0, rfl⟩
end Go.Proofs.Ytciopdlmjciieaa
