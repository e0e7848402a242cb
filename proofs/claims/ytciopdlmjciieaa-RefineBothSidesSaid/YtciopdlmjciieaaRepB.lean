import Derived.Test.YtciopdlmjciieaaIsSim
namespace Go.Proofs.Ytciopdlmjciieaa
open Go.RowKit
set_option linter.unusedVariables false
theorem infoBool : (Try.prog.info? 4).map (fun i => (i.zero, i.size, i.bytes)) = some (some (.bool false), 1, 1) := by kernel_rfl
/-- A row of which the first k are -1, the others 0. -/
def filB (k n : Nat) : List Value := List.replicate k (.bool true) ++ List.replicate (n - k) (.bool false)
theorem filB_len {k n : Nat} (h : k ≤ n) : (filB k n).length = n := by simp [filB]; omega
theorem filB_splice {k n m : Nat} (h : k + m ≤ n) : splice (filB k n) k (List.replicate m (.bool true)) = filB (k + m) n := by
  unfold splice filB
  rw [List.take_append_of_le_length (by simp), List.take_of_length_le (by simp), List.drop_append]
  rw [List.drop_eq_nil_of_le (by simp)]
  simp only [List.length_replicate, List.nil_append, List.drop_replicate]
  rw [← List.append_assoc, List.replicate_append_replicate]
  congr 2
  omega
theorem filB_get {k n j : Nat} (h : j < k) : (filB k n)[j]? = some (.bool true) := by
  unfold filB
  rw [List.getElem?_append_left (by simpa using h)]
  simp [h]
set_option maxHeartbeats 2000000 in
set_option maxRecDepth 100000 in
theorem repeatB_any (n : Nat) (hn : n ≤ 100000) (b : Nat) (w : World) (hc : w.cell? ⟨b, 0, none⟩ = some (.bool true)) :
    Calls Try.prog 60 #[.slice (some ⟨b, 0, none⟩) 1 1, .int .i64 n] w fun e w' => ∃ go, e = .returned (.slice (some ⟨go, 0, none⟩) n n) ∧ w.heap.size ≤ go ∧ w'.heap[go]? = some (.cells (List.replicate n (Value.bool true)).toArray 4 (0, 0)) ∧ Below w.heap.size w w' := by
  obtain ⟨i0, hi, hz0, hz1, hz2⟩ := info_parts infoBool
  have hsz1 : (Try.prog.info? 4).map (·.size) = some 1 := by rw [hi]; simp [hz1]
  have hwu : IntKind.u64.wrap (n : Int) = n := w64 (by omega) (by omega)
  have hwi : IntKind.i64.wrap (n : Int) = n := IntWalk.i64_in _ (by omega)
  have hgt : decide ((9223372036854775807 : Int) < (n : Int)) = false := decide_eq_false (by omega)
  go_enter Try.func60, Try.ntmps60
  go_wp2_with (first | (at_make; refine wpList_make_full w rfl _ _ 93 rfl w.heap.size 4 i0 (.bool false) 1 Try.underlying93 hi hz0 hz1 .i64 .i64 n n n rfl rfl rfl rfl (by rw [hz2]; omega) (by unfold maxLen; omega) (Nat.le_refl _) ?_) | (go_at_call 69; refine (mul1n n hn _).mono ?_; rintro e w' ⟨rfl, rfl⟩))
  intro w1 hown hgrow
  have hrow : w1.heap[w.heap.size]? = some (.cells (filB 0 n).toArray 4 (0, 0)) := by
    obtain ⟨_, h⟩ := hown
    rcases h with ⟨h, _⟩ | ⟨g, cap, cur, h1, h2, h3, h4, h5, h6, h7⟩
    · cases h
    · injection h1 with h1 h8 h9
      injection h1 with h1
      injection h1 with h1
      subst h1 h9
      rw [h3]
      have : cur.toList = filB 0 n := by
        rw [List.take_of_length_le (by rw [Array.length_toList, h6]; exact Nat.le_refl _)] at h7
        rw [h7]
        show (madeCells #[Value.bool false] n).toList = _
        rw [toList_madeCells_one]
        simp [filB]
      rw [← this]
  have hb1 : Below w.heap.size w w1 := (Below.refl _ _).grown hgrow (Nat.le_refl _) (fun j hj => by cases hj)
  have hc1 : w1.cell? ⟨b, 0, none⟩ = some (.bool true) := Below.keeps hb1 hc (Nat.le_refl _)
  clear hown hgrow hgt
  obtain ⟨m, hm⟩ : ∃ m, m = Nat.min 1 n := ⟨_, rfl⟩
  have hm' : m ≤ n ∧ m ≤ 1 ∧ (0 < n → m = 1) := by
    have : m = min 1 n := hm
    omega
  have hfs : splice (filB 0 n) 0 (List.replicate m (.bool true)) = filB (0 + m) n := filB_splice (by omega)
  have HFS := Lib.hid hfs
  have HM := Lib.hid hm
  have hfl := filB_len (k := 0) (n := n) (by omega)
  have HFL := Lib.hid hfl
  have HM' := Lib.hid hm'
  clear hfs hm hfl hm'
  go_wp2_with (with_reducible refine wpList_copy_splice rfl _ _ 93 93 rfl 4 Try.underlying93 hsz1 (some ⟨w.heap.size, 0, none⟩) (some ⟨b, 0, none⟩) n n 1 1 rfl rfl w.heap.size 0 (filB 0 n) 4 hrow (List.replicate m (.bool true)) (by rw [List.length_replicate]; exact HM.out) ?d1 (by rw [List.length_replicate, HFL.out]; have := HM'.out; omega) ?d2 w.heap.size w hb1 (Nat.le_refl _) ?d3)
  case d1 =>
    intro hp j v hj
    have h1 := (List.getElem?_eq_some_iff.1 hj).1
    rw [List.length_replicate] at h1
    have hj0 : j = 0 := by have := HM'.out; omega
    subst hj0
    have hv := List.eq_of_mem_replicate (List.mem_of_getElem? hj)
    subst hv
    simpa [Addr.add] using hc1
  case d2 => intro v hv; have := List.eq_of_mem_replicate hv; subst this; rfl
  case d3 =>
    intro w2 hr2 hb2
    have HR2 : Hid (w2.heap[w.heap.size]? = some (.cells (filB m n).toArray 4 (0, 0))) := by have h := hr2.out; rw [HFS.out] at h; unfold Hid; simpa using h
    have HB2 := Lib.hid hb2
    clear hr2 hrow hc1 hb1 hb2
    go_wp2_with fail
    go_loopw [8] (fun s wr => ∃ k : Nat, k ≤ n ∧ (0 < n → 0 < k) ∧ s = .int .i64 k ∧ Hid (wr.heap[w.heap.size]? = some (.cells (filB k n).toArray 4 (0, 0))) ∧ Below w.heap.size w wr) (fun s _ => n - (intOf s).toNat)
    case atStart => exact ⟨m, by have := HM'.out; omega, by have := HM'.out; omega, rfl, HR2, HB2.out⟩
    case round =>
      obtain ⟨k, hk, hk0, rfl, HR, hb⟩ := hrel
      clear HR2 HB2 HM HM' HFS
      by_cases hlt : k < n
      · obtain ⟨q, hq⟩ : ∃ q, q = Nat.min k (n - k) := ⟨_, rfl⟩
        have hq' : k + q ≤ n ∧ q ≤ k ∧ 0 < q := by
          have : q = min k (n - k) := hq
          have := hk0 (by omega)
          omega
        have HQ := Lib.hid hq
        have HQ' := Lib.hid hq'
        have HW : Hid (IntKind.i64.wrap ((k : Int) + (q : Int)) = ((k + q : Nat) : Int)) := by
          unfold Hid; rw [IntWalk.i64_in _ (by omega)]; omega
        have HB := Lib.hid hb
        clear hq hq' hb
        have hk1 : (0 : Int) ≤ (k : Int) := by omega
        have hk2 : (k : Int) ≤ (n : Int) := by omega
        have hk3 : (k : Int) < (n : Int) := by omega
        have hnk : ¬ n = k := by omega
        have HE3 : Hid ((List.replicate q (Value.bool true)).length = Nat.min k (n - k)) := by unfold Hid; rw [List.length_replicate]; exact HQ.out
        have HE4 : Hid (∀ j v, (List.replicate q (Value.bool true))[j]? = some v → wr.drew.cell? ((⟨w.heap.size, 0, none⟩ : Addr).add j) = some v) := by
          intro j v hj
          have h1 := (List.getElem?_eq_some_iff.1 hj).1
          rw [List.length_replicate] at h1
          have hv := List.eq_of_mem_replicate (List.mem_of_getElem? hj)
          subst hv
          show wr.cell? _ = _
          have := row_at HR.out (filB_get (k := k) (n := n) (j := j) (by have := HQ'.out; omega))
          by_cases h0 : j = 0
          · subst h0; simpa [Addr.add] using this
          · simpa [Addr.add, h0] using this
        have HE5 : Hid (k + (List.replicate q (Value.bool true)).length ≤ (filB k n).length) := by unfold Hid; rw [List.length_replicate, filB_len (by omega)]; exact HQ'.out.1
        have HE6 : Hid (∀ v ∈ List.replicate q (Value.bool true), v.oneCell' = true) := fun v hv => by have := List.eq_of_mem_replicate hv; subst this; rfl
        have HRd : Hid (wr.drew.heap[w.heap.size]? = some (.cells (filB k n).toArray 4 (0, 0))) := HR.out
        go_wp2_with fail
        go_region_law ((with_reducible refine step_copy_splice rfl (.tmp 41) (.tmp 44) 93 93 rfl 4 Try.underlying93 hsz1 (some ⟨w.heap.size, k, none⟩) (some ⟨w.heap.size, 0, none⟩) (n - k) (n - k) k n (by go_simp) (by go_simp) w.heap.size k (filB k n) 4 HRd.out (List.replicate q (.bool true)) HE3.out (fun _ => ⟨rfl, _, rfl, HE4.out⟩) HE5.out HE6.out w.heap.size w (HB.out.drew) (Nat.le_refl _) ?_; intro w3 hr3 hb3))
        have HR3 : Hid (w3.heap[w.heap.size]? = some (.cells (filB (k + q) n).toArray 4 (0, 0))) := by have h := hr3.out; rw [filB_splice HQ'.out.1] at h; unfold Hid; exact h
        clear hr3 HE3 HE4 HE5 HE6 HRd
        go_simp
        go_roundw
        case rel => (repeat apply Exists.intro); exact ⟨⟨k + q, by have := HQ'.out; omega, by omega, by rw [HW.out], HR3, hb3⟩, rfl⟩
        case measure => simp [intOf]; rw [HW.out]; have := HQ'.out; omega
      · have : k = n := by omega
        subst this
        go_wp2
        go_ret
        refine ⟨_, rfl, Nat.le_refl _, ?_, hb⟩
        have h := HR.out
        have hf : filB k k = List.replicate k (.bool true) := by simp [filB]
        rw [hf] at h
        exact h
end Go.Proofs.Ytciopdlmjciieaa
