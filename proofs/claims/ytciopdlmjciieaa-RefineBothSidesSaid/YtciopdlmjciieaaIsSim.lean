import Derived.Test.YtciopdlmjciieaaRanks
import Derived.Test.YtciopdlmjciieaaPairO
import Derived.Test.YtciopdlmjciieaaCheckF
namespace Go.Proofs.Ytciopdlmjciieaa
open Go.RowKit
set_option linter.unusedVariables false

/-- The tables with which ranks ends. -/
def FinR (p : P2) (N2 : Nat) (R S : Nat → List Int) : Prop := ∃ m, (stP p N2 (m + 1)).ch = false ∧ (∀ q, q ≤ m → (stP p N2 q).ch = true) ∧ R = (stP p N2 (m + 1)).R ∧ S = (stP p N2 (m + 1)).S
theorem FinR.len {p : P2} {N2 : Nat} {R S : Nat → List Int} (h : FinR p N2 R S) (s : Nat) : (R s).length = N2 ∧ (S s).length = N2 := by
  obtain ⟨m, -, -, rfl, rfl⟩ := h
  exact ⟨(stR_len _ _ _ _ _ _).1 s, (stR_len _ _ _ _ _ _).2 s⟩

def none1 (R : Nat → List Int) (s : Nat) (v : Int) : Bool := decide (gi (R s) v.toNat = -1)
set_option maxHeartbeats 800000 in
set_option maxRecDepth 100000 in
theorem sims_any (R : Nat → List Int) (s N1 N2 T1 bR sx : Nat) (l : List Int) (w : World) (hs : s < N1) (hR : w.cell? ⟨bR, 0, none⟩ = some (.slice (some ⟨T1, 0, none⟩) N1 N1)) (hS : w.cell? ⟨sx, 0, none⟩ = some (.int .i64 s))
    (hT : RowsAt w T1 N1 R) (hl : (R s).length = N2) (hr : ∀ v ∈ l, 0 ≤ v ∧ v < (N2 : Int)) :
    Asks 37 #[.pointer (some ⟨bR, 0, none⟩), .pointer (some ⟨sx, 0, none⟩)] (none1 R s) l w := by
  intro n j hj
  show Calls Try.prog 37 #[Value.int .i64 (gi l j), .pointer (some ⟨bR, 0, none⟩), .pointer (some ⟨sx, 0, none⟩)] _ _
  have hx := hr _ (gi_mem hj)
  generalize gi l j = x at *
  obtain ⟨v, rfl⟩ : ∃ v : Nat, x = (v : Int) := ⟨x.toNat, by omega⟩
  have hv : v < N2 := by omega
  obtain ⟨aT, cT, hT1, -, hI⟩ := hT s hs
  obtain ⟨b, o, e1, c1⟩ := hI v (by omega)
  subst e1
  rw [hl] at hT1
  have e3 : ((v : Int)).toNat = v := by omega
  have hopn : none1 R s (v : Int) = decide (gi (R s) v = -1) := by unfold none1; rw [e3]
  have HO := Lib.hid hopn
  clear hopn hI hl hr hx e3 hT
  generalize gi (R s) v = q at *
  have hRd : (w.drewN n).cell? ⟨bR, 0, none⟩ = some (.slice (some ⟨T1, 0, none⟩) N1 N1) := by simpa using hR
  have hkd : (w.drewN n).cell? ⟨sx, 0, none⟩ = some (.int .i64 s) := by simpa using hS
  have hTd : (w.drewN n).cell? ⟨T1, s, none⟩ = some (.slice (some ⟨b, o, none⟩) N2 cT) := by simpa using hT1
  have hcd : (w.drewN n).cell? ⟨b, o + v, none⟩ = some (.int .i64 q) := by simpa using c1
  clear hR hS hT1 c1
  generalize w.drewN n = W at *
  have HX : Hid ((q == -1) = none1 R s (v : Int)) := by unfold Hid; rw [HO.out]; cases h : (q == -1) <;> simp_all
  go_enter Try.func37, Try.ntmps37
  go_wp2
  go_ret
  exact ⟨ret_bool HX.out, 0, rfl⟩

/-- What IsSimulated says. -/
def SimSaid (p : P2) (R : Nat → List Int) (b : Bool) : Prop :=
  (b = true ∧ ∀ s ∈ p.lo.init, ∃ u ∈ p.up.init, gi (R s.toNat) u.toNat = -1) ∨ (b = false ∧ ∃ s ∈ p.lo.init, ∀ u ∈ p.up.init, gi (R s.toNat) u.toNat ≠ -1)

theorem initOk_mem {g : G} (h : ∀ k, k < g.init.length → initOk g k) : ∀ x ∈ g.init, 0 ≤ x ∧ x < g.n := fun x hx => by
  obtain ⟨k, hk, rfl⟩ := mem_gi.1 hx
  exact ⟨(h k hk).1, (h k hk).2.1⟩

set_option maxHeartbeats 2000000 in
set_option maxRecDepth 100000 in
theorem isSim_any (p : P2) (v : Value) (w : World) (hv : PairV w v p) (hok : PairFull p) (N1 N2 : Nat) (hN1 : p.lo.n = N1) (hN2 : p.up.n = N2) :
    Calls Try.prog 14 #[v] w fun e w' => ∃ R S b, ∃ x : Int, e = .returned (.tuple #[.bool b, .int .i64 x, .int .i64 0]) ∧ Hid (FinR p N2 R S ∧ SimSaid p R b) ∧ Below w.heap.size w w' := by
  obtain ⟨i1, e1, i2, e2, l1, l2, c1, d1, c2, d2, k1, k2, rfl, hR⟩ := hv.open
  have HR := Lib.hid hR; have HOK := Lib.hid hok; have HN1 := Lib.hid hN1; have HN2 := Lib.hid hN2
  clear hR hv hok hN1 hN2
  go_enter Try.func14, Try.ntmps14
  go_wp2_with fail
  have hB := PB.made HR.out 27
  generalize w.alloc _ = wb at *
  refine (checkPair_ok p _ _ hB.r.val HOK.out).mono ?_
  rintro e wa ⟨rfl, hba⟩
  replace hB := hB.later hba
  clear hba
  have b0 := hB.b0; have b1 := hB.b1; have b2 := hB.b2; have b3 := hB.b3; have b4 := hB.b4; have b5 := hB.b5; have b6 := hB.b6; have b7 := hB.b7
  have HB := Lib.hid hB; clear hB
  go_wp2_with fail
  refine (pairOf_any p _ _ HB.out.r.val HOK.out.toPairOk N1 N2 HN1.out HN2.out).mono ?_
  rintro e wc ⟨px, rfl, hX, hbc⟩
  replace HB := Lib.hid (HB.out.later hbc)
  have HX := Lib.hid hX
  clear hX hbc b0 b1 b2 b3 b4 b5 b6 b7
  go_wp2_with fail
  refine (ranks_any p px N1 N2 _ HX.out HOK.out.toPairOk).mono ?_
  rintro e wd ⟨T1, T2, m, rfl, hfin, hT1, hT2, hbd⟩
  replace HB := Lib.hid (HB.out.later hbd)
  have HF : Hid (FinR p N2 (stP p N2 (m + 1)).R (stP p N2 (m + 1)).S) := ⟨m, hfin.out.1, hfin.out.2, rfl, rfl⟩
  clear hbd hT2 hfin
  generalize (stP p N2 (m + 1)).R = R at *
  generalize (stP p N2 (m + 1)).S = S at *
  have hbx : Below wd.heap.size wd (wd.alloc (Obj.cells #[.slice (some ⟨T1, 0, none⟩) N1 N1] 31)) := (Below.refl _ _).alloc (Nat.le_refl _) _
  replace HB := Lib.hid (HB.out.later hbx)
  have HT1 := Lib.hid (hT1.later hbx)
  have hbR : Hid ((wd.alloc (Obj.cells #[.slice (some ⟨T1, 0, none⟩) N1 N1] 31)).cell? ⟨wd.heap.size, 0, none⟩ = some (.slice (some ⟨T1, 0, none⟩) N1 N1)) := box_cell _ _ _ 0 _ rfl
  clear hbx hT1
  go_upto_region 5 with (fail)
  generalize wd.alloc (Obj.cells #[.slice (some ⟨T1, 0, none⟩) N1 N1] 31) = wf at *
  generalize wd.heap.size = bR at *
  have b1 := HB.out.b1
  go_upto_region 6 with (fail)
  clear b1
  have HIL : Hid (∀ x ∈ p.lo.init, 0 ≤ x ∧ x < p.lo.n) := initOk_mem HOK.out.lo.2.2.1
  have HIU : Hid (∀ x ∈ p.up.init, 0 ≤ x ∧ x < p.up.n) := initOk_mem HOK.out.up.2.2.1
  have hlen : p.lo.init.length ≤ maxLen := by obtain ⟨_, _, e, h, -⟩ := HB.out.r.r1; exact h
  unfold maxLen at hlen
  go_loopw [25] (fun i wr => ∃ k : Nat, k ≤ p.lo.init.length ∧ i = .int .i64 k ∧ PB w wr p i1 e1 i2 e2 l1 l2 c1 d1 c2 d2 k1 k2 ∧ wr.cell? ⟨bR, 0, none⟩ = some (.slice (some ⟨T1, 0, none⟩) N1 N1) ∧ RowsAt wr T1 N1 R ∧ Hid (∀ j, j < k → ∃ u ∈ p.up.init, gi (R (gi p.lo.init j).toNat) u.toNat = -1)) (fun i _ => p.lo.init.length - (intOf i).toNat)
  case atStart => exact ⟨0, Nat.zero_le _, rfl, HB.out, hbR.out, HT1.out, fun j hj => by omega⟩
  case round =>
    clear HB hbR HT1
    obtain ⟨k, hk, rfl, hB, hbR, hT, hall⟩ := hrel
    by_cases hlt : k < p.lo.init.length
    · obtain ⟨a', c', e', -, hcc⟩ := hB.r.r1
      injection e' with e1' e2' e3'
      subst e1' e3'
      obtain ⟨b, o, f1, g1⟩ := hcc k hlt
      subst f1
      have hs := HIL.out _ (gi_mem hlt)
      have HSM : Hid (gi p.lo.init k ∈ p.lo.init) := gi_mem hlt
      have hsz := HN1.out
      generalize hsg : gi p.lo.init k = s at *
      obtain ⟨s, rfl⟩ : ∃ s' : Nat, s = (s' : Int) := ⟨s.toNat, by omega⟩
      have hsN : s < N1 := by omega
      have hbs : Below wr.heap.size wr (wr.alloc (Obj.cells #[.int .i64 (s : Int)] 3)) := (Below.refl _ _).alloc (Nat.le_refl _) _
      have hb4 := hB.b4
      have hbs0 : w.heap.size < wr.heap.size := hB.lt
      have HB := Lib.hid (hB.later hbs); have HT := Lib.hid (hT.later hbs); have HBR := Lib.hid (Below.keeps hbs hbR (Nat.le_refl _))
      have HSG := Lib.hid hsg
      clear hB hT hbR hbs hs hsz hcc hsg
      go_wp2_with fail
      clear hb4
      refine (containsF_any 37 _ (none1 R s) (fun _ _ => rfl) p.up.init _ _ HB.out.r.r3 (sims_any R s N1 N2 T1 bR wr.heap.size p.up.init _ hsN HBR.out (box_cell _ _ _ 0 _ rfl) HT.out (HF.out.len s).1 (fun v hv => by have := HIU.out v hv; have := HN2.out; omega))).mono ?_
      rintro e wq ⟨rfl, nq, rfl⟩
      have hd : Below (wr.alloc (Obj.cells #[.int .i64 (s : Int)] 3)).heap.size (wr.alloc (Obj.cells #[.int .i64 (s : Int)] 3)) ((wr.alloc (Obj.cells #[.int .i64 (s : Int)] 3)).drewN nq) := below_drewN (Below.refl _ _) _
      replace HB := Lib.hid (HB.out.later hd); replace HT := Lib.hid (HT.out.later hd); replace HBR := Lib.hid (Below.keeps hd HBR.out (Nat.le_refl _))
      have hsx : ((wr.alloc (Obj.cells #[.int .i64 (s : Int)] 3)).drewN nq).cell? ⟨wr.heap.size, 0, none⟩ = some (.int .i64 (s : Int)) := Below.keeps hd (box_cell _ _ _ 0 _ rfl) (Nat.le_refl _)
      clear hd
      generalize ((wr.alloc (Obj.cells #[.int .i64 (s : Int)] 3)).drewN nq) = wz at *
      cases hb : anyP (none1 R s) p.up.init with
      | true =>
        have HAN : Hid (∃ u ∈ p.up.init, gi (R s) u.toNat = -1) := by
          obtain ⟨u, hu, h2⟩ := List.any_eq_true.1 hb
          exact ⟨u, hu, by unfold none1 at h2; simpa using h2⟩
        clear hb
        go_wp2
        exact ⟨⟨k + 1, by omega, by go_num, HB.out, HBR.out, HT.out, fun j hj => (by rcases Nat.lt_succ_iff_lt_or_eq.1 hj with h | h; exact hall.out j h; rw [h, HSG.out]; exact HAN.out)⟩, by simp [intOf]; omega⟩
      | false =>
        have HAN : Hid (∀ u ∈ p.up.init, gi (R s) u.toNat ≠ -1) := fun u hu => by
          have h2 := (List.any_eq_false.1 hb) u hu
          unfold none1 at h2
          simpa using h2
        clear hb
        go_wp2_with fail
        go_quiet (fail)
        go_wp2
        refine bodyPost_ret (v := .tuple #[.bool false, .int .i64 (s : Int), .int .i64 0]) (by simp [results, Try.results14, go_sem]) rfl ⟨R, S, false, _, rfl, ⟨HF.out, .inr ⟨rfl, _, HSM.out, HAN.out⟩⟩, below_drewN HB.out.bw _⟩
    · have hkk : k = p.lo.init.length := by omega
      subst hkk
      have HAN : Hid (SimSaid p R true) := .inl ⟨rfl, fun s hs => by obtain ⟨j, hj, rfl⟩ := mem_gi.1 hs; exact hall.out j hj⟩
      go_wp2
      refine bodyPost_ret (v := .tuple #[.bool true, .int .i64 0, .int .i64 0]) (by simp [results, Try.results14, go_sem]) rfl ⟨R, S, true, _, rfl, ⟨HF.out, HAN.out⟩, hB.bw⟩
end Go.Proofs.Ytciopdlmjciieaa
