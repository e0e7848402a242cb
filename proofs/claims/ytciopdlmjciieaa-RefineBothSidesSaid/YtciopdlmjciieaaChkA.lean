import Derived.Test.YtciopdlmjciieaaMapP
import Derived.Test.YtciopdlmjciieaaCmpL
import Derived.Test.YtciopdlmjciieaaStd
namespace Go.Proofs.Ytciopdlmjciieaa
open Go.RowKit
set_option linter.unusedVariables false

/-- A function value that answers a question of each number of a list, and may make memory of its own. -/
def AsksG (K : Nat) (lb : Array Value) (p : Int → Bool) (l : List Int) (w : World) : Prop :=
  ∀ W, Below w.heap.size w W → ∀ j, j < l.length → Calls Try.prog K (#[Value.int .i64 (gi l j)] ++ lb) W fun e w' => e = .returned (.bool (p (gi l j))) ∧ Below W.heap.size W w'

set_option maxHeartbeats 800000 in
set_option maxRecDepth 100000 in
theorem indexG_any (K : Nat) (lb : Array Value) (p : Int → Bool) (hK : ∀ (args : Array Value) (W : World), Sem.run Try.prog (callFunc K args) W = .ok (.enter K args) W) (l : List Int) (v : Value) (w : World) (hl : IntsAt w v l) (hp : AsksG K lb p l w) :
    Calls Try.prog 55 #[v, .func (.func K) #[] lb] w fun e w' => (∃ r : Int, e = .returned (.int .i64 r) ∧ Hid (IdxF l p r)) ∧ Below w.heap.size w w' := by
  obtain ⟨a, c, rfl, hm, hc⟩ := hl
  unfold maxLen at hm
  have H := Lib.hid hc; clear hc
  have HP := Lib.hid hp; clear hp
  go_enter Try.func55, Try.ntmps55
  go_wp2
  go_loopw [8] (fun i wr => ∃ k : Nat, k ≤ l.length ∧ i = .int .i64 k ∧ Hid (Below w.heap.size w wr) ∧ Hid (∀ j, j < k → p (gi l j) = false)) (fun i _ => l.length - (intOf i).toNat)
  case atStart => exact ⟨0, Nat.zero_le _, rfl, Below.refl _ _, fun j hj => by omega⟩
  case round =>
    obtain ⟨k, hk, rfl, hb, hall⟩ := hrel
    by_cases hlt : k < l.length
    · obtain ⟨b, o, e1, c1⟩ := H.out k hlt
      subst e1
      replace c1 := Below.keeps hb.out c1 (Nat.le_refl _)
      have hcall := HP.out wr hb.out k hlt
      cases hq : p (gi l k) with
      | true =>
        have HX : Hid (IdxF l p k) := .inl ⟨k, hlt, rfl, hq, hall.out⟩
        rw [hq] at hcall
        clear hq
        go_wp2_with ((with_reducible refine (hcall).mono ?_); rintro e w' ⟨rfl, hb'⟩; have HB' := Lib.hid hb'; clear hb')
        go_ret
        exact ⟨⟨_, rfl, HX⟩, hb.out.trans (HB'.out.mono hb.out.size)⟩
      | false =>
        have HN := Lib.hid hq
        rw [hq] at hcall
        clear hq
        go_wp2_with ((with_reducible refine (hcall).mono ?_); rintro e w' ⟨rfl, hb'⟩; have HB' := Lib.hid hb'; clear hb')
        go_roundw
        case rel => exact ⟨k + 1, by omega, by go_num, hb.out.trans (HB'.out.mono hb.out.size), fun j hj => (by rcases Nat.lt_succ_iff_lt_or_eq.1 hj with h | h; exact hall.out j h; rw [h]; exact HN.out)⟩
        case measure => simp [intOf]; omega
    · have hkk : k = l.length := by omega
      subst hkk
      have HX : Hid (IdxF l p (-1)) := .inr ⟨rfl, hall.out⟩
      go_wp2
      go_ret
      exact ⟨⟨_, rfl, HX⟩, hb.out⟩

set_option maxHeartbeats 400000 in
theorem containsG_any (K : Nat) (lb : Array Value) (p : Int → Bool) (hK : ∀ (args : Array Value) (W : World), Sem.run Try.prog (callFunc K args) W = .ok (.enter K args) W) (l : List Int) (v : Value) (w : World) (hl : IntsAt w v l) (hp : AsksG K lb p l w) :
    Calls Try.prog 34 #[v, .func (.func K) #[] lb] w fun e w' => e = .returned (.bool (anyP p l)) ∧ Below w.heap.size w w' := by
  go_enter Try.func34, Try.ntmps34
  go_wp2_with fail
  refine (indexG_any K lb p hK l _ _ hl hp).mono ?_
  rintro e w' ⟨⟨r, rfl, hr⟩, hb⟩
  have HB := Lib.hid hb
  clear hb
  rcases hr.out with ⟨k, hk, rfl, hx, -⟩ | ⟨rfl, hx⟩
  · have HX := Lib.hid (anyP_yes hk hx).symm
    clear hx hr
    go_wp2
    go_ret
    exact ⟨ret_bool HX.out, HB.out⟩
  · have HX := Lib.hid (anyP_no hx).symm
    clear hx hr
    go_wp2
    go_ret
    exact ⟨ret_bool HX.out, HB.out⟩

set_option maxHeartbeats 400000 in
set_option maxRecDepth 100000 in
/-- Is a pair in the relation? -/
theorem inner_any (S : Nat → Nat → Bool) (b n t bI bT : Nat) (l : List Int) (w : World) (hI : w.cell? ⟨bI, 0, none⟩ = some (.map (some b))) (hM : InM w b n S) (hT : w.cell? ⟨bT, 0, none⟩ = some (.int .i64 (t : Int))) (ht : t ≤ 100) (hr : ∀ v ∈ l, 0 ≤ v ∧ v ≤ 100) :
    Asks 35 #[.pointer (some ⟨bI, 0, none⟩), .pointer (some ⟨bT, 0, none⟩)] (fun v => S t v.toNat) l w := by
  intro q j hj
  show Calls Try.prog 35 #[Value.int .i64 (gi l j), .pointer (some ⟨bI, 0, none⟩), .pointer (some ⟨bT, 0, none⟩)] _ _
  have hx := hr _ (gi_mem hj)
  generalize gi l j = x at *
  obtain ⟨v, rfl⟩ : ∃ v : Nat, x = (v : Int) := ⟨x.toNat, by omega⟩
  have hrun := (hM.later (below_drewN (Below.refl _ _) q)).look ht (show v ≤ 100 by omega)
  dsimp only [kP] at hrun
  have hId : (w.drewN q).cell? ⟨bI, 0, none⟩ = some (.map (some b)) := by simpa using hI
  have hTd : (w.drewN q).cell? ⟨bT, 0, none⟩ = some (.int .i64 (t : Int)) := by simpa using hT
  have HV : Hid (S t v = S t ((v : Int)).toNat) := by unfold Hid; rw [Int.toNat_natCast]
  clear hI hM hT hr hx ht
  generalize w.drewN q = W at *
  generalize S t v = r at *
  go_enter Try.func35, Try.ntmps35
  go_wp2
  go_ret
  exact ⟨ret_bool HV.out, 0, rfl⟩

set_option maxHeartbeats 800000 in
set_option maxRecDepth 100000 in
/-- Is a lower step broken? -/
theorem broken_any (p : P2) (N1 N2 : Nat) (S : Nat → Nat → Bool) (b n u bX px bU bI : Nat) (l : List Int) (w : World) (hok : PairOk p) (hX : w.cell? ⟨bX, 0, none⟩ = some (.pointer (some ⟨px, 0, none⟩))) (hP : PairX w px p N1 N2) (hU : w.cell? ⟨bU, 0, none⟩ = some (.int .i64 (u : Int))) (hu : u < N2)
    (hI : w.cell? ⟨bI, 0, none⟩ = some (.map (some b))) (hM : InM w b n S) (hr : ∀ t ∈ l, 0 ≤ t ∧ t ≤ 100) :
    AsksG 33 #[.pointer (some ⟨bX, 0, none⟩), .pointer (some ⟨bU, 0, none⟩), .pointer (some ⟨bI, 0, none⟩)] (fun t => !anyP (fun v => S t.toNat v.toNat) (upRow p u)) l w := by
  intro W hb j hj
  show Calls Try.prog 33 #[Value.int .i64 (gi l j), .pointer (some ⟨bX, 0, none⟩), .pointer (some ⟨bU, 0, none⟩), .pointer (some ⟨bI, 0, none⟩)] _ _
  have hx := hr _ (gi_mem hj)
  generalize gi l j = x at *
  obtain ⟨t, rfl⟩ : ∃ t : Nat, x = (t : Int) := ⟨x.toNat, by omega⟩
  have hN2 : p.up.n = N2 := hP.n2
  have hrng : Hid (∀ v ∈ upRow p u, 0 ≤ v ∧ v ≤ 100) := fun v hv => by have := upRow_lt hok hN2 hu v hv; have := hok.u40; omega
  have hbX : Below W.heap.size W (W.alloc (Obj.cells #[.int .i64 (t : Int)] 3)) := (Below.refl _ _).alloc (Nat.le_refl _) _
  have hb2 := hb.trans (hbX.mono hb.size)
  have HBX := Lib.hid hbX
  have cT : (W.alloc (Obj.cells #[.int .i64 (t : Int)] 3)).cell? ⟨W.heap.size, 0, none⟩ = some (.int .i64 (t : Int)) := box_cell _ _ _ 0 _ rfl
  have cX := Below.keeps hb2 hX (Nat.le_refl _)
  have cU := Below.keeps hb2 hU (Nat.le_refl _)
  have cI := Below.keeps hb2 hI (Nat.le_refl _)
  have HM := Lib.hid (hM.later hb2)
  obtain ⟨i1', e1', i2', e2', l1', l2', c1', d1', c2', d2', k1', k2', TL, TU, hp, -, -, -, -, -, -, -, hUP⟩ := (hP.later hb2).ex
  have q9 := hp.q9
  obtain ⟨ar, cr, hrow, hrm, hrc⟩ := hUP u hu
  have HRI : Hid (IntsAt (W.alloc (Obj.cells #[.int .i64 (t : Int)] 3)) (.slice ar (upRow p u).length cr) (upRow p u)) := ⟨_, _, rfl, hrm, hrc⟩
  have HT : Hid (t ≤ 100) := by unfold Hid; omega
  have HCT := Lib.hid cT; have HCI := Lib.hid cI
  have HV : Hid ((!anyP (fun v => S t v.toNat) (upRow p u)) = !anyP (fun v => S ((t : Int)).toNat v.toNat) (upRow p u)) := by unfold Hid; rw [Int.toNat_natCast]
  have hu0 : (u : Int) < (N2 : Int) := by omega
  clear hX hP hU hI hM hr hx hb hb2 hbX hp hUP hrm hrc hN2 hok hj
  go_enter Try.func33, Try.ntmps33
  go_wp2_with fail
  generalize W.alloc (Obj.cells #[.int .i64 (t : Int)] 3) = W1 at *
  generalize hbs : W.heap.size = bT at *
  have HBS := Lib.hid hbs
  clear hbs
  go_quiet ((go_at_call 34; exact Calls.quiet_of (containsF_any 35 _ (fun v => S t v.toNat) (fun _ _ => rfl) (upRow p u) _ _ (HRI.out.later (below_drewN (Below.refl _ _) _)) (inner_any S b n t bI bT _ _ (by simpa using HCI.out) (HM.out.later (below_drewN (Below.refl _ _) _)) (by simpa using HCT.out) HT.out hrng.out))))
  go_wp2
  go_ret
  exact ⟨ret_bool HV.out, by rw [HBS.out]; exact below_drewN HBX.out _⟩
end Go.Proofs.Ytciopdlmjciieaa
