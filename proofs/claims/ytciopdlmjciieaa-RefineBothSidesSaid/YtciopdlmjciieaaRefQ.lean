import Derived.Test.YtciopdlmjciieaaRefP
import Derived.Test.YtciopdlmjciieaaSmall
import Derived.Test.YtciopdlmjciieaaUpD
namespace Go.Proofs.Ytciopdlmjciieaa
open Go.RowKit
set_option linter.unusedVariables false

set_option maxHeartbeats 2000000 in
set_option maxRecDepth 100000 in
/-- ref.FormErr: 0 only of a mapping of the right form. -/
theorem formErr_any (p : P2) (m : List Int) (v vm : Value) (w : World) (hv : PairV w v p) (hm : IntsAt w vm m) (hok : PairFull p) :
    Calls Try.prog 15 #[v, vm] w fun e w' => ∃ r : Int, e = .returned (.int .i64 r) ∧ Hid (r = 0 → FormOk p m) ∧ Below w.heap.size w w' := by
  obtain ⟨i1, e1, i2, e2, l1, l2, c1, d1, c2, d2, k1, k2, rfl, hR⟩ := hv.open
  obtain ⟨am, cm, rfl⟩ : ∃ a c, vm = .slice a m.length c := by obtain ⟨a, c, rfl, -, -⟩ := hm; exact ⟨a, c, rfl⟩
  have hml : m.length ≤ maxLen := by obtain ⟨_, _, _, h, -⟩ := hm; exact h
  unfold maxLen at hml
  have hwn : IntKind.i64.wrap (p.up.n - 1) = p.up.n - 1 := IntWalk.i64_in _ (by have := hok.u40; have := hok.up.1; omega)
  have HR := Lib.hid hR; have HM := Lib.hid hm
  clear hR hv hm hok
  go_enter Try.func15, Try.ntmps15
  go_upto_region 1 with (fail)
  have hB := PB.made HR.out 27
  have HM2 := Lib.hid (HM.out.later hB.bw)
  clear HR HM
  generalize w.alloc _ = wb at *
  have b0 := hB.b0; have b3 := hB.b3
  have HB := Lib.hid hB; clear hB
  by_cases q1 : (m.length : Int) = p.lo.n
  rotate_left
  · have q1' : ((m.length : Int) != p.lo.n) = true := by simpa using q1
    go_wp2
    go_ret
    exact ⟨6, rfl, fun h => by omega, HB.out.bw⟩
  have q1' : ((m.length : Int) != p.lo.n) = false := by simpa using q1
  have Q1 := Lib.hid q1
  clear q1
  obtain ⟨a', c', e', -, hcc⟩ := HM2.out
  injection e' with e1' e2' e3'
  subst e1' e3'
  have HC := Lib.hid hcc
  clear HM2 hcc e2'
  go_upto_region 4 with (fail)
  clear b0 q1'
  go_loopw [5] (fun i wr => ∃ k : Nat, k ≤ m.length ∧ i = .int .i64 k ∧ Hid (∀ j, j < k → 0 ≤ gi m j ∧ gi m j ≤ p.up.n - 1) ∧ Hid (Below wb.heap.size wb wr)) (fun i _ => m.length - (intOf i).toNat)
  case atStart => exact ⟨0, Nat.zero_le _, rfl, fun j hj => by omega, Below.refl _ _⟩
  case round =>
    obtain ⟨k, hk, rfl, hall, hbr⟩ := hrel
    replace b3 := Below.keeps hbr.out b3 (Nat.le_refl _)
    by_cases hlt : k < m.length
    · obtain ⟨b, o, f1, g1⟩ := HC.out k hlt
      subst f1
      replace g1 := Below.keeps hbr.out g1 (Nat.le_refl _)
      by_cases hd : 0 ≤ gi m k ∧ gi m k ≤ p.up.n - 1
      · go_wp2_with fail
        go_quiet ((go_at_call 27; exact Calls.quiet_of_same (between_yes _ hd)))
        go_wp2
        exact ⟨⟨k + 1, by omega, by go_num, fun j hj => (by rcases Nat.lt_succ_iff_lt_or_eq.1 hj with h | h; exact hall.out j h; rw [h]; exact hd), below_drewN hbr.out _⟩, by simp [intOf]; omega⟩
      · go_wp2_with fail
        go_quiet ((go_at_call 27; exact Calls.quiet_of_same (between_no _ hd)))
        go_wp2
        go_ret
        exact ⟨3, rfl, fun h => by omega, below_drewN (HB.out.later hbr.out).bw _⟩
    · have hkk : k = m.length := by omega
      subst hkk
      have HF : Hid (FormOk p m) := ⟨Q1.out, fun x hx => by obtain ⟨j, hj, rfl⟩ := mem_gi.1 hx; have := hall.out j hj; omega⟩
      go_wp2
      go_ret
      exact ⟨0, rfl, fun _ => HF.out, (HB.out.later hbr.out).bw⟩

def FolPost (g : G) (f t : Int) (w : World) (e : Ending) (w' : World) : Prop := ∃ b, e = .returned (.bool b) ∧ Hid (b = true → f = t ∨ ∃ e ∈ g.edges, e.f = f ∧ e.t = t) ∧ Below w.heap.size w w'
set_option maxHeartbeats 2000000 in
set_option maxRecDepth 100000 in
/-- ref.Follows. -/
theorem follows_any (g : G) (f t : Int) (v : Value) (w : World) (hg : GraphAt w v g) :
    Calls Try.prog 42 #[v, .int .i64 f, .int .i64 t] w (FolPost g f t w) := by
  obtain ⟨vi, ve, rfl, ⟨ai, ci, rfl, hmi, hci⟩, ⟨ae, ce, rfl, hme, hce⟩⟩ := hg
  unfold maxLen at hmi hme
  have hb0 : Below w.heap.size w (w.alloc (Obj.cells #[Value.int IntKind.i64 g.n, Value.slice ai g.init.length ci, Value.slice ae g.edges.length ce] 25)) := (Below.refl _ _).alloc (Nat.le_refl _) _
  have HE := Lib.hid (hce.later hb0)
  have hG := GB.made w g ai ae ci ce 25
  have HB := Lib.hid hb0; clear hb0 hci hce
  go_enter Try.func42, Try.ntmps42
  go_upto_region 1 with (fail)
  generalize (w.alloc (Obj.cells #[Value.int IntKind.i64 g.n, Value.slice ai g.init.length ci, Value.slice ae g.edges.length ce] 25)) = w0 at *
  have g2 := hG.g2
  clear hG
  by_cases h1 : f = t
  · have q1 : (f == t) = true := by simpa using h1
    have H1 := Lib.hid h1
    clear h1
    go_wp2
    go_ret
    exact ⟨true, rfl, fun _ => .inl H1.out, HB.out⟩
  have q1 : (f == t) = false := by simpa using h1
  go_upto_region 4 with (fail)
  clear q1 h1
  go_loop [7] (fun i => ∃ k : Nat, k ≤ g.edges.length ∧ i = .int .i64 k) (fun i => g.edges.length - (intOf i).toNat)
  case atStart => exact ⟨0, Nat.zero_le _, rfl⟩
  case round =>
    obtain ⟨k, hk, rfl⟩ := hrel
    by_cases hlt : k < g.edges.length
    · obtain ⟨b, o, e1, c1, c2, -⟩ := HE.out k hlt
      subst e1
      have HX : Hid ((ge g.edges k).f = f → (ge g.edges k).t = t → ∃ e ∈ g.edges, e.f = f ∧ e.t = t) := fun h1 h2 => ⟨ge g.edges k, by unfold ge; rw [List.getElem?_eq_getElem hlt]; exact List.getElem_mem hlt, h1, h2⟩
      generalize (ge g.edges k).f = x at *
      generalize (ge g.edges k).t = y at *
      by_cases hf : x = f
      · have q1 : (x == f) = true := by simpa using hf
        by_cases ht : y = t
        · have q2 : (y == t) = true := by simpa using ht
          have HY := Lib.hid (HX.out hf ht)
          clear hf ht HX
          go_wp2
          go_ret
          exact ⟨true, rfl, fun _ => .inr HY.out, HB.out⟩
        · have q2 : (y == t) = false := by simpa using ht
          clear hf ht HX
          go_wp2
          exact ⟨⟨k + 1, by omega, by go_num⟩, by simp [intOf]; omega⟩
      · have q1 : (x == f) = false := by simpa using hf
        clear hf HX
        go_wp2
        exact ⟨⟨k + 1, by omega, by go_num⟩, by simp [intOf]; omega⟩
    · have hkk : k = g.edges.length := by omega
      subst hkk
      go_wp2
      go_ret
      exact ⟨false, rfl, fun h => (by cases h), HB.out⟩
theorem holds_is {l : List Int} {x : Int} {v : Value} {b : Bool} (hb : decide (x ∈ l) = b) (w : World) (hl : IntsAt w v l) : Calls Try.prog 41 #[v, .int .i64 x] w fun e w' => e = .returned (.bool b) ∧ w' = w := by
  subst hb
  exact holds_any l x v w hl
/-- What PathErr keeps in memory. -/
structure PQ (w wr : World) (p : P2) (l : List Int) (i1 e1 i2 e2 l1 l2 al : Option Addr) (c1 d1 c2 d2 k1 k2 : Nat) : Prop where
  b : PB w wr p i1 e1 i2 e2 l1 l2 c1 d1 c2 d2 k1 k2
  l : IntsCells wr al l
theorem PQ.later {w wr w' : World} {p : P2} {l : List Int} {i1 e1 i2 e2 l1 l2 al : Option Addr} {c1 d1 c2 d2 k1 k2 : Nat} (h : PQ w wr p l i1 e1 i2 e2 l1 l2 al c1 d1 c2 d2 k1 k2) (hb : Below wr.heap.size wr w') : PQ w w' p l i1 e1 i2 e2 l1 l2 al c1 d1 c2 d2 k1 k2 :=
  ⟨h.b.later hb, h.l.later hb⟩

set_option maxHeartbeats 4000000 in
set_option maxRecDepth 100000 in
/-- ref.PathErr: 0 only of a path. -/
theorem pathErr_any (p : P2) (l : List Int) (v vl : Value) (w : World) (hv : PairV w v p) (hl : IntsAt w vl l) (hok : PairFull p) :
    Calls Try.prog 18 #[v, vl] w fun e w' => ∃ r : Int, e = .returned (.int .i64 r) ∧ Hid (r = 0 → PathOk p l) ∧ Below w.heap.size w w' := by
  obtain ⟨i1, e1, i2, e2, l1, l2, c1, d1, c2, d2, k1, k2, rfl, hR⟩ := hv.open
  obtain ⟨al, cl, rfl, hml, hcl⟩ := hl
  unfold maxLen at hml
  have hwn : IntKind.i64.wrap (p.lo.n - 1) = p.lo.n - 1 := IntWalk.i64_in _ (by have := hok.l40; have := hok.lo.1; omega)
  have HR := Lib.hid hR; have HL := Lib.hid hcl
  clear hR hv hcl hok
  go_enter Try.func18, Try.ntmps18
  go_upto_region 1 with (fail)
  have hB := PB.made HR.out 27
  have HQ : Hid (PQ w (w.alloc (Obj.cells (pCells p i1 e1 i2 e2 l1 l2 c1 d1 c2 d2 k1 k2) 27)) p l i1 e1 i2 e2 l1 l2 al c1 d1 c2 d2 k1 k2) := ⟨hB, HL.out.later hB.bw⟩
  clear HR HL hB
  generalize w.alloc _ = wb at *
  by_cases q1 : l.length = 0
  · have q1' : ((l.length : Int) == 0) = true := by simpa using q1
    go_wp2
    go_ret
    exact ⟨1, rfl, fun h => by omega, HQ.out.b.bw⟩
  have q1' : ((l.length : Int) == 0) = false := by simpa using q1
  have Q1 := Lib.hid q1
  by_cases q2 : (60 : Int) < (l.length : Int)
  · clear q1
    go_wp2
    go_ret
    exact ⟨2, rfl, fun h => by omega, HQ.out.b.bw⟩
  have Q2 := Lib.hid q2
  go_upto_region 6 with (fail)
  clear q1 q2 q1'
  go_loopw [5] (fun i wr => ∃ k : Nat, k ≤ l.length ∧ i = .int .i64 k ∧ Hid (∀ j, j < k → 0 ≤ gi l j ∧ gi l j ≤ p.lo.n - 1) ∧ Hid (PQ w wr p l i1 e1 i2 e2 l1 l2 al c1 d1 c2 d2 k1 k2)) (fun i _ => l.length - (intOf i).toNat)
  case atStart => exact ⟨0, Nat.zero_le _, rfl, fun j hj => by omega, HQ⟩
  case round =>
    clear HQ
    obtain ⟨k, hk, rfl, hall, hq⟩ := hrel
    by_cases hlt : k < l.length
    · have b0 := hq.out.b.b0
      obtain ⟨b, o, f1, g1⟩ := hq.out.l k hlt
      subst f1
      by_cases hd : 0 ≤ gi l k ∧ gi l k ≤ p.lo.n - 1
      · go_wp2_with fail
        go_quiet ((go_at_call 27; exact Calls.quiet_of_same (between_yes _ hd)))
        go_wp2
        exact ⟨⟨k + 1, by omega, by go_num, fun j hj => (by rcases Nat.lt_succ_iff_lt_or_eq.1 hj with h | h; exact hall.out j h; rw [h]; exact hd), hq.out.later (below_drewN (Below.refl _ _) _)⟩, by simp [intOf]; omega⟩
      · go_wp2_with fail
        go_quiet ((go_at_call 27; exact Calls.quiet_of_same (between_no _ hd)))
        go_wp2
        go_ret
        exact ⟨3, rfl, fun h => by omega, below_drewN hq.out.b.bw _⟩
    · have hkk : k = l.length := by omega
      subst hkk
      have hl0 : 0 < l.length := Nat.pos_of_ne_zero Q1.out
      obtain ⟨b, o, f1, g1⟩ := hq.out.l 0 hl0
      subst f1
      rw [Nat.add_zero] at g1
      have b1 := hq.out.b.b1
      have HI : Hid (IntsAt wr (.slice i1 p.lo.init.length c1) p.lo.init) := hq.out.b.r.r1
      generalize hx : gi l 0 = x at g1
      have HX := Lib.hid hx
      clear hx
      by_cases hin : x ∈ p.lo.init
      rotate_left
      · have HD : Hid (decide (x ∈ p.lo.init) = false) := decide_eq_false hin
        clear hin
        go_wp2_with fail
        go_quiet ((go_at_call 41; exact Calls.quiet_of_same (holds_is HD.out _ (HI.out.drew _))))
        go_wp2
        go_ret
        exact ⟨14, rfl, fun h => by omega, below_drewN hq.out.b.bw _⟩
      have HD : Hid (decide (x ∈ p.lo.init) = true) := decide_eq_true hin
      have HIN := Lib.hid hin
      clear hin
      go_wp2_with fail
      go_quiet ((go_at_call 41; exact Calls.quiet_of_same (holds_is HD.out _ (HI.out.drew _))))
      have HALL := hall
      have HQA : Hid (∀ n, PQ w (wr.drewN n) p l i1 e1 i2 e2 l1 l2 (some ⟨b, o, none⟩) c1 d1 c2 d2 k1 k2) := fun n => hq.out.later (below_drewN (Below.refl _ _) _)
      clear hall g1 b1 HI HD hq
      go_upto_region 13 with (fail)
      go_loopw [6] (fun i wr => ∃ k : Nat, k + 1 ≤ l.length ∧ i = .int .i64 ((k : Int) + 1) ∧ Hid (∀ j, j < k → gi l j = gi l (j + 1) ∨ ∃ e ∈ p.lo.edges, e.f = gi l j ∧ e.t = gi l (j + 1)) ∧ Hid (PQ w wr p l i1 e1 i2 e2 l1 l2 (some ⟨b, o, none⟩) c1 d1 c2 d2 k1 k2)) (fun i _ => l.length - (intOf i).toNat)
      case atStart => exact ⟨0, hl0, rfl, fun j hj => by omega, HQA.out _⟩
      case round =>
        clear HQA
        obtain ⟨k, hk, rfl, hall, hq⟩ := hrel
        have hk0 : (0 : Int) ≤ (k : Int) := by omega
        have hwk : IntKind.i64.wrap (k : Int) = (k : Int) := IntWalk.i64_in _ (by omega)
        have hwk1 : IntKind.i64.wrap ((k : Int) + 1) = (k : Int) + 1 := IntWalk.i64_in _ (by omega)
        have hwk2 : IntKind.i64.wrap ((k : Int) + 1 - 1) = (k : Int) := by rw [Int.add_sub_cancel]; exact hwk
        by_cases hlt : k + 1 < l.length
        · have hk1 : (k : Int) < (l.length : Int) := by omega
          have hk2 : (k : Int) + 1 < (l.length : Int) := by omega
          have hk3 : (0 : Int) ≤ (k : Int) + 1 := by omega
          have hk4 : ((k : Int) + 1).toNat = k + 1 := by omega
          obtain ⟨b', o', f1, g1⟩ := hq.out.l k (by omega)
          injection f1 with f1
          injection f1 with f1 f2 _
          subst f1 f2
          obtain ⟨b', o', f1, g2⟩ := hq.out.l (k + 1) (by omega)
          injection f1 with f1
          injection f1 with f1 f2 _
          subst f1 f2
          have b0 := hq.out.b.b0; have b1 := hq.out.b.b1; have b2 := hq.out.b.b2
          have HST : Hid (∀ r : Bool, Hid (r = true → gi l k = gi l (k + 1) ∨ ∃ e ∈ p.lo.edges, e.f = gi l k ∧ e.t = gi l (k + 1)) → r = true → ∀ j, j < k + 1 → gi l j = gi l (j + 1) ∨ ∃ e ∈ p.lo.edges, e.f = gi l j ∧ e.t = gi l (j + 1)) := fun r h hr j hj => by
            rcases Nat.lt_succ_iff_lt_or_eq.1 hj with h' | h'
            · exact hall.out j h'
            · rw [h']; exact h.out hr
          generalize gi l k = x at *
          generalize gi l (k + 1) = y at *
          go_wp2_with fail
          go_region_held3 (fun w' => w'.cell? ⟨w.heap.size, 0, none⟩ = some (.int .i64 p.lo.n) ∧ w'.cell? ⟨w.heap.size, 1, none⟩ = some (.slice i1 p.lo.init.length c1) ∧ w'.cell? ⟨w.heap.size, 2, none⟩ = some (.slice e1 p.lo.edges.length d1) ∧ w'.cell? ⟨b, o + k, none⟩ = some (.int .i64 x) ∧ w'.cell? ⟨b, o + (k + 1), none⟩ = some (.int .i64 y) ∧ Below wr.heap.size wr w')
            ((refine (fun hB : Below wr.heap.size wr _ => ⟨Below.keeps hB b0 (Nat.le_refl _), Below.keeps hB b1 (Nat.le_refl _), Below.keeps hB b2 (Nat.le_refl _), Below.keeps hB g1 (Nat.le_refl _), Below.keeps hB g2 (Nat.le_refl _), hB⟩) ?_; (repeat (first | with_reducible exact Below.refl _ _ | with_reducible assumption | with_reducible refine Below.drew ?_))))
            ((go_at_call 42; refine (follows_any p.lo x y _ _ ((hq.out.b.r.later (Below.refl _ _).drew).lo)).mono ?_; rintro e wA ⟨r, rfl, hr, hA⟩; have hbA : Below wr.heap.size wr wA := Below.trans (b := wr.drew) (Below.refl _ _).drew hA))
          have hq2 := Lib.hid (hq.out.later hbA)
          clear hA hbA b0 b1 b2 g1 g2 hq
          cases r with
          | true =>
            go_wp2
            exact ⟨⟨k + 1, by omega, by go_num, HST.out true hr rfl, hq2⟩, by simp [intOf]; omega⟩
          | false =>
            go_wp2
            go_ret
            exact ⟨14, rfl, fun h => by omega, hq2.out.b.bw⟩
        · have HP : Hid (PathOk p l) := by
            refine ⟨fun h => by rw [h] at hl0; simp at hl0, by have := Q2.out; omega, fun s hs => ?_, by rw [HX.out]; exact HIN.out, fun i hi => ?_⟩
            · obtain ⟨j, hj, rfl⟩ := mem_gi.1 hs; have := HALL.out j hj; omega
            · rcases hall.out i (by omega) with h | ⟨e, he, h1, h2⟩
              · exact .inl h.symm
              · refine .inr (mem_nb.2 ⟨e, he, ?_, h2⟩)
                have := (HALL.out i (by omega)).1
                rw [h1]; omega
          have hk2 : ¬ ((k : Int) + 1 < (l.length : Int)) := by omega
          go_wp2
          go_ret
          exact ⟨0, rfl, fun _ => HP.out, hq.out.b.bw⟩
end Go.Proofs.Ytciopdlmjciieaa
