import Derived.Test.YtnijajjmcdgonaaMathF
import Derived.Test.YtnijajjmcdgonaaWalkZ
import Derived.Test.YtnijajjmcdgonaaWalkU
namespace Go.Proofs.Ytnijajjmcdgonaa
open Go.RowKit
set_option linter.unusedVariables false

/-- The cells from an address on read as these walks. -/
def WalksCells (w : World) (a : Option Addr) (l : List W3) : Prop :=
  ∀ j, j < l.length → ∃ b off aw cs, a = some ⟨b, off, none⟩ ∧ w.cell? ⟨b, off + j * 3, none⟩ = some (.int .i64 (gw l j).first) ∧
    w.cell? ⟨b, off + j * 3 + 1, none⟩ = some (.slice aw (gw l j).steps.length cs) ∧ w.cell? ⟨b, off + j * 3 + 2, none⟩ = some (.bool (gw l j).stuck) ∧
    (gw l j).steps.length ≤ maxLen ∧ IntsCells w aw (gw l j).steps
def WalksAt (w : World) (v : Value) (l : List W3) : Prop := ∃ a cap, v = .slice a l.length cap ∧ l.length ≤ maxLen ∧ WalksCells w a l
theorem WalksCells.later {w w' : World} {a : Option Addr} {l : List W3} (h : WalksCells w a l) (hb : Below w.heap.size w w') : WalksCells w' a l := by
  intro j hj
  obtain ⟨b, off, aw, cs, e, h0, h1, h2, h3, h4⟩ := h j hj
  exact ⟨b, off, aw, cs, e, Below.keeps hb h0 (Nat.le_refl _), Below.keeps hb h1 (Nat.le_refl _), Below.keeps hb h2 (Nat.le_refl _), h3, h4.later hb⟩
theorem WalksAt.later {w w' : World} {v : Value} {l : List W3} (h : WalksAt w v l) (hb : Below w.heap.size w w') : WalksAt w' v l := by
  obtain ⟨a, cap, rfl, hm, hc⟩ := h
  exact ⟨a, cap, rfl, hm, hc.later hb⟩

def ShortSaid (l : List W3) (w : World) (e : Ending) (w' : World) : Prop :=
  ∃ r : Bool, e = .returned (.bool r) ∧ w' = w ∧ Hid (r = true → l.length ≤ 62 ∧ ∀ j, j < l.length → (gw l j).steps.length ≤ 302)
set_option maxHeartbeats 800000 in
set_option maxRecDepth 100000 in
/-- What 'short' says of walks if it says yes. -/
theorem short_any (l : List W3) (v : Value) (w : World) (hl : WalksAt w v l) :
    Calls Try.prog 26 #[v] w (ShortSaid l w) := by
  obtain ⟨a, cap, rfl, hm, hc⟩ := hl
  unfold maxLen at hm
  have hno : Hid (false = true → l.length ≤ 62 ∧ ∀ j, j < l.length → (gw l j).steps.length ≤ 302) := fun h => by cases h
  by_cases d0 : 20 < l.length ∧ l.length ≤ 60
  · have e1 : decide ((20 : Int) < (l.length : Int)) = true := decide_eq_true (by omega)
    have e2 : decide ((l.length : Int) ≤ 60) = true := decide_eq_true (by omega)
    go_enter Try.func26, Try.ntmps26
    go_wp2
    go_ret
    exact ⟨_, rfl, rfl, hno⟩
  by_cases d3 : 62 < l.length
  · have e1 : decide ((20 : Int) < (l.length : Int)) = true := decide_eq_true (by omega)
    have e2 : decide ((l.length : Int) ≤ 60) = false := decide_eq_false (by omega)
    have e3 : decide ((62 : Int) < (l.length : Int)) = true := decide_eq_true (by omega)
    go_enter Try.func26, Try.ntmps26
    go_wp2
    go_ret
    exact ⟨_, rfl, rfl, hno⟩
  have e3 : decide ((62 : Int) < (l.length : Int)) = false := decide_eq_false (by omega)
  have HC := Lib.hid hc
  clear hc
  have main : ∀ b : Bool, decide ((20 : Int) < (l.length : Int)) = b → (b = true → decide ((l.length : Int) ≤ 60) = false) → Calls Try.prog 26 #[.slice a l.length cap] w (ShortSaid l w) := by
    intro b e1 e2
    cases b
    all_goals first
      | replace e2 := e2 rfl
      | clear e2
    all_goals
      go_enter Try.func26, Try.ntmps26
      go_wp2
      go_loop [3] (fun i => ∃ k : Nat, k ≤ l.length ∧ i = .int .i64 k ∧ Hid (∀ j, j < k → (gw l j).steps.length ≤ 302)) (fun i => l.length - (intOf i).toNat)
      case atStart => exact ⟨0, Nat.zero_le _, rfl, fun j hj => by omega⟩
      case round =>
        obtain ⟨k, hk, rfl, hall⟩ := hrel
        by_cases hlt : k < l.length
        · have hlt' : (k : Int) < (l.length : Int) := by omega
          obtain ⟨b, off, aw, cs, ea, c0, c1, c2, hml, -⟩ := HC.out k hlt
          subst ea
          unfold maxLen at hml
          clear c0 c2
          by_cases p1 : 60 < (gw l k).steps.length ∧ (gw l k).steps.length ≤ 300
          · have q1 : decide ((60 : Int) < ((gw l k).steps.length : Int)) = true := decide_eq_true (by omega)
            have q2 : decide (((gw l k).steps.length : Int) ≤ 300) = true := decide_eq_true (by omega)
            clear p1
            go_wp2
            go_ret
            exact ⟨_, rfl, rfl, hno⟩
          by_cases p2 : 302 < (gw l k).steps.length
          · have q1 : decide ((60 : Int) < ((gw l k).steps.length : Int)) = true := decide_eq_true (by omega)
            have q2 : decide (((gw l k).steps.length : Int) ≤ 300) = false := decide_eq_false (by omega)
            have q3 : decide ((302 : Int) < ((gw l k).steps.length : Int)) = true := decide_eq_true (by omega)
            clear p1 p2
            go_wp2
            go_ret
            exact ⟨_, rfl, rfl, hno⟩
          have q3 : decide ((302 : Int) < ((gw l k).steps.length : Int)) = false := decide_eq_false (by omega)
          have hall' : Hid (∀ j, j < k + 1 → (gw l j).steps.length ≤ 302) := fun j hj => by
            by_cases hjk : j < k
            · exact hall.out j hjk
            · obtain rfl : j = k := by omega
              omega
          by_cases p3 : 60 < (gw l k).steps.length
          · have q1 : decide ((60 : Int) < ((gw l k).steps.length : Int)) = true := decide_eq_true (by omega)
            have q2 : decide (((gw l k).steps.length : Int) ≤ 300) = false := decide_eq_false (by omega)
            clear p1 p2 p3 hall
            go_wp2
            exact ⟨⟨k + 1, by omega, by go_num, hall'⟩, by simp [intOf]; omega⟩
          · have q1 : decide ((60 : Int) < ((gw l k).steps.length : Int)) = false := decide_eq_false (by omega)
            clear p1 p2 p3 hall
            go_wp2
            exact ⟨⟨k + 1, by omega, by go_num, hall'⟩, by simp [intOf]; omega⟩
        · have hkk : k = l.length := by omega
          subst hkk
          have hyes : Hid (true = true → l.length ≤ 62 ∧ ∀ j, j < l.length → (gw l j).steps.length ≤ 302) := fun _ => ⟨by omega, hall.out⟩
          clear hall
          go_wp2
          go_ret
          exact ⟨_, rfl, rfl, fun _ => hyes.out trivial⟩
  refine main (decide ((20 : Int) < (l.length : Int))) rfl fun h => decide_eq_false (by have := of_decide_eq_true h; omega)

/-! Walks of a call's own. -/
theorem infoWalk : (Try.prog.info? 39).map (fun i => (i.zero, i.size, i.bytes)) = some (some (.agg #[.int .i64 0, .slice none 0 0, .bool false]), 3, 40) := by kernel_rfl
/-- k walks in a row of a call's own, their steps in rows of their own. -/
structure OW (w : World) (B : Nat) (v : Value) (l : List W3) (k : Nat) : Prop where
  row : ∃ xs, w.ownsRow B 39 3 v k xs ∧ ∀ j, j < k → ∃ a c, xs[j * 3]? = some (.int .i64 (gw l j).first) ∧ xs[j * 3 + 1]? = some (.slice a (gw l j).steps.length c) ∧ xs[j * 3 + 2]? = some (.bool (gw l j).stuck) ∧ ownInts w B (.slice a (gw l j).steps.length c) (gw l j).steps
theorem row_apart {w : World} {B B' : Nat} {t t' : TypeId} {s s' : Nat} {v v' : Value} {n n' : Nat} {xs xs' : List Value} (h : w.ownsRow B t s v n xs) (h' : w.ownsRow B' t' s' v' n' xs') (ht : t ≠ t') : v.ownBlock = none ∨ v.ownBlock ≠ v'.ownBlock := by
  rcases h.2 with ⟨rfl, -⟩ | ⟨g, cap, cur, rfl, -, hg, -⟩
  · exact .inl rfl
  · right
    rcases h'.2 with ⟨rfl, -⟩ | ⟨g', cap', cur', rfl, -, hg', -⟩
    · simp [Value.ownBlock]
    · intro he
      simp [Value.ownBlock] at he
      subst he
      rw [hg] at hg'
      injection hg' with hg'
      injection hg' with h1 h2
      exact ht h2
theorem OW.later {w w' : World} {B : Nat} {v : Value} {l : List W3} {k : Nat} (h : OW w B v l k) (hb : Below w.heap.size w w') : OW w' B v l k := by
  obtain ⟨xs, h1, h2⟩ := h.row
  refine ⟨xs, ownsRow_later h1 hb, fun j hj => ?_⟩
  obtain ⟨a, c, e0, e1, e2, e3⟩ := h2 j hj
  exact ⟨a, c, e0, e1, e2, ownsRow_later e3 hb⟩
theorem OW.at {w : World} {B : Nat} {v : Value} {l : List W3} (h : OW w B v l l.length) (hm : ∀ j, j < l.length → (gw l j).steps.length ≤ maxLen) : WalksAt w v l := by
  obtain ⟨xs, h1, h2⟩ := h.row
  obtain ⟨hlen, h1⟩ := h1
  rcases h1 with ⟨rfl, h0⟩ | ⟨g, cap, cur, rfl, hB, hg, hn, hmm, hs, ht⟩
  · exact ⟨none, 0, by rw [h0], by rw [h0]; exact Nat.zero_le _, fun j hj => by omega⟩
  · have key : ∀ j u, j < l.length * 3 → xs[j]? = some u → w.cell? ⟨g, 0 + j, none⟩ = some u := by
      intro j u hj hu
      rw [← ht, List.getElem?_take_of_lt hj] at hu
      have h3 : cur[j]? = some u := by rw [← Array.getElem?_toList]; exact hu
      unfold World.cell?
      simp only [hg, Nat.zero_add]
      simpa using h3
    refine ⟨_, _, rfl, Nat.le_trans hn hmm, fun j hj => ?_⟩
    obtain ⟨a, c, e0, e1, e2, e3⟩ := h2 j hj
    exact ⟨g, 0, a, c, rfl, key _ _ (by omega) e0, key _ _ (by omega) e1, key _ _ (by omega) e2, hm j hj, (own_cells e3).2.1⟩
theorem info_walk : ∃ i, Try.prog.info? 39 = some i ∧ i.zero = some (.agg #[.int .i64 0, .slice none 0 0, .bool false]) ∧ i.size = 3 ∧ i.bytes = 40 := by
  have h := infoWalk
  cases hi : Try.prog.info? 39 with
  | none => rw [hi] at h; cases h
  | some i =>
    rw [hi] at h
    simp at h
    exact ⟨i, rfl, h.1, h.2.1, h.2.2⟩

set_option maxHeartbeats 2000000 in
set_option maxRecDepth 100000 in
theorem ownWalks_any (l : List W3) (v : Value) (w : World) (hl : WalksAt w v l) (h1 : l.length ≤ 1000) (h2 : ∀ j, j < l.length → (gw l j).steps.length ≤ 1000) :
    Calls Try.prog 29 #[v] w fun e w' => ∃ v', e = .returned v' ∧ WalksAt w' v' l ∧ Below w.heap.size w w' := by
  obtain ⟨a, cap, rfl, hm, hc⟩ := hl
  obtain ⟨i0, hi, hz0, hz1, hz2⟩ := info_walk
  have HC := Lib.hid hc
  have H2 := Lib.hid h2
  clear hc h2
  unfold maxLen at hm
  go_enter Try.func29, Try.ntmps29
  go_wp2
  have hO : OW w w.heap.size (.slice none 0 0) l 0 := ⟨⟨[], World.ownsRow_nil _ _ _ _, fun j hj => by omega⟩⟩
  have hb : Below w.heap.size w w := Below.refl _ _
  go_loopw [3, 4] (fun vo i wr => ∃ k : Nat, k ≤ l.length ∧ i = .int .i64 k ∧ OW wr w.heap.size vo l k ∧ Below w.heap.size w wr) (fun _ i _ => l.length - (intOf i).toNat)
  case atStart => exact ⟨0, Nat.zero_le _, rfl, hO, hb⟩
  case round =>
    clear hO hb
    obtain ⟨k, hk, rfl, hO, hb⟩ := hrel
    by_cases hlt : k < l.length
    · have hlt' : (k : Int) < (l.length : Int) := by omega
      obtain ⟨b, off, aw, cs, ea, c0, c1, c2, hml, hcs⟩ := HC.out.later hb k hlt
      subst ea
      have hk0 : (0 : Int) ≤ (k : Int) := by omega
      have HX : Hid (WalkAt wr (.agg #[.int .i64 (gw l k).first, .slice aw (gw l k).steps.length cs, .bool (gw l k).stuck]) (gw l k)) := ⟨_, rfl, _, _, rfl, hml, hcs⟩
      have HS3 : Hid ((gw l k).steps.length ≤ 100000) := by have := H2.out k hlt; unfold Hid; omega
      have HO := Lib.hid hO
      have HB := Lib.hid hb
      clear hml hcs hO hb
      go_wp2_with fail
      refine (ownWalk_own (gw l k) _ _ HX.out HS3.out).mono ?_
      rintro e wA ⟨aA, cA, rfl, oA, hA⟩
      have HO1 : Hid (OW wA w.heap.size u3 l k) := HO.out.later hA
      have HB1 : Hid (Below w.heap.size w wA) := HB.out.trans (hA.mono HB.out.size)
      have HoA : Hid (ownInts wA w.heap.size (.slice aA (gw l k).steps.length cA) (gw l k).steps) := own_mono oA HB.out.size
      clear HO HB HX oA hA c0 c1 c2
      obtain ⟨xs, hx1, hx2⟩ := HO1.out.row
      have HX2 := Lib.hid hx2
      clear hx2 HO1
      go_wp2_with (at_builtin; refine wpList_append_own _ rfl _ _ 52 rfl w.heap.size 39 i0 (.agg #[.int .i64 0, .slice none 0 0, .bool false]) 3 40 Try.underlying52 hi hz0 hz1 hz2 rfl (by decide) _ _ _ rfl (hx1.alloc _) ⟨wA.heap.size, 0, none⟩ 1 1 [.int .i64 (gw l k).first, .slice aA (gw l k).steps.length cA, .bool (gw l k).stuck] rfl rfl ?c1 ?c2 ?c3 ?c4 ?c5 ?_)
      case c1 =>
        intro j u hj
        match j, hj with
        | 0, hj => simp at hj; subst hj; simp [Addr.add]
        | 1, hj => simp at hj; subst hj; simp [Addr.add]
        | 2, hj => simp at hj; subst hj; simp [Addr.add]
      case c2 => intro u hu; simp at hu; rcases hu with rfl | rfl | rfl <;> rfl
      case c3 => unfold maxLen; omega
      case c4 => omega
      case c5 => have := HB1.out.size; simp; omega
      · intro v' w' hown' hgrow _
        have hbG : Below w.heap.size w w' := (HB1.out.alloc HB1.out.size _).grown hgrow (by have := HB1.out.size; simp; omega) (fun j hj => (hx1.lt j hj).1)
        have hO3 : OW w' w.heap.size v' l (k + 1) := by
          refine ⟨_, hown', fun j hj => ?_⟩
          have hxl : xs.length = k * 3 := hx1.1
          have hkeep : ∀ {a : Option Addr} {n c : Nat} {L : List Int}, ownInts wA w.heap.size (.slice a n c) L → ownInts w' w.heap.size (.slice a n c) L := fun h =>
            World.ownsRow.kept (h.alloc _) hgrow (row_apart h hx1 (by decide))
          by_cases hjk : j < k
          · obtain ⟨a', c', e0, e1, e2, e3⟩ := HX2.out j hjk
            refine ⟨a', c', ?_, ?_, ?_, hkeep e3⟩
            · rw [List.getElem?_append_left (by omega)]; exact e0
            · rw [List.getElem?_append_left (by omega)]; exact e1
            · rw [List.getElem?_append_left (by omega)]; exact e2
          · obtain rfl : j = k := by omega
            refine ⟨aA, cA, ?_, ?_, ?_, hkeep HoA.out⟩
            · rw [List.getElem?_append_right (by omega), hxl]; simp
            · rw [List.getElem?_append_right (by omega), hxl]; simp
            · rw [List.getElem?_append_right (by omega), hxl]; simp
        clear hown' hgrow hx1 HX2 HoA HB1
        go_wp2
        exact ⟨⟨k + 1, by omega, by go_num, hO3, hbG⟩, by simp [intOf]; omega⟩
    · have hkk : k = l.length := by omega
      subst hkk
      have hW := hO.at (fun j hj => by have := H2.out j hj; unfold maxLen; omega)
      clear hO
      go_wp2
      go_ret
      exact ⟨_, rfl, hW, hb⟩
end Go.Proofs.Ytnijajjmcdgonaa
