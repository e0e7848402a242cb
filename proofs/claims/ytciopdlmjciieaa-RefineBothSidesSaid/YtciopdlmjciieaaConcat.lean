import Derived.Test.YtciopdlmjciieaaOwnG
import Derived.Test.YtciopdlmjciieaaStd
import Derived.Shelf.Spec.SlicesGrow
namespace Go.Proofs.Ytciopdlmjciieaa
open Go.Shelf Go.RowKit
set_option linter.unusedVariables false

def laysGrow_ren : Go.Shelf.Ren := ⟨fun | 4 => 66 | n => n, fun | 22 => 22 | 25 => 3 | 3 => 3 | 4 => 4 | 9 => 9 | 20 => 20 | 0 => 0 | n => n, fun | n => n⟩
theorem laysGrow : Go.Proofs.Lays8.n4 Try.prog laysGrow_ren := {
  mixed := by kernel_rfl,
  f4 := ⟨Try.f66.name, by decide, Try.func66.trans (congrArg some (by kernel_rfl))⟩,
  t0 := Try.underlying0,
  a0 := Try.isAgg0,
  z0 := Try.sizeOf0,
  v0 := Try.zeroValue0,
  t3 := Try.underlying3,
  a3 := Try.isAgg3,
  z3 := Try.sizeOf3,
  v3 := Try.zeroValue3,
  t4 := Try.underlying4,
  a4 := Try.isAgg4,
  z4 := Try.sizeOf4,
  v4 := Try.zeroValue4,
  t9 := Try.underlying9,
  a9 := Try.isAgg9,
  z9 := Try.sizeOf9,
  v9 := Try.zeroValue9,
  t20 := Try.underlying20,
  a20 := Try.isAgg20,
  z20 := Try.sizeOf20,
  v20 := Try.zeroValue20,
  t22 := Try.underlying22,
  a22 := Try.isAgg22,
  z22 := Try.sizeOf22,
  v22 := Try.zeroValue22 }

/-- Appending what came in, nil or not, to a row of one's own. -/
theorem wpList_own {P : Program} {w : World} {ops : Array Oper} {rest : List Oper} {o : Oper} {a : Act} {Q : Exit → Act → World → Prop} (hgd : o.guard = none) (s x : Operand) (t : TypeId)
    (ho : o.op = .call { callee := .builtin .append, args := #[s, x], argTypes := #[t, t] })
    (base : Nat) (e : TypeId) (i : TypeInfo) (z : Value) (size bytes : Nat) (ht : P.underlying t = some (.slice e)) (hi : P.info? e = some i) (hz : i.zero = some z)
    (hsize : i.size = size) (hby : i.bytes = bytes) (hzs : z.cells.size = size) (hsz : 0 < size)
    (v : Value) (n : Nat) (xs : List Value) (hs : a.eval s = v) (hown : w.ownsRow base e size v n xs)
    (A : Option Addr) (m c : Nat) (news : List Value) (hx : a.eval x = .slice A m c) (hl : news.length = m * size) (hnews : ∀ j u, news[j]? = some u → ∃ ad, A = some ad ∧ w.cell? (ad.add j) = some u) (h1 : ∀ u ∈ news, u.oneCell' = true)
    (h63 : n + m ≤ maxLen) (hbytes : (n + m) * bytes ≤ 140737488355328) (hbase : base ≤ w.heap.size)
    (h : ∀ v' w', w'.ownsRow base e size v' (n + m) (xs ++ news) → w.grownBy w' v.ownBlock → wpList P ops Q rest (a.put o.dst v') w') :
    wpList P ops Q (o :: rest) a w := by
  refine wpList_plain hgd fun K hK => ?_
  have := step_own (P := P) (w := w) (ops := #[]) (o := o) (a := a) (K := K) (Q := Q) (E := True) hgd s x t ho base e i z size bytes ht hi hz hsize hby hzs hsz v n xs hs hown A m c news hx hl hnews h1 h63 hbytes hbase (fun v' w' h2 h3 => hK _ _ (h v' w' h2 h3))
  rwa [if_pos (by simp [Region.wanted, hgd])] at this

theorem ints_news {w : World} {a : Option Addr} {l : List Int} (h : IntsCells w a l) : ∀ j u, (l.map (Value.int .i64))[j]? = some u → ∃ ad, a = some ad ∧ w.cell? (ad.add j) = some u := by
  intro j u hj
  have hjl : j < l.length := by
    have := (List.getElem?_eq_some_iff.1 hj).1
    simpa using this
  obtain ⟨b, off, e, hc⟩ := h j hjl
  subst e
  refine ⟨_, rfl, ?_⟩
  rw [List.getElem?_map, List.getElem?_eq_getElem hjl] at hj
  simp at hj
  subst hj
  have : gi l j = l[j] := by simp [gi, List.getElem?_eq_getElem hjl]
  rw [← this]
  by_cases h0 : j = 0
  · subst h0; simpa [Addr.add] using hc
  · simpa [Addr.add, h0] using hc

theorem grow_own (n : Nat) (hn : n ≤ 100000) (w : World) :
    Calls Try.prog 66 #[.slice none 0 0, .int .i64 n] w fun e w' => ∃ v, e = .returned v ∧ ownInts w' w.heap.size v [] ∧ Below w.heap.size w w' := by
  obtain ⟨i0, hi, hz0, hz1, hz2⟩ := info_parts infoInt
  rcases Nat.eq_zero_or_pos n with h | h
  · subst h
    refine (Any8.slices_Grow_room laysGrow none 0 0 0 w (Nat.le_refl _) (by omega) (by omega) (by omega)).mono ?_
    rintro e w' ⟨rfl, rfl⟩
    exact ⟨_, rfl, World.ownsRow_nil _ _ _ _, Below.refl _ _⟩
  · refine (Any8.slices_Grow_grow laysGrow i0 (.int .i64 0) hi hz0 (by omega) none 0 0 n [] w (Nat.le_refl _) (by omega) (by rw [hz2]; omega) (by omega) (by simp) (fun _ => rfl) (fun a ha => by cases ha)).mono ?_
    rintro e w' ⟨rfl, rfl⟩
    have hcap := grownCap_le_maxLen w (0 + n) 0 3 (by unfold maxLen; omega)
    have hge := grownCap_ge w (0 + n) 0 3
    refine ⟨_, rfl, ⟨rfl, .inr ⟨w.heap.size, _, _, rfl, Nat.le_refl _, heap_alloc_new w.drew _, Nat.zero_le _, hcap, ?_, by simp⟩⟩, (Below.refl _ _).drew.alloc (Nat.le_refl _) _⟩
    have e1 : (Value.int IntKind.i64 0).cells.size = 1 := rfl
    have e2 : laysGrow_ren.t 25 = 3 := rfl
    simp only [Array.size_append, size_zeroCells, e1, e2]
    simp
    simp at hge
    omega

def part (l1 l2 : List Int) : Nat → List Int
  | 0 => []
  | 1 => l1
  | _ => l1 ++ l2
theorem part_le {l1 l2 : List Int} (h1 : l1.length ≤ 40) (h2 : l2.length ≤ 40) : ∀ k, (part l1 l2 k).length ≤ 80
  | 0 => by simp [part]
  | 1 => by simp [part]; omega
  | k + 2 => by simp [part]; omega

set_option maxHeartbeats 1000000 in
set_option maxRecDepth 100000 in
theorem concat2_any (l1 l2 : List Int) (v1 v2 : Value) (b : Nat) (w : World) (hc0 : w.cell? ⟨b, 0, none⟩ = some v1) (hc1 : w.cell? ⟨b, 1, none⟩ = some v2) (h1 : IntsAt w v1 l1) (h2 : IntsAt w v2 l2) (hl1 : l1.length ≤ 40) (hl2 : l2.length ≤ 40) :
    Calls Try.prog 48 #[.slice (some ⟨b, 0, none⟩) 2 2] w fun e w' => ∃ v, e = .returned v ∧ IntsAt w' v (l1 ++ l2) ∧ Below w.heap.size w w' := by
  obtain ⟨i0, hi, hz0, hz1, hz2⟩ := info_parts infoInt
  obtain ⟨a1, c1, rfl, hm1, h1⟩ := h1
  obtain ⟨a2, c2, rfl, hm2, h2⟩ := h2
  have H1 := Lib.hid h1; have H2 := Lib.hid h2
  clear h1 h2 hm1 hm2
  go_enter Try.func48, Try.ntmps48
  go_wp2
  go_loop [3, 11] (fun s i => ∃ k : Nat, k ≤ 2 ∧ i = .int .i64 k ∧ s = .int .i64 ((part l1 l2 k).length : Nat)) (fun _ i => 2 - (intOf i).toNat)
  case atStart => exact ⟨0, by omega, rfl, rfl⟩
  case round =>
    obtain ⟨k, hk, rfl, rfl⟩ := hrel
    have hp := part_le hl1 hl2 k
    by_cases hlt : k < 2
    · have hk01 : k = 0 ∨ k = 1 := by omega
      rcases hk01 with rfl | rfl
      · have hpp : Hid ((part l1 l2 1).length = (part l1 l2 0).length + l1.length) := by simp [Hid, part]
        generalize (part l1 l2 0).length = q at *
        go_wp2
        go_round
        case rel => exact ⟨1, by omega, rfl, by rw [hpp.out]; rfl⟩
        case measure => simp [intOf]
      · have hpp : Hid ((part l1 l2 2).length = (part l1 l2 1).length + l2.length) := by simp [Hid, part]
        generalize (part l1 l2 1).length = q at *
        go_wp2
        go_round
        case rel => exact ⟨2, by omega, rfl, by rw [hpp.out]; rfl⟩
        case measure => simp [intOf]
    · have hkk : k = 2 := by omega
      subst hkk
      generalize (part l1 l2 2).length = q at *
      go_wp2_with fail
      refine (grow_own q (by omega) _).mono ?_
      rintro e w1 ⟨vg, rfl, ho, hb⟩
      obtain ⟨ag, cg, rfl⟩ := own_form ho
      have HO : Hid (ownInts w1 w.heap.size (.slice ag [].length cg) (part l1 l2 0)) := ho
      have HB := Lib.hid hb
      clear ho hb
      go_wp2_with fail
      go_loopw [6, 27] (fun v i wr => ∃ k : Nat, k ≤ 2 ∧ i = .int .i64 k ∧ ownInts wr w.heap.size v (part l1 l2 k) ∧ Below w.heap.size w wr) (fun _ i _ => 2 - (intOf i).toNat)
      case atStart => exact ⟨0, by omega, rfl, HO.out, HB.out⟩
      case round =>
        clear HO HB
        obtain ⟨k, hk, rfl, ho, hb⟩ := hrel
        have hsz := hb.size
        by_cases hlt : k < 2
        · have hk01 : k = 0 ∨ k = 1 := by omega
          have hpl := part_le hl1 hl2 k
          have HPL := Lib.hid hpl
          clear hpl
          have d0 := Below.keeps hb hc0 (Nat.le_refl _)
          have d1 := Below.keeps hb hc1 (Nat.le_refl _)
          rcases hk01 with rfl | rfl
          · go_wp2_with (at_builtin; refine wpList_own rfl _ _ 22 rfl w.heap.size 3 i0 (.int .i64 0) 1 8 Try.underlying22 hi hz0 hz1 hz2 rfl (by decide) _ _ _ rfl ho _ _ _ (l1.map (Value.int .i64)) rfl (by simp) (ints_news (H1.out.later hb)) (by intro u hu; simp at hu; obtain ⟨_, _, rfl⟩ := hu; rfl) (by have := HPL.out; unfold maxLen; omega) (by have := HPL.out; omega) hsz ?_)
            intro v' w' ho' hg
            have ho2 : ownInts w' w.heap.size v' (part l1 l2 1) := by simpa [ownInts, part] using ho'
            have hb2 := hb.grown hg hsz (fun q e => (ho.lt q e).1)
            clear ho' hg d0 d1 ho
            go_wp2_with fail
            exact ⟨⟨1, by omega, rfl, ho2, hb2⟩, by simp [intOf]⟩
          · go_wp2_with (at_builtin; refine wpList_own rfl _ _ 22 rfl w.heap.size 3 i0 (.int .i64 0) 1 8 Try.underlying22 hi hz0 hz1 hz2 rfl (by decide) _ _ _ rfl ho _ _ _ (l2.map (Value.int .i64)) rfl (by simp) (ints_news (H2.out.later hb)) (by intro u hu; simp at hu; obtain ⟨_, _, rfl⟩ := hu; rfl) (by have := HPL.out; unfold maxLen; omega) (by have := HPL.out; omega) hsz ?_)
            intro v' w' ho' hg
            have ho2 : ownInts w' w.heap.size v' (part l1 l2 2) := by simpa [ownInts, part] using ho'
            have hb2 := hb.grown hg hsz (fun q e => (ho.lt q e).1)
            clear ho' hg d0 d1 ho
            go_wp2_with fail
            exact ⟨⟨2, by omega, rfl, ho2, hb2⟩, by simp [intOf]⟩
        · have hkk : k = 2 := by omega
          subst hkk
          go_wp2
          go_ret
          exact ⟨_, rfl, IntsAt.of_own ho, hb⟩
end Go.Proofs.Ytciopdlmjciieaa
