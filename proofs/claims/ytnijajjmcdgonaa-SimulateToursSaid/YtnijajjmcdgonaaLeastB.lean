import Derived.Test.YtnijajjmcdgonaaLeastC
namespace Go.Proofs.Ytnijajjmcdgonaa
open Go.RowKit
set_option linter.unusedVariables false
set_option linter.unusedSimpArgs false

theorem infoBool : (Try.prog.info? 4).map (fun i => (i.zero, i.size, i.bytes)) = some (some (.bool false), 1, 1) := by kernel_rfl
theorem info_bool : ∃ i, Try.prog.info? 4 = some i ∧ i.zero = some (.bool false) ∧ i.size = 1 ∧ i.bytes = 1 := by
  have h := infoBool
  cases hi : Try.prog.info? 4 with
  | none => rw [hi] at h; cases h
  | some i =>
    rw [hi] at h
    simp at h
    exact ⟨i, rfl, h.1, h.2.1, h.2.2⟩

/-- What least finds. -/
def LeastSaid (g : G) (P : Int → Int → Bool) (x : W3) (b : Bool) : Prop :=
  (b = true ∧ ∃ d, LeastIn (Hit g P d) (key x) ∧ ∀ d', d' < d → NoHit g P d') ∨ (b = false ∧ ∀ d, NoHit g P d)
def LeastPost (w : World) (g : G) (P : Int → Int → Bool) (e : Ending) (w' : World) : Prop :=
  ∃ (f : Int) (L : List Int) (b : Bool) (a : Option Addr) (c : Nat), e = .returned (.tuple #[.agg #[.int .i64 f, .slice a L.length c, .bool false], .bool b]) ∧ ownInts w' (w.heap.size + 2) (.slice a L.length c) L ∧ Hid (LeastSaid g P ⟨f, L, false⟩ b) ∧ (b = false → f = 0 ∧ L = []) ∧ Below w.heap.size w w'

set_option maxHeartbeats 12000000 in
set_option maxRecDepth 100000 in
theorem least_any (g : G) (F : List Int) (K : Nat) (cap : Value) (P : Int → Int → Bool) (vg vF : Value) (w : World) (hg : GraphAt w vg g) (hF : IntsAt w vF F) (hok : bOk ⟨g.n, F, g.edges⟩)
    (hKr : ∀ (args : Array Value) (W : World), Sem.run Try.prog (callFunc K args) W = .ok (.enter K args) W)
    (hP : ∀ (i s : Int) (W : World), Below w.heap.size w W → Calls Try.prog K #[.int .i64 i, .int .i64 s, cap] W fun e W' => e = .returned (.bool (P i s)) ∧ W' = W) :
    Calls Try.prog 52 #[vg, vF, .func (.func K) #[] #[cap]] w (LeastPost w ⟨g.n, F, g.edges⟩ P) := by
  obtain ⟨vi, ve, rfl, hvi, ⟨ae, ce, rfl, hme, hce⟩⟩ := hg
  obtain ⟨aF, cF, rfl, hmF, hcF⟩ := hF
  obtain ⟨i0, hi, hz0, hz1, hz2⟩ := info_parts infoInt
  obtain ⟨ib, hib, hb0', hb1', hb2'⟩ := info_bool
  obtain ⟨iw, hiw, hw0, hw1, hw2⟩ := info_walk
  obtain ⟨N, hN⟩ : ∃ N : Nat, g.n = (N : Int) := ⟨g.n.toNat, by have := hok.1; show g.n = _; have : (0 : Int) ≤ g.n := hok.1; omega⟩
  have hN4 : N ≤ 400 := by have : g.n ≤ 400 := hok.2.1; omega
  have hFl : F.length ≤ N := by have : (F.length : Int) ≤ g.n := hok.2.2.1; omega
  have hel : g.edges.length ≤ 2000 := hok.2.2.2.1
  have HNG : Hid (g.n = N) := hN
  have HFI : Hid (∀ j, j < F.length → 0 ≤ gi F j ∧ gi F j < (N : Int)) := fun j hj => by
    have h1 := hok.2.2.2.2.1 j hj
    unfold initOk at h1
    exact ⟨h1.1, by have h2 : gi F j < g.n := h1.2.1; omega⟩
  have HOK := Lib.hid hok
  have HP := Lib.hid hP
  have HKR := Lib.hid hKr
  have HCF := Lib.hid hcF
  obtain ⟨gF, hgF⟩ : ∃ gF : G, gF = ⟨g.n, F, g.edges⟩ := ⟨_, rfl⟩
  have hgi : gF.init = F := by rw [hgF]
  have hge : gF.edges = g.edges := by rw [hgF]
  have HGN : Hid (gF.n = g.n) := by unfold Hid; rw [hgF]
  rw [← hgF] at HOK ⊢
  have HGI := Lib.hid hgi
  have HGE := Lib.hid hge
  rw [hN]
  clear hok hN hvi hme hP hKr hcF hgF hgi hge
  unfold maxLen at hmF
  go_enter Try.func52, Try.ntmps52
  go_wp2_with (at_make; refine wpList_make_full _ rfl _ _ 95 rfl (w.heap.size + 2) 4 ib (.bool false) 1 Try.underlying95 hib hb0' hb1' .i64 .i64 N N N rfl rfl rfl rfl (by rw [hb2']; omega) (by unfold maxLen; omega) (by simp) ?_)
  intro w1 hown hgrow
  have hbA : Below w.heap.size w ((w.alloc (Obj.cells #[.int .i64 N, vi, .slice ae g.edges.length ce] 34)).alloc (Obj.cells #[.int .i64 0, .slice none 0 0, .bool false] 39)) := ((Below.refl _ _).alloc (Nat.le_refl _) _).alloc (by simp) _
  have hbB := Below.grown (Below.refl _ _) hgrow (Nat.le_refl _) (fun j hj => by cases hj)
  have hL : LZ w w1 N (w.heap.size + 1 + 1) (.slice ae g.edges.length ce) (List.replicate N false) := by
    refine ⟨Below.keeps hbB ?_ (by simp), Below.keeps hbB ?_ (by simp), Below.keeps hbB ?_ (by simp), Below.keeps hbB ?_ (by simp), fun i => Below.keepsF hbB ?_ (by simp), ?_, by simp, hbA.trans (hbB.mono (by simp; omega)), ?_⟩
    · rw [World.cell?_alloc_past _ _ _ (by simp), World.cell?_alloc_at _ _ _ _ rfl]; rfl
    · rw [World.cell?_alloc_at _ _ _ _ (by simp)]; rfl
    · rw [World.cell?_alloc_at _ _ _ _ (by simp)]; rfl
    · rw [World.cell?_alloc_at _ _ _ _ (by simp)]; rfl
    · exact World.frozen?_alloc_at _ _ _ _ (by simp)
    · have h1 : (madeCells (Value.cells (.bool false)) N).toList = List.map Value.bool (List.replicate N false) := by
        show (madeCells #[Value.bool false] N).toList = _
        rw [toList_madeCells_one, List.map_replicate]
      rw [← h1]
      exact hown
    · have := hbB.size; simp at this; exact this
  clear hown hgrow hbA hbB
  have hS0 : Hid (∀ s, seenS (List.replicate N false) s ↔ ∃ j', j' < 0 ∧ gi F j' = s) := fun s => by
    constructor
    · rintro ⟨-, h⟩
      unfold gb at h
      rw [List.getElem?_replicate] at h
      split at h <;> simp at h
    · rintro ⟨j', h, -⟩; omega
  have hO0 : OX w1 (w.heap.size + 2) (w.heap.size + 2) (.slice none 0 0) (ini3 gF 0) := by
    have : ini3 gF 0 = [] := by simp [ini3]
    rw [this]; exact OX.nil _ _ _
  have hP0 : Hid (∀ j', j' < 0 → P (-1) (gi F j') = false) := fun j' h => by omega
  go_wp2_with fail
  go_loopw [9, 26] (fun vA i wr => ∃ (j : Nat) (sL : List Bool), j ≤ F.length ∧ i = .int .i64 j ∧ OX wr (w.heap.size + 2) (w.heap.size + 2) vA (ini3 gF j) ∧ LZ w wr N (w.heap.size + 1 + 1) (.slice ae g.edges.length ce) sL ∧ Hid (∀ s, seenS sL s ↔ ∃ j', j' < j ∧ gi F j' = s) ∧ Hid (∀ j', j' < j → P (-1) (gi F j') = false)) (fun _ i _ => F.length - (intOf i).toNat)
  case atStart => exact ⟨0, _, Nat.zero_le _, rfl, hO0, hL, hS0, hP0⟩
  case round =>
    clear hO0 hL hS0 hP0
    obtain ⟨j, sL, hj, rfl, hO, hL, hS, hPj⟩ := hrel
    by_cases hlt : j < F.length
    · have hlt' : (j : Int) < (F.length : Int) := by omega
      obtain ⟨bF, oF, e1, cF1⟩ := HCF.out.later hL.bw j hlt
      subst e1
      obtain ⟨s0, s1⟩ := HFI.out j hlt
      have HO := Lib.hid hO
      have HL := Lib.hid hL
      clear hO hL
      go_wp2_with fail
      have hbX : Below wr.heap.size wr (wr.alloc (Obj.cells #[.int .i64 (gi F j), .slice none 0 0, .bool false] 39)) := (Below.refl _ _).alloc (Nat.le_refl _) _
      have x0 : (wr.alloc (Obj.cells #[.int .i64 (gi F j), .slice none 0 0, .bool false] 39)).cell? ⟨wr.heap.size, 0, none⟩ = some (.int .i64 (gi F j)) := World.cell?_alloc_at _ _ _ _ rfl
      have x1 : (wr.alloc (Obj.cells #[.int .i64 (gi F j), .slice none 0 0, .bool false] 39)).cell? ⟨wr.heap.size, 1, none⟩ = some (.slice none 0 0) := World.cell?_alloc_at _ _ _ _ rfl
      have x2 : (wr.alloc (Obj.cells #[.int .i64 (gi F j), .slice none 0 0, .bool false] 39)).cell? ⟨wr.heap.size, 2, none⟩ = some (.bool false) := World.cell?_alloc_at _ _ _ _ rfl
      have hgl := HL.out.ge
      replace HO := Lib.hid (HO.out.later hbX)
      replace HL := Lib.hid (HL.out.later hbX)
      obtain ⟨px, hpx⟩ : ∃ px, px = wr.heap.size := ⟨_, rfl⟩
      rw [← hpx] at x0 x1 x2 hgl ⊢
      clear hbX hpx cF1
      generalize (wr.alloc (Obj.cells #[.int .i64 (gi F j), .slice none 0 0, .bool false] 39)) = w2 at *
      rw [HKR.out]
      refine (HP.out (-1) (gi F j) w2 HL.out.bw).mono ?_
      rintro e w3 ⟨rfl, rfl⟩
      cases hp : P (-1) (gi F j)
      · have hpj : ∀ j', j' < j + 1 → P (-1) (gi F j') = false := fun j' h => by
          by_cases hjj : j' < j
          · exact hPj.out j' hjj
          · obtain rfl : j' = j := by omega
            exact hp
        have HPJ := Lib.hid hpj
        have hls := HL.out.sl
        have sc := HL.out.cell (j := (gi F j).toNat) (by omega)
        have sf := World.ownsRow.frozenAt HL.out.sb (gi F j).toNat
        have hL2 := HL.out.see (gi F j).toNat
        have hO2 := HO.out.set HL.out.sb (gi F j).toNat (.bool true)
        have hS2 : Hid (∀ s, seenS (sL.set (gi F j).toNat true) s ↔ ∃ j', j' < j + 1 ∧ gi F j' = s) := fun s => by
          rw [seenS_set s0 (by omega), hS.out s]
          constructor
          · rintro (⟨j', h1, h2⟩ | h)
            · exact ⟨j', by omega, h2⟩
            · exact ⟨j, by omega, h.symm⟩
          · rintro ⟨j', h1, h2⟩
            by_cases hjj : j' < j
            · exact .inl ⟨j', hjj, h2⟩
            · obtain rfl : j' = j := by omega
              exact .inr h2.symm
        have hne : w.heap.size + 1 + 1 ≠ px := by omega
        have y0 := (World.cell?_setCell_other (w := w3) ⟨w.heap.size + 1 + 1, (gi F j).toNat, none⟩ _ (.bool true) (by intro h; injection h with h1 h2; exact hne h1 : (⟨w.heap.size + 1 + 1, (gi F j).toNat, none⟩ : Addr) ≠ ⟨px, 0, none⟩)).trans x0
        have y1 := (World.cell?_setCell_other (w := w3) ⟨w.heap.size + 1 + 1, (gi F j).toNat, none⟩ _ (.bool true) (by intro h; injection h with h1 h2; exact hne h1 : (⟨w.heap.size + 1 + 1, (gi F j).toNat, none⟩ : Addr) ≠ ⟨px, 1, none⟩)).trans x1
        have y2 := (World.cell?_setCell_other (w := w3) ⟨w.heap.size + 1 + 1, (gi F j).toNat, none⟩ _ (.bool true) (by intro h; injection h with h1 h2; exact hne h1 : (⟨w.heap.size + 1 + 1, (gi F j).toNat, none⟩ : Addr) ≠ ⟨px, 2, none⟩)).trans x2
        clear HL HO hp hpj hls
        go_upto_region 10 with fail
        clear x0 x1 x2 sc sf
        generalize (w3.setCell ⟨w.heap.size + 1 + 1, (gi F j).toNat, none⟩ (.bool true)) = w4 at *
        have hbY : Below w4.heap.size w4 (w4.alloc (Obj.cells #[.int .i64 (gi F j), .slice none 0 0, .bool false] 39)) := (Below.refl _ _).alloc (Nat.le_refl _) _
        have HL2 := Lib.hid (hL2.later hbY)
        have hil : (ini3 gF j).length = j := ini3_len (by rw [HGI.out]; exact hj)
        obtain ⟨xs, hx1, hx2⟩ := (hO2.later hbY).row
        have HX2 := Lib.hid hx2
        have HIL := Lib.hid hil
        clear hL2 hO2 hbY hx2 hil
        go_wp2_with (at_builtin; refine wpList_append_own _ rfl _ _ 52 rfl (w.heap.size + 2) 39 iw (.agg #[.int .i64 0, .slice none 0 0, .bool false]) 3 40 Try.underlying52 hiw hw0 hw1 hw2 rfl (by decide) _ _ _ rfl hx1 ⟨w4.heap.size, 0, none⟩ 1 1 [.int .i64 (gi F j), .slice none 0 0, .bool false] rfl rfl ?c1 ?c2 ?c3 ?c4 ?c5 ?_)
        case c1 =>
          intro q u hq
          match q, hq with
          | 0, hq => simp at hq; subst hq; simp [Addr.add]
          | 1, hq => simp at hq; subst hq; simp [Addr.add]
          | 2, hq => simp at hq; subst hq; simp [Addr.add]
        case c2 => intro u hu; simp at hu; rcases hu with rfl | rfl | rfl <;> rfl
        case c3 => rw [HIL.out]; unfold maxLen; omega
        case c4 => rw [HIL.out]; omega
        case c5 => exact HL2.out.lt
        · intro v' w' hown' hgrow _
          have hL3 := HL2.out.grown hx1 (Nat.le_refl _) hgrow
          have hO3 : OX w' (w.heap.size + 2) (w.heap.size + 2) v' (ini3 gF (j + 1)) := by
            rw [ini3_succ (by rw [HGI.out]; exact hlt), HGI.out]
            exact OX.more (x := ⟨gi F j, [], false⟩) (a := none) (c := 0) hx1 HX2.out (World.ownsRow_nil _ _ _ _) hgrow hown'
          clear hown' hgrow hx1 HX2 HL2 y0 y1 y2
          go_wp2
          exact ⟨⟨j + 1, _, by omega, by go_num, hO3, hL3, hS2, HPJ⟩, by simp [intOf]; omega⟩
      · have hSaid : Hid (LeastSaid gF P ⟨gi F j, [], false⟩ true) := .inl ⟨rfl, 0, by
          have h1 := ini3_hit (g := gF) HOK.out (P := P) (j := j) (by rw [HGI.out]; exact hlt) (by rw [HGI.out]; exact hPj.out) (by rw [HGI.out]; exact hp)
          rw [HGI.out] at h1
          exact h1, fun d' h => by omega⟩
        have r0 := HL.out.r0
        have r1 := HL.out.r1
        have r2 := HL.out.r2
        have f0 := HL.out.rf 0
        have f1 := HL.out.rf 1
        have f2 := HL.out.rf 2
        have bw := HL.out.bw
        clear HL HO hp
        go_wp2
        refine bodyPost_ret (v := .tuple #[.agg #[.int .i64 (gi F j), .slice none 0 0, .bool false], .bool true]) (by simp [results, Try.results52, go_sem, r0, r1, r2]) rfl ⟨gi F j, [], true, none, 0, rfl, World.ownsRow_nil _ _ _ _, hSaid, fun h => (by cases h), ?_⟩
        exact ((bw.setCell (by show w.heap.size ≤ w.heap.size + 1; omega) _).setCell (by show w.heap.size ≤ w.heap.size + 1; omega) _).setCell (by show w.heap.size ≤ w.heap.size + 1; omega) _
    · have hjj : j = F.length := by omega
      subst hjj
      have hstart : NX gF P 0 (ini3 gF F.length) [] (seenS sL) 0 0 := by
        have h1 := ini3_start (g := gF) HOK.out (P := P) (seen := seenS sL) (by rw [HGI.out]; exact hPj.out) (fun s => by rw [hS.out s, HGI.out]; exact mem_gi.symm)
        rw [HGI.out] at h1
        exact h1
      have hil : (ini3 gF F.length).length = F.length := ini3_len (by rw [HGI.out]; exact Nat.le_refl _)
      have hst : ∃ (d : Nat) (A : List W3) (sL' : List Bool), Hid (NX gF P d A [] (seenS sL') 0 0) ∧ OX wr (w.heap.size + 2) (w.heap.size + 2) u9 A ∧ LZ w wr N (w.heap.size + 1 + 1) (.slice ae g.edges.length ce) sL' ∧ N + 1 ≥ cntF sL' + (if A.length = 0 then 0 else 1) ∧ A.length ≤ N ∧ (A.length ≠ 0 → d + cntF sL' ≤ N) := by
        have hcl : cntF sL ≤ sL.length := List.count_le_length
        have hsl := hL.sl
        refine ⟨0, _, sL, hstart, hO, hL, ?_, by omega, fun _ => by omega⟩
        split <;> omega
      clear hstart hil hO hL hS hPj
      go_wp2_with fail
      go_loopg [9] (N + 1) (fun q vA wr => ∃ (d : Nat) (A : List W3) (sL : List Bool), Hid (NX gF P d A [] (seenS sL) 0 0) ∧ OX wr (w.heap.size + 2) (w.heap.size + 2) vA A ∧ LZ w wr N (w.heap.size + 1 + 1) (.slice ae g.edges.length ce) sL ∧ q ≥ cntF sL + (if A.length = 0 then 0 else 1) ∧ A.length ≤ N ∧ (A.length ≠ 0 → d + cntF sL ≤ N))
      case atStart => exact hst
      case round =>
        clear hst
        obtain ⟨d, A, sL, hX, hO, hL, hq, hAN, hdN⟩ := hrel
        obtain ⟨aA, cA, rfl⟩ := hO.form
        by_cases hA : A.length = 0
        · have hA0 : A = [] := List.length_eq_zero_iff.1 hA
          have hno : Hid (LeastSaid gF P ⟨0, [], false⟩ false) := .inr ⟨rfl, by have h := hX.out; rw [hA0] at h; exact h.none⟩
          have r0 := hL.r0
          have r1 := hL.r1
          have r2 := hL.r2
          have f0 := hL.rf 0
          have f1 := hL.rf 1
          have f2 := hL.rf 2
          have bw := hL.bw
          have hd : decide ((0 : Int) < (A.length : Int)) = false := decide_eq_false (by omega)
          have hd2 : ¬ 0 < A.length := by omega
          clear hX hO hL hq hdN hA0 hA
          go_wp2
          refine bodyPost_ret (v := .tuple #[.agg #[.int .i64 0, .slice none 0 0, .bool false], .bool false]) (by simp [results, Try.results52, go_sem, r0, r1, r2]) rfl ⟨0, [], false, none, 0, rfl, World.ownsRow_nil _ _ _ _, hno, fun _ => ⟨rfl, rfl⟩, ?_⟩
          exact ((bw.setCell (by show w.heap.size ≤ w.heap.size + 1; omega) _).setCell (by show w.heap.size ≤ w.heap.size + 1; omega) _).setCell (by show w.heap.size ≤ w.heap.size + 1; omega) _
        · have hd : decide ((0 : Int) < (A.length : Int)) = true := decide_eq_true (by omega)
          have hdN' := hdN hA
          have hd2 : 0 < A.length := by omega
          rw [if_neg hA] at hq
          obtain ⟨B2, hB2⟩ : ∃ B2, B2 = wr.heap.size := ⟨_, rfl⟩
          have HLAY : Hid (∀ k, (Value.slice aA A.length cA).ownBlock = some k → k < B2) := fun k hk => by rw [hB2]; exact (hO.lt k hk).2
          have HB2 : Hid (B2 ≤ wr.heap.size ∧ w.heap.size + 2 ≤ B2) := ⟨by omega, by rw [hB2]; exact hL.lt⟩
          have hON : OX wr B2 (w.heap.size + 2) (.slice none 0 0) [] := OX.nil _ _ _
          have hst : ∃ (B : List W3) (sL' : List Bool), Hid (NX gF P d A B (seenS sL') 0 0) ∧ OX wr (w.heap.size + 2) (w.heap.size + 2) (.slice aA A.length cA) A ∧ OX wr B2 (w.heap.size + 2) (.slice none 0 0) B ∧ LZ w wr N (w.heap.size + 1 + 1) (.slice ae g.edges.length ce) sL' ∧ B.length + cntF sL' = cntF sL ∧ B2 ≤ wr.heap.size :=
            ⟨[], sL, hX, hO, hON, hL, by simp, HB2.out.1⟩
          clear hX hO hON hL hB2 hdN
          go_wp2_with fail
          go_loopw [13, 49] (fun vN i wr => ∃ (j : Nat) (B : List W3) (sL' : List Bool), j ≤ A.length ∧ i = .int .i64 j ∧ Hid (NX gF P d A B (seenS sL') j 0) ∧ OX wr (w.heap.size + 2) (w.heap.size + 2) (.slice aA A.length cA) A ∧ OX wr B2 (w.heap.size + 2) vN B ∧ LZ w wr N (w.heap.size + 1 + 1) (.slice ae g.edges.length ce) sL' ∧ B.length + cntF sL' = cntF sL ∧ B2 ≤ wr.heap.size) (fun _ i _ => A.length - (intOf i).toNat)
          case atStart =>
            obtain ⟨B, sL', h1, h2, h3, h4, h5, h6⟩ := hst
            exact ⟨0, B, sL', Nat.zero_le _, rfl, h1, h2, h3, h4, h5, h6⟩
          case round =>
            clear hst
            obtain ⟨j, B, sL', hj, rfl, hX, hO, hON, hL, hcnt, hBw⟩ := hrel
            by_cases hlt : j < A.length
            · have hlt' : (j : Int) < (A.length : Int) := by omega
              have hj0 : (0 : Int) ≤ (j : Int) := by omega
              obtain ⟨bA, oA, aw, cs, ea, d0, d1, d2, hxs⟩ := hO.get hlt
              subst ea
              have hKx := (hX.out.ly.lst j hlt).1.1
              have hxl : (gw A j).steps.length = d := by
                have := hKx.len
                simpa [key] using this
              have hgpx := hL.ge.2
              have HXL := Lib.hid hxl
              clear hxl
              have hXB := XB.made (f := (gw A j).first) (st := (gw A j).stuck) hxs
              have hbX : Below wr.heap.size wr (wr.alloc (Obj.cells #[.int .i64 (gw A j).first, .slice aw (gw A j).steps.length cs, .bool (gw A j).stuck] 39)) := (Below.refl _ _).alloc (Nat.le_refl _) _
              have hONlt := hON.lt
              have hNpx : u13.ownBlock ≠ some wr.heap.size := fun h => by have := (hONlt _ h).2; omega
              have HO := Lib.hid (hO.later hbX)
              have HON := Lib.hid (hON.later hbX)
              have HL := Lib.hid (hL.later hbX)
              have HXB := Lib.hid hXB
              have HNPX := Lib.hid hNpx
              have HBW : Hid (B2 ≤ (wr.alloc (Obj.cells #[.int .i64 (gw A j).first, .slice aw (gw A j).steps.length cs, .bool (gw A j).stuck] 39)).heap.size) := Nat.le_trans hBw hbX.size
              have HKX := Lib.hid hKx
              clear hO hON hL hXB hbX hONlt hNpx hxs hKx hBw
              have x0 := HXB.out.c0
              have x1 := HXB.out.c1
              go_upto_if 59 with fail
              obtain ⟨px, hpx⟩ : ∃ px, px = wr.heap.size := ⟨_, rfl⟩
              rw [← hpx] at x0 x1 HXB HNPX hgpx ⊢
              clear hpx d0 d1 d2
              generalize (wr.alloc (Obj.cells #[.int .i64 (gw A j).first, .slice aw (gw A j).steps.length cs, .bool (gw A j).stuck] 39)) = w2 at *
              go_cut [16] (fun s wx => s = .int .i64 (en gF (gw A j)) ∧ Below w2.heap.size w2 wx)
              case first =>
                by_cases hn : (gw A j).steps.length = 0
                · have hen : Hid (en gF (gw A j) = (gw A j).first) := by
                    have : (gw A j).steps = [] := List.length_eq_zero_iff.1 hn
                    unfold Hid en; rw [this]; rfl
                  have hnp : ¬ 0 < (gw A j).steps.length := by omega
                  go_wp2_with fail
                  go_meet
                  exact ⟨by rw [hen.out], Below.refl _ _⟩
                · have hxl := HXL.out
                  obtain ⟨q, hq'⟩ : ∃ q, d = q + 1 := ⟨d - 1, by omega⟩
                  have hK2 := HKX.out
                  rw [hq'] at hK2
                  obtain ⟨n, hn1, hn2, hn3, hn4⟩ := en_last hK2
                  rw [HGE.out] at hn1 hn3
                  have HEN := Lib.hid hn3
                  have hnp : 0 < (gw A j).steps.length := by omega
                  have g2 := HL.out.g2
                  obtain ⟨-, hics, -⟩ := own_cells HXB.out.ow
                  obtain ⟨bs, os, es, hcq⟩ := hics q (by omega)
                  subst es
                  rw [hn2] at hcq
                  obtain ⟨be, oe, ee, -, ce1, -⟩ := hce.later HL.out.bw n hn1
                  subst ee
                  have hwr : IntKind.i64.wrap (((gw A j).steps.length : Int) - 1) = (q : Int) := by rw [IntWalk.i64_in _ (by omega)]; omega
                  have hq1 : (q : Int) < ((gw A j).steps.length : Int) := by omega
                  have hq0 : (0 : Int) ≤ (q : Int) := by omega
                  have hn1' : (n : Int) < (g.edges.length : Int) := by omega
                  have hn0' : (0 : Int) ≤ (n : Int) := by omega
                  clear hn2 hn3 hn4 hics hK2 hn hxl hq'
                  go_wp2_with fail
                  go_quiet (fail)
                  go_wp2_with fail
                  go_meet
                  exact ⟨by rw [HEN.out], below_drewN (Below.refl _ _) _⟩
              case rest =>
                obtain ⟨w3, e3⟩ : ∃ x, x = wc := ⟨_, rfl⟩
                subst e3
                obtain ⟨rfl, hb3⟩ := hcut
                have hst : ∃ (B : List W3) (sL' : List Bool), Hid (NX gF P d A B (seenS sL') j 0) ∧ OX w3 (w.heap.size + 2) (w.heap.size + 2) (.slice (some ⟨bA, oA, none⟩) A.length cA) A ∧ OX w3 B2 (w.heap.size + 2) u13 B ∧ LZ w w3 N (w.heap.size + 1 + 1) (.slice ae g.edges.length ce) sL' ∧ B.length + cntF sL' = cntF sL ∧ B2 ≤ w3.heap.size ∧ XB w3 (w.heap.size + 2) px (gw A j).first aw cs (gw A j).stuck (gw A j).steps ∧ Hid (u13.ownBlock ≠ some px) :=
                  ⟨B, sL', hX, HO.out.later hb3, HON.out.later hb3, HL.out.later hb3, hcnt, Nat.le_trans HBW.out hb3.size, HXB.out.later hb3, HNPX⟩
                have hpg : w.heap.size + 1 + 1 < px := hgpx
                have g2 := Below.keeps hb3 HL.out.g2 (Nat.le_refl _)
                clear HO HON HL HXB HNPX HBW x0 x1 hb3 hX hcnt
                clear w2
                go_wp2_with fail
                clear g2
                go_loopw [13, 74] (fun vN i wr => ∃ (i' : Nat) (B : List W3) (sL' : List Bool), i' ≤ g.edges.length ∧ i = .int .i64 i' ∧ Hid (NX gF P d A B (seenS sL') j i') ∧ OX wr (w.heap.size + 2) (w.heap.size + 2) (.slice (some ⟨bA, oA, none⟩) A.length cA) A ∧ OX wr B2 (w.heap.size + 2) vN B ∧ LZ w wr N (w.heap.size + 1 + 1) (.slice ae g.edges.length ce) sL' ∧ B.length + cntF sL' = cntF sL ∧ B2 ≤ wr.heap.size ∧ XB wr (w.heap.size + 2) px (gw A j).first aw cs (gw A j).stuck (gw A j).steps ∧ Hid (vN.ownBlock ≠ some px)) (fun _ i _ => g.edges.length - (intOf i).toNat)
                case atStart =>
                  obtain ⟨B, sL', h1, h2, h3, h4, h5, h6, h7, h8⟩ := hst
                  exact ⟨0, B, sL', Nat.zero_le _, rfl, h1, h2, h3, h4, h5, h6, h7, h8⟩
                case round =>
                  clear hst
                  obtain ⟨i, B, sL', hi', rfl, hX, hO, hON, hL, hcnt, hBw, hXB, hNpx⟩ := hrel
                  by_cases hlti : i < g.edges.length
                  · have hlti' : (i : Int) < (g.edges.length : Int) := by omega
                    have hi0 : (0 : Int) ≤ (i : Int) := by omega
                    obtain ⟨be, oe, ee, c0, c1, c2⟩ := hce.later hL.bw i hlti
                    subst ee
                    have hbE : Below wr.heap.size wr (wr.alloc (Obj.cells #[.int .i64 (ge g.edges i).f, .int .i64 (ge g.edges i).t, .int .i64 (ge g.edges i).a] 74)) := (Below.refl _ _).alloc (Nat.le_refl _) _
                    by_cases hf : (ge g.edges i).f = en gF (gw A j)
                    · have hf' : ((ge g.edges i).f != en gF (gw A j)) = false := by simpa using hf
                      have HF := Lib.hid hf
                      have HO := Lib.hid (hO.later hbE)
                      have HON := Lib.hid (hON.later hbE)
                      have HL := Lib.hid (hL.later hbE)
                      have HXB := Lib.hid (hXB.later hbE)
                      have HBW := Lib.hid (Nat.le_trans hBw hbE.size)
                      have hx0 := HXB.out.c0
                      have hx1' := HXB.out.c1
                      have e1 : (wr.alloc (Obj.cells #[.int .i64 (ge g.edges i).f, .int .i64 (ge g.edges i).t, .int .i64 (ge g.edges i).a] 74)).cell? ⟨wr.heap.size, 1, none⟩ = some (.int .i64 (ge g.edges i).t) := World.cell?_alloc_at _ _ _ _ rfl
                      clear hf hO hON hL hXB hBw
                      go_wp2_with fail
                      obtain ⟨pe, hpe⟩ : ∃ pe, pe = wr.heap.size := ⟨_, rfl⟩
                      rw [← hpe] at e1 ⊢
                      clear hpe c0 c1 c2 hbE hf'
                      generalize (wr.alloc (Obj.cells #[.int .i64 (ge g.edges i).f, .int .i64 (ge g.edges i).t, .int .i64 (ge g.edges i).a] 74)) = w6 at *
                      obtain ⟨L, hLL⟩ : ∃ L, L = (gw A j).steps ++ [(i : Int)] := ⟨_, rfl⟩
                      have HLL := Lib.hid hLL
                      have HLN : Hid (L.length = (gw A j).steps.length + 1) := by unfold Hid; rw [hLL]; simp
                      have HLB : Hid ((gw A j).steps.length ≤ 400) := by have := HXL.out; unfold Hid; omega
                      clear hLL
                      go_cut [20] (fun s wx => ∃ (m : Nat) (a : Option Addr) (c : Nat), s = .pointer (some ⟨m, 0, none⟩) ∧ w6.heap.size ≤ m ∧ wx.cell? ⟨m, 0, none⟩ = some (.int .i64 (gw A j).first) ∧ wx.cell? ⟨m, 1, none⟩ = some (.slice a L.length c) ∧ wx.cell? ⟨m, 2, none⟩ = some (.bool false) ∧ ownInts wx w6.heap.size (.slice a L.length c) L ∧ Below w6.heap.size w6 wx)
                      case first =>
                        have hb6 : Below w6.heap.size w6 w6 := Below.refl _ _
                        have HC := Lib.hid (IntsAt.of_own HXB.out.ow)
                        have hlen : (gw A j).steps.length + 1 = L.length := by rw [HLL.out]; simp
                        clear hX HL HO HON HXB HBW e1 hNpx hcnt HF HLAY HKX
                        go_region_held3 (fun w' => w'.cell? ⟨px, 0, none⟩ = some (.int .i64 (gw A j).first) ∧ w'.cell? ⟨px, 1, none⟩ = some (.slice aw (gw A j).steps.length cs) ∧ Below w6.heap.size w6 w')
                          ((refine (fun hB : Below w6.heap.size w6 _ => ⟨Below.keeps hB hx0 (Nat.le_refl _), Below.keeps hB hx1' (Nat.le_refl _), hB⟩) ?_; (repeat (first | with_reducible exact Below.refl _ _ | with_reducible assumption | with_reducible refine Below.drew ?_ | (with_reducible refine Below.alloc ?_ ?_ _) | (with_reducible refine Below.setCell ?_ ?_ _))); all_goals (first | exact Nat.le_refl _ | exact hbE.size | exact hbC.size | (simp; done) | (simp; omega) | (have hq := hbE.size; simp; omega) | (have hq := hbC.size; simp; omega))))
                          (first
                            | (go_at_call 61; refine (clone_any (gw A j).steps _ _ (HC.out.later ?_) (by have := HLB.out; omega)).mono ?_; (focus ((repeat (first | with_reducible exact Below.refl _ _ | with_reducible assumption | with_reducible refine Below.drew ?_ | (with_reducible refine Below.alloc ?_ ?_ _) | (with_reducible refine Below.setCell ?_ ?_ _))); all_goals (first | exact Nat.le_refl _ | exact hbE.size | exact hbC.size | (simp; done) | (simp; omega) | (have hq := hbE.size; simp; omega) | (have hq := hbC.size; simp; omega)))); rintro e wC ⟨vC, rfl, oC, hC⟩; obtain ⟨aC, cC, rfl⟩ := own_form oC; have hbC : Below w6.heap.size w6 wC := Below.trans (b := _) (by (repeat (first | with_reducible exact Below.refl _ _ | with_reducible assumption | with_reducible refine Below.drew ?_ | (with_reducible refine Below.alloc ?_ ?_ _) | (with_reducible refine Below.setCell ?_ ?_ _))); all_goals (first | exact Nat.le_refl _ | (simp; done) | (simp; omega) | (have hq := hbE.size; simp; omega) | (have hq := hbC.size; simp; omega))) (hC.mono (by first | exact Nat.le_refl _ | (simp; done) | (simp; omega))); replace oC := own_mono (B' := w6.heap.size) oC (by first | exact Nat.le_refl _ | (simp; done) | (simp; omega)); (first | (apply yc_allocK (B := w6.heap.size) hC; (focus ((repeat (first | with_reducible exact Below.refl _ _ | with_reducible refine Below.drew ?_ | (with_reducible refine Below.alloc ?_ ?_ _))); all_goals (first | exact Nat.le_refl _ | (simp; done) | (simp; omega) | (have hq := hbC.size; simp; omega)))); (focus (first | exact Nat.le_refl _ | (simp; done) | (simp; omega))); intro yC; (try simp only [alloc_sizeL, drew_sizeL] at yC)) | skip); (first | (apply qc_allocK (i := (i : Int)) hC; (focus ((repeat (first | with_reducible exact Below.refl _ _ | with_reducible refine Below.drew ?_ | (with_reducible refine Below.alloc ?_ ?_ _))); all_goals (first | exact Nat.le_refl _ | (simp; done) | (simp; omega) | (have hq := hbC.size; simp; omega)))); intro qC; (try simp only [alloc_sizeL, drew_sizeL] at qC)) | skip))
                            | (apply grow_steps (w6 := w6) (s := .tmp 87) (x := .tmp 89) (aC := aC) (cC := cC) (L0 := (gw A j).steps) (wC := wC) (i := (i : Int)) rfl rfl HLB.out rfl oC; (focus ((repeat (first | with_reducible exact Below.refl _ _ | with_reducible refine Below.drew ?_ | (with_reducible refine Below.alloc ?_ ?_ _))); all_goals (first | exact Nat.le_refl _ | exact hbC.size | (simp; done) | (simp; omega) | (have hq := hbC.size; simp; omega)))); (focus ((repeat (first | with_reducible exact Below.refl _ _ | with_reducible assumption | with_reducible refine Below.drew ?_ | (with_reducible refine Below.alloc ?_ ?_ _) | (with_reducible refine Below.setCell ?_ ?_ _))); all_goals (first | exact Nat.le_refl _ | exact hbE.size | exact hbC.size | (simp; done) | (simp; omega) | (have hq := hbE.size; simp; omega) | (have hq := hbC.size; simp; omega)))); (focus rfl); (focus (first | (refine Below.keeps (w := wC) (B := wC.heap.size) ?_ qC (Nat.le_refl _); (repeat (first | with_reducible exact Below.refl _ _ | with_reducible refine Below.drew ?_ | (with_reducible refine Below.alloc ?_ ?_ _))); all_goals (first | exact Nat.le_refl _ | exact hbC.size | (simp; done) | (simp; omega) | (have hq := hbC.size; simp; omega))) | (apply qc_now; (repeat (first | with_reducible exact Below.refl _ _ | with_reducible refine Below.drew ?_ | (with_reducible refine Below.alloc ?_ ?_ _))); all_goals (first | exact Nat.le_refl _ | exact hbC.size | (simp; done) | (simp; omega) | (have hq := hbC.size; simp; omega))) | (rw [World.cell?_alloc_at _ _ _ _ (by simp)]; rfl) | (rw [World.cell?_alloc_past _ _ _ (by simp), World.cell?_alloc_at _ _ _ _ (by simp)]; rfl))); intro aE cE wE oE hbE hkE; (first | (apply yc_keptK hkE yC; (focus ((repeat (first | with_reducible exact Below.refl _ _ | with_reducible refine Below.drew ?_ | (with_reducible refine Below.alloc ?_ ?_ _))); all_goals (first | exact Nat.le_refl _ | exact hbC.size | (simp; done) | (simp; omega) | (have hq := hbC.size; simp; omega)))); intro yE; (try simp only [alloc_sizeL, drew_sizeL] at yE); have m0 := yE.c0; have m1 := yE.c1; have m2 := yE.c2; have f0 := yE.fz 0; have f1 := yE.fz 1; have f2 := yE.fz 2; have mlt := yE.lt) | (apply yc_newK (B := w6.heap.size) hkE; (focus ((repeat (first | with_reducible exact Below.refl _ _ | with_reducible refine Below.drew ?_ | (with_reducible refine Below.alloc ?_ ?_ _))); all_goals (first | exact Nat.le_refl _ | exact hbC.size | (simp; done) | (simp; omega) | (have hq := hbC.size; simp; omega)))); (focus (first | exact Nat.le_refl _ | exact hbC.size | (simp; done) | (have hq := hbC.size; simp; omega))); intro yE; (try simp only [alloc_sizeL, drew_sizeL] at yE); have m0 := yE.c0; have m1 := yE.c1; have m2 := yE.c2; have f0 := yE.fz 0; have f1 := yE.fz 1; have f2 := yE.fz 2; have mlt := yE.lt) | skip)))
                        all_goals (go_wp2_with fail; go_meet)
                        all_goals rw [hlen, ← HLL.out] at oE
                        all_goals first
                          | exact ⟨_, _, _, rfl, y_late _ oE rfl hbE⟩
                          | exact ⟨_, _, _, rfl, y_early yE oE rfl hbE⟩
                      case rest =>
                        obtain ⟨w7, e7⟩ : ∃ x, x = wc := ⟨_, rfl⟩
                        subst e7
                        obtain ⟨m, a, c, rfl, hm, m0, m1, m2, hoL, hb7⟩ := hcut
                        obtain ⟨t0, t1⟩ : 0 ≤ (ge g.edges i).t ∧ (ge g.edges i).t < (N : Int) := by
                          have h1 := edge_rng HOK.out (e := i) (by rw [HGE.out]; exact hlti)
                          rw [HGE.out] at h1
                          have h2 : gF.n = g.n := HGN.out
                          have h3 := HNG.out
                          omega
                        have hlw6 := HL.out.lt
                        have hgw6 := HL.out.ge.2
                        replace e1 := Below.keeps hb7 e1 (Nat.le_refl _)
                        replace HO := Lib.hid (HO.out.later hb7)
                        replace HON := Lib.hid (HON.out.later hb7)
                        replace HL := Lib.hid (HL.out.later hb7)
                        replace HXB := Lib.hid (HXB.out.later hb7)
                        replace HBW := Lib.hid (Nat.le_trans HBW.out hb7.size)
                        have hgm : w.heap.size + 1 + 1 < m := by omega
                        have HoL : Hid (ownInts w7 (w.heap.size + 2) (.slice a L.length c) L) := own_mono hoL (by omega)
                        clear hb7 hx0 hx1' hoL hlw6 hgw6
                        clear hm
                        go_wp2_with fail
                        rw [HKR.out]
                        refine (HP.out i (ge g.edges i).t w7 HL.out.bw).mono ?_
                        rintro e w8 ⟨rfl, rfl⟩
                        cases hp : P i (ge g.edges i).t
                        · cases hsb : gb sL' (ge g.edges i).t.toNat
                          · have sc := HL.out.cell (j := (ge g.edges i).t.toNat) (by omega)
                            rw [hsb] at sc
                            have sf := World.ownsRow.frozenAt HL.out.sb (ge g.edges i).t.toNat
                            have hls := HL.out.sl
                            have hXm : NX gF P d A (B ++ [⟨(gw A j).first, L, false⟩]) (seenS (sL'.set (ge g.edges i).t.toNat true)) j (i + 1) := by
                              rw [HLL.out]
                              have hX' := hX.out
                              have h1 := NX.more hX' (seen' := seenS (sL'.set (ge g.edges i).t.toNat true)) hlt (by rw [HGE.out]; exact hlti) (by rw [HGE.out]; exact HF.out) (by rw [HGE.out]; intro h; unfold seenS at h; rw [hsb] at h; exact absurd h.2 (by decide)) (by rw [HGE.out]; exact hp) (by rw [HGE.out]; exact fun s => seenS_set t0 (by omega) s)
                              exact h1
                            have HXM := Lib.hid hXm
                            have hct := cntF_set (l := sL') (j := (ge g.edges i).t.toNat) (by omega) hsb
                            have hL2 := HL.out.see (ge g.edges i).t.toNat
                            have hO2 := HO.out.set HL.out.sb (ge g.edges i).t.toNat (.bool true)
                            have hON2 := HON.out.set HL.out.sb (ge g.edges i).t.toNat (.bool true)
                            have hXB2 := HXB.out.set HL.out.sb (by omega) (ge g.edges i).t.toNat (.bool true)
                            have hoL2 : ownInts (w8.setCell ⟨w.heap.size + 1 + 1, (ge g.edges i).t.toNat, none⟩ (.bool true)) (w.heap.size + 2) (.slice a L.length c) L := row_set (a := ⟨w.heap.size + 1 + 1, (ge g.edges i).t.toNat, none⟩) HoL.out (row_apart HoL.out HL.out.sb (by decide)) (.bool true)
                            have hne : w.heap.size + 1 + 1 ≠ m := by omega
                            have y0 := (World.cell?_setCell_other (w := w8) ⟨w.heap.size + 1 + 1, (ge g.edges i).t.toNat, none⟩ _ (.bool true) (by intro h; injection h with h1 h2; exact hne h1 : (⟨w.heap.size + 1 + 1, (ge g.edges i).t.toNat, none⟩ : Addr) ≠ ⟨m, 0, none⟩)).trans m0
                            have y1 := (World.cell?_setCell_other (w := w8) ⟨w.heap.size + 1 + 1, (ge g.edges i).t.toNat, none⟩ _ (.bool true) (by intro h; injection h with h1 h2; exact hne h1 : (⟨w.heap.size + 1 + 1, (ge g.edges i).t.toNat, none⟩ : Addr) ≠ ⟨m, 1, none⟩)).trans m1
                            have y2 := (World.cell?_setCell_other (w := w8) ⟨w.heap.size + 1 + 1, (ge g.edges i).t.toNat, none⟩ _ (.bool true) (by intro h; injection h with h1 h2; exact hne h1 : (⟨w.heap.size + 1 + 1, (ge g.edges i).t.toNat, none⟩ : Addr) ≠ ⟨m, 2, none⟩)).trans m2
                            have hsz2 : B2 ≤ (w8.setCell ⟨w.heap.size + 1 + 1, (ge g.edges i).t.toNat, none⟩ (.bool true)).heap.size := by simp [World.setCell]; exact HBW.out
                            have HCT := Lib.hid hct
                            clear HL HO HON HXB HoL hXm hX hp hls hct
                            go_upto_region 30 with fail
                            clear m0 m1 m2 sc sf e1 hsb HBW
                            generalize (w8.setCell ⟨w.heap.size + 1 + 1, (ge g.edges i).t.toNat, none⟩ (.bool true)) = w9 at *
                            have hbY : Below w9.heap.size w9 (w9.alloc (Obj.cells #[.int .i64 (gw A j).first, .slice a L.length c, .bool false] 39)) := (Below.refl _ _).alloc (Nat.le_refl _) _
                            have HL2 := Lib.hid (hL2.later hbY)
                            have HO2 := Lib.hid (hO2.later hbY)
                            have HXB2 := Lib.hid (hXB2.later hbY)
                            have HoL2 := Lib.hid (ownsRow_later hoL2 hbY)
                            have HSZ2 := Lib.hid (Nat.le_trans hsz2 hbY.size)
                            obtain ⟨xs, hx1, hx2⟩ := (hON2.later hbY).row
                            have HX2 := Lib.hid hx2
                            clear hL2 hO2 hON2 hXB2 hoL2 hbY hx2 hsz2
                            go_wp2_with (at_builtin; refine wpList_append_own _ rfl _ _ 52 rfl B2 39 iw (.agg #[.int .i64 0, .slice none 0 0, .bool false]) 3 40 Try.underlying52 hiw hw0 hw1 hw2 rfl (by decide) _ _ _ rfl hx1 ⟨w9.heap.size, 0, none⟩ 1 1 [.int .i64 (gw A j).first, .slice a L.length c, .bool false] rfl rfl ?c1 ?c2 ?c3 ?c4 ?c5 ?_)
                            case c1 =>
                              intro q u hq
                              match q, hq with
                              | 0, hq => simp at hq; subst hq; simp [Addr.add]
                              | 1, hq => simp at hq; subst hq; simp [Addr.add]
                              | 2, hq => simp at hq; subst hq; simp [Addr.add]
                            case c2 => intro u hu; simp at hu; rcases hu with rfl | rfl | rfl <;> rfl
                            case c3 => have := HCT.out; unfold maxLen; omega
                            case c4 => have := HCT.out; omega
                            case c5 => exact HSZ2.out
                            · intro v' w' hown' hgrow _
                              have hL3 := HL2.out.grown hx1 HB2.out.2 hgrow
                              have hO3 := HO2.out.grown hx1 hgrow (by
                                cases hk : (Value.slice (some ⟨bA, oA, none⟩) A.length cA).ownBlock with
                                | none => exact .inl rfl
                                | some k =>
                                  right
                                  intro hk2
                                  have h1 := HLAY.out k hk
                                  have h2 := (hx1.lt k hk2.symm).1
                                  omega)
                              have hON3 : OX w' B2 (w.heap.size + 2) v' (B ++ [⟨(gw A j).first, L, false⟩]) := OX.more (x := ⟨(gw A j).first, L, false⟩) hx1 HX2.out HoL2.out hgrow hown'
                              have hXB3 := HXB2.out.grown hx1 hgrow hNpx.out
                              have hNp3 : Hid (v'.ownBlock ≠ some px) := apart_grown (y := ⟨(gw A j).first, L, false⟩) hx1 hgrow hown' HXB2.out.hp (by show L.length ≠ _; rw [HLN.out]; omega) hNpx.out
                              have hsz3 := Nat.le_trans HSZ2.out hgrow.size
                              have hcn : (B ++ [(⟨(gw A j).first, L, false⟩ : W3)]).length + cntF (sL'.set (ge g.edges i).t.toNat true) = cntF sL := by
                                have := HCT.out
                                simp
                                omega
                              have HCN := Lib.hid hcn
                              clear hown' hgrow hx1 HX2 HL2 HO2 HXB2 HoL2 y0 y1 y2 hcn
                              go_wp2
                              exact ⟨⟨i + 1, _, _, by omega, by go_num, HXM, hO3, hON3, hL3, HCN.out, hsz3, hXB3, hNp3⟩, by simp [intOf]; omega⟩
                          · have sc := HL.out.cell (j := (ge g.edges i).t.toNat) (by omega)
                            rw [hsb] at sc
                            have HXM := Lib.hid (hX.out.old (by rw [HGE.out]; exact ⟨t0, hsb⟩) (by rw [HGE.out]; exact hp))
                            clear hX hp hsb
                            go_wp2
                            exact ⟨⟨i + 1, B, sL', by omega, by go_num, HXM, HO.out, HON.out, HL.out, hcnt, HBW.out, HXB.out, hNpx⟩, by simp [intOf]; omega⟩
                        · have hSaid : Hid (LeastSaid gF P ⟨(gw A j).first, L, false⟩ true) := .inl ⟨rfl, d + 1, by
                            have h1 := hX.out.hit hlt (by rw [HGE.out]; exact hlti) (by rw [HGE.out]; exact HF.out) (by rw [HGE.out]; exact hp)
                            rw [HLL.out]
                            exact h1, fun d' h => hX.out.nh d' (by omega)⟩
                          have r0 := HL.out.r0
                          have r1 := HL.out.r1
                          have r2 := HL.out.r2
                          have f0 := HL.out.rf 0
                          have f1 := HL.out.rf 1
                          have f2 := HL.out.rf 2
                          have bw := HL.out.bw
                          clear HL HO HON HXB hX hp hcnt
                          go_wp2
                          refine bodyPost_ret (v := .tuple #[.agg #[.int .i64 (gw A j).first, .slice a L.length c, .bool false], .bool true]) (by simp [results, Try.results52, go_sem, r0, r1, r2]) rfl ⟨(gw A j).first, L, true, a, c, rfl, ?_, hSaid, fun h => (by cases h), ?_⟩
                          · refine ownsRow_setCell_below (ownsRow_setCell_below (ownsRow_setCell_below HoL.out ?_ _) ?_ _) ?_ _
                            all_goals (show w.heap.size + 1 < w.heap.size + 2; omega)
                          · exact ((bw.setCell (by show w.heap.size ≤ w.heap.size + 1; omega) _).setCell (by show w.heap.size ≤ w.heap.size + 1; omega) _).setCell (by show w.heap.size ≤ w.heap.size + 1; omega) _
                    · have hf' : ((ge g.edges i).f != en gF (gw A j)) = true := by simpa using hf
                      have HXn := Lib.hid (hX.out.skip (by rw [HGE.out]; exact hf))
                      clear hX hf
                      go_wp2
                      exact ⟨⟨i + 1, B, sL', by omega, by go_num, HXn, hO.later hbE, hON.later hbE, hL.later hbE, hcnt, Nat.le_trans hBw hbE.size, hXB.later hbE, hNpx⟩, by simp [intOf]; omega⟩
                  · have hii : i = g.edges.length := by omega
                    subst hii
                    have hXn : NX gF P d A B (seenS sL') (j + 1) 0 := by
                      have h := hX.out
                      rw [← HGE.out] at h
                      exact h.next
                    have HXN := Lib.hid hXn
                    clear hX hXn hXB hNpx
                    go_wp2
                    exact ⟨⟨j + 1, B, sL', by omega, by go_num, HXN, hO, hON, hL, hcnt, hBw⟩, by simp [intOf]; omega⟩
            · have hjj : j = A.length := by omega
              subst hjj
              have HXn := Lib.hid hX.out.done
              have hOn := hON.lower (Br' := w.heap.size + 2) HB2.out.2
              clear hX hO hON
              go_wp2_with fail
              go_roundg (cntF sL' + (if B.length = 0 then 0 else 1))
              case measure =>
                split <;> omega
              case rel => exact ⟨d + 1, B, sL', HXn, hOn, hL, Nat.le_refl _, by omega, fun h => by omega⟩
end Go.Proofs.Ytnijajjmcdgonaa
