import Derived.Test.YtciopdlmjciieaaUpB
namespace Go.Proofs.Ytciopdlmjciieaa
open Go.RowKit Go.Shelf
set_option linter.unusedVariables false
set_option linter.unusedSimpArgs false
attribute [local go_sem] Oper.semAt_some

theorem init_len {g : G} (h : ∀ k, k < g.init.length → initOk g k) : g.init.length = 0 ∨ (g.init.length : Int) ≤ g.n := by
  have asc : ∀ k, k < g.init.length → (k : Int) ≤ gi g.init k := by
    intro k
    induction k with
    | zero => intro hk; exact (h 0 hk).1
    | succ k ih =>
      intro hk
      have h1 := ih (by omega)
      have h2 : gi g.init k < gi g.init (k + 1) := (h (k + 1) hk).2.2 (by omega)
      omega
  rcases Nat.eq_zero_or_pos g.init.length with h0 | h0
  · exact .inl h0
  · have h1 := asc (g.init.length - 1) (by omega)
    have h2 : gi g.init (g.init.length - 1) < g.n := (h (g.init.length - 1) (by omega)).2.1
    exact .inr (by omega)
theorem find_at {f : Int → Bool} : ∀ {l : List Int} {k : Nat}, k < l.length → f (gi l k) = true → (∀ j, j < k → f (gi l j) = false) → l.find? f = some (gi l k)
  | [], k, h, _, _ => by simp at h
  | a :: l, 0, _, h1, _ => by
    have e : gi (a :: l) 0 = a := rfl
    rw [e] at h1 ⊢
    rw [List.find?_cons_of_pos h1]
  | a :: l, k + 1, h, h1, h2 => by
    have e : ∀ j, gi (a :: l) (j + 1) = gi l j := fun j => rfl
    have e0 : f a = false := h2 0 (by omega)
    rw [e] at h1 ⊢
    rw [List.find?_cons_of_neg (by simp [e0])]
    exact find_at (by simpa using h) h1 (fun j hj => by have := h2 (j + 1) (by omega); rwa [e] at this)
theorem find_none {f : Int → Bool} {l : List Int} (h : ∀ j, j < l.length → f (gi l j) = false) : l.find? f = none := by
  rw [List.find?_eq_none]
  intro x hx
  obtain ⟨k, hk, rfl⟩ := mem_gi.1 hx
  simp [h k hk]

set_option maxHeartbeats 4000000 in
set_option maxRecDepth 100000 in
theorem upperPath_any (p : P2) (px N1 N2 : Nat) (l : List Int) (vp : Value) (w : World) (hX : PairX w px p N1 N2) (hok : PairOk p) (hl : IntsAt w vp l) (hr : ∀ s ∈ l, 0 ≤ s ∧ s < (N1 : Int)) (h1 : l ≠ []) (h60 : l.length ≤ 60) :
    Calls Try.prog 44 #[.pointer (some ⟨px, 0, none⟩), vp] w fun e w' => ∃ (x : Value) (err : Int) (q : List Int), e = .returned (.tuple #[x, .int .i64 err]) ∧ IntsAt w' x q ∧ Hid ((err = 0 ∧ upR p p.up.init l = some q) ∨ (err = 25 ∧ q = [] ∧ upR p p.up.init l = none)) ∧ Below w.heap.size w w' := by
  obtain ⟨a, cap, rfl, hlm, hlc⟩ := hl
  have hlen0 : 0 < l.length := List.length_pos_iff.2 h1
  obtain ⟨bl, ol, ea, -⟩ := hlc 0 hlen0
  subst ea
  have hN2 := hX.n2
  have hL2 : N2 ≤ 40 := by have := hok.u40; omega
  have hbl : bl < w.heap.size := by
    obtain ⟨b, o, e, h⟩ := hlc 0 hlen0
    injection e with e; injection e with e
    have := cell_lt h
    subst e; exact this
  have HLC : Hid (IntsCells w (some ⟨bl, ol, none⟩) l) := hlc
  have HX := Lib.hid hX; have HOK := Lib.hid hok; have HR := Lib.hid hr
  obtain ⟨i1, e1, i2, e2, l1, l2, c1, d1, c2, d2, k1, k2, TL, TU, hp, -⟩ := hX.ex
  have q3 := hp.q3
  rw [hN2] at q3
  have hpx : px < w.heap.size := hp.lt
  have hmk : ∀ W, Sem.run Try.prog (Instr.makeSlice 92 (.int .i64 ((l.length : Int) + 1)) (.int .i64 ((l.length : Int) + 1))) W = .ok (.slice (some ⟨W.heap.size, 0, none⟩) (l.length + 1) (l.length + 1)) (W.alloc (.cells (madeCells #[.slice none 0 0] (l.length + 1)) 93)) := fun W => by
    have h := run_make_row' (P := Try.prog) 92 93 (.slice none 0 0) 24 Try.underlying92 infoBRow rfl .i64 .i64 (l.length + 1) (by omega) (by omega) W
    rw [show ((l.length + 1 : Nat) : Int) = (l.length : Int) + 1 from by omega] at h
    exact h
  clear hX hok hr hlc hp hN2 hlm
  generalize hln : l.length = len at *
  have HLEN := Lib.hid hln
  clear hln
  have huprow : Hid (∀ u, u < N2 → ∀ v ∈ upRow p u, 0 ≤ v ∧ v < (N2 : Int)) := fun u hu v hv => by
    rcases mem_upRow.1 hv with h | ⟨e, he, h1, h2⟩
    · omega
    · obtain ⟨i, hi, rfl⟩ := List.getElem_of_mem he
      have hE := HOK.out.up.2.2.2 i hi
      unfold edgeOk at hE
      have hn := HX.out.n2
      have hg : ge p.up.edges i = p.up.edges[i] := by simp [ge, List.getElem?_eq_getElem hi]
      rw [hg] at hE
      have h3 : 0 ≤ p.up.edges[i].t := hE.1.2.1
      have h4 : p.up.edges[i].t < p.up.n := hE.2.1.2
      omega
  refine (callsIn_wide (n := 6)).1 ?_
  refine callsIn_of_wp_marks Try.func44 rfl trivial ?_ rfl
  simp only [Try.ntmps44, List.size_toArray, List.length_cons, List.length_nil, Nat.reduceAdd, Nat.reduceSub, Array.replicate_succ, Array.replicate_zero, List.push_toArray, List.append_toArray, List.nil_append, List.cons_append]
  refine wpIn_wide.2 ?_
  go_upto_region 2 with (fail)
  have hU : Hid (UI w ((((w.alloc (Obj.cells #[.pointer (some ⟨px, 0, none⟩)] 64)).alloc (Obj.cells #[.slice (some ⟨bl, ol, none⟩) len cap] 22)).alloc (Obj.cells (madeCells #[Value.slice none 0 0] (len + 1)) 93)).alloc (Obj.cells #[.slice (some ⟨w.heap.size + 1 + 1, 0, none⟩) (len + 1) (len + 1)] 92)) w.heap.size (w.heap.size + 1) (w.heap.size + 1 + 1) (w.heap.size + 1 + 1 + 1) (w.heap.size + 1 + 1 + 1 + 1) px N2 len (len + 1) p l (.slice (some ⟨bl, ol, none⟩) len cap)) := by
    refine ⟨?_, ?_, ?_, ⟨fun _ => .slice none 0 0, ?_, fun j => ⟨_, _, _, rfl⟩, fun j h1 h2 => by omega⟩, ?_, by simp, by omega⟩
    · rw [World.cell?_alloc_past _ _ _ (by simp <;> omega), World.cell?_alloc_past _ _ _ (by simp <;> omega), World.cell?_alloc_past _ _ _ (by simp <;> omega)]
      exact box_cell _ _ _ 0 _ rfl
    · rw [World.cell?_alloc_past _ _ _ (by simp <;> omega), World.cell?_alloc_past _ _ _ (by simp <;> omega)]
      simp
    · have := box_cell (((w.alloc (Obj.cells #[.pointer (some ⟨px, 0, none⟩)] 64)).alloc (Obj.cells #[.slice (some ⟨bl, ol, none⟩) len cap] 22)).alloc (Obj.cells (madeCells #[Value.slice none 0 0] (len + 1)) 93)) #[.slice (some ⟨w.heap.size + 1 + 1, 0, none⟩) (len + 1) (len + 1)] 92 0 _ rfl
      simpa using this
    · have h := World.rowIs_made ((w.alloc (Obj.cells #[.pointer (some ⟨px, 0, none⟩)] 64)).alloc (Obj.cells #[.slice (some ⟨bl, ol, none⟩) len cap] 22)) (.slice none 0 0) (len + 1) 93
      exact World.rowIs.alloc (by simpa using h) _
    · exact ((((Below.refl _ _).alloc (Nat.le_refl _) _).alloc (by simp) _).alloc (by simp <;> omega) _).alloc (by simp <;> omega) _
  generalize ((((w.alloc (Obj.cells #[.pointer (some ⟨px, 0, none⟩)] 64)).alloc (Obj.cells #[.slice (some ⟨bl, ol, none⟩) len cap] 22)).alloc (Obj.cells (madeCells #[Value.slice none 0 0] (len + 1)) 93)).alloc (Obj.cells #[.slice (some ⟨w.heap.size + 1 + 1, 0, none⟩) (len + 1) (len + 1)] 92)) = W2 at hU ⊢
  generalize w.heap.size + 1 + 1 + 1 + 1 = M0 at hU
  generalize w.heap.size + 1 + 1 + 1 = H3 at hU ⊢
  generalize w.heap.size + 1 + 1 = T at hU ⊢
  generalize w.heap.size + 1 = H1 at hU ⊢
  generalize hH0 : w.heap.size = H0 at hU ⊢
  clear hmk
  have hq := hU.out.q
  have hPX := Below.keeps hU.out.bw q3 (Nat.le_refl _)
  obtain ⟨⟨ta, tm, tc, uT⟩, uF⟩ := hU.out.cell len (Nat.le_refl _)
  have u0 := hU.out.c0; have u1 := hU.out.c1; have u3 := hU.out.c3
  have U0 := Lib.hid u0; have U1 := Lib.hid u1; have U3 := Lib.hid u3; have UP := Lib.hid hPX; have UT := Lib.hid uT; have UF := Lib.hid uF
  have hTl : T < W2.heap.size := cell_lt uT
  have NT : Hid ((∀ i, (⟨T, len, none⟩ : Addr) ≠ ⟨H0, i, none⟩) ∧ (∀ i, (⟨T, len, none⟩ : Addr) ≠ ⟨H1, i, none⟩) ∧ (∀ i, (⟨T, len, none⟩ : Addr) ≠ ⟨H3, i, none⟩) ∧ ∀ i, (⟨T, len, none⟩ : Addr) ≠ ⟨px, i, none⟩) :=
    ⟨fun i h => by injection h with h1; omega, fun i h => by injection h with h1; omega, fun i h => by injection h with h1; omega, fun i h => by injection h with h1; omega⟩
  have HQ := Lib.hid hq
  clear hq
  have hi0 : (0 : Int) ≤ (len : Int) := Int.natCast_nonneg _
  have hi1 : (len : Int) < (len : Int) + 1 := by omega
  have hi2 : (len : Int) < ((len + 1 : Nat) : Int) := by omega
  go_region_held3 (fun w' => w'.cell? ⟨H0, 0, none⟩ = some (.pointer (some ⟨px, 0, none⟩)) ∧ w'.cell? ⟨H1, 0, none⟩ = some (.slice (some ⟨bl, ol, none⟩) len cap) ∧ w'.cell? ⟨H3, 0, none⟩ = some (.slice (some ⟨T, 0, none⟩) (len + 1) (len + 1)) ∧ w'.cell? ⟨px, 3, none⟩ = some (.int .i64 N2))
    (first | with_reducible exact ⟨a0, a1, a3, aP⟩ | exact ⟨(World.cell?_setCell_other _ _ _ _ (NT.out.1 _)).trans a0, (World.cell?_setCell_other _ _ _ _ (NT.out.2.1 _)).trans a1, (World.cell?_setCell_other _ _ _ _ (NT.out.2.2.1 _)).trans a3, (World.cell?_setCell_other _ _ _ _ (NT.out.2.2.2 _)).trans aP⟩ | ((refine (fun hB : Below W2.heap.size W2 _ => ⟨Below.keeps hB U0.out (Nat.le_refl _), Below.keeps hB U1.out (Nat.le_refl _), Below.keeps hB U3.out (Nat.le_refl _), Below.keeps hB UP.out (Nat.le_refl _)⟩) ?_; (repeat (first | with_reducible exact Below.refl _ _ | with_reducible refine Below.drew ?_ | (with_reducible refine Below.alloc ?_ ?_ _))); all_goals (first | exact Nat.le_refl _ | (simp; done)))))
    ((go_at_call 60; refine (repeatB_any N2 (by omega) _ _ ?_).mono ?_;
      (focus (first | exact box_cell _ _ _ 0 _ rfl | (rw [World.cell?_drew]; exact box_cell _ _ _ 0 _ rfl)));
      rintro e wA ⟨go, rfl, hgo, hoA, hbA⟩;
      have hbr : Below W2.heap.size W2 wA := Below.trans (b := _) (by { (repeat (first | with_reducible exact Below.refl _ _ | with_reducible refine Below.drew ?_ | (with_reducible refine Below.alloc ?_ ?_ _))); all_goals (first | exact Nat.le_refl _ | (simp; done)) }) (hbA.mono (by simp));
      have hgo2 : W2.heap.size ≤ go := Nat.le_trans (by simp) hgo;
      have a0 := Below.keeps hbr U0.out (Nat.le_refl _);
      have a1 := Below.keeps hbr U1.out (Nat.le_refl _);
      have a3 := Below.keeps hbr U3.out (Nat.le_refl _);
      have aP := Below.keeps hbr UP.out (Nat.le_refl _);
      have aT := Below.keeps hbr UT.out (Nat.le_refl _);
      have aF := Below.keepsF hbr UF.out hTl;
      have HBR := Lib.hid hbr; have HOB := Lib.hid hoA; have HGO := Lib.hid hgo2; clear hbr hoA hbA hgo hgo2))
  have hnil : l.drop len = [] := by rw [List.drop_eq_nil_iff]; have := HLEN.out; omega
  have hU3 : Hid (UI w (wA.setCell ⟨T, len, none⟩ (.slice (some ⟨go, 0, none⟩) N2 N2)) H0 H1 T H3 M0 px N2 len len p l (.slice (some ⟨bl, ol, none⟩) len cap)) := by
    have hgo := HGO.out
    have hsz := hU.out.sz
    have hqq := HQ.out
    refine ((hU.out.later HBR.out).other (Nat.lt_succ_self _) _ _ _).fin (g := go) (Nat.le_refl _) (by omega) (World.cell?_setCell_same' _ _ _ (by rw [aT]; rfl)) (fun u hu => ?_)
    rw [World.cell?_setCell_other _ _ _ _ (by intro e; injection e with e; omega), hnil]
    exact row_at HOB.out (by show (List.replicate N2 (Value.bool true))[u]? = some (.bool true); simp [hu])
  clear a0 a1 a3 aP aT aF HBR HOB HGO hU U0 U1 U3 UP UT UF u0 u1 u3 uT uF hTl NT hPX hnil
  generalize wA.setCell ⟨T, len, none⟩ (.slice (some ⟨go, 0, none⟩) N2 N2) = W3 at *
  have c1' := hU3.out.c1
  go_wp2_with (go_at_call 61; refine (backward_any _ _ _ _).mono ?_; rintro e w' ⟨rfl, rfl⟩)
  have hU4 : Hid (UI w (W3.alloc (Obj.cells #[.slice (some ⟨bl, ol, none⟩) len cap] 22)) H0 H1 T H3 M0 px N2 len len p l (.slice (some ⟨bl, ol, none⟩) len cap)) := hU3.out.later ((Below.refl _ _).alloc (Nat.le_refl _) _)
  have hbox : Hid ((W3.alloc (Obj.cells #[.slice (some ⟨bl, ol, none⟩) len cap] 22)).cell? ⟨W3.heap.size, 0, none⟩ = some (.slice (some ⟨bl, ol, none⟩) len cap)) := box_cell _ _ _ 0 _ rfl
  have hs4 : W3.heap.size < (W3.alloc (Obj.cells #[.slice (some ⟨bl, ol, none⟩) len cap] 22)).heap.size := by simp
  have hM4 : Hid (M0 ≤ W3.heap.size) := hU3.out.sz
  clear hU3 c1'
  generalize W3.alloc (Obj.cells #[.slice (some ⟨bl, ol, none⟩) len cap] 22) = W4 at *
  generalize W3.heap.size = Bs at *
  have hlw : Hid (w.heap.size ≤ W4.heap.size) := hU4.out.bw.size
  have hcnt : Hid (Counts Fence.wide 5 Try.prog 71 #[.pointer (some ⟨Bs, 0, none⟩)] (fun k => #[.int .i64 ((len : Int) - 1 - (k : Int)), .int .i64 (gi l (len - 1 - k))]) len w.heap.size Bs W4) := by
    have hz := HLEN.out
    have h := back_stops Fence.wide 5 trivial rfl (by omega) Bs w.heap.size bl ol cap l (by omega) W4 hbl hs4 hlw.out (by rw [hz]; exact hbox.out) (fun j hj => by
      obtain ⟨b, o, e, g⟩ := (HLC.out.later hU4.out.bw) j hj
      injection e with e
      injection e with e1 e2
      subst e1 e2
      exact g)
    rw [hz] at h
    exact h
  refine (wpIn_wide (n := 6)).1 ?_
  refine wpIn_rangeCount rfl (by omega) (gf := 71) (lb := #[.pointer (some ⟨Bs, 0, none⟩)]) rfl trivial (enters_of Try.func71 (by kernel_rfl) rfl) hcnt.out hlw.out hs4 (fun _ => rfl)
    (fun k W => UI w W H0 H1 T H3 M0 px N2 len (len - k) p l (.slice (some ⟨bl, ol, none⟩) len cap) ∧ Bs < W.heap.size)
    (fun k A B row hs hg hr => ⟨hs.1.own hg (fun r e => ⟨Nat.le_trans hlw.out (hr r e).1, (hr r e).2⟩), Nat.lt_of_lt_of_le hs.2 hg.size⟩)
    ⟨hU4.out, hs4⟩
    (fun k a' W => ∃ Bx, M0 ≤ Bx ∧ W.cell? ⟨Bx, 0, none⟩ = some (.int .i64 ((len : Int) - 1 - (k : Int))) ∧ a' = { tmps := #[Value.pointer (some ⟨px, 0, none⟩), Value.slice (some ⟨bl, ol, none⟩) len cap, Value.pointer (some ⟨H0, 0, none⟩), Value.pointer (some ⟨H1, 0, none⟩), Value.slice none 0 0, .int .i64 0, Value.pointer (some ⟨H3, 0, none⟩), .pointer (some ⟨Bx, 0, none⟩), undef, undef, undef, undef, undef, undef, Value.slice (some ⟨bl, ol, none⟩) len cap, .int .i64 (len : Int), .int .i64 ((len : Int) + 1), Value.slice (some ⟨T, 0, none⟩) (len + 1) (len + 1), Value.slice (some ⟨T, 0, none⟩) (len + 1) (len + 1), Value.slice (some ⟨bl, ol, none⟩) len cap, .int .i64 (len : Int), Value.slice (some ⟨W2.heap.size, 0, none⟩) 1 1, Value.pointer (some ⟨px, 0, none⟩), Value.pointer (some ⟨px, 0, none⟩), Value.pointer (some ⟨px, 0, none⟩), Value.pointer (some ⟨px, 3, none⟩), Value.pointer (some ⟨px, 3, none⟩), .int .i64 (N2 : Int), Value.slice (some ⟨go, 0, none⟩) N2 N2, Value.pointer (some ⟨T, len, none⟩), Value.slice (some ⟨bl, ol, none⟩) len cap, .func (.func 71) #[] #[Value.pointer (some ⟨Bs, 0, none⟩)], .int .i64 ((len : Int) - 1 - (k : Int)), .int .i64 (gi l (len - 1 - k)), undef, undef, undef, undef, undef, undef, undef, undef, undef, undef, undef, undef, undef, undef, undef, undef, undef, undef, undef, undef, undef, undef, undef, undef, undef, undef, undef, undef, undef, undef, undef, undef, undef, undef, undef, undef, undef, undef, undef, undef, undef, undef, undef, undef, undef, undef, undef, undef, undef, undef, undef, undef, undef, undef, undef, undef, undef, undef, undef, undef, undef, undef, undef, undef, undef, undef, undef, undef, undef, undef, undef, undef, undef, undef, undef, undef, undef, undef, undef, undef, undef, undef, undef, undef, undef, undef, undef, undef, undef, undef, undef, undef], defers := [] })
    (fun k a' s A B row hs hg hr => by obtain ⟨Bx, h1, h2, h3⟩ := hs; exact ⟨Bx, h1, cell_kept h2 hg (fun r e => (hr r e).2), h3⟩)
    ?assign ?body ?done
  case assign =>
    rintro lo k W K ⟨hi, hbs⟩ hK
    gi_wp2
    exact hK _ _ ((KeepsOthers.alloc _ _).from _) ⟨(Below.refl _ _).alloc hi.bw.size _, Below.heap_alloc _ _ _ hbs⟩ ⟨hi.later ((Below.refl _ _).alloc (Nat.le_refl _) _), by simp; omega⟩ ⟨W.heap.size, hi.sz, box_cell _ _ _ 0 _ rfl, rfl⟩
  case body =>
    rintro lo k a' W ⟨hi, hbs⟩ ⟨Bx, hBx, cBx, rfl⟩ hk
    obtain ⟨i, hie⟩ : ∃ i, i = len - 1 - k := ⟨_, rfl⟩
    have hi1 : len - k = i + 1 := by omega
    have hi2 : ((len : Int) - 1 - (k : Int)) = (i : Int) := by omega
    have hi3 : i < len := by omega
    rw [hi1] at hi
    rw [hi2] at cBx
    rw [hi2, ← hie]
    have hi4 : len - (k + 1) = i := by omega
    rw [hi4]
    have HI := Lib.hid hi
    clear hi hcnt hU4 hbox hi4 hi2 hi1 hie hk
    gi_wp2
    have hmk2 : ∀ W, Sem.run Try.prog (Instr.makeSlice 93 (.int .i64 (N2 : Int)) (.int .i64 (N2 : Int))) W = .ok (.slice (some ⟨W.heap.size, 0, none⟩) N2 N2) (W.alloc (.cells (madeCells #[.bool false] N2) 4)) := fun W =>
      run_make_row' (P := Try.prog) 93 4 (.bool false) 1 Try.underlying93 infoBool rfl .i64 .i64 N2 (by omega) (by omega) W
    have hqq := HI.out.q
    obtain ⟨⟨ta', tm', tc', uT⟩, uF⟩ := HI.out.cell i (by omega)
    have hTl : T < W.heap.size := cell_lt uT
    have C0 := Lib.hid HI.out.c0; have C1 := Lib.hid HI.out.c1; have C3 := Lib.hid HI.out.c3
    have CP := Lib.hid (Below.keeps HI.out.bw q3 (Nat.le_refl _)); have CX := Lib.hid cBx
    have hxT : Bx ≠ T := by omega
    have hib : (i : Int) < (len : Int) + 1 := by omega
    have NT : Hid ((∀ j, (⟨T, i, none⟩ : Addr) ≠ ⟨H0, j, none⟩) ∧ (∀ j, (⟨T, i, none⟩ : Addr) ≠ ⟨H3, j, none⟩) ∧ (∀ j, (⟨T, i, none⟩ : Addr) ≠ ⟨Bx, j, none⟩) ∧ ∀ j, (⟨T, i, none⟩ : Addr) ≠ ⟨px, j, none⟩) :=
      ⟨fun j h => by injection h with h1; omega, fun j h => by injection h with h1; omega, fun j h => by injection h with h1; omega, fun j h => by injection h with h1; omega⟩
    refine wpIn_regionR (S := fun w' => w'.cell? ⟨H3, 0, none⟩ = some (.slice (some ⟨T, 0, none⟩) (len + 1) (len + 1)) ∧ w'.cell? ⟨Bx, 0, none⟩ = some (.int .i64 (i : Int)) ∧ w'.cell? ⟨H0, 0, none⟩ = some (.pointer (some ⟨px, 0, none⟩)) ∧ w'.cell? ⟨px, 3, none⟩ = some (.int .i64 (N2 : Int))) (by kernel_rfl) (fun ⟨_, _, h⟩ => nomatch h.1) (by kernel_rfl) ⟨C3.out, CX.out, C0.out, CP.out⟩ (fun hHeld => ?_)
    refine wpAnyH_take (i := 0) (oi := _) (v := ?v0) rfl (by kernel_rfl) (by kernel_rfl) (by kernel_rfl) (fun _ _ _ h => h) (Or.inl ⟨by rfl, ?hy0⟩) (by assumption) ?rest0
    case hy0 => (intro w hSw; (try dsimp only at hSw); go_simp <;> with_reducible rfl)
    try simp only [Act.put, List.setIfInBounds_toArray, List.set_cons_zero, List.set_cons_succ]
    refine wpAnyH_take (i := 1) (oi := _) (v := ?v1) rfl (by kernel_rfl) (by kernel_rfl) (by kernel_rfl) (fun _ _ _ h => h) (Or.inl ⟨by rfl, ?hy1⟩) (by assumption) ?rest1
    case hy1 => (intro w hSw; (try dsimp only at hSw); go_simp <;> with_reducible rfl)
    try simp only [Act.put, List.setIfInBounds_toArray, List.set_cons_zero, List.set_cons_succ]
    refine wpAnyH_take (i := 2) (oi := _) (v := ?v2) rfl (by kernel_rfl) (by kernel_rfl) (by kernel_rfl) (fun _ _ _ h => h) (Or.inl ⟨by rfl, ?hy2⟩) (by assumption) ?rest2
    case hy2 => (intro w hSw; (try dsimp only at hSw); go_simp <;> with_reducible rfl)
    try simp only [Act.put, List.setIfInBounds_toArray, List.set_cons_zero, List.set_cons_succ]
    refine wpAnyH_take (i := 3) (oi := _) (v := ?v3) rfl (by kernel_rfl) (by kernel_rfl) (by kernel_rfl) (fun _ _ _ h => h) (Or.inl ⟨by rfl, ?hy3⟩) (by assumption) ?rest3
    case hy3 => (intro w hSw; (try dsimp only at hSw); go_simp <;> with_reducible rfl)
    try simp only [Act.put, List.setIfInBounds_toArray, List.set_cons_zero, List.set_cons_succ]
    refine wpAnyH_take (i := 4) (oi := _) (v := ?v4) rfl (by kernel_rfl) (by kernel_rfl) (by kernel_rfl) (fun _ _ _ h => h) (Or.inl ⟨by rfl, ?hy4⟩) (by assumption) ?rest4
    case hy4 => (intro w hSw; (try dsimp only at hSw); go_simp <;> with_reducible rfl)
    try simp only [Act.put, List.setIfInBounds_toArray, List.set_cons_zero, List.set_cons_succ]
    refine wpAnyH_take (i := 5) (oi := _) (v := ?v5) rfl (by kernel_rfl) (by kernel_rfl) (by kernel_rfl) (fun _ _ _ h => h) (Or.inl ⟨by rfl, ?hy5⟩) (by assumption) ?rest5
    case hy5 => (intro w hSw; (try dsimp only at hSw); go_simp <;> with_reducible rfl)
    try simp only [Act.put, List.setIfInBounds_toArray, List.set_cons_zero, List.set_cons_succ]
    refine wpAnyH_take (i := 6) (oi := _) (v := ?v6) rfl (by kernel_rfl) (by kernel_rfl) (by kernel_rfl) (fun _ _ _ h => h) (Or.inl ⟨by rfl, ?hy6⟩) (by assumption) ?rest6
    case hy6 => (intro w hSw; (try dsimp only at hSw); go_simp <;> with_reducible rfl)
    try simp only [Act.put, List.setIfInBounds_toArray, List.set_cons_zero, List.set_cons_succ]
    refine wpAnyH_take (i := 7) (oi := _) (v := ?v7) rfl (by kernel_rfl) (by kernel_rfl) (by kernel_rfl) (fun _ _ _ h => h) (Or.inl ⟨by rfl, ?hy7⟩) (by assumption) ?rest7
    case hy7 => (intro w hSw; (try dsimp only at hSw); go_simp <;> with_reducible rfl)
    try simp only [Act.put, List.setIfInBounds_toArray, List.set_cons_zero, List.set_cons_succ]
    clear hHeld
    refine wpAnyH_ready (rs := [8]) (by kernel_rfl) (by simp) ?_
    refine AllReadyH.cons (o := _) rfl (fun K hK => ?_) AllReadyH.nil
    go_simp
    refine hK.out _ _ ?_ (fun hHeld => ?_)
    · refine (fun hB : Below W.heap.size W _ => ⟨Below.keeps hB C3.out (Nat.le_refl _), Below.keeps hB CX.out (Nat.le_refl _), Below.keeps hB C0.out (Nat.le_refl _), Below.keeps hB CP.out (Nat.le_refl _)⟩) ?_
      exact ((Below.refl _ _).drew).alloc (Nat.le_refl _) _
    clear hK K
    try simp only [Act.put, List.setIfInBounds_toArray, List.set_cons_zero, List.set_cons_succ]
    have hbA : Hid (Below W.heap.size W (W.alloc (.cells (madeCells #[.bool false] N2) 4)).drew) := ((Below.refl _ _).alloc (Nat.le_refl _) _).drew
    have hrw : Hid ((W.alloc (.cells (madeCells #[.bool false] N2) 4)).drew.rowIs W.heap.size 4 N2 (fun _ => .bool false)) := World.rowIs_made W (.bool false) N2 4
    have hks : Hid (KeepsFrom W4.heap.size W (W.alloc (.cells (madeCells #[.bool false] N2) 4)).drew) := ((KeepsOthers.alloc _ _).from _).trans ((KeepsOthers.drew _).from _)
    generalize (W.alloc (.cells (madeCells #[.bool false] N2) 4)).drew = WA at *
    have uTA := Below.keeps hbA.out uT (Nat.le_refl _)
    have uFA := Below.keepsF hbA.out uF hTl
    refine wpAnyH_take (i := 9) (oi := _) (v := ?v9) rfl (by kernel_rfl) (by kernel_rfl) (by kernel_rfl) (fun _ _ _ h => h) (Or.inl ⟨by rfl, ?hy9⟩) (by assumption) ?rest9
    case hy9 => (intro w hSw; (try dsimp only at hSw); go_simp <;> with_reducible rfl)
    try simp only [Act.put, List.setIfInBounds_toArray, List.set_cons_zero, List.set_cons_succ]
    refine wpAnyH_ready (rs := [10]) (by kernel_rfl) (by simp) ?_
    refine AllReadyH.cons (o := _) rfl (fun K hK => ?_) AllReadyH.nil
    go_simp
    refine hK.out _ _ ?_ (fun hHeld2 => ?_)
    · exact ⟨(World.cell?_setCell_other _ _ _ _ (NT.out.2.1 _)).trans hHeld.1, (World.cell?_setCell_other _ _ _ _ (NT.out.2.2.1 _)).trans hHeld.2.1, (World.cell?_setCell_other _ _ _ _ (NT.out.1 _)).trans hHeld.2.2.1, (World.cell?_setCell_other _ _ _ _ (NT.out.2.2.2 _)).trans hHeld.2.2.2⟩
    clear hK K hHeld hHeld2
    try simp only [Act.put, List.setIfInBounds_toArray, List.set_cons_zero, List.set_cons_succ]
    refine wpAnyH_done (by kernel_rfl) ?_ _
    have hU5 : Hid (UI w (WA.setCell ⟨T, i, none⟩ (.slice (some ⟨W.heap.size, 0, none⟩) N2 N2)) H0 H1 T H3 M0 px N2 len (i + 1) p l (.slice (some ⟨bl, ol, none⟩) len cap)) := (HI.out.later hbA.out).other (Nat.lt_succ_self _) _ _ _
    have hX5 : Hid ((WA.setCell ⟨T, i, none⟩ (.slice (some ⟨W.heap.size, 0, none⟩) N2 N2)).cell? ⟨Bx, 0, none⟩ = some (.int .i64 (i : Int))) := (World.cell?_setCell_other _ _ _ _ (NT.out.2.2.1 _)).trans (Below.keeps hbA.out CX.out (Nat.le_refl _))
    have hT5 : Hid ((WA.setCell ⟨T, i, none⟩ (.slice (some ⟨W.heap.size, 0, none⟩) N2 N2)).cell? ⟨T, i, none⟩ = some (.slice (some ⟨W.heap.size, 0, none⟩) N2 N2)) := World.cell?_setCell_same' _ _ _ (by rw [uTA]; rfl)
    have hM5 : Hid ((∀ v, v < N2 → (WA.setCell ⟨T, i, none⟩ (.slice (some ⟨W.heap.size, 0, none⟩) N2 N2)).cell? ⟨W.heap.size, v, none⟩ = some (.bool (if v < 0 then canS p (l.drop i) v else false))) ∧ ∀ v, (WA.setCell ⟨T, i, none⟩ (.slice (some ⟨W.heap.size, 0, none⟩) N2 N2)).frozen? ⟨W.heap.size, v, none⟩ = false) :=
      ⟨fun v hv => by rw [if_neg (by omega), World.cell?_setCell_other _ _ _ _ (by intro e; injection e with e; omega)]; exact hrw.out.cell hv, fun v => by rw [World.frozen?_setCell]; exact hrw.out.frozen v⟩
    have hK5 : Hid (KeepsFrom W4.heap.size W (WA.setCell ⟨T, i, none⟩ (.slice (some ⟨W.heap.size, 0, none⟩) N2 N2)) ∧ Kp2 w.heap.size Bs W (WA.setCell ⟨T, i, none⟩ (.slice (some ⟨W.heap.size, 0, none⟩) N2 N2))) :=
      ⟨hks.out.trans ((KeepsOthers.setCell _ _ _).from _), (hbA.out.mono HI.out.bw.size).setCell (p := ⟨T, i, none⟩) hqq.1 _, (Deep.blk_setCell_other _ ⟨T, i, none⟩ _ Bs (by show Bs ≠ T; have := hM4.out; omega)).trans (hbA.out.block Bs hbs)⟩
    have hs5 : W.heap.size < (WA.setCell ⟨T, i, none⟩ (.slice (some ⟨W.heap.size, 0, none⟩) N2 N2)).heap.size := by simp [World.setCell]; exact hrw.out.lt
    have hBM : Bx < W.heap.size := cell_lt cBx
    have hMM : M0 ≤ W.heap.size := HI.out.sz
    obtain ⟨g1, hg1M, hg1T, hg1c⟩ := HI.out.row (j := i + 1) (Nat.le_refl _) (by omega)
    have hR5 : Hid ((WA.setCell ⟨T, i, none⟩ (.slice (some ⟨W.heap.size, 0, none⟩) N2 N2)).cell? ⟨T, i + 1, none⟩ = some (.slice (some ⟨g1, 0, none⟩) N2 N2) ∧ (∀ v, v < N2 → (WA.setCell ⟨T, i, none⟩ (.slice (some ⟨W.heap.size, 0, none⟩) N2 N2)).cell? ⟨g1, v, none⟩ = some (.bool (canS p (l.drop (i + 1)) v))) ∧ (0 < N2 → g1 < W.heap.size)) :=
      ⟨(World.cell?_setCell_other _ _ _ _ (by intro e; injection e with e1 e2; omega)).trans (Below.keeps hbA.out hg1T (Nat.le_refl _)), fun v hv => (World.cell?_setCell_other _ _ _ _ (by intro e; injection e with e1 e2; omega)).trans (Below.keeps hbA.out (hg1c v hv) (Nat.le_refl _)), fun h => cell_lt (hg1c 0 h)⟩
    clear hg1T hg1c
    have hbS : Hid (Below W.heap.size (W.setCell ⟨T, i, none⟩ (.slice (some ⟨W.heap.size, 0, none⟩) N2 N2)) (WA.setCell ⟨T, i, none⟩ (.slice (some ⟨W.heap.size, 0, none⟩) N2 N2))) := Below.setBoth hbA.out _ _
    have hUS : Hid (UI w (W.setCell ⟨T, i, none⟩ (.slice (some ⟨W.heap.size, 0, none⟩) N2 N2)) H0 H1 T H3 M0 px N2 len (i + 1) p l (.slice (some ⟨bl, ol, none⟩) len cap)) := HI.out.other (Nat.lt_succ_self _) _ _ _
    have hSS : Hid ((W.setCell ⟨T, i, none⟩ (.slice (some ⟨W.heap.size, 0, none⟩) N2 N2)).heap.size = W.heap.size) := by unfold Hid; simp [World.setCell]
    generalize W.setCell ⟨T, i, none⟩ (.slice (some ⟨W.heap.size, 0, none⟩) N2 N2) = WS at hbS hUS hSS
    clear hrw hks uTA uFA uT uF hTl C0 C1 C3 CP CX hxT NT hmk2 HI cBx
    generalize WA.setCell ⟨T, i, none⟩ (.slice (some ⟨W.heap.size, 0, none⟩) N2 N2) = W5 at *
    have d3 := hU5.out.c3; have dx := hX5.out; have dT := hT5.out
    generalize hMe : W.heap.size = M at *
    gi_upto_region 7 with (fail)
    clear d3 dx dT
    gi_loopw [49] (fun s49 wr => ∃ u : Nat, u ≤ N2 ∧ s49 = .int .i64 u ∧ Below M W5 wr ∧ (∀ v, v < N2 → wr.cell? ⟨M, v, none⟩ = some (.bool (if v < u then canS p (l.drop i) v else false))) ∧ (∀ v, wr.frozen? ⟨M, v, none⟩ = false) ∧ KeepsFrom W4.heap.size W5 wr ∧ M < wr.heap.size) (fun s49 _ => N2 - (intOf s49).toNat)
    case atStart => exact ⟨0, Nat.zero_le _, rfl, Below.refl _ _, hM5.out.1, hM5.out.2, KeepsFrom.refl _ _, hs5⟩
    case round =>
      obtain ⟨u, hu, rfl, hb5, hcM, hfM, hk5, hsM⟩ := hrel
      by_cases hlt : u < N2
      · obtain ⟨i1', e1', i2', e2', l1', l2', c1', d1', c2', d2', k1', k2', TL', TU', hp, -, -, -, -, hL1, hL2', -, hUP⟩ := HX.out.ex
        have hbw : Below w.heap.size w wr := hU5.out.bw.trans (hb5.mono (by have := hqq; omega))
        obtain ⟨ar, cr, hrow0, hrm, hrc⟩ := hUP u (by omega)
        have q9 := Below.keeps hbw hp.q9 (Nat.le_refl _)
        have q6 := Below.keeps hbw hp.q6 (Nat.le_refl _)
        have q7 := Below.keeps hbw hp.q7 (Nat.le_refl _)
        have hll : p.ll.length = N1 := by have := HOK.out.ll; have := HX.out.n1; omega
        have hul : p.ul.length = N2 := by have := HOK.out.ul; have := HX.out.n2; omega
        rw [hll] at q6
        rw [hul] at q7
        have hrow := Below.keeps hbw hrow0 (Nat.le_refl _)
        have HRI : Hid (IntsAt wr (.slice ar (upRow p u).length cr) (upRow p u)) := ⟨_, _, rfl, hrm, hrc.later hbw⟩
        have hil : i < l.length := by have := HLEN.out; omega
        obtain ⟨bs, os, es, gs⟩ := (HLC.out.later hbw) i hil
        injection es with es
        injection es with es1 es2 _
        subst es1 es2
        have hsr := HR.out _ (gi_mem hil)
        have hdrop : l.drop i = gi l i :: l.drop (i + 1) := drop_at hil
        have HCU : Hid (∀ s : Nat, gi l i = s → ∀ v, canS p (l.drop i) v = (anyP (fun v => canS p (l.drop (i + 1)) v.toNat) (upRow p v) && decide (gi p.ul v = gi p.ll s))) := fun s hs v => by
          rw [hdrop, hs]; rfl
        generalize gi l i = s0 at gs hsr HCU
        obtain ⟨s, rfl⟩ : ∃ s : Nat, s0 = (s : Int) := ⟨s0.toNat, by omega⟩
        have hsN : s < N1 := by omega
        have HC2 := Lib.hid (HCU.out s rfl u)
        obtain ⟨bL, oL, eL, gL0⟩ := hL1 s (by omega)
        obtain ⟨bU, oU, eU, gU0⟩ := hL2' u (by omega)
        subst eL eU
        have zL : bL < w.heap.size := cell_lt gL0
        have zU : bU < w.heap.size := cell_lt gU0
        have gL := Below.keeps hbw gL0 (Nat.le_refl _)
        have gU := Below.keeps hbw gU0 (Nat.le_refl _)
        have k0 := (hb5.cell (p := ⟨H0, 0, none⟩) (by show H0 < M; omega)).trans hU5.out.c0
        have k1 := (hb5.cell (p := ⟨H1, 0, none⟩) (by show H1 < M; omega)).trans hU5.out.c1
        have k3 := (hb5.cell (p := ⟨H3, 0, none⟩) (by show H3 < M; omega)).trans hU5.out.c3
        have kx := (hb5.cell (p := ⟨Bx, 0, none⟩) (by show Bx < M; omega)).trans hX5.out
        have kT := (hb5.cell (p := ⟨T, i, none⟩) (by show T < M; omega)).trans hT5.out
        have kT1 := (hb5.cell (p := ⟨T, i + 1, none⟩) (by show T < M; omega)).trans hR5.out.1
        have kg : ∀ v, v < N2 → wr.cell? ⟨g1, v, none⟩ = some (.bool (canS p (l.drop (i + 1)) v)) := fun v hv => (hb5.cell (p := ⟨g1, v, none⟩) (hR5.out.2.2 (by omega))).trans (hR5.out.2.1 v hv)
        have hAsk := Lib.hid (can1_any (canS p (l.drop (i + 1))) i (len + 1) N2 T H3 Bx g1 (upRow p u) wr (by omega) (by omega) k3 kx kT1 kg (huprow.out u hlt))
        clear kg kT1 hrow0 hp hL1 hL2' hUP hll hul hrm hrc gL0 gU0 hdrop HCU
        have hcu := hcM u hlt
        have hfu := hfM u
        rw [if_neg (Nat.lt_irrefl u)] at hcu
        have hqX := Lib.hid hqq
        have HCM := Lib.hid hcM; have HFM := Lib.hid hfM; have HK6 := Lib.hid hk5; have HB5 := Lib.hid hb5
        have K0 := Lib.hid k0; have K1 := Lib.hid k1; have K3 := Lib.hid k3; have KX := Lib.hid kx; have KT := Lib.hid kT; have G7 := Lib.hid q7; have G6 := Lib.hid q6; have GU := Lib.hid gU; have GL := Lib.hid gL; have GS := Lib.hid gs; have HCu := Lib.hid hcu; have HFu := Lib.hid hfu
        clear hcM hfM hk5 hb5 hbw
        gi_wp2_with (refine ⟨trivial, ?_⟩; gi_at_call 34; refine (CallsIn.inRound lo (callsIn_wide.2 (containsF_any 62 _ (fun v => canS p (l.drop (i + 1)) v.toNat) (fun _ _ => rfl) (upRow p u) _ _ HRI.out hAsk.out))).mono ?_; rintro e wq ⟨rfl, nq, rfl⟩)
        have hd : Below wr.heap.size wr (wr.drewN nq) := below_drewN (Below.refl _ _) _
        have kd : ∀ b j v, wr.cell? ⟨b, j, none⟩ = some v → (wr.drewN nq).cell? ⟨b, j, none⟩ = some v := fun b j v h => Below.keeps hd h (Nat.le_refl _)
        have D0 := Lib.hid (kd _ _ _ K0.out); have D1 := Lib.hid (kd _ _ _ K1.out); have D3 := Lib.hid (kd _ _ _ K3.out); have DX := Lib.hid (kd _ _ _ KX.out); have DT := Lib.hid (kd _ _ _ KT.out); have D7 := Lib.hid (kd _ _ _ G7.out); have D6 := Lib.hid (kd _ _ _ G6.out); have DU := Lib.hid (kd _ _ _ GU.out); have DL := Lib.hid (kd _ _ _ GL.out); have DS := Lib.hid (kd _ _ _ GS.out)
        have mC := kd _ _ _ HCu.out
        have mF : (wr.drewN nq).frozen? ⟨M, u, none⟩ = false := Below.keepsF hd HFu.out hsM
        have HMA : Hid ((∀ v, v < N2 → (wr.drewN nq).cell? ⟨M, v, none⟩ = some (.bool (if v < u then canS p (l.drop i) v else false))) ∧ (∀ v, (wr.drewN nq).frozen? ⟨M, v, none⟩ = false) ∧ Below M W5 (wr.drewN nq) ∧ KeepsFrom W4.heap.size W5 (wr.drewN nq) ∧ M < (wr.drewN nq).heap.size) :=
          ⟨fun v hv => kd _ _ _ (HCM.out v hv), fun v => Below.keepsF hd (HFM.out v) hsM, HB5.out.trans (hd.mono (by omega)), ⟨Nat.le_trans HK6.out.size hd.size, fun k o h1 h2 h3 => (hd.block k (Array.getElem?_eq_some_iff.1 (HK6.out.same k o h1 h2 h3)).1).trans (HK6.out.same k o h1 h2 h3)⟩, Nat.lt_of_lt_of_le hsM hd.size⟩
        clear kd hd K0 K1 K3 KX KT G7 G6 GU GL GS HCu HFu HCM HFM HK6 HB5 hAsk HRI k0 k1 k3 kx kT q6 q7 q9 gL gU gs hcu hfu hrow hsM
        generalize wr.drewN nq = W6 at *
        generalize gi p.ll s = xa at *
        generalize gi p.ul u = xb at *
        generalize anyP (fun v => canS p (l.drop (i + 1)) v.toNat) (upRow p u) = goes at *
        have hM6 : M < W6.heap.size := HMA.out.2.2.2.2
        have hlN : (s : Int) < (N1 : Int) := by omega
        have hiu : (u : Int) < (N2 : Int) := by omega
        have hii : (i : Int) < (len : Int) := by omega
        have hq9 := hqX.out
        refine wpIn_regionR (S := fun w' => w'.cell? ⟨H3, 0, none⟩ = some (.slice (some ⟨T, 0, none⟩) (len + 1) (len + 1)) ∧ w'.cell? ⟨Bx, 0, none⟩ = some (.int .i64 (i : Int)) ∧ w'.cell? ⟨T, i, none⟩ = some (.slice (some ⟨M, 0, none⟩) N2 N2) ∧ w'.cell? ⟨H0, 0, none⟩ = some (.pointer (some ⟨px, 0, none⟩)) ∧ w'.cell? ⟨px, 7, none⟩ = some (.slice (some ⟨bU, oU, none⟩) N2 k2') ∧ w'.cell? ⟨bU, oU + u, none⟩ = some (.int .i64 xb) ∧ w'.cell? ⟨px, 6, none⟩ = some (.slice (some ⟨bL, oL, none⟩) N1 k1') ∧ w'.cell? ⟨H1, 0, none⟩ = some (.slice (some ⟨bl, ol, none⟩) len cap) ∧ w'.cell? ⟨bl, ol + i, none⟩ = some (.int .i64 (s : Int)) ∧ w'.cell? ⟨bL, oL + s, none⟩ = some (.int .i64 xa))
          (by kernel_rfl) (fun ⟨_, _, h⟩ => nomatch h.1) (by kernel_rfl) ⟨D3.out, DX.out, DT.out, D0.out, D7.out, DU.out, D6.out, D1.out, DS.out, DL.out⟩ (fun hHeld => ?_)
        have keepS : Hid (∀ X : World, ∀ v : Value, (X.cell? ⟨H3, 0, none⟩ = some (.slice (some ⟨T, 0, none⟩) (len + 1) (len + 1)) ∧ X.cell? ⟨Bx, 0, none⟩ = some (.int .i64 (i : Int)) ∧ X.cell? ⟨T, i, none⟩ = some (.slice (some ⟨M, 0, none⟩) N2 N2) ∧ X.cell? ⟨H0, 0, none⟩ = some (.pointer (some ⟨px, 0, none⟩)) ∧ X.cell? ⟨px, 7, none⟩ = some (.slice (some ⟨bU, oU, none⟩) N2 k2') ∧ X.cell? ⟨bU, oU + u, none⟩ = some (.int .i64 xb) ∧ X.cell? ⟨px, 6, none⟩ = some (.slice (some ⟨bL, oL, none⟩) N1 k1') ∧ X.cell? ⟨H1, 0, none⟩ = some (.slice (some ⟨bl, ol, none⟩) len cap) ∧ X.cell? ⟨bl, ol + i, none⟩ = some (.int .i64 (s : Int)) ∧ X.cell? ⟨bL, oL + s, none⟩ = some (.int .i64 xa)) →
            ((X.setCell ⟨M, u, none⟩ v).cell? ⟨H3, 0, none⟩ = some (.slice (some ⟨T, 0, none⟩) (len + 1) (len + 1)) ∧ (X.setCell ⟨M, u, none⟩ v).cell? ⟨Bx, 0, none⟩ = some (.int .i64 (i : Int)) ∧ (X.setCell ⟨M, u, none⟩ v).cell? ⟨T, i, none⟩ = some (.slice (some ⟨M, 0, none⟩) N2 N2) ∧ (X.setCell ⟨M, u, none⟩ v).cell? ⟨H0, 0, none⟩ = some (.pointer (some ⟨px, 0, none⟩)) ∧ (X.setCell ⟨M, u, none⟩ v).cell? ⟨px, 7, none⟩ = some (.slice (some ⟨bU, oU, none⟩) N2 k2') ∧ (X.setCell ⟨M, u, none⟩ v).cell? ⟨bU, oU + u, none⟩ = some (.int .i64 xb) ∧ (X.setCell ⟨M, u, none⟩ v).cell? ⟨px, 6, none⟩ = some (.slice (some ⟨bL, oL, none⟩) N1 k1') ∧ (X.setCell ⟨M, u, none⟩ v).cell? ⟨H1, 0, none⟩ = some (.slice (some ⟨bl, ol, none⟩) len cap) ∧ (X.setCell ⟨M, u, none⟩ v).cell? ⟨bl, ol + i, none⟩ = some (.int .i64 (s : Int)) ∧ (X.setCell ⟨M, u, none⟩ v).cell? ⟨bL, oL + s, none⟩ = some (.int .i64 xa))) := fun X v h => by
          have o : ∀ b j, b ≠ M → (X.setCell ⟨M, u, none⟩ v).cell? ⟨b, j, none⟩ = X.cell? ⟨b, j, none⟩ := fun b j hb => World.cell?_setCell_other _ _ _ _ (by intro e; injection e with e; exact hb e.symm)
          rw [o _ _ (by omega), o _ _ (by omega), o _ _ (by omega), o _ _ (by omega), o _ _ (by omega), o _ _ (by omega), o _ _ (by omega), o _ _ (by omega), o _ _ (by omega), o _ _ (by omega)]
          exact h
        have KS := Lib.hid keepS.out
        clear keepS
        have post : Hid (∀ bv : Bool, bv = canS p (l.drop i) u → Below M W5 ((W6.setCell ⟨M, u, none⟩ (.bool bv)).drew) ∧ (∀ v, v < N2 → ((W6.setCell ⟨M, u, none⟩ (.bool bv)).drew).cell? ⟨M, v, none⟩ = some (.bool (if v < u + 1 then canS p (l.drop i) v else false))) ∧ (∀ v, ((W6.setCell ⟨M, u, none⟩ (.bool bv)).drew).frozen? ⟨M, v, none⟩ = false) ∧ KeepsFrom W4.heap.size W5 ((W6.setCell ⟨M, u, none⟩ (.bool bv)).drew) ∧ M < ((W6.setCell ⟨M, u, none⟩ (.bool bv)).drew).heap.size) := fun bv hbv => by
          refine ⟨(HMA.out.2.2.1.setCell (p := ⟨M, u, none⟩) (Nat.le_refl _) _).drew, fun v hv => ?_, fun v => by rw [World.frozen?_drew, World.frozen?_setCell]; exact HMA.out.2.1 v, HMA.out.2.2.2.1.trans (((KeepsOthers.setCell _ _ _).from _).trans ((KeepsOthers.drew _).from _)), by simp [World.setCell]; exact hM6⟩
          rw [World.cell?_drew]
          by_cases e : v = u
          · subst e
            rw [if_pos (Nat.lt_succ_self _), ← hbv]
            exact World.cell?_setCell_same' _ _ _ (by show (W6.cell? _).isSome = true; rw [mC]; rfl)
          · rw [World.cell?_setCell_other _ _ _ _ (by intro h; injection h with h1 h2; exact e h2.symm)]
            refine (HMA.out.1 v hv).trans ?_
            by_cases h : v < u
            · rw [if_pos h, if_pos (by omega)]
            · rw [if_neg h, if_neg (by omega)]
        cases goes with
        | true =>
          refine wpAnyH_take (i := 0) (oi := _) (v := ?vt0) rfl (by kernel_rfl) (by kernel_rfl) (by kernel_rfl) (fun _ _ _ h => h) (Or.inl ⟨by rfl, ?hyt0⟩) (by assumption) ?restt0
          case hyt0 => (intro w hSw; (try dsimp only at hSw); go_simp <;> with_reducible rfl)
          try simp only [Act.put, List.setIfInBounds_toArray, List.set_cons_zero, List.set_cons_succ]
          refine wpAnyH_take (i := 1) (oi := _) (v := ?vt1) rfl (by kernel_rfl) (by kernel_rfl) (by kernel_rfl) (fun _ _ _ h => h) (Or.inl ⟨by rfl, ?hyt1⟩) (by assumption) ?restt1
          case hyt1 => (intro w hSw; (try dsimp only at hSw); go_simp <;> with_reducible rfl)
          try simp only [Act.put, List.setIfInBounds_toArray, List.set_cons_zero, List.set_cons_succ]
          refine wpAnyH_take (i := 2) (oi := _) (v := ?vt2) rfl (by kernel_rfl) (by kernel_rfl) (by kernel_rfl) (fun _ _ _ h => h) (Or.inl ⟨by rfl, ?hyt2⟩) (by assumption) ?restt2
          case hyt2 => (intro w hSw; (try dsimp only at hSw); go_simp <;> with_reducible rfl)
          try simp only [Act.put, List.setIfInBounds_toArray, List.set_cons_zero, List.set_cons_succ]
          refine wpAnyH_take (i := 3) (oi := _) (v := ?vt3) rfl (by kernel_rfl) (by kernel_rfl) (by kernel_rfl) (fun _ _ _ h => h) (Or.inl ⟨by rfl, ?hyt3⟩) (by assumption) ?restt3
          case hyt3 => (intro w hSw; (try dsimp only at hSw); go_simp <;> with_reducible rfl)
          try simp only [Act.put, List.setIfInBounds_toArray, List.set_cons_zero, List.set_cons_succ]
          refine wpAnyH_take (i := 4) (oi := _) (v := ?vt4) rfl (by kernel_rfl) (by kernel_rfl) (by kernel_rfl) (fun _ _ _ h => h) (Or.inl ⟨by rfl, ?hyt4⟩) (by assumption) ?restt4
          case hyt4 => (intro w hSw; (try dsimp only at hSw); go_simp <;> with_reducible rfl)
          try simp only [Act.put, List.setIfInBounds_toArray, List.set_cons_zero, List.set_cons_succ]
          refine wpAnyH_take (i := 5) (oi := _) (v := ?vt5) rfl (by kernel_rfl) (by kernel_rfl) (by kernel_rfl) (fun _ _ _ h => h) (Or.inl ⟨by rfl, ?hyt5⟩) (by assumption) ?restt5
          case hyt5 => (intro w hSw; (try dsimp only at hSw); go_simp <;> with_reducible rfl)
          try simp only [Act.put, List.setIfInBounds_toArray, List.set_cons_zero, List.set_cons_succ]
          refine wpAnyH_take (i := 6) (oi := _) (v := ?vt6) rfl (by kernel_rfl) (by kernel_rfl) (by kernel_rfl) (fun _ _ _ h => h) (Or.inl ⟨by rfl, ?hyt6⟩) (by assumption) ?restt6
          case hyt6 => (intro w hSw; (try dsimp only at hSw); go_simp <;> with_reducible rfl)
          try simp only [Act.put, List.setIfInBounds_toArray, List.set_cons_zero, List.set_cons_succ]
          refine wpAnyH_take (i := 7) (oi := _) (v := ?vt7) rfl (by kernel_rfl) (by kernel_rfl) (by kernel_rfl) (fun _ _ _ h => h) (Or.inl ⟨by kernel_rfl, ?hyt7⟩) (by assumption) ?restt7
          case hyt7 => (intro w hSw; (try dsimp only at hSw); go_simp <;> with_reducible rfl)
          try simp only [Act.put, List.setIfInBounds_toArray, List.set_cons_zero, List.set_cons_succ]
          refine wpAnyH_take (i := 8) (oi := _) (v := ?vt8) rfl (by kernel_rfl) (by kernel_rfl) (by kernel_rfl) (fun _ _ _ h => h) (Or.inl ⟨by kernel_rfl, ?hyt8⟩) (by assumption) ?restt8
          case hyt8 => (intro w hSw; (try dsimp only at hSw); go_simp <;> with_reducible rfl)
          try simp only [Act.put, List.setIfInBounds_toArray, List.set_cons_zero, List.set_cons_succ]
          refine wpAnyH_take (i := 9) (oi := _) (v := ?vt9) rfl (by kernel_rfl) (by kernel_rfl) (by kernel_rfl) (fun _ _ _ h => h) (Or.inl ⟨by kernel_rfl, ?hyt9⟩) (by assumption) ?restt9
          case hyt9 => (intro w hSw; (try dsimp only at hSw); go_simp <;> with_reducible rfl)
          try simp only [Act.put, List.setIfInBounds_toArray, List.set_cons_zero, List.set_cons_succ]
          refine wpAnyH_take (i := 10) (oi := _) (v := ?vt10) rfl (by kernel_rfl) (by kernel_rfl) (by kernel_rfl) (fun _ _ _ h => h) (Or.inl ⟨by kernel_rfl, ?hyt10⟩) (by assumption) ?restt10
          case hyt10 => (intro w hSw; (try dsimp only at hSw); go_simp <;> with_reducible rfl)
          try simp only [Act.put, List.setIfInBounds_toArray, List.set_cons_zero, List.set_cons_succ]
          refine wpAnyH_take (i := 11) (oi := _) (v := ?vt11) rfl (by kernel_rfl) (by kernel_rfl) (by kernel_rfl) (fun _ _ _ h => h) (Or.inl ⟨by kernel_rfl, ?hyt11⟩) (by assumption) ?restt11
          case hyt11 => (intro w hSw; (try dsimp only at hSw); go_simp <;> with_reducible rfl)
          try simp only [Act.put, List.setIfInBounds_toArray, List.set_cons_zero, List.set_cons_succ]
          refine wpAnyH_take (i := 12) (oi := _) (v := ?vt12) rfl (by kernel_rfl) (by kernel_rfl) (by kernel_rfl) (fun _ _ _ h => h) (Or.inl ⟨by kernel_rfl, ?hyt12⟩) (by assumption) ?restt12
          case hyt12 => (intro w hSw; (try dsimp only at hSw); go_simp <;> with_reducible rfl)
          try simp only [Act.put, List.setIfInBounds_toArray, List.set_cons_zero, List.set_cons_succ]
          refine wpAnyH_take (i := 13) (oi := _) (v := ?vt13) rfl (by kernel_rfl) (by kernel_rfl) (by kernel_rfl) (fun _ _ _ h => h) (Or.inl ⟨by kernel_rfl, ?hyt13⟩) (by assumption) ?restt13
          case hyt13 => (intro w hSw; (try dsimp only at hSw); go_simp <;> with_reducible rfl)
          try simp only [Act.put, List.setIfInBounds_toArray, List.set_cons_zero, List.set_cons_succ]
          refine wpAnyH_take (i := 14) (oi := _) (v := ?vt14) rfl (by kernel_rfl) (by kernel_rfl) (by kernel_rfl) (fun _ _ _ h => h) (Or.inl ⟨by kernel_rfl, ?hyt14⟩) (by assumption) ?restt14
          case hyt14 => (intro w hSw; (try dsimp only at hSw); go_simp <;> with_reducible rfl)
          try simp only [Act.put, List.setIfInBounds_toArray, List.set_cons_zero, List.set_cons_succ]
          refine wpAnyH_take (i := 15) (oi := _) (v := ?vt15) rfl (by kernel_rfl) (by kernel_rfl) (by kernel_rfl) (fun _ _ _ h => h) (Or.inl ⟨by kernel_rfl, ?hyt15⟩) (by assumption) ?restt15
          case hyt15 => (intro w hSw; (try dsimp only at hSw); go_simp <;> with_reducible rfl)
          try simp only [Act.put, List.setIfInBounds_toArray, List.set_cons_zero, List.set_cons_succ]
          refine wpAnyH_take (i := 16) (oi := _) (v := ?vt16) rfl (by kernel_rfl) (by kernel_rfl) (by kernel_rfl) (fun _ _ _ h => h) (Or.inl ⟨by kernel_rfl, ?hyt16⟩) (by assumption) ?restt16
          case hyt16 => (intro w hSw; (try dsimp only at hSw); go_simp <;> with_reducible rfl)
          try simp only [Act.put, List.setIfInBounds_toArray, List.set_cons_zero, List.set_cons_succ]
          refine wpAnyH_take (i := 17) (oi := _) (v := ?vt17) rfl (by kernel_rfl) (by kernel_rfl) (by kernel_rfl) (fun _ _ _ h => h) (Or.inl ⟨by kernel_rfl, ?hyt17⟩) (by assumption) ?restt17
          case hyt17 => (intro w hSw; (try dsimp only at hSw); go_simp <;> with_reducible rfl)
          try simp only [Act.put, List.setIfInBounds_toArray, List.set_cons_zero, List.set_cons_succ]
          refine wpAnyH_take (i := 18) (oi := _) (v := ?vt18) rfl (by kernel_rfl) (by kernel_rfl) (by kernel_rfl) (fun _ _ _ h => h) (Or.inl ⟨by kernel_rfl, ?hyt18⟩) (by assumption) ?restt18
          case hyt18 => (intro w hSw; (try dsimp only at hSw); go_simp <;> with_reducible rfl)
          try simp only [Act.put, List.setIfInBounds_toArray, List.set_cons_zero, List.set_cons_succ]
          refine wpAnyH_take (i := 19) (oi := _) (v := ?vt19) rfl (by kernel_rfl) (by kernel_rfl) (by kernel_rfl) (fun _ _ _ h => h) (Or.inl ⟨by kernel_rfl, ?hyt19⟩) (by assumption) ?restt19
          case hyt19 => (intro w hSw; (try dsimp only at hSw); go_simp <;> with_reducible rfl)
          try simp only [Act.put, List.setIfInBounds_toArray, List.set_cons_zero, List.set_cons_succ]
          refine wpAnyH_take (i := 20) (oi := _) (v := ?vt20) rfl (by kernel_rfl) (by kernel_rfl) (by kernel_rfl) (fun _ _ _ h => h) (Or.inl ⟨by kernel_rfl, ?hyt20⟩) (by assumption) ?restt20
          case hyt20 => (intro w hSw; (try dsimp only at hSw); go_simp <;> with_reducible rfl)
          try simp only [Act.put, List.setIfInBounds_toArray, List.set_cons_zero, List.set_cons_succ]
          refine wpAnyH_take (i := 21) (oi := _) (v := ?vt21) rfl (by kernel_rfl) (by kernel_rfl) (by kernel_rfl) (fun _ _ _ h => h) (Or.inl ⟨by kernel_rfl, ?hyt21⟩) (by assumption) ?restt21
          case hyt21 => (intro w hSw; (try dsimp only at hSw); go_simp <;> with_reducible rfl)
          try simp only [Act.put, List.setIfInBounds_toArray, List.set_cons_zero, List.set_cons_succ]
          refine wpAnyH_take (i := 22) (oi := _) (v := ?vt22) rfl (by kernel_rfl) (by kernel_rfl) (by kernel_rfl) (fun _ _ _ h => h) (Or.inl ⟨by kernel_rfl, ?hyt22⟩) (by assumption) ?restt22
          case hyt22 => (intro w hSw; (try dsimp only at hSw); go_simp <;> with_reducible rfl)
          try simp only [Act.put, List.setIfInBounds_toArray, List.set_cons_zero, List.set_cons_succ]
          refine wpAnyH_take (i := 23) (oi := _) (v := ?vt23) rfl (by kernel_rfl) (by kernel_rfl) (by kernel_rfl) (fun _ _ _ h => h) (Or.inl ⟨by kernel_rfl, ?hyt23⟩) (by assumption) ?restt23
          case hyt23 => (intro w hSw; (try dsimp only at hSw); go_simp <;> with_reducible rfl)
          try simp only [Act.put, List.setIfInBounds_toArray, List.set_cons_zero, List.set_cons_succ]
          refine wpAnyH_take (i := 24) (oi := _) (v := ?vt24) rfl (by kernel_rfl) (by kernel_rfl) (by kernel_rfl) (fun _ _ _ h => h) (Or.inl ⟨by kernel_rfl, ?hyt24⟩) (by assumption) ?restt24
          case hyt24 => (intro w hSw; (try dsimp only at hSw); go_simp <;> with_reducible rfl)
          try simp only [Act.put, List.setIfInBounds_toArray, List.set_cons_zero, List.set_cons_succ]
          refine wpAnyH_take (i := 25) (oi := _) (v := ?vt25) rfl (by kernel_rfl) (by kernel_rfl) (by kernel_rfl) (fun _ _ _ h => h) (Or.inl ⟨by kernel_rfl, ?hyt25⟩) (by assumption) ?restt25
          case hyt25 => (intro w hSw; (try dsimp only at hSw); go_simp <;> with_reducible rfl)
          try simp only [Act.put, List.setIfInBounds_toArray, List.set_cons_zero, List.set_cons_succ]
          refine wpAnyH_take (i := 26) (oi := _) (v := ?vt26) rfl (by kernel_rfl) (by kernel_rfl) (by kernel_rfl) (fun _ _ _ h => h) (Or.inl ⟨by kernel_rfl, ?hyt26⟩) (by assumption) ?restt26
          case hyt26 => (intro w hSw; (try dsimp only at hSw); go_simp <;> with_reducible rfl)
          try simp only [Act.put, List.setIfInBounds_toArray, List.set_cons_zero, List.set_cons_succ]
          refine wpAnyH_take (i := 27) (oi := _) (v := ?vt27) rfl (by kernel_rfl) (by kernel_rfl) (by kernel_rfl) (fun _ _ _ h => h) (Or.inl ⟨by rfl, ?hyt27⟩) (by assumption) ?restt27
          case hyt27 => (intro w hSw; (try dsimp only at hSw); go_simp <;> with_reducible rfl)
          try simp only [Act.put, List.setIfInBounds_toArray, List.set_cons_zero, List.set_cons_succ]
          refine wpAnyH_take (i := 28) (oi := _) (v := ?vt28) rfl (by kernel_rfl) (by kernel_rfl) (by kernel_rfl) (fun _ _ _ h => h) (Or.inl ⟨by rfl, ?hyt28⟩) (by assumption) ?restt28
          case hyt28 => (intro w hSw; (try dsimp only at hSw); go_simp <;> with_reducible rfl)
          try simp only [Act.put, List.setIfInBounds_toArray, List.set_cons_zero, List.set_cons_succ]
          refine wpAnyH_ready (rs := [29]) (by kernel_rfl) (by simp) ?_
          refine AllReadyH.cons (o := _) rfl (fun K hK => ?_) AllReadyH.nil
          go_simp
          refine hK.out _ _ (KS.out _ _ hHeld) (fun hHeld2 => ?_)
          clear hK K hHeld hHeld2
          try simp only [Act.put, List.setIfInBounds_toArray, List.set_cons_zero, List.set_cons_succ]
          refine wpAnyH_done (by kernel_rfl) ?_ _
          have hpost := post.out (xb == xa) (by rw [HC2.out]; by_cases h : xb = xa <;> simp [h])
          generalize (W6.setCell ⟨M, u, none⟩ (.bool (xb == xa))).drew = W7 at *
          gi_wp2
          exact ⟨⟨u + 1, by omega, by go_num, hpost⟩, by simp [intOf]; omega⟩
        | false =>
          refine wpAnyH_take (i := 0) (oi := _) (v := ?vf0) rfl (by kernel_rfl) (by kernel_rfl) (by kernel_rfl) (fun _ _ _ h => h) (Or.inl ⟨by rfl, ?hyf0⟩) (by assumption) ?restf0
          case hyf0 => (intro w hSw; (try dsimp only at hSw); go_simp <;> with_reducible rfl)
          try simp only [Act.put, List.setIfInBounds_toArray, List.set_cons_zero, List.set_cons_succ]
          refine wpAnyH_take (i := 1) (oi := _) (v := ?vf1) rfl (by kernel_rfl) (by kernel_rfl) (by kernel_rfl) (fun _ _ _ h => h) (Or.inl ⟨by rfl, ?hyf1⟩) (by assumption) ?restf1
          case hyf1 => (intro w hSw; (try dsimp only at hSw); go_simp <;> with_reducible rfl)
          try simp only [Act.put, List.setIfInBounds_toArray, List.set_cons_zero, List.set_cons_succ]
          refine wpAnyH_take (i := 2) (oi := _) (v := ?vf2) rfl (by kernel_rfl) (by kernel_rfl) (by kernel_rfl) (fun _ _ _ h => h) (Or.inl ⟨by rfl, ?hyf2⟩) (by assumption) ?restf2
          case hyf2 => (intro w hSw; (try dsimp only at hSw); go_simp <;> with_reducible rfl)
          try simp only [Act.put, List.setIfInBounds_toArray, List.set_cons_zero, List.set_cons_succ]
          refine wpAnyH_take (i := 3) (oi := _) (v := ?vf3) rfl (by kernel_rfl) (by kernel_rfl) (by kernel_rfl) (fun _ _ _ h => h) (Or.inl ⟨by rfl, ?hyf3⟩) (by assumption) ?restf3
          case hyf3 => (intro w hSw; (try dsimp only at hSw); go_simp <;> with_reducible rfl)
          try simp only [Act.put, List.setIfInBounds_toArray, List.set_cons_zero, List.set_cons_succ]
          refine wpAnyH_take (i := 4) (oi := _) (v := ?vf4) rfl (by kernel_rfl) (by kernel_rfl) (by kernel_rfl) (fun _ _ _ h => h) (Or.inl ⟨by rfl, ?hyf4⟩) (by assumption) ?restf4
          case hyf4 => (intro w hSw; (try dsimp only at hSw); go_simp <;> with_reducible rfl)
          try simp only [Act.put, List.setIfInBounds_toArray, List.set_cons_zero, List.set_cons_succ]
          refine wpAnyH_take (i := 5) (oi := _) (v := ?vf5) rfl (by kernel_rfl) (by kernel_rfl) (by kernel_rfl) (fun _ _ _ h => h) (Or.inl ⟨by rfl, ?hyf5⟩) (by assumption) ?restf5
          case hyf5 => (intro w hSw; (try dsimp only at hSw); go_simp <;> with_reducible rfl)
          try simp only [Act.put, List.setIfInBounds_toArray, List.set_cons_zero, List.set_cons_succ]
          refine wpAnyH_take (i := 6) (oi := _) (v := ?vf6) rfl (by kernel_rfl) (by kernel_rfl) (by kernel_rfl) (fun _ _ _ h => h) (Or.inl ⟨by rfl, ?hyf6⟩) (by assumption) ?restf6
          case hyf6 => (intro w hSw; (try dsimp only at hSw); go_simp <;> with_reducible rfl)
          try simp only [Act.put, List.setIfInBounds_toArray, List.set_cons_zero, List.set_cons_succ]
          refine wpAnyH_take (i := 7) (oi := _) (v := undef) rfl (by kernel_rfl) (by kernel_rfl) (by kernel_rfl) (fun _ _ _ h => h) (Or.inr ⟨by kernel_rfl, rfl⟩) (by assumption) ?_
          try simp only [Act.put, List.setIfInBounds_toArray, List.set_cons_zero, List.set_cons_succ]
          refine wpAnyH_take (i := 8) (oi := _) (v := undef) rfl (by kernel_rfl) (by kernel_rfl) (by kernel_rfl) (fun _ _ _ h => h) (Or.inr ⟨by kernel_rfl, rfl⟩) (by assumption) ?_
          try simp only [Act.put, List.setIfInBounds_toArray, List.set_cons_zero, List.set_cons_succ]
          refine wpAnyH_take (i := 9) (oi := _) (v := undef) rfl (by kernel_rfl) (by kernel_rfl) (by kernel_rfl) (fun _ _ _ h => h) (Or.inr ⟨by kernel_rfl, rfl⟩) (by assumption) ?_
          try simp only [Act.put, List.setIfInBounds_toArray, List.set_cons_zero, List.set_cons_succ]
          refine wpAnyH_take (i := 10) (oi := _) (v := undef) rfl (by kernel_rfl) (by kernel_rfl) (by kernel_rfl) (fun _ _ _ h => h) (Or.inr ⟨by kernel_rfl, rfl⟩) (by assumption) ?_
          try simp only [Act.put, List.setIfInBounds_toArray, List.set_cons_zero, List.set_cons_succ]
          refine wpAnyH_take (i := 11) (oi := _) (v := undef) rfl (by kernel_rfl) (by kernel_rfl) (by kernel_rfl) (fun _ _ _ h => h) (Or.inr ⟨by kernel_rfl, rfl⟩) (by assumption) ?_
          try simp only [Act.put, List.setIfInBounds_toArray, List.set_cons_zero, List.set_cons_succ]
          refine wpAnyH_take (i := 12) (oi := _) (v := undef) rfl (by kernel_rfl) (by kernel_rfl) (by kernel_rfl) (fun _ _ _ h => h) (Or.inr ⟨by kernel_rfl, rfl⟩) (by assumption) ?_
          try simp only [Act.put, List.setIfInBounds_toArray, List.set_cons_zero, List.set_cons_succ]
          refine wpAnyH_take (i := 13) (oi := _) (v := undef) rfl (by kernel_rfl) (by kernel_rfl) (by kernel_rfl) (fun _ _ _ h => h) (Or.inr ⟨by kernel_rfl, rfl⟩) (by assumption) ?_
          try simp only [Act.put, List.setIfInBounds_toArray, List.set_cons_zero, List.set_cons_succ]
          refine wpAnyH_take (i := 14) (oi := _) (v := undef) rfl (by kernel_rfl) (by kernel_rfl) (by kernel_rfl) (fun _ _ _ h => h) (Or.inr ⟨by kernel_rfl, rfl⟩) (by assumption) ?_
          try simp only [Act.put, List.setIfInBounds_toArray, List.set_cons_zero, List.set_cons_succ]
          refine wpAnyH_take (i := 15) (oi := _) (v := undef) rfl (by kernel_rfl) (by kernel_rfl) (by kernel_rfl) (fun _ _ _ h => h) (Or.inr ⟨by kernel_rfl, rfl⟩) (by assumption) ?_
          try simp only [Act.put, List.setIfInBounds_toArray, List.set_cons_zero, List.set_cons_succ]
          refine wpAnyH_take (i := 16) (oi := _) (v := undef) rfl (by kernel_rfl) (by kernel_rfl) (by kernel_rfl) (fun _ _ _ h => h) (Or.inr ⟨by kernel_rfl, rfl⟩) (by assumption) ?_
          try simp only [Act.put, List.setIfInBounds_toArray, List.set_cons_zero, List.set_cons_succ]
          refine wpAnyH_take (i := 17) (oi := _) (v := undef) rfl (by kernel_rfl) (by kernel_rfl) (by kernel_rfl) (fun _ _ _ h => h) (Or.inr ⟨by kernel_rfl, rfl⟩) (by assumption) ?_
          try simp only [Act.put, List.setIfInBounds_toArray, List.set_cons_zero, List.set_cons_succ]
          refine wpAnyH_take (i := 18) (oi := _) (v := undef) rfl (by kernel_rfl) (by kernel_rfl) (by kernel_rfl) (fun _ _ _ h => h) (Or.inr ⟨by kernel_rfl, rfl⟩) (by assumption) ?_
          try simp only [Act.put, List.setIfInBounds_toArray, List.set_cons_zero, List.set_cons_succ]
          refine wpAnyH_take (i := 19) (oi := _) (v := undef) rfl (by kernel_rfl) (by kernel_rfl) (by kernel_rfl) (fun _ _ _ h => h) (Or.inr ⟨by kernel_rfl, rfl⟩) (by assumption) ?_
          try simp only [Act.put, List.setIfInBounds_toArray, List.set_cons_zero, List.set_cons_succ]
          refine wpAnyH_take (i := 20) (oi := _) (v := undef) rfl (by kernel_rfl) (by kernel_rfl) (by kernel_rfl) (fun _ _ _ h => h) (Or.inr ⟨by kernel_rfl, rfl⟩) (by assumption) ?_
          try simp only [Act.put, List.setIfInBounds_toArray, List.set_cons_zero, List.set_cons_succ]
          refine wpAnyH_take (i := 21) (oi := _) (v := undef) rfl (by kernel_rfl) (by kernel_rfl) (by kernel_rfl) (fun _ _ _ h => h) (Or.inr ⟨by kernel_rfl, rfl⟩) (by assumption) ?_
          try simp only [Act.put, List.setIfInBounds_toArray, List.set_cons_zero, List.set_cons_succ]
          refine wpAnyH_take (i := 22) (oi := _) (v := undef) rfl (by kernel_rfl) (by kernel_rfl) (by kernel_rfl) (fun _ _ _ h => h) (Or.inr ⟨by kernel_rfl, rfl⟩) (by assumption) ?_
          try simp only [Act.put, List.setIfInBounds_toArray, List.set_cons_zero, List.set_cons_succ]
          refine wpAnyH_take (i := 23) (oi := _) (v := undef) rfl (by kernel_rfl) (by kernel_rfl) (by kernel_rfl) (fun _ _ _ h => h) (Or.inr ⟨by kernel_rfl, rfl⟩) (by assumption) ?_
          try simp only [Act.put, List.setIfInBounds_toArray, List.set_cons_zero, List.set_cons_succ]
          refine wpAnyH_take (i := 24) (oi := _) (v := undef) rfl (by kernel_rfl) (by kernel_rfl) (by kernel_rfl) (fun _ _ _ h => h) (Or.inr ⟨by kernel_rfl, rfl⟩) (by assumption) ?_
          try simp only [Act.put, List.setIfInBounds_toArray, List.set_cons_zero, List.set_cons_succ]
          refine wpAnyH_take (i := 25) (oi := _) (v := undef) rfl (by kernel_rfl) (by kernel_rfl) (by kernel_rfl) (fun _ _ _ h => h) (Or.inr ⟨by kernel_rfl, rfl⟩) (by assumption) ?_
          try simp only [Act.put, List.setIfInBounds_toArray, List.set_cons_zero, List.set_cons_succ]
          refine wpAnyH_take (i := 26) (oi := _) (v := undef) rfl (by kernel_rfl) (by kernel_rfl) (by kernel_rfl) (fun _ _ _ h => h) (Or.inr ⟨by kernel_rfl, rfl⟩) (by assumption) ?_
          try simp only [Act.put, List.setIfInBounds_toArray, List.set_cons_zero, List.set_cons_succ]
          refine wpAnyH_take (i := 27) (oi := _) (v := ?vf27) rfl (by kernel_rfl) (by kernel_rfl) (by kernel_rfl) (fun _ _ _ h => h) (Or.inl ⟨by rfl, ?hyf27⟩) (by assumption) ?restf27
          case hyf27 => (intro w hSw; (try dsimp only at hSw); go_simp <;> with_reducible rfl)
          try simp only [Act.put, List.setIfInBounds_toArray, List.set_cons_zero, List.set_cons_succ]
          refine wpAnyH_take (i := 28) (oi := _) (v := ?vf28) rfl (by kernel_rfl) (by kernel_rfl) (by kernel_rfl) (fun _ _ _ h => h) (Or.inl ⟨by rfl, ?hyf28⟩) (by assumption) ?restf28
          case hyf28 => (intro w hSw; (try dsimp only at hSw); go_simp <;> with_reducible rfl)
          try simp only [Act.put, List.setIfInBounds_toArray, List.set_cons_zero, List.set_cons_succ]
          refine wpAnyH_ready (rs := [29]) (by kernel_rfl) (by simp) ?_
          refine AllReadyH.cons (o := _) rfl (fun K hK => ?_) AllReadyH.nil
          go_simp
          refine hK.out _ _ (KS.out _ _ hHeld) (fun hHeld2 => ?_)
          clear hK K hHeld hHeld2
          try simp only [Act.put, List.setIfInBounds_toArray, List.set_cons_zero, List.set_cons_succ]
          refine wpAnyH_done (by kernel_rfl) ?_ _
          have hpost := post.out false (by rw [HC2.out]; by_cases h : xb = xa <;> simp [h])
          generalize (W6.setCell ⟨M, u, none⟩ (.bool false)).drew = W7 at *
          gi_wp2
          exact ⟨⟨u + 1, by omega, by go_num, hpost⟩, by simp [intOf]; omega⟩
      · have huu : u = N2 := by omega
        subst huu
        have hUe := hUS.out.later (W' := wr) (by rw [hSS.out]; exact hbS.out.trans hb5)
        have hUi := hUe.fin (g := M) (by omega) (by omega) ((hb5.cell (p := ⟨T, i, none⟩) (by show T < M; omega)).trans hT5.out) (fun v hv => by have h := hcM v hv; rw [if_pos hv] at h; exact h)
        have hBsM : Bs < M := by omega
        have hKP : Kp2 w.heap.size Bs W wr := hK5.out.2.trans ⟨hb5.mono (by omega), hb5.block Bs hBsM⟩
        have HE : Hid (KeepsFrom W4.heap.size W wr ∧ Kp2 w.heap.size Bs W wr ∧ UI w wr H0 H1 T H3 M0 px u len i p l (.slice (some ⟨bl, ol, none⟩) len cap) ∧ Bs < wr.heap.size) := ⟨hK5.out.1.trans hk5, hKP, hUi, by omega⟩
        clear hUe hUi hKP hcM hfM
        gi_wp2
        have h := HE.out
        rw [hH0] at h
        exact h
  case done =>
    rintro D W hD ⟨hi, hbs⟩ hK
    rw [Nat.sub_self] at hi
    have HI := Lib.hid hi; have HK := Lib.hid hK
    obtain ⟨i1', e1', i2', e2', l1', l2', c1', d1', c2', d2', k1', k2', TL', TU', hp, -, -, hI2, -, -, -, -, hUP⟩ := HX.out.ex
    have c0 := hi.c0; have c1' := hi.c1
    have q4 := Below.keeps hi.bw hp.q4 (Nat.le_refl _)
    have HUP := Lib.hid hUP; have HPX := Lib.hid hp
    have hin : p.up.init.length ≤ 40 := by
      have h2 := HX.out.n2
      rcases init_len HOK.out.up.2.2.1 with h | h <;> omega
    have HN0 : Hid (IntsAt w (.slice i2' p.up.init.length c2') p.up.init ∧ (∀ v ∈ p.up.init, 0 ≤ v ∧ v < (N2 : Int))) := ⟨⟨_, _, rfl, by unfold maxLen; omega, hI2⟩, fun v hv => by
      obtain ⟨k, hk, rfl⟩ := mem_gi.1 hv
      have h := HOK.out.up.2.2.1 k hk
      have h1 : 0 ≤ gi p.up.init k := h.1
      have h2 : gi p.up.init k < p.up.n := h.2.1
      have := HX.out.n2
      omega⟩
    clear hi hK hUP hp hI2 hcnt hU4 hbox
    obtain ⟨i0, hi0, hz0, hz1, hz2⟩ := info_parts infoInt
    go_upto_region 15 with (fail)
    obtain ⟨B, hBe⟩ : ∃ B, B = W.heap.size := ⟨_, rfl⟩
    have HBE := Lib.hid hBe
    have HBL : Hid (∀ X, Below B W X → Below W.heap.size W X) := fun X h => by rw [← hBe]; exact h
    have hBW : w.heap.size ≤ B := by rw [hBe]; exact HI.out.bw.size
    have HS0 : Hid (ownInts W B (.slice none 0 0) []) := World.ownsRow_nil _ _ _ _
    have HU0 : Hid (upR p p.up.init l = (upR p p.up.init (l.drop 0)).map ([] ++ ·)) := by unfold Hid; simp
    clear c0 c1' q4 hBe
    go_loopw [10, 11, 99] (fun s10 s11 s99 wr => ∃ (k : Nat) (q nx : List Int), k ≤ len ∧ s99 = .int .i64 k ∧ q.length = k ∧ ownInts wr B s10 q ∧ IntsAt w s11 nx ∧ Below B W wr ∧ B ≤ wr.heap.size ∧ Hid ((∀ v ∈ nx, 0 ≤ v ∧ v < (N2 : Int)) ∧ upR p p.up.init l = (upR p nx (l.drop k)).map (q ++ ·))) (fun _ _ s99 _ => len - (intOf s99).toNat)
    case atStart => exact ⟨0, [], p.up.init, Nat.zero_le _, rfl, rfl, HS0.out, HN0.out.1, Below.refl _ _, Nat.le_of_eq HBE.out, ⟨HN0.out.2, HU0.out⟩⟩
    case round =>
      obtain ⟨k, q, nx, hk, rfl, hql, hO, hNx, hbW, hBs, hR⟩ := hrel
      obtain ⟨aq, cq, rfl⟩ := own_form hO
      by_cases hlt : k < len
      · have hkl : k < l.length := by have := HLEN.out; omega
        have hdrop : l.drop k = gi l k :: l.drop (k + 1) := drop_at hkl
        have hup : ∀ f, nx.find? (fun u => canS p (l.drop k) u.toNat) = f → upR p nx (l.drop k) = (match f with | none => none | some u => (upR p (upRow p u.toNat) (l.drop (k + 1))).map (u :: ·)) := fun f hf => by
          rw [hdrop] at hf ⊢
          rw [upR, hf]
          cases f <;> rfl
        have HUPR := Lib.hid hup
        obtain ⟨g, -, hgT, hgc⟩ := HI.out.row (j := k) (Nat.zero_le _) (by omega)
        have hb1 : Below W.heap.size W (wr.alloc (Obj.cells #[.int .i64 (k : Int)] 3)) := (HBL.out _ hbW).alloc (by have := HBE.out; omega) _
        have hbk : Below wr.heap.size wr (wr.alloc (Obj.cells #[.int .i64 (k : Int)] 3)) := (Below.refl _ _).alloc (Nat.le_refl _) _
        obtain ⟨an, cn, rfl, hnm, hnc⟩ := hNx
        have hNX1 : Hid (IntsAt (wr.alloc (Obj.cells #[.int .i64 (k : Int)] 3)) (.slice an nx.length cn) nx) := IntsAt.later ⟨_, _, rfl, hnm, hnc⟩ ((HI.out.bw).trans (hb1.mono (by have := HBE.out; omega)))
        have hAsk := Lib.hid (can2_any (canS p (l.drop k)) k (len + 1) N2 T H3 wr.heap.size g nx (wr.alloc (Obj.cells #[.int .i64 (k : Int)] 3)) (by omega) (by omega) (Below.keeps hb1 HI.out.c3 (Nat.le_refl _)) (box_cell _ _ _ 0 _ rfl) (Below.keeps hb1 hgT (Nat.le_refl _)) (fun u hu => Below.keeps hb1 (hgc u hu) (Nat.le_refl _)) hR.out.1)
        have HO := Lib.hid hO; have HB1 := Lib.hid hb1; have HBK := Lib.hid hbk; have HBW := Lib.hid hbW; have HNC := Lib.hid hnc
        clear hO hb1 hbk hbW hnc hgT hgc hdrop hup
        go_wp2_with fail
        refine (indexF_any 63 _ (fun v => canS p (l.drop k) v.toNat) (fun _ _ => rfl) nx _ _ hNX1.out hAsk.out).mono ?_
        rintro e wq ⟨⟨r, rfl, hr⟩, nq, rfl⟩
        have hd : Below wr.heap.size wr ((wr.alloc (Obj.cells #[.int .i64 (k : Int)] 3)).drewN nq) := below_drewN HBK.out _
        have HB2 : Hid (Below B W ((wr.alloc (Obj.cells #[.int .i64 (k : Int)] 3)).drewN nq)) := HBW.out.trans (hd.mono (by omega))
        have HO2 : Hid (ownInts ((wr.alloc (Obj.cells #[.int .i64 (k : Int)] 3)).drewN nq) B (.slice aq q.length cq) q) := ownsRow_later HO.out hd
        have hs2 := hd.size
        clear hd HO HB1 HBK HBW hAsk hNX1
        generalize (wr.alloc (Obj.cells #[.int .i64 (k : Int)] 3)).drewN nq = w2 at *
        rcases hr.out with ⟨j, hj, rfl, hx, hbf⟩ | ⟨rfl, hnone⟩
        · have hfd := HUPR.out _ (find_at (f := fun u => canS p (l.drop k) u.toNat) hj hx hbf)
          clear hx hbf hr
          have hU := hR.out.1 _ (gi_mem hj)
          obtain ⟨bn, on, en, gn⟩ := HNC.out j hj
          subst en
          generalize gi nx j = u at *
          obtain ⟨U, rfl⟩ : ∃ U : Nat, u = (U : Int) := ⟨u.toNat, by omega⟩
          have HFD := Lib.hid hfd
          have hUN : U < N2 := by omega
          have HBX : Hid (∀ X, Below B W X → Below w.heap.size w X) := fun X h => HI.out.bw.trans (h.mono hBW)
          have gn2 := Below.keeps (HBX.out _ HB2.out) gn (Nat.le_refl _)
          have hnl : nx.length ≤ maxLen := hnm
          have hnj : (j : Int) < (nx.length : Int) := by omega
          have GN := Lib.hid gn
          unfold maxLen at hnl
          have hqk : q.length ≤ 60 := by omega
          clear hfd hnm gn
          have HO3 : Hid (w2.ownsRow B 3 1 (.slice aq k cq) k (q.map (Value.int .i64))) := by have h := HO2.out; unfold ownInts at h; rw [hql] at h; exact h
          clear HO2
          go_wp2_with (at_builtin; refine wpList_append_own _ rfl _ _ 22 rfl B 3 i0 (.int .i64 0) 1 8 Try.underlying22 hi0 hz0 hz1 hz2 rfl (by decide) _ _ _ rfl (HO3.out.alloc _) _ _ _ [.int .i64 (U : Int)] rfl rfl (cell_one_new _ _ _) ?c2 ?c3 ?c4 ?c5 ?_)
          case c2 => intro u hu; simp at hu; subst hu; rfl
          case c3 => unfold maxLen; omega
          case c4 => omega
          case c5 => simp; omega
          · intro v5 w5 ho5 hg5 _
            obtain ⟨a5, c5, rfl⟩ := row_form ho5
            have hb5 : Below B W w5 := (HB2.out.alloc (by have := HB2.out.size; have := HBE.out; omega) _).grown hg5 (by simp; omega) (fun z hz => (HO3.out.lt z hz).1)
            have HO5 : Hid (ownInts w5 B (.slice a5 (k + 1) c5) (q ++ [(U : Int)])) := by
              unfold Hid ownInts
              have e : (q ++ [(U : Int)]).length = k + 1 := by simp [hql]
              rw [e]
              simpa using ho5
            obtain ⟨ar, cr, hrow, hrm, hrc⟩ := HUP.out U hUN
            have r0 := Below.keeps (HBL.out _ hb5) HI.out.c0 (Nat.le_refl _)
            have r9 := Below.keeps (HBX.out _ hb5) HPX.out.q9 (Nat.le_refl _)
            have rr := Below.keeps (HBX.out _ hb5) hrow (Nat.le_refl _)
            have rn := Below.keeps (HBX.out _ hb5) GN.out (Nat.le_refl _)
            have hs5 : B ≤ w5.heap.size := by have := hb5.size; have := HBE.out; omega
            have HB5 := Lib.hid hb5
            have HRV : Hid (IntsAt w (.slice ar (upRow p U).length cr) (upRow p U)) := ⟨_, _, rfl, hrm, hrc⟩
            have HRN : Hid (upR p p.up.init l = (upR p (upRow p U) (l.drop (k + 1))).map ((q ++ [(U : Int)]) ++ ·)) := by
              unfold Hid
              rw [hR.out.2, HFD.out]
              simp [Option.map_map, Function.comp_def]
            have hUi : (U : Int) < (N2 : Int) := by omega
            clear ho5 hg5 hb5 hrow hrm hrc hR gn2 HO3
            go_wp2_with fail
            go_quiet (fail)
            go_wp2
            exact ⟨⟨k + 1, q ++ [(U : Int)], upRow p U, by omega, by go_num, by simp [hql], ownsRow_later HO5.out (below_drewN (Below.refl _ _) _), HRV.out, below_drewN HB5.out _, by have := hs5; simpa using this, ⟨huprow.out U hUN, HRN.out⟩⟩, by simp [intOf]; omega⟩
        · have hfd := HUPR.out _ (find_none (f := fun u => canS p (l.drop k) u.toNat) hnone)
          have hfin : upR p p.up.init l = none := by rw [hR.out.2, hfd]; rfl
          have HF := Lib.hid hfin
          have hKr := (HB2.out.block D (by have := (Array.getElem?_eq_some_iff.1 HK.out).1; have := HBE.out; omega)).trans HK.out
          clear hfin hfd hnone hr HO2
          go_wp2
          refine ⟨by simp, .inl ⟨_, _, rfl, run_takeDeferred hKr, ?_⟩⟩
          refine ⟨_, results_tmp2 rfl _ _ _, .slice none 0 0, 25, [], rfl, ⟨_, _, rfl, Nat.zero_le _, fun i hi => by simp at hi⟩, .inr ⟨rfl, rfl, HF.out⟩, ?_⟩
          have hx := (HI.out.bw.trans (HB2.out.mono hBW)).trans (belowK_b (w := w) (Nat.le_refl _) w2 D _ (.deferred none) (Nat.le_trans hlw.out hD) hKr rfl rfl)
          simpa [hH0] using hx
      · have hkk : k = len := by omega
        subst hkk
        have hdn : l.drop k = [] := by rw [List.drop_eq_nil_iff]; have := HLEN.out; omega
        have hfin : upR p p.up.init l = some q := by rw [hR.out.2, hdn]; simp [upR]
        have HF := Lib.hid hfin; have HO := Lib.hid hO
        have hKr := (hbW.block D (by have := (Array.getElem?_eq_some_iff.1 HK.out).1; have := HBE.out; omega)).trans HK.out
        have HBb := Lib.hid hbW
        clear hO hfin hR hdn
        generalize (Value.slice aq q.length cq) = v10 at *
        go_wp2
        refine ⟨by simp, .inl ⟨_, _, rfl, run_takeDeferred hKr, ?_⟩⟩
        refine ⟨_, results_tmp2 rfl _ _ _, v10, 0, q, rfl, IntsAt.of_own (ownsRow_putObj HO.out _ hKr rfl), .inl ⟨rfl, HF.out⟩, ?_⟩
        have hx := (HI.out.bw.trans (HBb.out.mono hBW)).trans (belowK_b (w := w) (Nat.le_refl _) wr D _ (.deferred none) (Nat.le_trans hlw.out hD) hKr rfl rfl)
        simpa [hH0] using hx
end Go.Proofs.Ytciopdlmjciieaa
