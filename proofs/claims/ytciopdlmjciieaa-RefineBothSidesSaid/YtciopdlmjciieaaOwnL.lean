import Derived.Test.YtciopdlmjciieaaSimOf
namespace Go.Proofs.Ytciopdlmjciieaa
open Go.RowKit
set_option linter.unusedVariables false

set_option maxHeartbeats 2000000 in
set_option maxRecDepth 100000 in
/-- base.OwnLists of rows that are not empty. -/
theorem ownLists_any (L : List (List Int)) (v : Value) (w : World) (hv : RowsV w v L) (hL : L.length ≤ 2000) (hne : ∀ l ∈ L, l ≠ [] ∧ l.length ≤ 1000) :
    Calls Try.prog 12 #[v] w fun e w' => ∃ v', e = .returned v' ∧ RowsV w' v' L ∧ Below w.heap.size w w' := by
  obtain ⟨ir, hir, hr0, hr1, hr2⟩ := info_parts infoRow
  obtain ⟨av, cv, rfl, -, hrows⟩ := hv
  have HR := Lib.hid hrows; have HNE := Lib.hid hne
  clear hrows hne
  go_enter Try.func12, Try.ntmps12
  go_upto_region 3 with (fail)
  generalize hB : w.heap.size = B at *
  have HB := Lib.hid hB
  clear hB
  go_loopw [3, 4] (fun s3 s4 wr => ∃ k : Nat, k ≤ L.length ∧ s4 = .int .i64 k ∧ OL wr B s3 (L.take k) ∧ Hid (Below B w wr)) (fun _ k _ => L.length - (intOf k).toNat)
  case atStart => exact ⟨0, Nat.zero_le _, rfl, OL.nil _ _, by rw [← HB.out]; exact Below.refl _ _⟩
  case round =>
    obtain ⟨k, hk, rfl, hO, hbw⟩ := hrel
    obtain ⟨ao, co, rfl⟩ := hO.form
    have HLT : Hid ((L.take k).length = k) := by unfold Hid; simp; omega
    have HO := Lib.hid hO
    have HBS : Hid (B ≤ wr.heap.size) := by unfold Hid; have := hbw.out.size; have := HB.out; omega
    clear hO
    by_cases hlt : k < L.length
    · obtain ⟨b, o, g, c, f1, g1, hI⟩ := HR.out k L[k] (List.getElem?_eq_getElem hlt)
      subst f1
      have hl := HNE.out _ (List.getElem_mem hlt)
      have htk : L.take (k + 1) = L.take k ++ [L[k]] := by rw [List.take_add_one, List.getElem?_eq_getElem hlt]; rfl
      have HTK := Lib.hid htk
      clear htk
      replace g1 := Below.keeps hbw.out g1 (by rw [HB.out]; exact Nat.le_refl _)
      have HI : Hid (IntsAt wr (.slice (some ⟨g, 0, none⟩) L[k].length c) L[k]) := hI.later (by rw [HB.out]; exact hbw.out)
      have HL1 := Lib.hid hl.1; have HL2 := Lib.hid hl.2
      clear hI hl
      generalize L[k] = l at *
      generalize hLk : L.take k = Lk at *
      have HLK := Lib.hid hLk
      clear hLk
      go_wp2_with fail
      refine (ownInts_any l _ _ HI.out (by have := HL2.out; omega)).mono ?_
      rintro e wA ⟨vA, rfl, hoA, hbA⟩
      obtain ⟨gA, cA, rfl, -, -⟩ := own_ptr hoA (List.length_pos_iff.2 HL1.out)
      obtain ⟨vs, ho, hvs⟩ := HO.out.ex
      have HVS := Lib.hid hvs
      have HOW : Hid (wr.ownsRow B 22 1 (.slice ao Lk.length co) Lk.length vs) := ho
      have HVN : Hid (vs.length = Lk.length) := by unfold Hid; have := ho.1; omega
      have HOA : Hid (ownInts wA wr.heap.size (.slice (some ⟨gA, 0, none⟩) l.length cA) l) := hoA
      have HBA : Hid (Below wr.heap.size wr wA) := hbA
      clear ho hvs hoA hbA
      go_wp2_with (at_builtin; refine wpList_append_own_at _ rfl _ _ 31 rfl B 22 ir (.slice none 0 0) 1 24 Try.underlying31 hir hr0 hr1 hr2 rfl (by decide) _ _ _ rfl ((ownsRow_later HOW.out HBA.out).alloc _) _ _ _ [.slice (some ⟨gA, 0, none⟩) l.length cA] rfl rfl ?c1 ?c2 ?c3 ?c4 ?c5 ?_)
      case c1 => have h := cell_one_new wA (.slice (some ⟨gA, 0, none⟩) l.length cA) 22; simpa using h
      case c2 => intro u hu; simp at hu; subst hu; rfl
      case c3 => have := HLT.out; unfold maxLen; omega
      case c4 => have := HLT.out; omega
      case c5 => have := HBS.out; have := HBA.out.size; simp; omega
      intro v7 w7 ho7 hg7 hnn7 hat7
      have hbx : Below wr.heap.size wr (wA.alloc (Obj.cells #[.slice (some ⟨gA, 0, none⟩) l.length cA] 22)) := HBA.out.alloc HBA.out.size _
      have HP : Hid (OL w7 B v7 (Lk ++ [l])) := HO.out.push hbx HVS.out HVN.out (l := l) (g := gA) (c := cA) (HOA.out.alloc _) HBS.out hg7 ho7 (by simpa using hat7)
      have HB7 : Hid (Below B w w7) := by
        have hl := HBS.out
        have h3 := HBA.out.size
        exact ((hbw.out.trans (hbx.mono hl))).grown hg7 (by simp; omega) (fun q hq => (HOW.out.lt q hq).1)
      obtain ⟨a7, c7, rfl⟩ := row_form ho7
      clear ho7 hg7 hat7 hbx hnn7
      go_wp2
      exact ⟨⟨k + 1, by omega, by go_num, by rw [HTK.out]; exact HP.out, HB7⟩, by simp [intOf]; omega⟩
    · have hkk : k = L.length := by omega
      subst hkk
      have hta : L.take L.length = L := List.take_length
      generalize (Value.slice ao (L.take L.length).length co) = v1 at *
      rw [hta] at HO
      go_wp2
      go_ret
      exact ⟨_, rfl, HO.out.at, by rw [HB.out]; exact hbw.out⟩
end Go.Proofs.Ytciopdlmjciieaa
