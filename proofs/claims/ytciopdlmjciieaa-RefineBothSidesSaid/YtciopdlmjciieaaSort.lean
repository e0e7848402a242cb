import Derived.Test.YtciopdlmjciieaaTab
import Derived.Shelf.Sort.Plain
import Derived.Shelf.Slices.CompactI
import Derived.Sort.OwnSortedInts
namespace Go.Proofs.Ytciopdlmjciieaa
open Go.Shelf Go.Sort Go.RowKit
set_option linter.unusedVariables false

def laysSort_ren : Go.Shelf.Ren := ⟨fun | 189 => 50 | 125 => 68 | 257 => 67 | 128 => 82 | 129 => 83 | 294 => 73 | 295 => 74 | 296 => 75 | 297 => 76 | 298 => 77 | 299 => 78 | 216 => 79 | 300 => 80 | 301 => 81 | 328 => 86 | 329 => 87 | 330 => 88 | 331 => 89 | 332 => 90 | 215 => 70 | 343 => 91 | n => n, fun | 28 => 22 | 3 => 3 | 46 => 102 | 0 => 0 | 51 => 115 | 53 => 117 | 4 => 4 | 183 => 109 | 182 => 108 | 131 => 90 | 5 => 5 | 9 => 9 | 218 => 122 | 222 => 126 | 228 => 128 | 229 => 129 | n => n, fun | n => n⟩
theorem laysSort : Go.Proofs.Lays.n189 Try.prog laysSort_ren := {
  mixed := by kernel_rfl,
  f125 := Try.func68.trans (congrArg some (by kernel_rfl)),
  f128 := Try.func82.trans (congrArg some (by kernel_rfl)),
  f129 := Try.func83.trans (congrArg some (by kernel_rfl)),
  f189 := Try.func50.trans (congrArg some (by kernel_rfl)),
  f215 := Try.func70.trans (congrArg some (by kernel_rfl)),
  f216 := Try.func79.trans (congrArg some (by kernel_rfl)),
  f257 := Try.func67.trans (congrArg some (by kernel_rfl)),
  f294 := Try.func73.trans (congrArg some (by kernel_rfl)),
  f295 := Try.func74.trans (congrArg some (by kernel_rfl)),
  f296 := Try.func75.trans (congrArg some (by kernel_rfl)),
  f297 := Try.func76.trans (congrArg some (by kernel_rfl)),
  f298 := Try.func77.trans (congrArg some (by kernel_rfl)),
  f299 := Try.func78.trans (congrArg some (by kernel_rfl)),
  f300 := Try.func80.trans (congrArg some (by kernel_rfl)),
  f301 := Try.func81.trans (congrArg some (by kernel_rfl)),
  f328 := Try.func86.trans (congrArg some (by kernel_rfl)),
  f329 := Try.func87.trans (congrArg some (by kernel_rfl)),
  f330 := Try.func88.trans (congrArg some (by kernel_rfl)),
  f331 := Try.func89.trans (congrArg some (by kernel_rfl)),
  f332 := Try.func90.trans (congrArg some (by kernel_rfl)),
  f343 := Try.func91.trans (congrArg some (by kernel_rfl)),
  t0 := Try.underlying0,
  a0 := Try.isAgg0,
  z0 := Try.sizeOf0,
  v0 := Try.zeroValue0,
  t3 := Try.underlying3,
  a3 := Try.isAgg3,
  z3 := Try.sizeOf3,
  v3 := Try.zeroValue3,
  t4 := Try.underlying4,
  a4 := Try.isAgg4,
  z4 := Try.sizeOf4,
  v4 := Try.zeroValue4,
  t5 := Try.underlying5,
  a5 := Try.isAgg5,
  z5 := Try.sizeOf5,
  v5 := Try.zeroValue5,
  t9 := Try.underlying9,
  a9 := Try.isAgg9,
  z9 := Try.sizeOf9,
  v9 := Try.zeroValue9,
  t28 := Try.underlying22,
  a28 := Try.isAgg22,
  z28 := Try.sizeOf22,
  v28 := Try.zeroValue22,
  t46 := Try.underlying102,
  a46 := Try.isAgg102,
  z46 := Try.sizeOf102,
  v46 := Try.zeroValue102,
  t51 := Try.underlying115,
  a51 := Try.isAgg115,
  z51 := Try.sizeOf115,
  v51 := Try.zeroValue115,
  t53 := Try.underlying117,
  a53 := Try.isAgg117,
  z53 := Try.sizeOf117,
  v53 := Try.zeroValue117,
  t131 := Try.underlying90,
  a131 := Try.isAgg90,
  z131 := Try.sizeOf90,
  v131 := Try.zeroValue90,
  t182 := Try.underlying108,
  a182 := Try.isAgg108,
  z182 := Try.sizeOf108,
  v182 := Try.zeroValue108,
  t183 := Try.underlying109,
  a183 := Try.isAgg109,
  z183 := Try.sizeOf109,
  v183 := Try.zeroValue109,
  t218 := Try.underlying122,
  a218 := Try.isAgg122,
  z218 := Try.sizeOf122,
  v218 := Try.zeroValue122,
  t222 := Try.underlying126,
  a222 := Try.isAgg126,
  z222 := Try.sizeOf126,
  v222 := Try.zeroValue126,
  t228 := Try.underlying128,
  a228 := Try.isAgg128,
  z228 := Try.sizeOf128,
  v228 := Try.zeroValue128,
  t229 := Try.underlying129,
  a229 := Try.isAgg129,
  z229 := Try.sizeOf129,
  v229 := Try.zeroValue129 }
def laysCompact_ren : Go.Shelf.Ren := ⟨fun | 20 => 51 | n => n, fun | 22 => 22 | 3 => 3 | 4 => 4 | 0 => 0 | n => n, fun | n => n⟩
theorem laysCompact : Go.Proofs.Lays2.n20 Try.prog laysCompact_ren := {
  mixed := by kernel_rfl,
  f20 := Try.func51.trans (congrArg some (by kernel_rfl)),
  t0 := Try.underlying0,
  a0 := Try.isAgg0,
  z0 := Try.sizeOf0,
  v0 := Try.zeroValue0,
  t3 := Try.underlying3,
  a3 := Try.isAgg3,
  z3 := Try.sizeOf3,
  v3 := Try.zeroValue3,
  t4 := Try.underlying4,
  a4 := Try.isAgg4,
  z4 := Try.sizeOf4,
  v4 := Try.zeroValue4,
  t22 := Try.underlying22,
  a22 := Try.isAgg22,
  z22 := Try.sizeOf22,
  v22 := Try.zeroValue22,
  i3 := by kernel_rfl }

/-- slices.Sort of a row of the call's own. -/
theorem sort_own (B : Nat) (l : List Int) (v : Value) (w : World) (h : ownInts w B v l) (h0 : l ≠ []) (hl : l.length ≤ 100000) :
    Calls Try.prog 50 #[v] w fun e w' => e = .returned (.tuple #[]) ∧ ownInts w' B v (l.mergeSort fun x y => decide (x ≤ y)) ∧ w.grownBy w' v.ownBlock := by
  rcases h.2 with ⟨-, h1⟩ | ⟨g, cap, cur, rfl, hB, hg, hn, hm, hs, ht⟩
  · exact absurd (List.length_eq_zero_iff.1 h1) h0
  · have hH : Holds (Value.int .i64) w g 0 l.toArray := holds_of_blockI hg (by rw [Nat.mul_one] at ht; exact ht)
    refine (Any.slices_Sort_int laysSort g 0 cap l w hH (Array.getElem?_eq_some_iff.1 hg).1 (by omega)).mono ?_
    rintro e w' ⟨rfl, n, os, rfl⟩
    have hlen : (l.mergeSort fun x y => decide (x ≤ y)).length = l.length := List.length_mergeSort _
    refine ⟨rfl, ?_, ?_⟩
    · have := ownsRow_sortedI (w := w) (base := B) (n := n) (os := os) hlen hB hg hn hm hs
      unfold ownInts
      rw [hlen]
      exact this
    · exact grownBy_sortedI _
end Go.Proofs.Ytciopdlmjciieaa
