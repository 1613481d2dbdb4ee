/-
  An append onto a row of the call's own: the elder slice reads as it did.
-/
import Derived.Test.YtdhkfhgggkndoaaByRow
import Derived.Test.YtdhkfhgggkndoaaByStr
namespace Go.Proofs.Ytdhkfhgggkndoaa
open Go.RowKit
set_option linter.unusedVariables false

theorem brow_append_old {w w' : World} {base c c' : Nat} {A A' : Option Addr} {xs : List (BitVec 8)} (h : BRow w base A c xs) {ad : Addr} {d : Nat} {ys : List (BitVec 8)} (hs : Sl 1 w (some ad) ys.length d (bytesV ys)) (hn : xs.length + ys.length ≤ 100000000000000) (hy : 0 < ys.length)
    (hr : (Builtin.append_ #[31, 31] 31 #[.slice A xs.length c, .slice (some ad) ys.length d]).run Try.prog w = .ok (.slice A' (xs.length + ys.length) c') w') (hrow : BRow w' base A' c' (xs ++ ys)) : Sl 1 w' A xs.length c (bytesV xs) := by
  obtain ⟨i, hi, hz, hsize, hby⟩ := info_parts u8_info
  have hnews : ∀ j u, (bytesV ys)[j]? = some u → w.cell? (ad.add j) = some u := by
    obtain ⟨_, ⟨e, _⟩ | ⟨a, e, hc⟩⟩ := hs
    · cases e
    · injection e with e
      subst e
      exact hc
  have hl : (bytesV ys).length = ys.length * i.size := by rw [hsize, bytesV_len]; omega
  rcases h.2 with ⟨hv, h0⟩ | ⟨g, cap, cur, hv, hbg, hg, hnc, hcm, hcs, htake⟩
  · injection hv with e1 e2 e3
    subst e1 e3
    obtain rfl := List.eq_nil_of_length_eq_zero h0
    exact Sl.nil_
  · injection hv with e1 e2 e3
    subst e1 e3
    by_cases hroom : xs.length + ys.length ≤ c
    · have hr2 := run_append_room (P := Try.prog) w 31 31 5 i Try.underlying31 hi g xs.length c cur hg ad ys.length d (bytesV ys) hl hnews (bytesV_one ys) hroom (by rw [hl, hcs, hsize]; omega)
      rw [hr2] at hr
      injection hr with e1 e2
      injection e1 with e3 e4 e5
      subst e3 e5
      have hsl := hrow.slAt (n := xs.length + ys.length) (by rw [List.length_append])
      have := sl_take hsl (m := xs.length) (by omega) (fun e => by cases e)
      rwa [List.take_append_of_le_length (Nat.le_refl _), List.take_of_length_le (Nat.le_refl _)] at this
    · have holds : ∀ j u, (bytesV xs)[j]? = some u → w.cell? ((⟨g, 0, none⟩ : Addr).add j) = some u := World.ownsRow.cells h (g := g) rfl
      have hr2 := run_append_grow (P := Try.prog) w 31 31 5 i _ Try.underlying31 hi hz ⟨g, 0, none⟩ xs.length c (bytesV xs) (by rw [hsize, bytesV_len]; omega) holds ad ys.length d (bytesV ys) hl hnews (by omega) (by omega) (growslice_fits (by omega) (by rw [hby]; omega))
      rw [hr2] at hr
      injection hr with e1 e2
      rw [← e2]
      exact h.sl.below (bel_alloc (below_drew (Below.refl _ _)) _)
end Go.Proofs.Ytdhkfhgggkndoaa
