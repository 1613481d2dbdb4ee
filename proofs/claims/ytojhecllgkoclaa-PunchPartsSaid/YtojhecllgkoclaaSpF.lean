/-
  The contracts of package span's functions, continued: And, Minus, Last.
-/
import Derived.Test.YtojhecllgkoclaaSpWithin
namespace Go.Proofs.Ytojhecllgkoclaa
open Go.RowKit
set_option linter.unusedVariables false
set_option maxRecDepth 20000

theorem values_any (A : Option Addr) (n c : Nat) (w : World) : Calls Try.prog 48 #[.slice A n c] w fun e w' => e = .returned (.func (.func 54) #[] #[.pointer (some ⟨w.heap.size, 0, none⟩)]) ∧ w' = w.alloc (.cells #[.slice A n c] 31) := by
  go_enter Try.func48, Try.ntmps48
  go_wp2
  go_ret
  exact ⟨rfl, rfl⟩
theorem row_caps {w : World} {base c : Nat} {A : Option Addr} {xs : List (Int × Int)} (h : Row w base A c xs) : xs.length ≤ c ∧ c ≤ 9223372036854775807 := by
  rcases h.forms with ⟨_, rfl, rfl⟩ | ⟨g, _, _, _, h1, h2⟩
  · exact ⟨by simp, by omega⟩
  · unfold maxLen at h2
    exact ⟨h1, h2⟩
theorem gives_bel {w w1 w' : World} {xs ys : List (Int × Int)} {e : Ending} (h : Gives w1 xs e w') (hb : Below w.heap.size w w1) (he : xs = ys) : Gives w ys e w' := by
  subst he
  obtain ⟨D, d, rfl, hr, hb2⟩ := h
  exact ⟨D, d, rfl, hr.mono hb.size, bel_on hb hb2⟩

theorem and_any (A B : Option Addr) (ca cb : Nat) (a b : List (Int × Int)) (w : World) (ha : Spans w A a) (hb : Spans w B b) (hla : a.length ≤ 100000000) (hlb : b.length ≤ 100000000) :
    Calls Try.prog 41 #[.slice A a.length ca, .slice B b.length cb] w (Gives w (canon fun t => In a t ∧ In b t)) := by
  have hE : (runW (canon (In a)) (canon (In b))).2 = canon (fun t => In a t ∧ In b t) := by
    rw [runW_canon (canon_plain _) (canon_plain _)]
    exact canon_congr (fun t h1 h2 => by rw [canon_in, canon_in]; exact ⟨fun h => ⟨h.1.2.2, h.2.2.2⟩, fun h => ⟨⟨h1, h2, h.1⟩, ⟨h1, h2, h.2⟩⟩⟩)
  have HE := Lib.hid hE
  have fa := Fits.canon (In a)
  have fb := Fits.canon (In b)
  have la := canon_len (In a)
  have lb := canon_len (In b)
  have HB := Lib.hid hb
  have ca1 := norm_any A ca a w ha hla
  have cb1 := fun W (h : Spans W B b) => norm_any B cb b W h hlb
  have CB := Lib.hid cb1
  clear hE hb ha cb1
  generalize canon (In a) = La at *
  generalize canon (In b) = Lb at *
  go_enter Try.func41, Try.ntmps41
  go_wp2_with fail
  refine ca1.mono ?_
  rintro e w1 ⟨A1, c1, rfl, hr1, hb1⟩
  go_wp2_with fail
  refine (CB.out _ (HB.out.below hb1)).mono ?_
  rintro e w2 ⟨B1, d1, rfl, hr2, hb2⟩
  have hr1' := hr1.below hb2
  have hk := row_caps hr1
  replace hb2 := bel_on hb1 hb2
  go_wp2_with fail
  refine (values_any B1 _ d1 w2).mono ?_
  rintro e w3 ⟨rfl, rfl⟩
  have L1 := Lib.hid ((hr1'.alloc (.cells #[.slice B1 Lb.length d1] 31)).spans fa).lies
  have L2 := Lib.hid ((hr2.alloc (.cells #[.slice B1 Lb.length d1] 31)).spans fb).lies
  have H3 : Has (w2.alloc (.cells #[.slice B1 Lb.length d1] 31)) w2.heap.size #[.slice B1 Lb.length d1] := Has.new _ _ _ rfl
  have hb3 := bel_alloc hb2 (.cells #[.slice B1 Lb.length d1] 31)
  clear hr1 hr1' hr2 hb1 hb2 ca1
  generalize w2.alloc (.cells #[.slice B1 Lb.length d1] 31) = w3 at *
  generalize w2.heap.size = s2 at *
  have eg : ∀ args w, (callFunc 54 args).run Try.prog w = .ok (.enter 54 args) w := enters_of Try.func54 (by kernel_rfl) rfl
  go_wp2_with fail
  refine (within_any A1 c1 La Lb _ _ w3 L1.out hk.1 hk.2 (by omega) (by omega) eg (fun W hW hs => values_seq s2 w3.heap.size d1 B1 Lb W (Nat.lt_of_lt_of_le H3.size hW.size) ((H3.below hW).cell 0 rfl) (L2.out.below hW) hW.size (by omega))).mono ?_
  intro e w4 hg
  have HG := gives_bel hg hb3 HE.out
  clear hg
  obtain ⟨D, d, rfl, hr, hb⟩ := HG
  go_wp2
  go_ret
  exact ⟨D, d, rfl, hr, hb⟩

end Go.Proofs.Ytojhecllgkoclaa
