/-
  The contracts of package span's functions, continued: And, Minus, Last.
-/
import Derived.Test.YtkdogleocffhdaaSpWithin
namespace Go.Proofs.Ytkdogleocffhdaa
open Go.RowKit
set_option linter.unusedVariables false

theorem values_any (A : Option Addr) (n c : Nat) (w : World) : Calls Try.prog 30 #[.slice A n c] w fun e w' => e = .returned (.func (.func 42) #[] #[.pointer (some ⟨w.heap.size, 0, none⟩)]) ∧ w' = w.alloc (.cells #[.slice A n c] 22) := by
  go_enter Try.func30, Try.ntmps30
  go_wp2
  go_ret
  exact ⟨rfl, rfl⟩
theorem gaps_any (A : Option Addr) (n c : Nat) (w : World) : Calls Try.prog 31 #[.slice A n c] w fun e w' => e = .returned (.func (.func 43) #[] #[.pointer (some ⟨w.heap.size, 0, none⟩)]) ∧ w' = w.alloc (.cells #[.slice A n c] 22) := by
  go_enter Try.func31, Try.ntmps31
  go_wp2
  go_ret
  exact ⟨rfl, rfl⟩

theorem row_caps {w : World} {base c : Nat} {A : Option Addr} {xs : List (Int × Int)} (h : Row w base A c xs) : xs.length ≤ c ∧ c ≤ 9223372036854775807 := by
  rcases h.forms with ⟨_, rfl, rfl⟩ | ⟨g, _, _, _, h1, h2⟩
  · exact ⟨by simp, by omega⟩
  · unfold maxLen at h2
    exact ⟨h1, h2⟩
theorem gives_bel {w w1 w' : World} {xs ys : List (Int × Int)} {e : Ending} (h : Gives w1 xs e w') (hb : Below w.heap.size w w1) (he : xs = ys) : Gives w ys e w' := by
  subst he
  obtain ⟨D, d, rfl, hr, hb2⟩ := h
  exact ⟨D, d, rfl, hr.mono hb.size, bel_on hb hb2⟩

theorem and_any (A B : Option Addr) (ca cb : Nat) (a b : List (Int × Int)) (w : World) (ha : Spans w A a) (hb : Spans w B b) (hla : a.length ≤ 100000000) (hlb : b.length ≤ 100000000) :
    Calls Try.prog 14 #[.slice A a.length ca, .slice B b.length cb] w (Gives w (canon fun t => In a t ∧ In b t)) := by
  have hE : (runW (canon (In a)) (canon (In b))).2 = canon (fun t => In a t ∧ In b t) := by
    rw [runW_canon (canon_plain _) (canon_plain _)]
    exact canon_congr (fun t h1 h2 => by rw [canon_in, canon_in]; exact ⟨fun h => ⟨h.1.2.2, h.2.2.2⟩, fun h => ⟨⟨h1, h2, h.1⟩, ⟨h1, h2, h.2⟩⟩⟩)
  have HE := Lib.hid hE
  have fa := Fits.canon (In a)
  have fb := Fits.canon (In b)
  have la := canon_len (In a)
  have lb := canon_len (In b)
  have HB := Lib.hid hb
  have ca1 := norm_any A ca a w ha hla
  have cb1 := fun W (h : Spans W B b) => norm_any B cb b W h hlb
  have CB := Lib.hid cb1
  clear hE hb ha cb1
  generalize canon (In a) = La at *
  generalize canon (In b) = Lb at *
  go_enter Try.func14, Try.ntmps14
  go_wp2_with fail
  refine ca1.mono ?_
  rintro e w1 ⟨A1, c1, rfl, hr1, hb1⟩
  go_wp2_with fail
  refine (CB.out _ (HB.out.below hb1)).mono ?_
  rintro e w2 ⟨B1, d1, rfl, hr2, hb2⟩
  have hr1' := hr1.below hb2
  have hk := row_caps hr1
  replace hb2 := bel_on hb1 hb2
  go_wp2_with fail
  refine (values_any B1 _ d1 w2).mono ?_
  rintro e w3 ⟨rfl, rfl⟩
  have L1 := Lib.hid ((hr1'.alloc (.cells #[.slice B1 Lb.length d1] 22)).spans fa).lies
  have L2 := Lib.hid ((hr2.alloc (.cells #[.slice B1 Lb.length d1] 22)).spans fb).lies
  have H3 : Has (w2.alloc (.cells #[.slice B1 Lb.length d1] 22)) w2.heap.size #[.slice B1 Lb.length d1] := Has.new _ _ _ rfl
  have hb3 := bel_alloc hb2 (.cells #[.slice B1 Lb.length d1] 22)
  clear hr1 hr1' hr2 hb1 hb2 ca1
  generalize w2.alloc (.cells #[.slice B1 Lb.length d1] 22) = w3 at *
  generalize w2.heap.size = s2 at *
  have eg : ∀ args w, (callFunc 42 args).run Try.prog w = .ok (.enter 42 args) w := enters_of Try.func42 (by kernel_rfl) rfl
  go_wp2_with fail
  refine (within_any A1 c1 La Lb _ _ w3 L1.out hk.1 hk.2 (by omega) (by omega) eg (fun W hW hs => values_seq s2 w3.heap.size d1 B1 Lb W (Nat.lt_of_lt_of_le H3.size hW.size) ((H3.below hW).cell 0 rfl) (L2.out.below hW) hW.size (by omega))).mono ?_
  intro e w4 hg
  have HG := gives_bel hg hb3 HE.out
  clear hg
  obtain ⟨D, d, rfl, hr, hb⟩ := HG
  go_wp2
  go_ret
  exact ⟨D, d, rfl, hr, hb⟩

theorem minus_any (A B : Option Addr) (ca cb : Nat) (a b : List (Int × Int)) (w : World) (ha : Spans w A a) (hb : Spans w B b) (hla : a.length ≤ 100000000) (hlb : b.length ≤ 100000000) :
    Calls Try.prog 16 #[.slice A a.length ca, .slice B b.length cb] w (Gives w (canon fun t => In a t ∧ ¬ In b t)) := by
  have hE : (runW (canon (In a)) (gapsL 0 (canon (In b)))).2 = canon (fun t => In a t ∧ ¬ In b t) := by
    obtain ⟨g1, g2⟩ := gapsL_spec (canon (In b)) 0 (canon_plain _) (by omega)
    rw [runW_canon (canon_plain _) g1]
    exact canon_congr (fun t h1 h2 => by rw [canon_in, g2, canon_in]; exact ⟨fun h => ⟨h.1.2.2, fun q => h.2.2.2 ⟨h1, h2, q⟩⟩, fun h => ⟨⟨h1, h2, h.1⟩, h1, h2, fun q => h.2 q.2.2⟩⟩)
  have HE := Lib.hid hE
  have fa := Fits.canon (In a)
  have fb := Fits.canon (In b)
  have la := canon_len (In a)
  have lb := canon_len (In b)
  have lg := gapsL_len (canon (In b)) 0
  have HB := Lib.hid hb
  have ca1 := norm_any A ca a w ha hla
  have cb1 := fun W (h : Spans W B b) => norm_any B cb b W h hlb
  have CB := Lib.hid cb1
  clear hE hb ha cb1
  generalize canon (In a) = La at *
  generalize canon (In b) = Lb at *
  go_enter Try.func16, Try.ntmps16
  go_wp2_with fail
  refine ca1.mono ?_
  rintro e w1 ⟨A1, c1, rfl, hr1, hb1⟩
  go_wp2_with fail
  refine (CB.out _ (HB.out.below hb1)).mono ?_
  rintro e w2 ⟨B1, d1, rfl, hr2, hb2⟩
  have hr1' := hr1.below hb2
  have hk := row_caps hr1
  replace hb2 := bel_on hb1 hb2
  go_wp2_with fail
  refine (gaps_any B1 _ d1 w2).mono ?_
  rintro e w3 ⟨rfl, rfl⟩
  have L1 := Lib.hid ((hr1'.alloc (.cells #[.slice B1 Lb.length d1] 22)).spans fa).lies
  have L2 := Lib.hid ((hr2.alloc (.cells #[.slice B1 Lb.length d1] 22)).spans fb).lies
  have H3 : Has (w2.alloc (.cells #[.slice B1 Lb.length d1] 22)) w2.heap.size #[.slice B1 Lb.length d1] := Has.new _ _ _ rfl
  have hb3 := bel_alloc hb2 (.cells #[.slice B1 Lb.length d1] 22)
  clear hr1 hr1' hr2 hb1 hb2 ca1
  generalize w2.alloc (.cells #[.slice B1 Lb.length d1] 22) = w3 at *
  generalize w2.heap.size = s2 at *
  have eg : ∀ args w, (callFunc 43 args).run Try.prog w = .ok (.enter 43 args) w := enters_of Try.func43 (by kernel_rfl) rfl
  go_wp2_with fail
  refine (within_any A1 c1 La (gapsL 0 Lb) _ _ w3 L1.out hk.1 hk.2 (by omega) (by omega) eg (fun W hW hs => gaps_seq s2 w3.heap.size d1 B1 Lb W (Nat.lt_of_lt_of_le H3.size hW.size) ((H3.below hW).cell 0 rfl) (L2.out.below hW) hW.size (by omega))).mono ?_
  intro e w4 hg
  have HG := gives_bel hg hb3 HE.out
  clear hg
  obtain ⟨D, d, rfl, hr, hb⟩ := HG
  go_wp2
  go_ret
  exact ⟨D, d, rfl, hr, hb⟩

/-- The greatest n. -/
def lastP (xs : List (Int × Int)) (n t : Int) : Prop := In xs t ∧ sz (In xs) - n ≤ cnt (In xs) t.toNat
theorem cnt_lt {p : Int → Prop} {t : Int} (h0 : 0 ≤ t) (ht : t < 32054400) (hp : p t) : cnt p t.toNat < sz p := by
  have h1 := cnt_yes (p := p) (n := t.toNat) (by rwa [show ((t.toNat : Nat) : Int) = t by omega])
  have h2 := cnt_le p (m := t.toNat + 1) (n := 32054400) (by omega)
  unfold sz
  omega
theorem last_any (A : Option Addr) (cap : Nat) (xs : List (Int × Int)) (n : Int) (w : World) (hx : Spans w A xs) (hl : xs.length ≤ 100000000) (hn : Fit n) :
    Calls Try.prog 20 #[.slice A xs.length cap, .int .i64 n] w (Gives w (canon (lastP xs n))) := by
  by_cases h1 : n < 1
  · have hE := Lib.hid (canon_none (p := lastP xs n) (fun t a b h => by have := cnt_lt a b h.1; have := h.2; omega))
    go_enter Try.func20, Try.ntmps20
    go_wp2
    go_ret
    exact gives_of (Row.nil _ _) hE.out.symm rfl (Below.refl _ _)
  · have HX := Lib.hid hx
    have hs := sz_bound (In xs)
    obtain ⟨hn1, hn2⟩ := hn
    have hE : canon (fun t => In xs t ∧ ¬ In (canon fun t => In xs t ∧ cnt (In xs) t.toNat < sz (In xs) - n) t) = canon (lastP xs n) :=
      canon_congr (fun t a b => by
        rw [canon_in]
        unfold lastP
        constructor
        · rintro ⟨q1, q2⟩
          refine ⟨q1, ?_⟩
          rcases Int.lt_or_le (cnt (In xs) t.toNat) (sz (In xs) - n) with q | q
          · exact absurd ⟨a, b, q1, q⟩ q2
          · exact q
        · rintro ⟨q1, q2⟩
          exact ⟨q1, fun q => by have := q.2.2.2; omega⟩)
    have HE := Lib.hid hE
    have C1 := size_any A cap xs w hx hl
    have C2 := Lib.hid (fun W (h : Spans W A xs) => first_any A cap xs (sz (In xs) - n) W h hl ⟨by omega, by omega⟩)
    have fF := Fits.canon (fun t => In xs t ∧ cnt (In xs) t.toNat < sz (In xs) - n)
    have lF := canon_len (fun t => In xs t ∧ cnt (In xs) t.toNat < sz (In xs) - n)
    clear hx hE
    generalize (canon fun t => In xs t ∧ cnt (In xs) t.toNat < sz (In xs) - n) = F at *
    generalize sz (In xs) = z at *
    have hz : -9223372036854775808 ≤ z - n ∧ z - n ≤ 9223372036854775807 := by omega
    go_enter Try.func20, Try.ntmps20
    go_wp2_with fail
    refine C1.mono ?_
    rintro e w1 ⟨rfl, hb1⟩
    go_wp2_with fail
    refine (C2.out _ (HX.out.below hb1)).mono ?_
    rintro e w2 ⟨B1, d1, rfl, hr2, hb2⟩
    replace hb2 := bel_on hb1 hb2
    go_wp2_with fail
    refine (minus_any A B1 cap d1 xs F w2 (HX.out.below hb2) (hr2.spans fF) hl (by omega)).mono ?_
    intro e w4 hg
    have HG := gives_bel hg hb2 HE.out
    clear hg
    obtain ⟨D, d, rfl, hr, hb⟩ := HG
    go_wp2
    go_ret
    exact ⟨D, d, rfl, hr, hb⟩
end Go.Proofs.Ytkdogleocffhdaa
