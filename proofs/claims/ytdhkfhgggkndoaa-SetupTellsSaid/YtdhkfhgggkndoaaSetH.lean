/-
  Package setup: what writes: a number more.
-/
import Derived.Test.YtdhkfhgggkndoaaSetG
import Derived.Test.YtdhkfhgggkndoaaPkC
namespace Go.Proofs.Ytdhkfhgggkndoaa
open Go.RowKit
set_option linter.unusedVariables false
set_option linter.unusedSimpArgs false
set_option maxRecDepth 20000

/-- What writes lies at block g, and holds the bytes l; the blocks F are not its own. -/
structure WPen (F : Nat → Prop) (g : Nat) (l : List (BitVec 8)) (w : World) : Prop where
  lay : ∃ A c, Has w g #[.slice A l.length c] ∧ BRow w 0 A c l ∧ ∀ a, A = some a → ¬ F a.block ∧ a.block ≠ g
  out : ¬ F g
  low : ∀ b, F b → b < w.heap.size
theorem WPen.keep {F : Nat → Prop} {g : Nat} {l : List (BitVec 8)} {w w' : World} (h : WPen F g l w) (hb : Below w.heap.size w w') : WPen F g l w' := by
  obtain ⟨⟨A, c, h1, h2, h3⟩, h4, h5⟩ := h
  exact ⟨⟨A, c, h1.below hb, h2.below hb, h3⟩, h4, fun b hF => Nat.lt_of_lt_of_le (h5 b hF) hb.size⟩
/-- A new block is not its own either. -/
theorem WPen.grow {F : Nat → Prop} {g : Nat} {l : List (BitVec 8)} {w : World} (h : WPen F g l w) (o : Obj) : WPen (fun b => F b ∨ b = w.heap.size) g l (w.alloc o) := by
  obtain ⟨⟨A, c, h1, h2, h3⟩, h4, h5⟩ := h
  refine ⟨⟨A, c, h1.alloc o, h2.alloc o, fun a ha => ⟨?_, (h3 a ha).2⟩⟩, ?_, ?_⟩
  · rintro (k | k)
    · exact (h3 a ha).1 k
    · have := (h2.lt a ha).2; omega
  · rintro (k | k)
    · exact h4 k
    · have := h1.size; omega
  · rintro b (k | k)
    · have := h5 b k; simp; omega
    · simp; omega
theorem WPen.less {F G : Nat → Prop} {g : Nat} {l : List (BitVec 8)} {w : World} (h : WPen F g l w) (hG : ∀ b, G b → F b) : WPen G g l w := by
  obtain ⟨⟨A, c, h1, h2, h3⟩, h4, h5⟩ := h
  exact ⟨⟨A, c, h1, h2, fun a ha => ⟨fun k => (h3 a ha).1 (hG _ k), (h3 a ha).2⟩⟩, fun k => h4 (hG _ k), fun b k => h5 b (hG _ k)⟩
theorem kept_grown {F : Nat → Prop} {a w w' : World} {A : Option Addr} {n c : Nat} (h : Kept F a w) (hg : w.grownBy w' (Value.slice A n c).ownBlock) (hA : ∀ ad, A = some ad → ¬ F ad.block) (hF : ∀ b, F b → b < w.heap.size) : Kept F a w' :=
  ⟨hg.os.trans h.os, hg.tape.trans h.tape, hg.output.trans h.output, Nat.le_trans h.size hg.size, fun b hb => (hg.block b (hF b hb) (fun e => by
    cases A with
    | none => cases e
    | some ad => exact hA ad rfl (by injection e with e; rw [← e]; exact hb))).trans (h.block b hb)⟩
theorem Kept.set {F : Nat → Prop} {a w : World} (h : Kept F a w) {p : Addr} (hp : ¬ F p.block) (v : Value) : Kept F a (w.setCell p v) :=
  ⟨h.os, h.tape, h.output, by have := h.size; simp [World.setCell]; exact this, fun b hb => (Below.heap_setCell w p v b (fun e => hp (e ▸ hb))).trans (h.block b hb)⟩
theorem Kept.alloc {F : Nat → Prop} {a w : World} (h : Kept F a w) (hF : ∀ b, F b → b < w.heap.size) (o : Obj) : Kept F a (w.alloc o) :=
  h.on (.of_below (bel_alloc (Below.refl _ _) o) hF)
theorem slice_block {A : Option Addr} {n c : Nat} {x : Nat} (h : (Value.slice A n c).ownBlock = some x) : ∃ a, A = some a ∧ a.block = x := by
  cases A with
  | none => cases h
  | some a => exact ⟨a, rfl, by injection h⟩
theorem block_slice {A : Option Addr} {n c : Nat} {a : Addr} (h : A = some a) : (Value.slice A n c).ownBlock = some a.block := by subst h; rfl
theorem put_one_eq (n : Nat) : putB [n] = oneB n := by simp [putB]
set_option maxHeartbeats 1000000 in
theorem wnum_any (F : Nat → Prop) (g : Nat) (p : Addr) (n : Nat) (l : List (BitVec 8)) (w : World) (hn : n < 9223372036854775808) (hp : w.cell? p = some (.int .i64 n)) (h : WPen F g l w) (hl : l.length ≤ 10000000000) :
    Calls Try.prog 135 #[.pointer (some ⟨g, 0, none⟩), .pointer (some p)] w fun e w' => e = .returned (.tuple #[]) ∧ Kept F w w' ∧ WPen F g (l ++ oneB n) w' := by
  obtain ⟨⟨A, c, h1, h2, h3⟩, h4, h5⟩ := h
  have hps := cell_lt hp
  have h9 : (oneB n).length ≤ 9 := by have := digs_eight hn; have := @one_len n; omega
  go_enter Try.func135, Try.ntmps135
  go_wp2_with fail
  refine (put_ok none 0 0 [] (some ⟨w.heap.size, 0, none⟩) 1 1 [n] _ Sl.nil_ (nums_new w _ [(n : Int)] rfl) rfl (by simpa using hn) (by omega) (by omega)).mono ?_
  rintro e w1 ⟨B, d, rfl, hrow1, hb1⟩
  rw [List.nil_append, put_one_eq, Nat.zero_add] at *
  replace hb1 := bel_on (bel_alloc (Below.refl _ _) _) hb1
  have h1' := h1.below hb1
  have h2' := h2.below hb1
  obtain ⟨A2, c2, w2, hr2, hrow2, _, hg2, hl2⟩ := brow_append h2' hrow1.sl (by omega) (by omega)
  have hk1 : Kept F w w1 := .of_below hb1 h5
  have hF1 : ∀ b, F b → b < w1.heap.size := fun b hb => Nat.lt_of_lt_of_le (h5 b hb) hb1.size
  have hk2 := kept_grown hk1 hg2 (fun a ha => (h3 a ha).1) hF1
  have hgs := h1'.size
  have h1'' : Has w2 g #[.slice A l.length c] := by
    obtain ⟨t, ht⟩ := h1'
    refine ⟨t, (hg2.block g hgs (fun e => ?_)).trans ht⟩
    obtain ⟨a, ha, hab⟩ := slice_block e.symm
    exact (h3 a ha).2 hab
  have h3' : ∀ a, A2 = some a → ¬ F a.block ∧ a.block ≠ g := by
    intro a ha
    have e := block_slice (n := l.length + (oneB n).length) (c := c2) ha
    rcases hl2 with h | h
    · rw [e] at h
      obtain ⟨a', ha', hab⟩ := slice_block h.symm
      rw [← hab]
      exact h3 a' ha'
    · rw [e] at h
      injection h with h
      rw [h]
      exact ⟨fun k => by have := hF1 _ k; omega, by omega⟩
  have kc := h1'.cell 0 rfl
  have kf := h1''.frozen 0
  have kc2 := h1''.cell 0 rfl
  have hgs2 := h1''.size
  have HR2 := Lib.hid hr2
  have HE : Hid (Kept F w w2 ∧ Has w2 g #[.slice A l.length c] ∧ BRow w2 0 A2 c2 (l ++ oneB n)) := ⟨hk2, h1'', hrow2⟩
  clear hr2 hk2 h1'' hrow2 h1' h2' h1 h2 hrow1 hk1 hF1 hg2 hl2 hb1 hp
  go_wp2_with (at_builtin; refine wpList_append_run (o := ⟨some 21, _, _, _, _, _⟩) HR2.out rfl rfl rfl rfl ?_)
  refine bodyPost_end (v := .tuple #[]) (by simp [results, Try.results135]) rfl ⟨rfl, HE.out.1.set h4 _, ?_⟩
  obtain ⟨k1, k2, k3⟩ := HE.out
  refine ⟨⟨A2, c2, ?_, k3.keep (fun a ha => Below.heap_setCell _ _ _ _ (h3' a ha).2), h3'⟩, h4, fun b hb => ?_⟩
  · rw [List.length_append]
    exact k2.set 0 _
  · have := h5 b hb
    have := k1.size
    simp [World.setCell]
    omega
end Go.Proofs.Ytdhkfhgggkndoaa
