/-
  event.own: the map that tells where an event's own numbers stand, whatever order it was filled in.
-/
import Derived.Test.YtpgncbhahocmbaaGreatQad
import Derived.Test.YtpgncbhahocmbaaGreatQab
import Derived.RegionTactic
import Derived.Lib.Hide
namespace Go.Proofs.YtpgncbhahocmbaaGreat
open Go.RowKit
set_option linter.unusedVariables false
set_option linter.unusedSimpArgs false

/-- Places in a block. -/
def ptrV (b i : Nat) : Value := .pointer (some ⟨b, i, none⟩)
def nilV : Value := .slice none 0 0
/-- What the map tells, as far as it is filled. -/
def mapF (b1 b2 b3 b4 b5 b6 b7 : Bool) (x y : Value) : Int → Option Value := fun i =>
  if i = 1 then (if b1 then some nilV else none) else if i = 2 then (if b2 then some nilV else none) else if i = 3 then (if b3 then some x else none) else if i = 4 then (if b4 then some y else none) else
  if i = 5 then (if b5 then some nilV else none) else if i = 6 then (if b6 then some nilV else none) else if i = 7 then (if b7 then some nilV else none) else none
theorem mapF_none (x y : Value) : (fun _ => none) = mapF false false false false false false false x y := by funext i; simp [mapF]
section
variable (b1 b2 b3 b4 b5 b6 b7 : Bool) (x y : Value)
theorem mapF_1 : updF (mapF false b2 b3 b4 b5 b6 b7 x y) 1 nilV = mapF true b2 b3 b4 b5 b6 b7 x y := by funext i; simp only [updF, mapF]; by_cases h : i = 1 <;> simp [h]
theorem mapF_2 : updF (mapF b1 false b3 b4 b5 b6 b7 x y) 2 nilV = mapF b1 true b3 b4 b5 b6 b7 x y := by funext i; simp only [updF, mapF]; by_cases h : i = 2 <;> simp [h]
theorem mapF_3 : updF (mapF b1 b2 false b4 b5 b6 b7 x y) 3 x = mapF b1 b2 true b4 b5 b6 b7 x y := by funext i; simp only [updF, mapF]; by_cases h : i = 3 <;> simp [h]
theorem mapF_4 : updF (mapF b1 b2 b3 false b5 b6 b7 x y) 4 y = mapF b1 b2 b3 true b5 b6 b7 x y := by funext i; simp only [updF, mapF]; by_cases h : i = 4 <;> simp [h]
theorem mapF_5 : updF (mapF b1 b2 b3 b4 false b6 b7 x y) 5 nilV = mapF b1 b2 b3 b4 true b6 b7 x y := by funext i; simp only [updF, mapF]; by_cases h : i = 5 <;> simp [h]
theorem mapF_6 : updF (mapF b1 b2 b3 b4 b5 false b7 x y) 6 nilV = mapF b1 b2 b3 b4 b5 true b7 x y := by funext i; simp only [updF, mapF]; by_cases h : i = 6 <;> simp [h]
theorem mapF_7 : updF (mapF b1 b2 b3 b4 b5 b6 false x y) 7 nilV = mapF b1 b2 b3 b4 b5 b6 true x y := by funext i; simp only [updF, mapF]; by_cases h : i = 7 <;> simp [h]
theorem mapF_x (x' : Value) : mapF b1 b2 false b4 b5 b6 b7 x y = mapF b1 b2 false b4 b5 b6 b7 x' y := by funext i; simp [mapF]
theorem mapF_y (y' : Value) : mapF b1 b2 b3 false b5 b6 b7 x y = mapF b1 b2 b3 false b5 b6 b7 x y' := by funext i; simp [mapF]
end
def ptrs6 (b : Nat) : Array Value := #[ptrV b 4, ptrV b 5, ptrV b 6, ptrV b 7, ptrV b 8, ptrV b 9]
def ptrs1 (b : Nat) : Array Value := #[ptrV b 10]
/-- A slot that holds a new slice over the cells cs. -/
def NewSl (W : World) (v : Value) (n : Nat) (cs : Array Value) (w : World) : Prop := ∃ g, v = .slice (some ⟨g, 0, none⟩) n n ∧ W.heap.size ≤ g ∧ Has w g cs
section
variable {W w w' : World} {v : Value} {n : Nat} {cs : Array Value}
theorem NewSl.below (h : NewSl W v n cs w) (hb : Below w.heap.size w w') : NewSl W v n cs w' := by
  obtain ⟨g, e, hg, h⟩ := h
  exact ⟨g, e, hg, h.below hb⟩
theorem NewSl.alloc (h : NewSl W v n cs w) (o : Obj) : NewSl W v n cs (w.alloc o) := by
  obtain ⟨g, e, hg, h⟩ := h
  exact ⟨g, e, hg, h.alloc o⟩
theorem NewSl.grown (h : NewSl W v n cs w) {row : Option Nat} (hg : w.grownBy w' row) (hne : ∀ g, Has w g cs → some g ≠ row) : NewSl W v n cs w' := by
  obtain ⟨g, e, hgs, h⟩ := h
  exact ⟨g, e, hgs, h.grown hg (hne g h)⟩
end
theorem MapI.notHas {w : World} {b n : Nat} {f : Int → Option Value} (h : MapI w b n f) {cs : Array Value} (hc : Has w b cs) : False := by
  obtain ⟨D, ⟨es, clock, hh, _⟩, _⟩ := h
  obtain ⟨t, hc⟩ := hc
  rw [hh] at hc
  cases hc
/-- A slot that holds a map of the call's own, which tells f. -/
def NewMap (W : World) (v : Value) (k : Nat) (f : Int → Option Value) (w : World) : Prop := ∃ m n, v = .map (some m) ∧ W.heap.size ≤ m ∧ n ≤ k ∧ MapI w m n f
/-- What stands while the map is filled: b tells of each operation whether it has come up. -/

structure OwnW (W : World) (g : Nat) (v0 x y v31 v32 : Value) (b0 b1 b2 b21 b22 b26 b27 b28 b29 b30 b31 b32 : Bool) (w : World) : Prop where
  bel : Below W.heap.size W w
  sx : b21 = true → NewSl W x 6 (ptrs6 g) w
  sy : b26 = true → NewSl W y 1 (ptrs1 g) w
  mp : b0 = true → NewMap W v0 (b1.toNat + b2.toNat + b22.toNat + b27.toNat + b28.toNat + b29.toNat + b30.toNat) (mapF b1 b2 b22 b27 b28 b29 b30 x y) w
  u3 : b21 = false → b22 = false
  u4 : b26 = false → b27 = false
  u0 : b0 = false → b1 = false ∧ b2 = false ∧ b22 = false ∧ b27 = false ∧ b28 = false ∧ b29 = false ∧ b30 = false ∧ b31 = false ∧ b32 = false
  u1 : b31 = true → v31 = v0
  u2 : b32 = true → v32 = v0
section
variable {W w : World} {g : Nat} {v0 x y v31 v32 : Value} {b0 b1 b2 b21 b22 b26 b27 b28 b29 b30 b31 b32 : Bool}
theorem OwnW.s0 (h : OwnW W g v0 x y v31 v32 false b1 b2 b21 b22 b26 b27 b28 b29 b30 b31 b32 w) : OwnW W g (.map (some w.heap.size)) x y v31 v32 true b1 b2 b21 b22 b26 b27 b28 b29 b30 b31 b32 (w.alloc (.map #[] 0)) := by
  obtain ⟨r1, r2, r22, r27, r28, r29, r30, r31, r32⟩ := h.u0 rfl
  subst r1 r2 r22 r27 r28 r29 r30 r31 r32
  exact ⟨bel_alloc h.bel _, fun e => (h.sx e).alloc _, fun e => (h.sy e).alloc _, fun _ => ⟨_, 0, rfl, h.bel.size, Nat.zero_le _, (MapI.new w rfl).eqv (mapF_none x y)⟩, h.u3, h.u4, (fun e => by cases e), (fun e => by cases e), (fun e => by cases e)⟩
theorem OwnW.s21 (h : OwnW W g v0 x y v31 v32 b0 b1 b2 false b22 b26 b27 b28 b29 b30 b31 b32 w) : OwnW W g v0 (.slice (some ⟨w.heap.size, 0, none⟩) 6 6) y v31 v32 b0 b1 b2 true b22 b26 b27 b28 b29 b30 b31 b32 (w.alloc (.cells (ptrs6 g) 120)) := by
  have r22 := h.u3 rfl
  subst r22
  refine ⟨bel_alloc h.bel _, fun _ => ⟨_, rfl, h.bel.size, Has.new w _ _ rfl⟩, fun e => (h.sy e).alloc _, fun e => ?_, (fun e => by cases e), h.u4, h.u0, h.u1, h.u2⟩
  obtain ⟨m, n, e0, hm, hn, hM⟩ := h.mp e
  exact ⟨m, n, e0, hm, hn, (hM.alloc _).eqv (mapF_x _ _ _ _ _ _ _ _ _)⟩
theorem OwnW.s26 (h : OwnW W g v0 x y v31 v32 b0 b1 b2 b21 b22 false b27 b28 b29 b30 b31 b32 w) : OwnW W g v0 x (.slice (some ⟨w.heap.size, 0, none⟩) 1 1) v31 v32 b0 b1 b2 b21 b22 true b27 b28 b29 b30 b31 b32 (w.alloc (.cells (ptrs1 g) 120)) := by
  have r27 := h.u4 rfl
  subst r27
  refine ⟨bel_alloc h.bel _, fun e => (h.sx e).alloc _, fun _ => ⟨_, rfl, h.bel.size, Has.new w _ _ rfl⟩, fun e => ?_, h.u3, (fun e => by cases e), h.u0, h.u1, h.u2⟩
  obtain ⟨m, n, e0, hm, hn, hM⟩ := h.mp e
  exact ⟨m, n, e0, hm, hn, (hM.alloc _).eqv (mapF_y _ _ _ _ _ _ _ _ _)⟩
theorem OwnW.s1 (h : OwnW W g v0 x y v31 v32 true false b2 b21 b22 b26 b27 b28 b29 b30 b31 b32 w) {G : Prop} (k : ∀ m n f, v0 = .map (some m) → n < 1000 → MapI w m n f → (∀ w' : World, MapI w' m (n + 1) (updF f 1 nilV) → w.grownBy w' (some m) → OwnW W g v0 x y v31 v32 true true b2 b21 b22 b26 b27 b28 b29 b30 b31 b32 w') → G) : G := by
  obtain ⟨m, n, e0, hm, hn, hM⟩ := h.mp rfl
  refine k m n _ e0 ?_ hM (fun w' hM' hg => ?_)
  · simp only [Bool.toNat] at hn
    have : ∀ c : Bool, (cond c 1 0 : Nat) ≤ 1 := fun c => by cases c <;> simp
    have t2 := this b2; have t22 := this b22; have t27 := this b27; have t28 := this b28; have t29 := this b29; have t30 := this b30
    simp only [cond] at *
    omega
  · refine ⟨h.bel.grown hg h.bel.size (fun j hj => by cases hj; exact hm), fun e => (h.sx e).grown hg ?_, fun e => (h.sy e).grown hg ?_, fun _ => ⟨m, n + 1, e0, hm, ?_, hM'.eqv (mapF_1 _ _ _ _ _ _ _ _)⟩, ?_, ?_, (fun e => by cases e), h.u1, h.u2⟩
    · intro gg hgg e0; injection e0 with e0; subst e0
      exact hM.notHas hgg
    · intro gg hgg e0; injection e0 with e0; subst e0
      exact hM.notHas hgg
    · simp only [Bool.toNat, cond] at hn ⊢
      omega
    · first | exact h.u3 | (intro e; cases e)
    · first | exact h.u4 | (intro e; cases e)
theorem OwnW.s2 (h : OwnW W g v0 x y v31 v32 true b1 false b21 b22 b26 b27 b28 b29 b30 b31 b32 w) {G : Prop} (k : ∀ m n f, v0 = .map (some m) → n < 1000 → MapI w m n f → (∀ w' : World, MapI w' m (n + 1) (updF f 2 nilV) → w.grownBy w' (some m) → OwnW W g v0 x y v31 v32 true b1 true b21 b22 b26 b27 b28 b29 b30 b31 b32 w') → G) : G := by
  obtain ⟨m, n, e0, hm, hn, hM⟩ := h.mp rfl
  refine k m n _ e0 ?_ hM (fun w' hM' hg => ?_)
  · simp only [Bool.toNat] at hn
    have : ∀ c : Bool, (cond c 1 0 : Nat) ≤ 1 := fun c => by cases c <;> simp
    have t1 := this b1; have t22 := this b22; have t27 := this b27; have t28 := this b28; have t29 := this b29; have t30 := this b30
    simp only [cond] at *
    omega
  · refine ⟨h.bel.grown hg h.bel.size (fun j hj => by cases hj; exact hm), fun e => (h.sx e).grown hg ?_, fun e => (h.sy e).grown hg ?_, fun _ => ⟨m, n + 1, e0, hm, ?_, hM'.eqv (mapF_2 _ _ _ _ _ _ _ _)⟩, ?_, ?_, (fun e => by cases e), h.u1, h.u2⟩
    · intro gg hgg e0; injection e0 with e0; subst e0
      exact hM.notHas hgg
    · intro gg hgg e0; injection e0 with e0; subst e0
      exact hM.notHas hgg
    · simp only [Bool.toNat, cond] at hn ⊢
      omega
    · first | exact h.u3 | (intro e; cases e)
    · first | exact h.u4 | (intro e; cases e)
theorem OwnW.s22 (h : OwnW W g v0 x y v31 v32 true b1 b2 true false b26 b27 b28 b29 b30 b31 b32 w) {G : Prop} (k : ∀ m n f, v0 = .map (some m) → n < 1000 → MapI w m n f → (∀ w' : World, MapI w' m (n + 1) (updF f 3 x) → w.grownBy w' (some m) → OwnW W g v0 x y v31 v32 true b1 b2 true true b26 b27 b28 b29 b30 b31 b32 w') → G) : G := by
  obtain ⟨m, n, e0, hm, hn, hM⟩ := h.mp rfl
  refine k m n _ e0 ?_ hM (fun w' hM' hg => ?_)
  · simp only [Bool.toNat] at hn
    have : ∀ c : Bool, (cond c 1 0 : Nat) ≤ 1 := fun c => by cases c <;> simp
    have t1 := this b1; have t2 := this b2; have t27 := this b27; have t28 := this b28; have t29 := this b29; have t30 := this b30
    simp only [cond] at *
    omega
  · refine ⟨h.bel.grown hg h.bel.size (fun j hj => by cases hj; exact hm), fun e => (h.sx e).grown hg ?_, fun e => (h.sy e).grown hg ?_, fun _ => ⟨m, n + 1, e0, hm, ?_, hM'.eqv (mapF_3 _ _ _ _ _ _ _ _)⟩, ?_, ?_, (fun e => by cases e), h.u1, h.u2⟩
    · intro gg hgg e0; injection e0 with e0; subst e0
      exact hM.notHas hgg
    · intro gg hgg e0; injection e0 with e0; subst e0
      exact hM.notHas hgg
    · simp only [Bool.toNat, cond] at hn ⊢
      omega
    · first | exact h.u3 | (intro e; cases e)
    · first | exact h.u4 | (intro e; cases e)
theorem OwnW.s27 (h : OwnW W g v0 x y v31 v32 true b1 b2 b21 b22 true false b28 b29 b30 b31 b32 w) {G : Prop} (k : ∀ m n f, v0 = .map (some m) → n < 1000 → MapI w m n f → (∀ w' : World, MapI w' m (n + 1) (updF f 4 y) → w.grownBy w' (some m) → OwnW W g v0 x y v31 v32 true b1 b2 b21 b22 true true b28 b29 b30 b31 b32 w') → G) : G := by
  obtain ⟨m, n, e0, hm, hn, hM⟩ := h.mp rfl
  refine k m n _ e0 ?_ hM (fun w' hM' hg => ?_)
  · simp only [Bool.toNat] at hn
    have : ∀ c : Bool, (cond c 1 0 : Nat) ≤ 1 := fun c => by cases c <;> simp
    have t1 := this b1; have t2 := this b2; have t22 := this b22; have t28 := this b28; have t29 := this b29; have t30 := this b30
    simp only [cond] at *
    omega
  · refine ⟨h.bel.grown hg h.bel.size (fun j hj => by cases hj; exact hm), fun e => (h.sx e).grown hg ?_, fun e => (h.sy e).grown hg ?_, fun _ => ⟨m, n + 1, e0, hm, ?_, hM'.eqv (mapF_4 _ _ _ _ _ _ _ _)⟩, ?_, ?_, (fun e => by cases e), h.u1, h.u2⟩
    · intro gg hgg e0; injection e0 with e0; subst e0
      exact hM.notHas hgg
    · intro gg hgg e0; injection e0 with e0; subst e0
      exact hM.notHas hgg
    · simp only [Bool.toNat, cond] at hn ⊢
      omega
    · first | exact h.u3 | (intro e; cases e)
    · first | exact h.u4 | (intro e; cases e)
theorem OwnW.s28 (h : OwnW W g v0 x y v31 v32 true b1 b2 b21 b22 b26 b27 false b29 b30 b31 b32 w) {G : Prop} (k : ∀ m n f, v0 = .map (some m) → n < 1000 → MapI w m n f → (∀ w' : World, MapI w' m (n + 1) (updF f 5 nilV) → w.grownBy w' (some m) → OwnW W g v0 x y v31 v32 true b1 b2 b21 b22 b26 b27 true b29 b30 b31 b32 w') → G) : G := by
  obtain ⟨m, n, e0, hm, hn, hM⟩ := h.mp rfl
  refine k m n _ e0 ?_ hM (fun w' hM' hg => ?_)
  · simp only [Bool.toNat] at hn
    have : ∀ c : Bool, (cond c 1 0 : Nat) ≤ 1 := fun c => by cases c <;> simp
    have t1 := this b1; have t2 := this b2; have t22 := this b22; have t27 := this b27; have t29 := this b29; have t30 := this b30
    simp only [cond] at *
    omega
  · refine ⟨h.bel.grown hg h.bel.size (fun j hj => by cases hj; exact hm), fun e => (h.sx e).grown hg ?_, fun e => (h.sy e).grown hg ?_, fun _ => ⟨m, n + 1, e0, hm, ?_, hM'.eqv (mapF_5 _ _ _ _ _ _ _ _)⟩, ?_, ?_, (fun e => by cases e), h.u1, h.u2⟩
    · intro gg hgg e0; injection e0 with e0; subst e0
      exact hM.notHas hgg
    · intro gg hgg e0; injection e0 with e0; subst e0
      exact hM.notHas hgg
    · simp only [Bool.toNat, cond] at hn ⊢
      omega
    · first | exact h.u3 | (intro e; cases e)
    · first | exact h.u4 | (intro e; cases e)
theorem OwnW.s29 (h : OwnW W g v0 x y v31 v32 true b1 b2 b21 b22 b26 b27 b28 false b30 b31 b32 w) {G : Prop} (k : ∀ m n f, v0 = .map (some m) → n < 1000 → MapI w m n f → (∀ w' : World, MapI w' m (n + 1) (updF f 6 nilV) → w.grownBy w' (some m) → OwnW W g v0 x y v31 v32 true b1 b2 b21 b22 b26 b27 b28 true b30 b31 b32 w') → G) : G := by
  obtain ⟨m, n, e0, hm, hn, hM⟩ := h.mp rfl
  refine k m n _ e0 ?_ hM (fun w' hM' hg => ?_)
  · simp only [Bool.toNat] at hn
    have : ∀ c : Bool, (cond c 1 0 : Nat) ≤ 1 := fun c => by cases c <;> simp
    have t1 := this b1; have t2 := this b2; have t22 := this b22; have t27 := this b27; have t28 := this b28; have t30 := this b30
    simp only [cond] at *
    omega
  · refine ⟨h.bel.grown hg h.bel.size (fun j hj => by cases hj; exact hm), fun e => (h.sx e).grown hg ?_, fun e => (h.sy e).grown hg ?_, fun _ => ⟨m, n + 1, e0, hm, ?_, hM'.eqv (mapF_6 _ _ _ _ _ _ _ _)⟩, ?_, ?_, (fun e => by cases e), h.u1, h.u2⟩
    · intro gg hgg e0; injection e0 with e0; subst e0
      exact hM.notHas hgg
    · intro gg hgg e0; injection e0 with e0; subst e0
      exact hM.notHas hgg
    · simp only [Bool.toNat, cond] at hn ⊢
      omega
    · first | exact h.u3 | (intro e; cases e)
    · first | exact h.u4 | (intro e; cases e)
theorem OwnW.s30 (h : OwnW W g v0 x y v31 v32 true b1 b2 b21 b22 b26 b27 b28 b29 false b31 b32 w) {G : Prop} (k : ∀ m n f, v0 = .map (some m) → n < 1000 → MapI w m n f → (∀ w' : World, MapI w' m (n + 1) (updF f 7 nilV) → w.grownBy w' (some m) → OwnW W g v0 x y v31 v32 true b1 b2 b21 b22 b26 b27 b28 b29 true b31 b32 w') → G) : G := by
  obtain ⟨m, n, e0, hm, hn, hM⟩ := h.mp rfl
  refine k m n _ e0 ?_ hM (fun w' hM' hg => ?_)
  · simp only [Bool.toNat] at hn
    have : ∀ c : Bool, (cond c 1 0 : Nat) ≤ 1 := fun c => by cases c <;> simp
    have t1 := this b1; have t2 := this b2; have t22 := this b22; have t27 := this b27; have t28 := this b28; have t29 := this b29
    simp only [cond] at *
    omega
  · refine ⟨h.bel.grown hg h.bel.size (fun j hj => by cases hj; exact hm), fun e => (h.sx e).grown hg ?_, fun e => (h.sy e).grown hg ?_, fun _ => ⟨m, n + 1, e0, hm, ?_, hM'.eqv (mapF_7 _ _ _ _ _ _ _ _)⟩, ?_, ?_, (fun e => by cases e), h.u1, h.u2⟩
    · intro gg hgg e0; injection e0 with e0; subst e0
      exact hM.notHas hgg
    · intro gg hgg e0; injection e0 with e0; subst e0
      exact hM.notHas hgg
    · simp only [Bool.toNat, cond] at hn ⊢
      omega
    · first | exact h.u3 | (intro e; cases e)
    · first | exact h.u4 | (intro e; cases e)
theorem OwnW.s31 (h : OwnW W g v0 x y v31 v32 true b1 b2 b21 b22 b26 b27 b28 b29 b30 false b32 w) : OwnW W g v0 x y v0 v32 true b1 b2 b21 b22 b26 b27 b28 b29 b30 true b32 w :=
  ⟨h.bel, h.sx, h.sy, h.mp, h.u3, h.u4, (fun e => by cases e), (fun _ => rfl), h.u2⟩
theorem OwnW.s32 (h : OwnW W g v0 x y v31 v32 true b1 b2 b21 b22 b26 b27 b28 b29 b30 true false w) : OwnW W g v0 x y v31 v31 true b1 b2 b21 b22 b26 b27 b28 b29 b30 true true w :=
  ⟨h.bel, h.sx, h.sy, h.mp, h.u3, h.u4, (fun e => by cases e), h.u1, fun _ => h.u1 rfl⟩
end

/-- What own tells. -/
def OwnMap (W : World) (g : Nat) (e : Ending) (w : World) : Prop :=
  ∃ m n p q, e = .returned (.map (some m)) ∧ Below W.heap.size W w ∧ W.heap.size ≤ m ∧ W.heap.size ≤ p ∧ W.heap.size ≤ q ∧ Has w p (ptrs6 g) ∧ Has w q (ptrs1 g) ∧
    MapI w m n (mapF true true true true true true true (.slice (some ⟨p, 0, none⟩) 6 6) (.slice (some ⟨q, 0, none⟩) 1 1))
theorem OwnW.out {W w : World} {g : Nat} {v0 x y v31 v32 : Value} (h : OwnW W g v0 x y v31 v32 true true true true true true true true true true true true w) : OwnMap W g (.returned v32) w := by
  obtain ⟨m, n, e0, hm, hn, hM⟩ := h.mp rfl
  obtain ⟨p, ex, hp, hP⟩ := h.sx rfl
  obtain ⟨q, ey, hq, hQ⟩ := h.sy rfl
  have e2 := h.u2 rfl
  subst e0 ex ey e2
  exact ⟨m, n, p, q, rfl, h.bel, hm, hp, hq, hP, hQ, hM⟩
set_option maxRecDepth 100000 in
set_option maxHeartbeats 1000000 in
theorem own_any (g : Nat) (W : World) : Calls Tryz.prog 86 #[.pointer (some ⟨g, 0, none⟩)] W (OwnMap W g) := by
  go_enter Tryz.func86, Tryz.ntmps86
  go_wp2_with fail
  refine wp_region_noPanic ?_
  refine wp_region_held_drew (S := fun w' => Below W.heap.size W w') (by kernel_rfl) (below_drew (Below.refl _ _)) (fun hHeld => ?_)
  refine wpAnyH_take (i := 3) (oi := ⟨some 4, _, _, _, _, _⟩) (v := ?_) rfl (by kernel_rfl) (by kernel_rfl) (by kernel_rfl) (fun _ _ _ h => h) (Or.inl ⟨by rfl, ?_⟩) hHeld ?_
  rotate_left
  · intro ww hSw
    (try dsimp only at hSw)
    go_simp
    (try with_reducible rfl)
  simp only [Act.put, List.setIfInBounds_toArray, List.set_cons_zero, List.set_cons_succ]
  refine wpAnyH_take (i := 4) (oi := ⟨some 5, _, _, _, _, _⟩) (v := ?_) rfl (by kernel_rfl) (by kernel_rfl) (by kernel_rfl) (fun _ _ _ h => h) (Or.inl ⟨by rfl, ?_⟩) hHeld ?_
  rotate_left
  · intro ww hSw
    (try dsimp only at hSw)
    go_simp
    (try with_reducible rfl)
  simp only [Act.put, List.setIfInBounds_toArray, List.set_cons_zero, List.set_cons_succ]
  refine wpAnyH_take (i := 5) (oi := ⟨some 6, _, _, _, _, _⟩) (v := ?_) rfl (by kernel_rfl) (by kernel_rfl) (by kernel_rfl) (fun _ _ _ h => h) (Or.inl ⟨by rfl, ?_⟩) hHeld ?_
  rotate_left
  · intro ww hSw
    (try dsimp only at hSw)
    go_simp
    (try with_reducible rfl)
  simp only [Act.put, List.setIfInBounds_toArray, List.set_cons_zero, List.set_cons_succ]
  refine wpAnyH_take (i := 6) (oi := ⟨some 7, _, _, _, _, _⟩) (v := ?_) rfl (by kernel_rfl) (by kernel_rfl) (by kernel_rfl) (fun _ _ _ h => h) (Or.inl ⟨by rfl, ?_⟩) hHeld ?_
  rotate_left
  · intro ww hSw
    (try dsimp only at hSw)
    go_simp
    (try with_reducible rfl)
  simp only [Act.put, List.setIfInBounds_toArray, List.set_cons_zero, List.set_cons_succ]
  refine wpAnyH_take (i := 7) (oi := ⟨some 8, _, _, _, _, _⟩) (v := ?_) rfl (by kernel_rfl) (by kernel_rfl) (by kernel_rfl) (fun _ _ _ h => h) (Or.inl ⟨by rfl, ?_⟩) hHeld ?_
  rotate_left
  · intro ww hSw
    (try dsimp only at hSw)
    go_simp
    (try with_reducible rfl)
  simp only [Act.put, List.setIfInBounds_toArray, List.set_cons_zero, List.set_cons_succ]
  refine wpAnyH_take (i := 8) (oi := ⟨some 9, _, _, _, _, _⟩) (v := ?_) rfl (by kernel_rfl) (by kernel_rfl) (by kernel_rfl) (fun _ _ _ h => h) (Or.inl ⟨by rfl, ?_⟩) hHeld ?_
  rotate_left
  · intro ww hSw
    (try dsimp only at hSw)
    go_simp
    (try with_reducible rfl)
  simp only [Act.put, List.setIfInBounds_toArray, List.set_cons_zero, List.set_cons_succ]
  refine wpAnyH_take (i := 9) (oi := ⟨some 10, _, _, _, _, _⟩) (v := ?_) rfl (by kernel_rfl) (by kernel_rfl) (by kernel_rfl) (fun _ _ _ h => h) (Or.inl ⟨by rfl, ?_⟩) hHeld ?_
  rotate_left
  · intro ww hSw
    (try dsimp only at hSw)
    go_simp
    (try with_reducible rfl)
  simp only [Act.put, List.setIfInBounds_toArray, List.set_cons_zero, List.set_cons_succ]
  refine wpAnyH_take (i := 10) (oi := ⟨some 11, _, _, _, _, _⟩) (v := ?_) rfl (by kernel_rfl) (by kernel_rfl) (by kernel_rfl) (fun _ _ _ h => h) (Or.inl ⟨by rfl, ?_⟩) hHeld ?_
  rotate_left
  · intro ww hSw
    (try dsimp only at hSw)
    go_simp
    (try with_reducible rfl)
  simp only [Act.put, List.setIfInBounds_toArray, List.set_cons_zero, List.set_cons_succ]
  refine wpAnyH_take (i := 11) (oi := ⟨some 12, _, _, _, _, _⟩) (v := ?_) rfl (by kernel_rfl) (by kernel_rfl) (by kernel_rfl) (fun _ _ _ h => h) (Or.inl ⟨by rfl, ?_⟩) hHeld ?_
  rotate_left
  · intro ww hSw
    (try dsimp only at hSw)
    go_simp
    (try with_reducible rfl)
  simp only [Act.put, List.setIfInBounds_toArray, List.set_cons_zero, List.set_cons_succ]
  refine wpAnyH_take (i := 12) (oi := ⟨some 13, _, _, _, _, _⟩) (v := ?_) rfl (by kernel_rfl) (by kernel_rfl) (by kernel_rfl) (fun _ _ _ h => h) (Or.inl ⟨by rfl, ?_⟩) hHeld ?_
  rotate_left
  · intro ww hSw
    (try dsimp only at hSw)
    go_simp
    (try with_reducible rfl)
  simp only [Act.put, List.setIfInBounds_toArray, List.set_cons_zero, List.set_cons_succ]
  refine wpAnyH_take (i := 13) (oi := ⟨some 14, _, _, _, _, _⟩) (v := ?_) rfl (by kernel_rfl) (by kernel_rfl) (by kernel_rfl) (fun _ _ _ h => h) (Or.inl ⟨by rfl, ?_⟩) hHeld ?_
  rotate_left
  · intro ww hSw
    (try dsimp only at hSw)
    go_simp
    (try with_reducible rfl)
  simp only [Act.put, List.setIfInBounds_toArray, List.set_cons_zero, List.set_cons_succ]
  refine wpAnyH_take (i := 14) (oi := ⟨some 15, _, _, _, _, _⟩) (v := ?_) rfl (by kernel_rfl) (by kernel_rfl) (by kernel_rfl) (fun _ _ _ h => h) (Or.inl ⟨by rfl, ?_⟩) hHeld ?_
  rotate_left
  · intro ww hSw
    (try dsimp only at hSw)
    go_simp
    (try with_reducible rfl)
  simp only [Act.put, List.setIfInBounds_toArray, List.set_cons_zero, List.set_cons_succ]
  refine wpAnyH_take (i := 15) (oi := ⟨some 16, _, _, _, _, _⟩) (v := ?_) rfl (by kernel_rfl) (by kernel_rfl) (by kernel_rfl) (fun _ _ _ h => h) (Or.inl ⟨by rfl, ?_⟩) hHeld ?_
  rotate_left
  · intro ww hSw
    (try dsimp only at hSw)
    go_simp
    (try with_reducible rfl)
  simp only [Act.put, List.setIfInBounds_toArray, List.set_cons_zero, List.set_cons_succ]
  refine wpAnyH_take (i := 16) (oi := ⟨some 17, _, _, _, _, _⟩) (v := ?_) rfl (by kernel_rfl) (by kernel_rfl) (by kernel_rfl) (fun _ _ _ h => h) (Or.inl ⟨by rfl, ?_⟩) hHeld ?_
  rotate_left
  · intro ww hSw
    (try dsimp only at hSw)
    go_simp
    (try with_reducible rfl)
  simp only [Act.put, List.setIfInBounds_toArray, List.set_cons_zero, List.set_cons_succ]
  refine wpAnyH_take (i := 17) (oi := ⟨some 18, _, _, _, _, _⟩) (v := ?_) rfl (by kernel_rfl) (by kernel_rfl) (by kernel_rfl) (fun _ _ _ h => h) (Or.inl ⟨by rfl, ?_⟩) hHeld ?_
  rotate_left
  · intro ww hSw
    (try dsimp only at hSw)
    go_simp
    (try with_reducible rfl)
  simp only [Act.put, List.setIfInBounds_toArray, List.set_cons_zero, List.set_cons_succ]
  refine wpAnyH_take (i := 18) (oi := ⟨some 19, _, _, _, _, _⟩) (v := ?_) rfl (by kernel_rfl) (by kernel_rfl) (by kernel_rfl) (fun _ _ _ h => h) (Or.inl ⟨by rfl, ?_⟩) hHeld ?_
  rotate_left
  · intro ww hSw
    (try dsimp only at hSw)
    go_simp
    (try with_reducible rfl)
  simp only [Act.put, List.setIfInBounds_toArray, List.set_cons_zero, List.set_cons_succ]
  refine wpAnyH_take (i := 19) (oi := ⟨some 20, _, _, _, _, _⟩) (v := ?_) rfl (by kernel_rfl) (by kernel_rfl) (by kernel_rfl) (fun _ _ _ h => h) (Or.inl ⟨by rfl, ?_⟩) hHeld ?_
  rotate_left
  · intro ww hSw
    (try dsimp only at hSw)
    go_simp
    (try with_reducible rfl)
  simp only [Act.put, List.setIfInBounds_toArray, List.set_cons_zero, List.set_cons_succ]
  refine wpAnyH_take (i := 20) (oi := ⟨some 21, _, _, _, _, _⟩) (v := ?_) rfl (by kernel_rfl) (by kernel_rfl) (by kernel_rfl) (fun _ _ _ h => h) (Or.inl ⟨by rfl, ?_⟩) hHeld ?_
  rotate_left
  · intro ww hSw
    (try dsimp only at hSw)
    go_simp
    (try with_reducible rfl)
  simp only [Act.put, List.setIfInBounds_toArray, List.set_cons_zero, List.set_cons_succ]
  refine wpAnyH_take (i := 23) (oi := ⟨some 23, _, _, _, _, _⟩) (v := ?_) rfl (by kernel_rfl) (by kernel_rfl) (by kernel_rfl) (fun _ _ _ h => h) (Or.inl ⟨by rfl, ?_⟩) hHeld ?_
  rotate_left
  · intro ww hSw
    (try dsimp only at hSw)
    go_simp
    (try with_reducible rfl)
  simp only [Act.put, List.setIfInBounds_toArray, List.set_cons_zero, List.set_cons_succ]
  refine wpAnyH_take (i := 24) (oi := ⟨some 24, _, _, _, _, _⟩) (v := ?_) rfl (by kernel_rfl) (by kernel_rfl) (by kernel_rfl) (fun _ _ _ h => h) (Or.inl ⟨by rfl, ?_⟩) hHeld ?_
  rotate_left
  · intro ww hSw
    (try dsimp only at hSw)
    go_simp
    (try with_reducible rfl)
  simp only [Act.put, List.setIfInBounds_toArray, List.set_cons_zero, List.set_cons_succ]
  refine wpAnyH_take (i := 25) (oi := ⟨some 25, _, _, _, _, _⟩) (v := ?_) rfl (by kernel_rfl) (by kernel_rfl) (by kernel_rfl) (fun _ _ _ h => h) (Or.inl ⟨by rfl, ?_⟩) hHeld ?_
  rotate_left
  · intro ww hSw
    (try dsimp only at hSw)
    go_simp
    (try with_reducible rfl)
  simp only [Act.put, List.setIfInBounds_toArray, List.set_cons_zero, List.set_cons_succ]
  refine wpAnyH_lit (fuel' := 12) (l := #[false, false, false, true, true, true, true, true, true, true, true, true, true, true, true, true, true, true, true, true, true, false, false, true, true, true, false, false, false, false, false, false, false]) (by kernel_rfl) (by kernel_rfl) ?_
  refine wpAnyH_letters [3, 22, 26, 27, 2] [0, 1, 2, 21, 22, 26, 27, 28, 29, 30, 31, 32] (fun vs bs w => ∃ (v0 x y v31 v32 : Value) (b0 b1 b2 b21 b22 b26 b27 b28 b29 b30 b31 b32 : Bool), vs = [v0, x, y, v31, v32] ∧ bs = [b0, b1, b2, b21, b22, b26, b27, b28, b29, b30, b31, b32] ∧ OwnW W g v0 x y v31 v32 b0 b1 b2 b21 b22 b26 b27 b28 b29 b30 b31 b32 w) ?_ (by decide) [undef, undef, undef, undef, .map none] [false, false, false, false, false, false, false, false, false, false, false, false] rfl (by simp only [putsA, Act.put, List.setIfInBounds_toArray, List.set_cons_zero, List.set_cons_succ]) ⟨undef, undef, undef, undef, .map none, false, false, false, false, false, false, false, false, false, false, false, false, rfl, rfl, ⟨hHeld, (fun e => by cases e), (fun e => by cases e), (fun e => by cases e), (fun _ => rfl), (fun _ => rfl), (fun _ => ⟨rfl, rfl, rfl, rfl, rfl, rfl, rfl, rfl, rfl⟩), (fun e => by cases e), (fun e => by cases e)⟩⟩ ?_ ?_
  · rintro _ _ w ⟨_, _, _, _, _, _, _, _, _, _, _, _, _, _, _, _, _, rfl, rfl, h⟩
    exact h.bel
  · clear hHeld
    refine StepsFrom.cons (k := 0) ?_ ?_
    · rintro _ _ w ⟨_, _, rfl, rfl, v0, x, y, v31, v32, b0, b1, b2, b21, b22, b26, b27, b28, b29, b30, b31, b32, rfl, rfl, h⟩ hun hpre K hK
      simp only [setsB, List.setIfInBounds_toArray, List.set_cons_zero, List.set_cons_succ] at hpre hun
      have e0 : b0 = false := by simpa using hun
      subst e0
      clear hun hpre
      simp only [putsA, Act.put, List.setIfInBounds_toArray, List.set_cons_zero, List.set_cons_succ]
      go_simp
      refine hK.out _ _ ⟨_, _, ?_, ?_, (.map (some w.heap.size)), x, y, v31, v32, true, b1, b2, b21, b22, b26, b27, b28, b29, b30, b31, b32, rfl, rfl, h.s0⟩
      · simp only [setsB, List.setIfInBounds_toArray, List.set_cons_zero, List.set_cons_succ]
      · simp only [putsA, Act.put, List.setIfInBounds_toArray, List.set_cons_zero, List.set_cons_succ]
    refine StepsFrom.cons (k := 1) ?_ ?_
    · rintro _ _ w ⟨_, _, rfl, rfl, v0, x, y, v31, v32, b0, b1, b2, b21, b22, b26, b27, b28, b29, b30, b31, b32, rfl, rfl, h⟩ hun hpre K hK
      simp only [setsB, List.setIfInBounds_toArray, List.set_cons_zero, List.set_cons_succ] at hpre hun
      have e1 : b1 = false := by simpa using hun
      subst e1
      have p0 : b0 = true := hpre ⟨0, .data⟩ (by simp) rfl
      subst p0
      clear hun hpre
      refine h.s1 ?_
      intro m n f e0 hn hM hnext
      subst e0
      simp only [putsA, Act.put, List.setIfInBounds_toArray, List.set_cons_zero, List.set_cons_succ]
      rw [if_pos (by rfl)]
      refine wp_insert_map hM (by rfl) Tryz.underlying117 (by rfl) (by rfl) (by rfl) hn (by omega) (fun w' hM' hg => ?_)
      refine hK.out _ _ ⟨_, _, ?_, ?_, (.map (some m)), x, y, v31, v32, true, true, b2, b21, b22, b26, b27, b28, b29, b30, b31, b32, rfl, rfl, hnext w' hM' hg⟩
      · simp only [setsB, List.setIfInBounds_toArray, List.set_cons_zero, List.set_cons_succ]
      · simp only [putsA, Act.put, List.setIfInBounds_toArray, List.set_cons_zero, List.set_cons_succ]
    refine StepsFrom.cons (k := 2) ?_ ?_
    · rintro _ _ w ⟨_, _, rfl, rfl, v0, x, y, v31, v32, b0, b1, b2, b21, b22, b26, b27, b28, b29, b30, b31, b32, rfl, rfl, h⟩ hun hpre K hK
      simp only [setsB, List.setIfInBounds_toArray, List.set_cons_zero, List.set_cons_succ] at hpre hun
      have e2 : b2 = false := by simpa using hun
      subst e2
      have p0 : b0 = true := hpre ⟨0, .data⟩ (by simp) rfl
      subst p0
      clear hun hpre
      refine h.s2 ?_
      intro m n f e0 hn hM hnext
      subst e0
      simp only [putsA, Act.put, List.setIfInBounds_toArray, List.set_cons_zero, List.set_cons_succ]
      rw [if_pos (by rfl)]
      refine wp_insert_map hM (by rfl) Tryz.underlying117 (by rfl) (by rfl) (by rfl) hn (by omega) (fun w' hM' hg => ?_)
      refine hK.out _ _ ⟨_, _, ?_, ?_, (.map (some m)), x, y, v31, v32, true, b1, true, b21, b22, b26, b27, b28, b29, b30, b31, b32, rfl, rfl, hnext w' hM' hg⟩
      · simp only [setsB, List.setIfInBounds_toArray, List.set_cons_zero, List.set_cons_succ]
      · simp only [putsA, Act.put, List.setIfInBounds_toArray, List.set_cons_zero, List.set_cons_succ]
    refine StepsFrom.cons (k := 3) ?_ ?_
    · rintro _ _ w ⟨_, _, rfl, rfl, v0, x, y, v31, v32, b0, b1, b2, b21, b22, b26, b27, b28, b29, b30, b31, b32, rfl, rfl, h⟩ hun
      simp [setsB] at hun
    refine StepsFrom.cons (k := 4) ?_ ?_
    · rintro _ _ w ⟨_, _, rfl, rfl, v0, x, y, v31, v32, b0, b1, b2, b21, b22, b26, b27, b28, b29, b30, b31, b32, rfl, rfl, h⟩ hun
      simp [setsB] at hun
    refine StepsFrom.cons (k := 5) ?_ ?_
    · rintro _ _ w ⟨_, _, rfl, rfl, v0, x, y, v31, v32, b0, b1, b2, b21, b22, b26, b27, b28, b29, b30, b31, b32, rfl, rfl, h⟩ hun
      simp [setsB] at hun
    refine StepsFrom.cons (k := 6) ?_ ?_
    · rintro _ _ w ⟨_, _, rfl, rfl, v0, x, y, v31, v32, b0, b1, b2, b21, b22, b26, b27, b28, b29, b30, b31, b32, rfl, rfl, h⟩ hun
      simp [setsB] at hun
    refine StepsFrom.cons (k := 7) ?_ ?_
    · rintro _ _ w ⟨_, _, rfl, rfl, v0, x, y, v31, v32, b0, b1, b2, b21, b22, b26, b27, b28, b29, b30, b31, b32, rfl, rfl, h⟩ hun
      simp [setsB] at hun
    refine StepsFrom.cons (k := 8) ?_ ?_
    · rintro _ _ w ⟨_, _, rfl, rfl, v0, x, y, v31, v32, b0, b1, b2, b21, b22, b26, b27, b28, b29, b30, b31, b32, rfl, rfl, h⟩ hun
      simp [setsB] at hun
    refine StepsFrom.cons (k := 9) ?_ ?_
    · rintro _ _ w ⟨_, _, rfl, rfl, v0, x, y, v31, v32, b0, b1, b2, b21, b22, b26, b27, b28, b29, b30, b31, b32, rfl, rfl, h⟩ hun
      simp [setsB] at hun
    refine StepsFrom.cons (k := 10) ?_ ?_
    · rintro _ _ w ⟨_, _, rfl, rfl, v0, x, y, v31, v32, b0, b1, b2, b21, b22, b26, b27, b28, b29, b30, b31, b32, rfl, rfl, h⟩ hun
      simp [setsB] at hun
    refine StepsFrom.cons (k := 11) ?_ ?_
    · rintro _ _ w ⟨_, _, rfl, rfl, v0, x, y, v31, v32, b0, b1, b2, b21, b22, b26, b27, b28, b29, b30, b31, b32, rfl, rfl, h⟩ hun
      simp [setsB] at hun
    refine StepsFrom.cons (k := 12) ?_ ?_
    · rintro _ _ w ⟨_, _, rfl, rfl, v0, x, y, v31, v32, b0, b1, b2, b21, b22, b26, b27, b28, b29, b30, b31, b32, rfl, rfl, h⟩ hun
      simp [setsB] at hun
    refine StepsFrom.cons (k := 13) ?_ ?_
    · rintro _ _ w ⟨_, _, rfl, rfl, v0, x, y, v31, v32, b0, b1, b2, b21, b22, b26, b27, b28, b29, b30, b31, b32, rfl, rfl, h⟩ hun
      simp [setsB] at hun
    refine StepsFrom.cons (k := 14) ?_ ?_
    · rintro _ _ w ⟨_, _, rfl, rfl, v0, x, y, v31, v32, b0, b1, b2, b21, b22, b26, b27, b28, b29, b30, b31, b32, rfl, rfl, h⟩ hun
      simp [setsB] at hun
    refine StepsFrom.cons (k := 15) ?_ ?_
    · rintro _ _ w ⟨_, _, rfl, rfl, v0, x, y, v31, v32, b0, b1, b2, b21, b22, b26, b27, b28, b29, b30, b31, b32, rfl, rfl, h⟩ hun
      simp [setsB] at hun
    refine StepsFrom.cons (k := 16) ?_ ?_
    · rintro _ _ w ⟨_, _, rfl, rfl, v0, x, y, v31, v32, b0, b1, b2, b21, b22, b26, b27, b28, b29, b30, b31, b32, rfl, rfl, h⟩ hun
      simp [setsB] at hun
    refine StepsFrom.cons (k := 17) ?_ ?_
    · rintro _ _ w ⟨_, _, rfl, rfl, v0, x, y, v31, v32, b0, b1, b2, b21, b22, b26, b27, b28, b29, b30, b31, b32, rfl, rfl, h⟩ hun
      simp [setsB] at hun
    refine StepsFrom.cons (k := 18) ?_ ?_
    · rintro _ _ w ⟨_, _, rfl, rfl, v0, x, y, v31, v32, b0, b1, b2, b21, b22, b26, b27, b28, b29, b30, b31, b32, rfl, rfl, h⟩ hun
      simp [setsB] at hun
    refine StepsFrom.cons (k := 19) ?_ ?_
    · rintro _ _ w ⟨_, _, rfl, rfl, v0, x, y, v31, v32, b0, b1, b2, b21, b22, b26, b27, b28, b29, b30, b31, b32, rfl, rfl, h⟩ hun
      simp [setsB] at hun
    refine StepsFrom.cons (k := 20) ?_ ?_
    · rintro _ _ w ⟨_, _, rfl, rfl, v0, x, y, v31, v32, b0, b1, b2, b21, b22, b26, b27, b28, b29, b30, b31, b32, rfl, rfl, h⟩ hun
      simp [setsB] at hun
    refine StepsFrom.cons (k := 21) ?_ ?_
    · rintro _ _ w ⟨_, _, rfl, rfl, v0, x, y, v31, v32, b0, b1, b2, b21, b22, b26, b27, b28, b29, b30, b31, b32, rfl, rfl, h⟩ hun hpre K hK
      simp only [setsB, List.setIfInBounds_toArray, List.set_cons_zero, List.set_cons_succ] at hpre hun
      have e21 : b21 = false := by simpa using hun
      subst e21
      clear hun hpre
      simp only [putsA, Act.put, List.setIfInBounds_toArray, List.set_cons_zero, List.set_cons_succ]
      go_simp
      refine hK.out _ _ ⟨_, _, ?_, ?_, v0, (.slice (some ⟨w.heap.size, 0, none⟩) 6 6), y, v31, v32, b0, b1, b2, true, b22, b26, b27, b28, b29, b30, b31, b32, rfl, rfl, h.s21⟩
      · simp only [setsB, List.setIfInBounds_toArray, List.set_cons_zero, List.set_cons_succ]
      · simp only [putsA, Act.put, List.setIfInBounds_toArray, List.set_cons_zero, List.set_cons_succ]
    refine StepsFrom.cons (k := 22) ?_ ?_
    · rintro _ _ w ⟨_, _, rfl, rfl, v0, x, y, v31, v32, b0, b1, b2, b21, b22, b26, b27, b28, b29, b30, b31, b32, rfl, rfl, h⟩ hun hpre K hK
      simp only [setsB, List.setIfInBounds_toArray, List.set_cons_zero, List.set_cons_succ] at hpre hun
      have e22 : b22 = false := by simpa using hun
      subst e22
      have p0 : b0 = true := hpre ⟨0, .data⟩ (by simp) rfl
      subst p0
      have p21 : b21 = true := hpre ⟨21, .data⟩ (by simp) rfl
      subst p21
      clear hun hpre
      refine h.s22 ?_
      intro m n f e0 hn hM hnext
      subst e0
      simp only [putsA, Act.put, List.setIfInBounds_toArray, List.set_cons_zero, List.set_cons_succ]
      rw [if_pos (by rfl)]
      refine wp_insert_map hM (by rfl) Tryz.underlying117 (by rfl) (by rfl) (by rfl) hn (by omega) (fun w' hM' hg => ?_)
      refine hK.out _ _ ⟨_, _, ?_, ?_, (.map (some m)), x, y, v31, v32, true, b1, b2, true, true, b26, b27, b28, b29, b30, b31, b32, rfl, rfl, hnext w' hM' hg⟩
      · simp only [setsB, List.setIfInBounds_toArray, List.set_cons_zero, List.set_cons_succ]
      · simp only [putsA, Act.put, List.setIfInBounds_toArray, List.set_cons_zero, List.set_cons_succ]
    refine StepsFrom.cons (k := 23) ?_ ?_
    · rintro _ _ w ⟨_, _, rfl, rfl, v0, x, y, v31, v32, b0, b1, b2, b21, b22, b26, b27, b28, b29, b30, b31, b32, rfl, rfl, h⟩ hun
      simp [setsB] at hun
    refine StepsFrom.cons (k := 24) ?_ ?_
    · rintro _ _ w ⟨_, _, rfl, rfl, v0, x, y, v31, v32, b0, b1, b2, b21, b22, b26, b27, b28, b29, b30, b31, b32, rfl, rfl, h⟩ hun
      simp [setsB] at hun
    refine StepsFrom.cons (k := 25) ?_ ?_
    · rintro _ _ w ⟨_, _, rfl, rfl, v0, x, y, v31, v32, b0, b1, b2, b21, b22, b26, b27, b28, b29, b30, b31, b32, rfl, rfl, h⟩ hun
      simp [setsB] at hun
    refine StepsFrom.cons (k := 26) ?_ ?_
    · rintro _ _ w ⟨_, _, rfl, rfl, v0, x, y, v31, v32, b0, b1, b2, b21, b22, b26, b27, b28, b29, b30, b31, b32, rfl, rfl, h⟩ hun hpre K hK
      simp only [setsB, List.setIfInBounds_toArray, List.set_cons_zero, List.set_cons_succ] at hpre hun
      have e26 : b26 = false := by simpa using hun
      subst e26
      clear hun hpre
      simp only [putsA, Act.put, List.setIfInBounds_toArray, List.set_cons_zero, List.set_cons_succ]
      go_simp
      refine hK.out _ _ ⟨_, _, ?_, ?_, v0, x, (.slice (some ⟨w.heap.size, 0, none⟩) 1 1), v31, v32, b0, b1, b2, b21, b22, true, b27, b28, b29, b30, b31, b32, rfl, rfl, h.s26⟩
      · simp only [setsB, List.setIfInBounds_toArray, List.set_cons_zero, List.set_cons_succ]
      · simp only [putsA, Act.put, List.setIfInBounds_toArray, List.set_cons_zero, List.set_cons_succ]
    refine StepsFrom.cons (k := 27) ?_ ?_
    · rintro _ _ w ⟨_, _, rfl, rfl, v0, x, y, v31, v32, b0, b1, b2, b21, b22, b26, b27, b28, b29, b30, b31, b32, rfl, rfl, h⟩ hun hpre K hK
      simp only [setsB, List.setIfInBounds_toArray, List.set_cons_zero, List.set_cons_succ] at hpre hun
      have e27 : b27 = false := by simpa using hun
      subst e27
      have p0 : b0 = true := hpre ⟨0, .data⟩ (by simp) rfl
      subst p0
      have p26 : b26 = true := hpre ⟨26, .data⟩ (by simp) rfl
      subst p26
      clear hun hpre
      refine h.s27 ?_
      intro m n f e0 hn hM hnext
      subst e0
      simp only [putsA, Act.put, List.setIfInBounds_toArray, List.set_cons_zero, List.set_cons_succ]
      rw [if_pos (by rfl)]
      refine wp_insert_map hM (by rfl) Tryz.underlying117 (by rfl) (by rfl) (by rfl) hn (by omega) (fun w' hM' hg => ?_)
      refine hK.out _ _ ⟨_, _, ?_, ?_, (.map (some m)), x, y, v31, v32, true, b1, b2, b21, b22, true, true, b28, b29, b30, b31, b32, rfl, rfl, hnext w' hM' hg⟩
      · simp only [setsB, List.setIfInBounds_toArray, List.set_cons_zero, List.set_cons_succ]
      · simp only [putsA, Act.put, List.setIfInBounds_toArray, List.set_cons_zero, List.set_cons_succ]
    refine StepsFrom.cons (k := 28) ?_ ?_
    · rintro _ _ w ⟨_, _, rfl, rfl, v0, x, y, v31, v32, b0, b1, b2, b21, b22, b26, b27, b28, b29, b30, b31, b32, rfl, rfl, h⟩ hun hpre K hK
      simp only [setsB, List.setIfInBounds_toArray, List.set_cons_zero, List.set_cons_succ] at hpre hun
      have e28 : b28 = false := by simpa using hun
      subst e28
      have p0 : b0 = true := hpre ⟨0, .data⟩ (by simp) rfl
      subst p0
      clear hun hpre
      refine h.s28 ?_
      intro m n f e0 hn hM hnext
      subst e0
      simp only [putsA, Act.put, List.setIfInBounds_toArray, List.set_cons_zero, List.set_cons_succ]
      rw [if_pos (by rfl)]
      refine wp_insert_map hM (by rfl) Tryz.underlying117 (by rfl) (by rfl) (by rfl) hn (by omega) (fun w' hM' hg => ?_)
      refine hK.out _ _ ⟨_, _, ?_, ?_, (.map (some m)), x, y, v31, v32, true, b1, b2, b21, b22, b26, b27, true, b29, b30, b31, b32, rfl, rfl, hnext w' hM' hg⟩
      · simp only [setsB, List.setIfInBounds_toArray, List.set_cons_zero, List.set_cons_succ]
      · simp only [putsA, Act.put, List.setIfInBounds_toArray, List.set_cons_zero, List.set_cons_succ]
    refine StepsFrom.cons (k := 29) ?_ ?_
    · rintro _ _ w ⟨_, _, rfl, rfl, v0, x, y, v31, v32, b0, b1, b2, b21, b22, b26, b27, b28, b29, b30, b31, b32, rfl, rfl, h⟩ hun hpre K hK
      simp only [setsB, List.setIfInBounds_toArray, List.set_cons_zero, List.set_cons_succ] at hpre hun
      have e29 : b29 = false := by simpa using hun
      subst e29
      have p0 : b0 = true := hpre ⟨0, .data⟩ (by simp) rfl
      subst p0
      clear hun hpre
      refine h.s29 ?_
      intro m n f e0 hn hM hnext
      subst e0
      simp only [putsA, Act.put, List.setIfInBounds_toArray, List.set_cons_zero, List.set_cons_succ]
      rw [if_pos (by rfl)]
      refine wp_insert_map hM (by rfl) Tryz.underlying117 (by rfl) (by rfl) (by rfl) hn (by omega) (fun w' hM' hg => ?_)
      refine hK.out _ _ ⟨_, _, ?_, ?_, (.map (some m)), x, y, v31, v32, true, b1, b2, b21, b22, b26, b27, b28, true, b30, b31, b32, rfl, rfl, hnext w' hM' hg⟩
      · simp only [setsB, List.setIfInBounds_toArray, List.set_cons_zero, List.set_cons_succ]
      · simp only [putsA, Act.put, List.setIfInBounds_toArray, List.set_cons_zero, List.set_cons_succ]
    refine StepsFrom.cons (k := 30) ?_ ?_
    · rintro _ _ w ⟨_, _, rfl, rfl, v0, x, y, v31, v32, b0, b1, b2, b21, b22, b26, b27, b28, b29, b30, b31, b32, rfl, rfl, h⟩ hun hpre K hK
      simp only [setsB, List.setIfInBounds_toArray, List.set_cons_zero, List.set_cons_succ] at hpre hun
      have e30 : b30 = false := by simpa using hun
      subst e30
      have p0 : b0 = true := hpre ⟨0, .data⟩ (by simp) rfl
      subst p0
      clear hun hpre
      refine h.s30 ?_
      intro m n f e0 hn hM hnext
      subst e0
      simp only [putsA, Act.put, List.setIfInBounds_toArray, List.set_cons_zero, List.set_cons_succ]
      rw [if_pos (by rfl)]
      refine wp_insert_map hM (by rfl) Tryz.underlying117 (by rfl) (by rfl) (by rfl) hn (by omega) (fun w' hM' hg => ?_)
      refine hK.out _ _ ⟨_, _, ?_, ?_, (.map (some m)), x, y, v31, v32, true, b1, b2, b21, b22, b26, b27, b28, b29, true, b31, b32, rfl, rfl, hnext w' hM' hg⟩
      · simp only [setsB, List.setIfInBounds_toArray, List.set_cons_zero, List.set_cons_succ]
      · simp only [putsA, Act.put, List.setIfInBounds_toArray, List.set_cons_zero, List.set_cons_succ]
    refine StepsFrom.cons (k := 31) ?_ ?_
    · rintro _ _ w ⟨_, _, rfl, rfl, v0, x, y, v31, v32, b0, b1, b2, b21, b22, b26, b27, b28, b29, b30, b31, b32, rfl, rfl, h⟩ hun hpre K hK
      simp only [setsB, List.setIfInBounds_toArray, List.set_cons_zero, List.set_cons_succ] at hpre hun
      have e31 : b31 = false := by simpa using hun
      subst e31
      have p0 : b0 = true := hpre ⟨0, .data⟩ (by simp) rfl
      subst p0
      have p1 : b1 = true := hpre ⟨1, .data⟩ (by simp) rfl
      subst p1
      have p2 : b2 = true := hpre ⟨2, .data⟩ (by simp) rfl
      subst p2
      have p21 : b21 = true := hpre ⟨21, .data⟩ (by simp) rfl
      subst p21
      have p22 : b22 = true := hpre ⟨22, .data⟩ (by simp) rfl
      subst p22
      have p26 : b26 = true := hpre ⟨26, .data⟩ (by simp) rfl
      subst p26
      have p27 : b27 = true := hpre ⟨27, .data⟩ (by simp) rfl
      subst p27
      have p28 : b28 = true := hpre ⟨28, .data⟩ (by simp) rfl
      subst p28
      have p29 : b29 = true := hpre ⟨29, .data⟩ (by simp) rfl
      subst p29
      have p30 : b30 = true := hpre ⟨30, .data⟩ (by simp) rfl
      subst p30
      clear hun hpre
      simp only [putsA, Act.put, List.setIfInBounds_toArray, List.set_cons_zero, List.set_cons_succ]
      go_simp
      refine hK.out _ _ ⟨_, _, ?_, ?_, v0, x, y, v0, v32, true, true, true, true, true, true, true, true, true, true, true, b32, rfl, rfl, h.s31⟩
      · simp only [setsB, List.setIfInBounds_toArray, List.set_cons_zero, List.set_cons_succ]
      · simp only [putsA, Act.put, List.setIfInBounds_toArray, List.set_cons_zero, List.set_cons_succ]
    refine StepsFrom.cons (k := 32) ?_ ?_
    · rintro _ _ w ⟨_, _, rfl, rfl, v0, x, y, v31, v32, b0, b1, b2, b21, b22, b26, b27, b28, b29, b30, b31, b32, rfl, rfl, h⟩ hun hpre K hK
      simp only [setsB, List.setIfInBounds_toArray, List.set_cons_zero, List.set_cons_succ] at hpre hun
      have e32 : b32 = false := by simpa using hun
      subst e32
      have p0 : b0 = true := hpre ⟨0, .phase⟩ (by simp) rfl
      subst p0
      have p1 : b1 = true := hpre ⟨1, .phase⟩ (by simp) rfl
      subst p1
      have p2 : b2 = true := hpre ⟨2, .phase⟩ (by simp) rfl
      subst p2
      have p21 : b21 = true := hpre ⟨21, .phase⟩ (by simp) rfl
      subst p21
      have p22 : b22 = true := hpre ⟨22, .phase⟩ (by simp) rfl
      subst p22
      have p26 : b26 = true := hpre ⟨26, .phase⟩ (by simp) rfl
      subst p26
      have p27 : b27 = true := hpre ⟨27, .phase⟩ (by simp) rfl
      subst p27
      have p28 : b28 = true := hpre ⟨28, .phase⟩ (by simp) rfl
      subst p28
      have p29 : b29 = true := hpre ⟨29, .phase⟩ (by simp) rfl
      subst p29
      have p30 : b30 = true := hpre ⟨30, .phase⟩ (by simp) rfl
      subst p30
      have p31 : b31 = true := hpre ⟨31, .data⟩ (by simp) rfl
      subst p31
      clear hun hpre
      simp only [putsA, Act.put, List.setIfInBounds_toArray, List.set_cons_zero, List.set_cons_succ]
      go_simp
      refine hK.out _ _ ⟨_, _, ?_, ?_, v0, x, y, v31, v31, true, true, true, true, true, true, true, true, true, true, true, true, rfl, rfl, h.s32⟩
      · simp only [setsB, List.setIfInBounds_toArray, List.set_cons_zero, List.set_cons_succ]
      · simp only [putsA, Act.put, List.setIfInBounds_toArray, List.set_cons_zero, List.set_cons_succ]
    exact StepsFrom.nil
  clear hHeld
  rintro _ _ w ⟨_, _, rfl, rfl, v0, x, y, v31, v32, b0, b1, b2, b21, b22, b26, b27, b28, b29, b30, b31, b32, rfl, rfl, h⟩ hr
  simp only [setsB, List.setIfInBounds_toArray, List.set_cons_zero, List.set_cons_succ] at hr
  have u0 : b0 = true := all_up hr 0 rfl (by simp [Region.binds])
  subst u0
  have u1 : b1 = true := all_up hr 1 rfl (by simp [Region.binds])
  subst u1
  have u2 : b2 = true := all_up hr 2 rfl (by simp [Region.binds])
  subst u2
  have u21 : b21 = true := all_up hr 21 rfl (by simp [Region.binds])
  subst u21
  have u22 : b22 = true := all_up hr 22 rfl (by simp [Region.binds])
  subst u22
  have u26 : b26 = true := all_up hr 26 rfl (by simp [Region.binds])
  subst u26
  have u27 : b27 = true := all_up hr 27 rfl (by simp [Region.binds])
  subst u27
  have u28 : b28 = true := all_up hr 28 rfl (by simp [Region.binds])
  subst u28
  have u29 : b29 = true := all_up hr 29 rfl (by simp [Region.binds])
  subst u29
  have u30 : b30 = true := all_up hr 30 rfl (by simp [Region.binds])
  subst u30
  have u31 : b31 = true := all_up hr 31 rfl (by simp [Region.binds])
  subst u31
  have u32 : b32 = true := all_up hr 32 rfl (by simp [Region.binds])
  subst u32
  have ho := h.out
  clear hr h
  simp only [putsA, Act.put, List.setIfInBounds_toArray, List.set_cons_zero, List.set_cons_succ]
  refine NoPanic.normal ?_
  go_wp2
  go_ret
  exact ho

end Go.Proofs.YtpgncbhahocmbaaGreat
