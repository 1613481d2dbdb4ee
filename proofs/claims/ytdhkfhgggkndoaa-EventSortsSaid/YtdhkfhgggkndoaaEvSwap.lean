/-
  The library's exchanges of parts, at events: swapRangeCmpFunc, rotateCmpFunc.
-/
import Derived.Test.YtdhkfhgggkndoaaEvSrtB
import Derived.Test.YtdhkfhgggkndoaaEvMrgC
import Derived.Sort.WalkB2
import Derived.Sort.WalkB12
import Derived.Deep.LoopGhost
import Derived.Lib.Hide
namespace Go.Proofs.Ytdhkfhgggkndoaa
open Go.RowKit Go.Sort
set_option linter.unusedVariables false
set_option linter.unusedSimpArgs false
set_option maxRecDepth 1000000

theorem swk_size {w0 w : World} {g : Nat} {d : Array EvP} {l : List EvP} (h : d.toList = l) : d.size = l.length := by rw [← h]; simp
set_option maxHeartbeats 4000000 in
theorem swaprange_any (k : Nat) (hk : k = 11) (g cap a b n N : Nat) (P X Y Z T : List EvP) (d0 d : Array EvP) (w0 w : World) (R : RowK encE k w0 g 0 d0) (hs : d0.size = N) (hd : d.toList = P ++ (X ++ (Y ++ (Z ++ T)))) (hP : P.length = a) (hX : X.length = n) (hb : a + n + Y.length = b) (hZ : Z.length = n)
    (hN : d.size = N) (hsz : N ≤ 1000000) (S : SWK encE k w0 g 0 d w) :
    Calls Try.prog 118 #[.slice (some ⟨g, 0, none⟩) N cap, .int .i64 a, .int .i64 b, .int .i64 n, cmpV] w fun e w' => e = .returned (.tuple #[]) ∧ ∃ d' : Array EvP, d'.toList = P ++ (Z ++ (Y ++ (X ++ T))) ∧ SWK encE k w0 g 0 d' w' := by
  have mixed : Try.prog.follows .mixedOrders = true := by kernel_rfl
  have aE := Try.isAgg43
  have zE : ∀ w, (Go.sizeOf 43).run Try.prog w = .ok k w := fun w => by rw [hk]; exact Try.sizeOf43 w
  have HK := Lib.hid hk
  have S0 := Lib.hid S
  have HD := Lib.hid hd
  have hN2 := hN
  rw [swk_size (w0 := w0) (w := w) (g := g) hd] at hN2
  simp only [List.length_append] at hN2
  clear S hd hk
  generalize cmpV = cv at *
  go_enter Try.func118, Try.ntmps118
  go_wp2
  go_loopg [10] n (fun kx s10 wr => ∃ (i : Nat) (X1 X2 Z1 Z2 : List EvP) (dk : Array EvP), s10 = .int .i64 i ∧ i + kx = n ∧ Hid (X = X1 ++ X2) ∧ Hid (Z = Z1 ++ Z2) ∧ X1.length = i ∧ Z1.length = i ∧ dk.size = N ∧ Hid (dk.toList = P ++ (Z1 ++ (X2 ++ (Y ++ (X1 ++ (Z2 ++ T)))))) ∧ Hid (SWK encE k w0 g 0 dk wr))
  case atStart => exact ⟨0, [], X, [], Z, d, rfl, by omega, rfl, rfl, rfl, rfl, hN, HD, S0⟩
  case round =>
    clear S0 HD
    obtain ⟨i, X1, X2, Z1, Z2, dk, rfl, hi, HX, HZ, hX1, hZ1, hdk, HD, S1⟩ := hrel
    have lX := congrArg List.length HX.out
    have lZ := congrArg List.length HZ.out
    rw [List.length_append] at lX lZ
    by_cases hlt : i < n
    · have hlt2 : (i : Int) < (n : Int) := by omega
      obtain ⟨x, X2', rfl⟩ := cut_head X2 (by omega)
      obtain ⟨z, Z2', rfl⟩ := cut_head Z2 (by omega)
      rw [List.length_cons] at lX lZ
      have hd2 : dk.toList = (P ++ Z1) ++ x :: ((X2' ++ (Y ++ X1)) ++ z :: (Z2' ++ T)) := by rw [HD.out]; simp
      obtain ⟨k1, -, p1, p2⟩ := swp_parts (p := a + i) (q := b + i) hd2 (by rw [List.length_append]; omega) (by simp only [List.length_append]; omega)
      have K1 := Lib.hid k1
      clear k1 hd2 HD
      have ea44 : ((a : Int) + (i : Int)).toNat = a + i := by omega
      have pa44 : (0 : Int) ≤ (a : Int) + (i : Int) := by omega
      have ba44 : (a : Int) + (i : Int) < (N : Int) := by omega
      have ra44 : IntKind.i64.wrap ((a : Int) + (i : Int)) = (a : Int) + (i : Int) := by rw [IntKind.wrap_i64]; omega
      have ec44 : ((b : Int) + (i : Int)).toNat = b + i := by omega
      have pc44 : (0 : Int) ≤ (b : Int) + (i : Int) := by omega
      have bc44 : (b : Int) + (i : Int) < (N : Int) := by omega
      have rc44 : IntKind.i64.wrap ((b : Int) + (i : Int)) = (b : Int) + (i : Int) := by rw [IntKind.wrap_i64]; omega
      go_wp2_with fail
      have S2 := Lib.hid (S1.out.swapped R (a + i) (b + i) (by omega) (by omega))
      have l44a := S1.out.ld1 R (by omega) Try.prog (a + i) (by omega)
      have l44b := S1.out.ld1 R (by omega) Try.prog (b + i) (by omega)
      have s44a := S1.out.st1 R (by omega) Try.prog (a + i) (by omega) dk[b + i]!
      have s44b := S1.out.st2 R (by omega) Try.prog (a + i) (b + i) (by omega) (by omega) dk[b + i]! dk[a + i]!
      have n44a : (encE dk[a + i]!).length = k := R.hk _
      have n44b : (encE dk[b + i]!).length = k := R.hk _
      generalize encE dk[a + i]! = cI44 at S2 l44a s44b n44a
      generalize encE dk[b + i]! = cJ44 at S2 l44b s44a s44b n44b
      clear S1
      simp only [Nat.zero_add] at S2 l44a l44b s44a s44b
      go_wp2_with fail
      go_big_region_o
      clear l44a l44b s44a s44b
      generalize (wr.drew.setCells g ((a + i) * k) cJ44).setCells g ((b + i) * k) cI44 = w2 at S2 ⊢
      have hsz2 : (swp dk (a + i) (b + i)).size = N := by rw [size_swp]; exact hdk
      go_wp2
      go_roundg (n - (i + 1))
      case measure => omega
      case rel => exact ⟨i + 1, X1 ++ [x], X2', Z1 ++ [z], Z2', _, by simp, by omega, Lib.hid (by rw [HX.out]; simp), Lib.hid (by rw [HZ.out]; simp), by simp; omega, by simp; omega, hsz2, Lib.hid (by rw [K1.out]; simp), S2⟩
    · have hlt2 : ¬ (i : Int) < (n : Int) := by omega
      have e1 : X2 = [] := List.length_eq_zero_iff.1 (by omega)
      have e2 : Z2 = [] := List.length_eq_zero_iff.1 (by omega)
      subst e1 e2
      have hfin := HD.out
      simp only [List.nil_append] at hfin
      have eX := HX.out
      have eZ := HZ.out
      rw [List.append_nil] at eX eZ
      rw [← eX, ← eZ] at hfin
      clear HX HZ HD eX eZ
      go_wp2
      go_end0
      exact ⟨rfl, dk, hfin, S1.out⟩
set_option maxHeartbeats 4000000 in
theorem rotate_any (k : Nat) (hk : k = 11) (g cap a m b N : Nat) (P X Y T : List EvP) (d0 d : Array EvP) (w0 w : World) (R : RowK encE k w0 g 0 d0) (hs : d0.size = N) (hd : d.toList = P ++ (X ++ (Y ++ T))) (hP : P.length = a) (hX : a + X.length = m) (hY : m + Y.length = b) (hX0 : 0 < X.length) (hY0 : 0 < Y.length)
    (hN : d.size = N) (hsz : N ≤ 1000000) (S : SWK encE k w0 g 0 d w) :
    Calls Try.prog 116 #[.slice (some ⟨g, 0, none⟩) N cap, .int .i64 a, .int .i64 m, .int .i64 b, cmpV] w fun e w' => e = .returned (.tuple #[]) ∧ ∃ d' : Array EvP, d'.toList = P ++ (Y ++ (X ++ T)) ∧ SWK encE k w0 g 0 d' w' := by
  have S0 := Lib.hid S
  have HD := Lib.hid hd
  have HR := Lib.hid R
  have HS := Lib.hid hs
  have HK := Lib.hid hk
  have hN2 := hN
  rw [swk_size (w0 := w0) (w := w) (g := g) hd] at hN2
  simp only [List.length_append] at hN2
  have e1 : (m : Int) - (a : Int) = (X.length : Int) := by omega
  have e2 : (b : Int) - (m : Int) = (Y.length : Int) := by omega
  obtain ⟨F, hF⟩ : ∃ F, P ++ (Y ++ (X ++ T)) = F := ⟨_, rfl⟩
  rw [hF]
  have HF := Lib.hid hF
  clear S hd R hs hk hF
  have HSW := Lib.hid (fun (n a b : Nat) (P X Y Z T : List EvP) (d : Array EvP) (w : World) hd hP hX hb hZ hN S => swaprange_any k HK.out g cap a b n N P X Y Z T d0 d w0 w HR.out HS.out hd hP hX hb hZ hN hsz S)
  generalize cmpV = cv at *
  generalize hx : X.length = x at *
  generalize hy : Y.length = y at *
  go_enter Try.func116, Try.ntmps116
  go_wp2
  go_loopg [10, 11] (x + y) (fun kx s10 s11 wr => ∃ (i j : Nat) (P' X' Y' T' : List EvP) (dk : Array EvP), s10 = .int .i64 i ∧ s11 = .int .i64 j ∧ i + j = kx ∧ 0 < i ∧ 0 < j ∧ X'.length = i ∧ Y'.length = j ∧ P'.length + i = m ∧ m + j + T'.length = N ∧ dk.size = N ∧ Hid (dk.toList = P' ++ (X' ++ (Y' ++ T'))) ∧ Hid (P' ++ (Y' ++ (X' ++ T')) = F) ∧ Hid (SWK encE k w0 g 0 dk wr))
  case atStart => exact ⟨x, y, P, X, Y, T, d, rfl, rfl, rfl, hX0, hY0, hx, hy, by omega, by omega, hN, HD, HF, S0⟩
  case round =>
    clear S0 HD HF
    obtain ⟨i, j, P', X', Y', T', dk, rfl, rfl, hkx, hi0, hj0, hX1, hY1, hP1, hT1, hdk, HD, HF, S1⟩ := hrel
    have ep : (m : Int) - (i : Int) = ((P'.length : Nat) : Int) := by omega
    by_cases hij : i = j
    · subst hij
      have hcall := HSW.out i P'.length m P' X' [] Y' T' dk wr (by rw [HD.out]; simp) rfl hX1 (by simp; omega) hY1 hdk S1.out
      rw [← ep] at hcall
      have HC := Lib.hid hcall
      clear hcall ep
      go_wp2_with fail
      refine HC.out.mono ?_
      rintro e w5 ⟨rfl, d5, h5, S5⟩
      go_wp2
      go_end0
      exact ⟨rfl, d5, by rw [h5, ← HF.out]; simp, S5⟩
    · have hne : ¬ (i : Int) = (j : Int) := by omega
      by_cases hgt : j < i
      · have hgt2 : (j : Int) < (i : Int) := by omega
        obtain ⟨X1, X2, rfl, hl1⟩ := cut_at X' j (by omega)
        rw [List.length_append] at hX1
        have hcall := HSW.out j P'.length m P' X1 X2 Y' T' dk wr (by rw [HD.out]; simp) rfl hl1 (by omega) hY1 hdk S1.out
        rw [← ep] at hcall
        have HC := Lib.hid hcall
        have ed : (i : Int) - (j : Int) = ((i - j : Nat) : Int) := by omega
        clear hcall ep
        go_wp2_with fail
        refine HC.out.mono ?_
        rintro e w5 ⟨rfl, d5, h5, S5⟩
        go_wp2
        have hsz5 : d5.size = N := by rw [swk_size (w0 := w0) (w := w) (g := g) h5]; simp only [List.length_append]; omega
        go_roundg (i - j + j)
        case measure => omega
        case rel => exact ⟨i - j, j, P' ++ Y', X2, X1, T', d5, rfl, rfl, rfl, by omega, hj0, by omega, hl1, by rw [List.length_append]; omega, hT1, hsz5, Lib.hid (by rw [h5] <;> simp), Lib.hid (by rw [← HF.out] <;> simp), Lib.hid S5⟩
      · have hgt2 : ¬ (j : Int) < (i : Int) := by omega
        obtain ⟨Y1, Y2, rfl, hl1⟩ := cut_at Y' (j - i) (by omega)
        rw [List.length_append] at hY1
        have ep2 : (m : Int) + (j : Int) - (i : Int) = ((m + j - i : Nat) : Int) := by omega
        have hcall := HSW.out i P'.length (m + j - i) P' X' Y1 Y2 T' dk wr (by rw [HD.out]; simp) rfl hX1 (by omega) (by omega) hdk S1.out
        rw [← ep, ← ep2] at hcall
        have HC := Lib.hid hcall
        have ed : (j : Int) - (i : Int) = ((j - i : Nat) : Int) := by omega
        clear hcall ep ep2
        go_wp2_with fail
        refine HC.out.mono ?_
        rintro e w5 ⟨rfl, d5, h5, S5⟩
        go_wp2
        have hsz5 : d5.size = N := by rw [swk_size (w0 := w0) (w := w) (g := g) h5]; simp only [List.length_append]; omega
        go_roundg (i + (j - i))
        case measure => omega
        case rel => exact ⟨i, j - i, P', Y2, Y1, X' ++ T', d5, rfl, rfl, rfl, hi0, by omega, by omega, by omega, hP1, by rw [List.length_append]; omega, hsz5, Lib.hid (by rw [h5] <;> simp), Lib.hid (by rw [← HF.out] <;> simp), Lib.hid S5⟩
end Go.Proofs.Ytdhkfhgggkndoaa
