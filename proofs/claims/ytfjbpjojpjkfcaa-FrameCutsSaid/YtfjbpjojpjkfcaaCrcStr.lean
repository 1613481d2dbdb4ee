/-
  Bytes turned into a text, and arguments of bytes opened.
-/
import Derived.Test.YtfjbpjojpjkfcaaCrcAwake
import Derived.Test.YtfjbpjojpjkfcaaByOpen
import Derived.Laws.BytesArg
import Derived.Test.YtfjbpjojpjkfcaaOrders
import Derived.OpenShut
import Derived.Laws.Cover1
namespace Go.Proofs.Ytfjbpjojpjkfcaa
open Go.RowKit
set_option linter.unusedVariables false

def strB (l : List (BitVec 8)) : ByteArray := strOfNums (l.map fun b => (b.toNat : Int))
theorem strB_inj {l r : List (BitVec 8)} (h : strB l = strB r) : l = r := by
  have h1 := congrArg (fun s : ByteArray => s.data.toList) h
  simp only [strB, strOfNums_data, List.map_map] at h1
  have hf : ∀ a b : BitVec 8, UInt8.ofNat ((a.toNat : Int)).toNat = UInt8.ofNat ((b.toNat : Int)).toNat → a = b := by
    intro a b e
    have e2 := congrArg UInt8.toNat e
    simp only [Int.toNat_natCast, UInt8.toNat_ofNat'] at e2
    have ha := a.isLt
    have hb := b.isLt
    apply BitVec.eq_of_toNat_eq
    omega
  clear h
  induction l generalizing r with
  | nil => cases r with
    | nil => rfl
    | cons _ _ => simp at h1
  | cons x l ih => cases r with
    | nil => simp at h1
    | cons y r =>
      simp only [List.map_cons, List.cons.injEq] at h1
      rw [hf x y h1.1, ih h1.2]
theorem conv_str {w : World} {A : Option Addr} {n c : Nat} {l : List (BitVec 8)} (h : Byts w A l) (hn : l.length = n) (h0 : 0 < n) :
    (convert 22 9 (.slice A n c)).run Try.prog w = .ok (.string (strB l)) w := by
  obtain ⟨b, off, rfl, _⟩ := h 0 (by omega)
  refine run_convert_bytes_arg w 22 5 Try.underlying22 Try.underlying5 b off n c _ (by simpa using hn) (fun i hi => ?_) 9 Try.underlying9
  obtain ⟨b', off', e, hc⟩ := h i (by omega)
  injection e with e
  injection e with e1 e2 _
  subst e1 e2
  rw [hc]
  simp [List.getD, show i < l.length by omega]

theorem b4_size (n : BitVec 32) : (bytesV (bytesB n)).toArray.size = 4 := rfl
theorem b4_one (n : BitVec 32) : ((bytesV (bytesB n)).toArray).all (·.oneCell') = true := by
  rw [← arr4_all]; exact arr4_one n 4
theorem b4_info (n : BitVec 32) : (Try.prog.info? 43).map (·.size) = some (bytesV (bytesB n)).toArray.size := by rw [b4_size]; kernel_rfl
def z4 : Array Value := #[.int .u8 0, .int .u8 0, .int .u8 0, .int .u8 0]
/-- The world behind 'w := crc.Bytes(n)'. -/
def laid4 (w : World) (n : BitVec 32) : World := (w.alloc (.cells z4 43)).setRow w.heap.size (bytesV (bytesB n)).toArray
theorem laid4_has (w : World) (n : BitVec 32) : Has (laid4 w n) w.heap.size (bytesV (bytesB n)).toArray := ⟨_, setRow_heap _ _ _ _ _ _ (heap_alloc_new w _)⟩
theorem laid4_below {a w : World} (n : BitVec 32) (h : Below a.heap.size a w) : Below a.heap.size a (laid4 w n) := below_setRow (bel_alloc h _) h.size _
theorem laid4_size (w : World) (n : BitVec 32) : (laid4 w n).heap.size = w.heap.size + 1 := by simp [laid4]
theorem wpList_laid4 {ops : Array Oper} {rest : List Oper} {o : Oper} {a : Act} {w : World} {Q : Exit → Act → World → Prop} (n : BitVec 32) (x y : Operand) (hgd : o.guard = none) (ho : o.op = .store 43 x y)
    (hd : o.dst = none) (hx : a.eval x = .pointer (some ⟨w.heap.size, 0, none⟩)) (hy : a.eval y = .agg (bytesV (bytesB n)).toArray)
    (h : wpList Try.prog ops Q rest a (laid4 w n)) : wpList Try.prog ops Q (o :: rest) a (w.alloc (.cells z4 43)) := by
  refine wpList_store_row hgd 43 x y ho w.heap.size _ hx hy 43 z4 (heap_alloc_new w _) (b4_info n) rfl (b4_one n) ?_
  rw [hd]
  exact h

def triB (a b c : List (BitVec 8)) : List (BitVec 8) := List.zipWith (· ^^^ ·) (List.zipWith (· ^^^ ·) a b) c
theorem tri_len (a b c : List (BitVec 8)) (n : Nat) (ha : a.length = n) (hb : b.length = n) (hc : c.length = n) : (triB a b c).length = n := by simp [triB, ha, hb, hc]
theorem tri_snoc (a b c : List (BitVec 8)) (n : Nat) (ha : a.length = n) (hb : b.length = n) (hc : c.length = n) (k : Nat) (hk : k < n) :
    (triB a b c).take (k + 1) = (triB a b c).take k ++ [a.getD k 0#8 ^^^ b.getD k 0#8 ^^^ c.getD k 0#8] := by
  rw [List.take_succ_eq_append_getElem (by rw [tri_len a b c n ha hb hc]; exact hk)]
  congr 2
  simp [triB, List.getD, show k < a.length by omega, show k < b.length by omega, show k < c.length by omega]
theorem getD_take {l : List (BitVec 8)} {n k : Nat} (h : k < n) : (l.take n).getD k 0#8 = l.getD k 0#8 := by
  rw [List.getD_eq_getElem?_getD, List.getD_eq_getElem?_getD, List.getElem?_take, if_pos h]
theorem word_of_int {n : Int} (h0 : 0 ≤ n) (h1 : n ≤ 4294967295) : ∃ m : BitVec 32, n = (m.toNat : Int) :=
  ⟨BitVec.ofInt 32 n, by rw [BitVec.toNat_ofInt]; omega⟩
theorem same_doc (l : List (BitVec 8)) : sumB (List.flatten [l, bytesB (sumB l)]) = sumB (List.flatten [bytesB 0#32]) := by
  rw [flat_two, flat_one]
  unfold sumB
  have h := sum_same l
  unfold sumB at h
  rw [h]
  have h0 := sum_same []
  rw [show sumB [] = 0#32 by decide +kernel, List.nil_append] at h0
  rw [h0]
/-- In a walk: the least of three numbers. -/
theorem wpList_min3 {P : Program} {ops : Array Oper} {rest : List Oper} {o : Oper} {a : Act} {w : World} {Q : Exit → Act → World → Prop} {x y z : Operand} {ts : Array TypeId} (p q r n : Nat) (hn : min (min p q) r = n) (hgd : o.guard = none)
    (ho : o.op = .call { callee := .builtin .min, args := #[x, y, z], argTypes := ts }) (hx : a.eval x = .int .i64 (p : Int)) (hy : a.eval y = .int .i64 (q : Int)) (hz : a.eval z = .int .i64 (r : Int))
    (h : wpList P ops Q rest (a.put o.dst (.int .i64 (n : Int))) w) : wpList P ops Q (o :: rest) a w := by
  refine wpList_plain hgd fun K hK => ?_
  have e : (if (r : Int) < (if (q : Int) < (p : Int) then (q : Int) else (p : Int)) then (r : Int) else (if (q : Int) < (p : Int) then (q : Int) else (p : Int))) = (n : Int) := by
    subst hn
    by_cases h1 : (q : Int) < (p : Int)
    · rw [if_pos h1]
      by_cases h2 : (r : Int) < (q : Int)
      · rw [if_pos h2]; omega
      · rw [if_neg h2]; omega
    · rw [if_neg h1]
      by_cases h2 : (r : Int) < (p : Int)
      · rw [if_pos h2]; omega
      · rw [if_neg h2]; omega
  unfold Oper.wp execOp
  simp only [ho, resolve, invoke, builtin, Sem.run_bind, Sem.run_pure, Result.andThen_ok, List.map_toArray, List.map_cons, List.map_nil, hx, hy, hz, run_min_int3, e]
  exact hK _ _ h
end Go.Proofs.Ytfjbpjojpjkfcaa
