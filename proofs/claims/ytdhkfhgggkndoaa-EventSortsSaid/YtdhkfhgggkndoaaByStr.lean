/-
  Bytes turned into texts, whatever their number; texts held against each other.
-/
import Derived.Test.YtdhkfhgggkndoaaProg
import Derived.Test.YtdhkfhgggkndoaaByRow
import Derived.Test.YtdhkfhgggkndoaaPackPlain
import Derived.Laws.BytesArg
namespace Go.Proofs.Ytdhkfhgggkndoaa
open Go.RowKit
set_option linter.unusedVariables false

def txtB (l : List (BitVec 8)) : ByteArray := strOfNums (l.map fun b => (b.toNat : Int))
theorem txt_list (l : List (BitVec 8)) : (txtB l).toList = l.map fun b => UInt8.ofNat b.toNat := by
  rw [ByteArray.toList_eq, txtB, strOfNums_data, List.map_map]
  rfl
theorem txt_nats (l : List (BitVec 8)) : (txtB l).toList.map UInt8.toNat = natsB l := by
  rw [txt_list, List.map_map]
  unfold natsB
  apply List.map_congr_left
  intro b _
  have := b.isLt
  simp only [Function.comp, UInt8.toNat_ofNat']
  omega
theorem nats_inj {x y : List (BitVec 8)} (h : natsB x = natsB y) : x = y := by rw [← bytN_nats x, ← bytN_nats y, h]
theorem txt_inj {x y : List (BitVec 8)} (h : (txtB x).toList = (txtB y).toList) : x = y :=
  nats_inj (by rw [← txt_nats, ← txt_nats, h])
theorem txt_eq (x y : List (BitVec 8)) : ((txtB x).toList == (txtB y).toList) = decide (x = y) := by
  rw [Bool.eq_iff_iff]
  simp only [beq_iff_eq, decide_eq_true_eq]
  exact ⟨txt_inj, fun h => by rw [h]⟩
theorem less_nats : ∀ l m : List UInt8, Op.bytesLess l m = lexN (l.map UInt8.toNat) (m.map UInt8.toNat)
  | _, [] => by cases ‹List UInt8› <;> rfl
  | [], _ :: _ => rfl
  | a :: x, b :: y => by
    rw [Op.bytesLess, List.map_cons, List.map_cons, lexN, less_nats x y]
    congr 1
    congr 1
    rw [Bool.eq_iff_iff]
    simp [UInt8.toNat_inj]
theorem less_txt (x y : List (BitVec 8)) : Op.bytesLess (txtB x).toList (txtB y).toList = lexN (natsB x) (natsB y) := by
  rw [less_nats, txt_nats, txt_nats]
theorem nats_one {n : Nat} (h : n < 9223372036854775808) : natsB (oneB n) = (digs n).length :: digs n := by
  have h8 := digs_eight h
  show (BitVec.ofNat 8 (digs n).length).toNat :: natsB (bytN (digs n)) = _
  rw [nats_bytN (digs_small n), BitVec.toNat_ofNat, Nat.mod_eq_of_lt (by omega)]
theorem less_one {a b : Nat} (ha : a < 9223372036854775808) (hb : b < 9223372036854775808) : Op.bytesLess (txtB (oneB a)).toList (txtB (oneB b)).toList = decide (a < b) := by
  rw [less_txt, nats_one ha, nats_one hb, lex_one]
/-- A slice of bytes turned into a text, nil and empty ones too. -/
theorem conv_sl {w : World} {A : Option Addr} {n c : Nat} {l : List (BitVec 8)} (h : Sl 1 w A n c (bytesV l)) : (convert 31 9 (.slice A n c)).run Try.prog w = .ok (.string (txtB l)) w := by
  have hln : l.length = n := by have := h.1; rw [bytesV_len] at this; omega
  have hby := byts_of_sl h
  rcases Nat.eq_zero_or_pos n with rfl | h0
  · obtain rfl := List.eq_nil_of_length_eq_zero hln
    cases A with
    | none => exact run_convert_bytes_nil w 31 5 Try.underlying31 Try.underlying5 0 c 9 Try.underlying9
    | some ad =>
      rw [run_convert_bytes_string w 31 9 5 _ 0 c Try.underlying31 Try.underlying5 Try.underlying9]
      rw [run_bytesToString w ad 0 c [] (run_loadCells_list (P := Try.prog) w ad [] (fun j v hv => by simp at hv))]
      rfl
  · obtain ⟨b, off, rfl, _⟩ := hby 0 (by omega)
    refine run_convert_bytes_arg w 31 5 Try.underlying31 Try.underlying5 b off n c _ (by simpa using hln) (fun i hi => ?_) 9 Try.underlying9
    obtain ⟨b', off', e, hc⟩ := hby i (by omega)
    injection e with e
    injection e with e1 e2 _
    subst e1 e2
    rw [hc]
    simp [List.getD, show i < l.length by omega]
/-- What a call that tells bytes answers: a slice of its own. -/
def TellsB (w : World) (xs : List (BitVec 8)) (v : Value) (w' : World) : Prop := ∃ A c, v = .slice A xs.length c ∧ BRow w' w.heap.size A c xs
theorem TellsB.below {w w' w'' : World} {xs : List (BitVec 8)} {v : Value} (h : TellsB w xs v w') (hb : Below w'.heap.size w' w'') : TellsB w xs v w'' := by
  obtain ⟨A, c, e, hr⟩ := h
  exact ⟨A, c, e, hr.below hb⟩
/-- What came in, or lies anywhere, as an argument: kept as what an append, a call and a text ask. -/
theorem sl_take {w : World} {A : Option Addr} {n c m : Nat} {l : List (BitVec 8)} (h : Sl 1 w A n c (bytesV l)) (hm : m ≤ n) (hn : A = none → c = 0) : Sl 1 w A m c (bytesV (l.take m)) := by
  obtain ⟨hl, ⟨rfl, rfl, rfl⟩ | ⟨ad, rfl, hc⟩⟩ := h
  · obtain rfl : m = 0 := by omega
    exact ⟨by simp [bytesV], .inl ⟨rfl, rfl, rfl⟩⟩
  · rw [bytesV_len] at hl
    refine ⟨by rw [bytesV_len, List.length_take]; omega, .inr ⟨ad, rfl, fun j u hu => hc j u ?_⟩⟩
    simp only [bytesV, List.map_take] at hu
    rw [List.getElem?_take] at hu
    split at hu
    · exact hu
    · cases hu
end Go.Proofs.Ytdhkfhgggkndoaa
