/-
  The walk of the law EventCuts: it answers true, and leaves what was there as it was.
-/
import Derived.Test.YtmfjfaageeeipaaEvAwake
namespace Go.Proofs.Ytmfjfaageeeipaa
open Go.RowKit
set_option linter.unusedVariables false
set_option linter.unusedSimpArgs false
set_option maxRecDepth 20000

theorem rem_letter_e (a o : Nat) (ho : 0 < o) : ∃ k : Nat, k < o ∧ (a : Int).tmod (o : Int) = (k : Int) := ⟨a % o, Nat.mod_lt _ ho, by rw [Int.tmod_eq_emod_of_nonneg (by omega), Int.natCast_emod]⟩
theorem ev_bytes_len {e : EvP} (h : e.Fair) : 0 < e.bytes.length ∧ e.bytes.length ≤ 90 := by
  obtain ⟨h1, h2, h3⟩ := ev_bytes_put h
  have hl := put_len_le _ h2
  rw [List.length_map] at hl
  have := ev_len e
  refine ⟨?_, by rw [h1]; omega⟩
  unfold EvP.bytes
  rw [ev_nums, List.cons_append, bytesN_cons, List.length_append, one_len]
  omega
theorem eventCuts_walk (a : EvP) (cut : Int) (w : World) (ha : a.In) (c0 : 0 ≤ cut) (c1 : cut ≤ 255) :
    Calls Try.prog 8 #[.agg (evC a), .int .u8 cut] w fun e w' => e = .returned (.bool true) ∧ Below w.heap.size w w' := by
  obtain ⟨m, rfl⟩ : ∃ m : Nat, cut = (m : Int) := ⟨cut.toNat, by omega⟩
  have hz := evC_size a
  by_cases hf : a.Fair
  · obtain ⟨hl0, hl9⟩ := ev_bytes_len hf
    obtain ⟨k, hk, ek⟩ := rem_letter_e m a.bytes.length hl0
    have HCUT := Lib.hid (ev_cut hf hk)
    have HP := Lib.hid (fun w n (hn : 0 + a.bytes.length = n) => putE_ok_n none 0 0 n [] a w hf Sl.nil_ (by omega) hn)
    generalize hbs : a.bytes = bs at *
    generalize hn : bs.length = n at *
    have HN := Lib.hid hn
    generalize evC a = cs at *
    have HZ := Lib.hid hz
    have hn0 : ((n : Int) == 0) = false := by simp; omega
    clear hf ha hbs hn hz
    go_enter Try.func8, Try.ntmps8
    go_wp2_with fail
    refine (awake8 _).mono ?_
    rintro e w1 ⟨rfl, b1⟩
    have HE := Lib.hid ((Has.new w 33 cs rfl).below b1)
    have hb1 := bel_on (bel_alloc (Below.refl w.heap.size w) _) b1
    clear b1
    go_wp2_with (refine wpList_load_e (by rfl) _ rfl w.heap.size rfl cs HE.out HZ.out ?_)
    refine (HP.out _ n (by have := HN.out; omega)).mono ?_
    rintro e w2 ⟨A, c, rfl, r2, b2⟩
    rw [List.nil_append] at r2
    have hcap := r2.cap_le HN.out
    have hsl := r2.slAt HN.out
    obtain ⟨A2, hcut, hs2⟩ := cut_to_all hsl hcap k (by omega)
    have HC := Lib.hid hcut
    have HS := Lib.hid (hs2 _ hsl)
    have hb2 := bel_on hb1 b2
    have hkc : k ≤ c := by omega
    clear hcut hs2 hsl r2 b2 hb1
    go_wp2_with (refine wpList_slice_run (o := ⟨some 36, _, _, _, _, _⟩) HC.out rfl rfl rfl rfl rfl rfl ?_)
    refine (takeE_bad_n A2 c k (bs.take k) _ HS.out hkc (by omega) HCUT.out).mono ?_
    rintro e w3 ⟨rfl, b3⟩
    go_wp2_with (refine wpList_laid_e (evC EvP.none) 8 _ _ rfl rfl rfl rfl rfl rfl rfl rfl rfl (evC_one _) ?_)
    go_ret
    exact ⟨rfl, bel_alloc (bel_on hb2 b3) _⟩
  · have HP := Lib.hid (fun w => putE_bad none 0 0 a w ha hf)
    generalize evC a = cs at *
    have HZ := Lib.hid hz
    clear hf ha hz
    go_enter Try.func8, Try.ntmps8
    go_wp2_with fail
    refine (awake8 _).mono ?_
    rintro e w1 ⟨rfl, b1⟩
    have HE := Lib.hid ((Has.new w 33 cs rfl).below b1)
    have hb1 := bel_on (bel_alloc (Below.refl w.heap.size w) _) b1
    clear b1
    go_wp2_with (refine wpList_load_e (by rfl) _ rfl w.heap.size rfl cs HE.out HZ.out ?_)
    refine (HP.out _).mono ?_
    rintro e w2 ⟨rfl, b2⟩
    go_wp2
    go_ret
    exact ⟨rfl, bel_on hb1 b2⟩
end Go.Proofs.Ytmfjfaageeeipaa
