/-
  The walk of the law SetupCuts.
-/
import Derived.Test.YtfpocdibalbddaaSetupBounds
import Derived.Test.YtfpocdibalbddaaByCut
namespace Go.Proofs.Ytfpocdibalbddaa
open Go.RowKit
set_option linter.unusedVariables false
set_option linter.unusedSimpArgs false
set_option maxRecDepth 20000

theorem srem_letter (a o : Nat) (ho : 0 < o) : ∃ k : Nat, k < o ∧ (a : Int).tmod (o : Int) = (k : Int) := ⟨a % o, Nat.mod_lt _ ho, by rw [Int.tmod_eq_emod_of_nonneg (by omega), Int.natCast_emod]⟩
theorem may_few {s : SetP} (h : s.May) : s.Few := ⟨by have := h.ways.1; omega, by have := h.elements.1; omega, by have := h.classes.1; omega, by have := h.gears.1; omega, by have := h.rates.2.1; omega, by have := h.tiers.1; omega⟩
theorem cut_read {s : SetP} (hg : s.Good) {k : Nat} (hk : k < s.bytes.length) : readE (s.bytes.take k) = (SetP.none, 70) := by
  unfold readE
  rw [read_none (fun t ht => bytes_cut hg ht hk)]
theorem more_read {s : SetP} (hg : s.Good) (m : Nat) : readE (s.bytes ++ putB [m]) = (SetP.none, 70) := by
  unfold readE
  rw [put_one_eq, read_none (fun t ht => bytes_more hg ht m)]
theorem sbytes_pos (s : SetP) : 0 < s.bytes.length := by
  unfold SetP.bytes SetP.nums
  rw [bytesN_cons]
  simp [oneB]
set_option maxHeartbeats 8000000 in
theorem setupCuts_cells (s : SetP) (cs : Array Value) (cut : Nat) (more : Int) (W : World) (hs : SetC W s cs) (hf : s.Fit) (hc1 : cut ≤ 65535) (hm : In64 more) :
    Calls Try.prog 6 #[.agg cs, .int .u16 cut, .int .i64 more] W fun e w' => e = .returned (.bool true) ∧ Below W.heap.size W w' := by
  have HZ := Lib.hid hs.size
  have HO := Lib.hid hs.one
  have HS := Lib.hid hs
  have HF := Lib.hid hf
  have hwide := Lib.hid hs.wide
  clear hs hf
  by_cases hmay : s.May
  · have hg : s.Good := ⟨hwide.out, hmay⟩
    have hpos := sbytes_pos s
    have hlen := sbytes_len hg
    obtain ⟨k, hk, ek⟩ := srem_letter cut s.bytes.length hpos
    have HW := Lib.hid (fun wx (h : SetC wx s cs) => swrite_c h HF.out _ _ s.bytes.length (writeE_ok hmay) rfl)
    have HL := Lib.hid (fun wx (h : SetC wx s cs) => few_c h true (by simp [may_few hmay]))
    have HR1 := Lib.hid (cut_read hg hk)
    have HR2 := Lib.hid (more_read hg more.toNat)
    generalize hbs : s.bytes = bs at *
    generalize hn : bs.length = n at *
    have HN := Lib.hid hn
    have hn0 : ((n : Int) == 0) = false := by simp; omega
    clear hbs hn hg hmay
    go_enter Try.func6, Try.ntmps6
    go_wp2_with fail
    refine (awake7 _).mono ?_
    rintro e w1 ⟨rfl, b1⟩
    have HB := Lib.hid ((Has.new W 30 cs rfl).below b1)
    replace b1 := bel_on (bel_alloc (Below.refl _ _) _) b1
    replace HS := Lib.hid (HS.out.below b1)
    go_wp2_with (refine wpList_load_has (by rfl) _ rfl W.heap.size rfl cs HB.out HZ.out ?_)
    refine (HW.out _ HS.out).mono ?_
    rintro e w2 ⟨A2, c2, rfl, r2, b2⟩
    replace HB := Lib.hid (HB.out.below b2)
    replace HS := Lib.hid (HS.out.below b2)
    replace b2 := bel_on b1 b2
    have HR := Lib.hid r2
    clear r2 b1 HW
    go_wp2_with (refine wpList_load_has (by rfl) _ rfl W.heap.size rfl cs HB.out HZ.out ?_)
    refine (HL.out _ HS.out).mono ?_
    rintro e w3 ⟨rfl, b3⟩
    replace HR := Lib.hid (HR.out.below b3)
    replace b3 := bel_on b2 b3
    clear b2 HL HB HS
    by_cases hneg : more < 0
    · go_wp2
      go_ret
      exact ⟨rfl, b3⟩
    · obtain ⟨mn, rfl⟩ : ∃ mn : Nat, more = (mn : Int) := ⟨more.toNat, by omega⟩
      have hmn : mn < 9223372036854775808 := by have := hm.2; omega
      rw [Int.toNat_natCast] at HR2
      have hcap := HR.out.cap_le HN.out
      obtain ⟨A4, hcut4, s4⟩ := cut_to (HR.out.slAt HN.out) hcap k (by omega)
      have HC4 := Lib.hid hcut4
      have HS4 := Lib.hid s4
      clear hcut4 s4 hm hneg
      go_wp2_with (refine wpList_slice_run (o := ⟨some 46, _, _, _, _, _⟩) HC4.out rfl rfl rfl rfl rfl rfl ?_)
      refine (sread_c A4 c2 k _ w3 HS4.out (by omega) (by omega) _ _ HR1.out).mono ?_
      rintro e w4 ⟨cs4, rfl, hs4, b4⟩
      have HZ4 := Lib.hid hs4.size
      have HO4 := Lib.hid hs4.one
      replace b4 := bel_alloc b4 (.cells cs4 30)
      replace HR := Lib.hid (HR.out.below b4)
      replace b4 := bel_on b3 b4
      clear b3 hs4 HC4 HS4
      have hl1 := put_len_le [mn] (by simpa using hmn)
      obtain ⟨q, hq⟩ : ∃ q, (putB [mn]).length = q := ⟨_, rfl⟩
      have HP := Lib.hid (fun d => put_ok A2 n c2 bs (some ⟨w4.heap.size + 1, 0, none⟩) 1 d [mn] ((w4.alloc (.cells cs4 30)).alloc (.cells #[.int .i64 mn] 3)) ((HR.out.slAt HN.out).alloc _) (nums_new _ 3 [(mn : Int)] (by simp)) rfl (by simpa using hmn) (by omega) (by omega))
      rw [hq] at HP hl1
      simp only [List.length_cons, List.length_nil] at hl1
      go_wp2_with (refine wpList_laidS cs4 10 _ _ rfl rfl rfl rfl rfl rfl rfl rfl HZ4.out HO4.out ?_)
      refine (HP.out _).mono ?_
      rintro e w5 ⟨A5, c5, rfl, r5, b5⟩
      replace b5 := bel_on (bel_alloc b4 _) b5
      have HR5 := Lib.hid r5
      have hl5 : (bs ++ putB [mn]).length = n + q := by rw [List.length_append, hq, HN.out]
      have hc5 := r5.cap_le hl5
      have HS5 := Lib.hid (r5.slAt hl5)
      obtain ⟨p, hp⟩ : ∃ p : Nat, n + q = p := ⟨_, rfl⟩
      rw [hp] at HS5 hc5
      have hp2 : p ≤ 1000000 := by omega
      clear r5 hl5 HR HP hq b4
      rw [hp]
      clear hp hl1
      go_wp2_with fail
      refine (sread_c A5 c5 p _ w5 HS5.out hc5 hp2 _ _ HR2.out).mono ?_
      rintro e w6 ⟨cs6, rfl, hs6, b6⟩
      have HZ6 := Lib.hid hs6.size
      have HO6 := Lib.hid hs6.one
      replace b6 := bel_alloc b6 (.cells cs6 30)
      replace b6 := bel_on b5 b6
      clear b5 hs6
      go_wp2_with (refine wpList_laidS cs6 14 _ _ rfl rfl rfl rfl rfl rfl rfl rfl HZ6.out HO6.out ?_)
      go_ret
      exact ⟨rfl, b6⟩
  · have HW := Lib.hid (fun wx (h : SetC wx s cs) => swrite_c h HF.out _ _ 0 (writeE_bad hmay) rfl)
    clear hmay
    go_enter Try.func6, Try.ntmps6
    go_wp2_with fail
    refine (awake7 _).mono ?_
    rintro e w1 ⟨rfl, b1⟩
    have HB := Lib.hid ((Has.new W 30 cs rfl).below b1)
    replace b1 := bel_on (bel_alloc (Below.refl _ _) _) b1
    replace HS := Lib.hid (HS.out.below b1)
    go_wp2_with (refine wpList_load_has (by rfl) _ rfl W.heap.size rfl cs HB.out HZ.out ?_)
    refine (HW.out _ HS.out).mono ?_
    rintro e w2 ⟨A2, c2, rfl, r2, b2⟩
    replace HB := Lib.hid (HB.out.below b2)
    replace HS := Lib.hid (HS.out.below b2)
    replace b2 := bel_on b1 b2
    obtain ⟨fb, hfb⟩ : ∃ fb, decide s.Few = fb := ⟨_, rfl⟩
    have HL := Lib.hid (few_c HS.out fb hfb)
    clear r2 b1 HW hfb
    go_wp2_with (refine wpList_load_has (by rfl) _ rfl W.heap.size rfl cs HB.out HZ.out ?_)
    refine HL.out.mono ?_
    rintro e w3 ⟨rfl, b3⟩
    replace b3 := bel_on b2 b3
    cases fb
    · go_wp2
      go_ret
      exact ⟨rfl, b3⟩
    · go_wp2
      go_ret
      exact ⟨rfl, b3⟩
theorem setupCuts_walk (s : SetP) (A1 A2 A3 A4 A5 A6 : Option Addr) (c1 c2 c3 c4 c5 c6 : Nat) (cut more : Int) (W : World) (hs : SetAt W s A1 A2 A3 A4 A5 A6 c1 c2 c3 c4 c5 c6) (hf : s.Fit) (hc0 : 0 ≤ cut) (hc1 : cut ≤ 65535) (hm0 : -9223372036854775808 ≤ more) (hm1 : more ≤ 9223372036854775807) :
    Calls Try.prog 6 #[setV s A1 A2 A3 A4 A5 A6 c1 c2 c3 c4 c5 c6, .int .u16 cut, .int .i64 more] W fun e w' => e = .returned (.bool true) ∧ Below W.heap.size W w' := by
  obtain ⟨cs, hcs⟩ : ∃ cs, setV s A1 A2 A3 A4 A5 A6 c1 c2 c3 c4 c5 c6 = .agg cs := ⟨_, rfl⟩
  obtain ⟨n, rfl⟩ : ∃ n : Nat, cut = (n : Int) := ⟨cut.toNat, by omega⟩
  rw [hcs]
  exact setupCuts_cells s cs n more W ⟨A1, A2, A3, A4, A5, A6, c1, c2, c3, c4, c5, c6, hcs, hs⟩ hf (by omega) ⟨hm0, hm1⟩
end Go.Proofs.Ytfpocdibalbddaa
