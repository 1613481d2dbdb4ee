/-
  The walk of the law FrameBurst: it answers true, and leaves what was there as it was.
-/
import Derived.Test.YtfjbpjojpjkfcaaFrameOwn
import Derived.Test.YtfjbpjojpjkfcaaCrcStrB
namespace Go.Proofs.Ytfjbpjojpjkfcaa
open Go.RowKit
set_option linter.unusedVariables false
set_option linter.unusedSimpArgs false

theorem frameBurst_long (a0 : Option Addr) (len0 cap0 : Nat) (t : Int) (b : Int) (w : World) (h : 1000 < len0) :
    Calls Try.prog 6 #[.slice a0 len0 cap0, .int .u16 t, .int .u32 b] w fun e w' => e = .returned (.bool true) ∧ Below w.heap.size w w' := by
  have d0 : (1000 : Int) < (len0 : Int) := by omega
  go_enter Try.func6, Try.ntmps6
  go_wp2_with fail
  refine (awake6 _).mono ?_
  rintro e w1 ⟨rfl, hb1⟩
  go_wp2
  go_ret
  exact ⟨rfl, hb1⟩

set_option maxHeartbeats 2000000 in
set_option maxRecDepth 100000 in
theorem frameBurst_short (a0 : Option Addr) (len0 cap0 : Nat) (l : List (BitVec 8)) (t : Nat) (bu : BitVec 32) (w : World) (s0 : Sl 1 w a0 len0 cap0 (bytesV l)) (h : len0 ≤ 1000) (ht : t ≤ 65535) :
    Calls Try.prog 6 #[.slice a0 len0 cap0, .int .u16 (t : Int), v32 bu] w fun e w' => e = .returned (.bool true) ∧ Below w.heap.size w w' := by
  have d1 : ¬ (1000 : Int) < (len0 : Int) := by omega
  have hl := s0.blen
  have h8 := digs_eight (n := len0) (by omega)
  have hol := @one_len len0
  obtain ⟨o, ho⟩ : ∃ o, (oneB len0).length = o := ⟨_, rfl⟩
  obtain ⟨q, hq⟩ : ∃ q, (frameB l).length = q := ⟨_, rfl⟩
  have hqe : q = o + len0 + 4 := by rw [← hq, frame_len, hl, ho]
  have HSZ : Hid (∀ w, Calls Try.prog 17 #[.int .i64 (len0 : Int)] w fun e w' => e = .returned (.int .i64 (o : Int)) ∧ w = w') := Lib.hid (fun w => ho ▸ size_at len0 w (by omega))
  obtain ⟨f, hf, hf2⟩ : ∃ f : Nat, f = 8 * o + t % (8 * (q - o) - 31) ∧ f + 32 ≤ 8 * q := ⟨_, rfl, by
    have : t % (8 * (q - o) - 31) < 8 * (q - o) - 31 := Nat.mod_lt _ (by omega)
    omega⟩
  have hfo : 8 * o ≤ f := by omega
  have e1 : (8 : Int) * (o : Int) + (t : Int) % (8 * ((q : Int) - (o : Int)) - 31) = (f : Int) := by
    rw [hf]
    have : (8 * ((q : Int) - (o : Int)) - 31) = ((8 * (q - o) - 31 : Nat) : Int) := by omega
    rw [this, ← Int.natCast_emod]
    omega
  have HSEEN := Lib.hid (frame_burst (p := l) (by omega) f bu (by rw [hl, ho]; exact hfo) (by rw [hq]; exact hf2))
  have HQ := Lib.hid hq
  have S0 := Lib.hid s0
  have ho9 : o ≤ 9 := by omega
  have hq2 : q ≤ 1013 := by omega
  have hqo : (o : Int) + 4 ≤ (q : Int) := by omega
  have hqo2 : (0 : Int) < 8 * ((q : Int) - (o : Int)) - 31 := by omega
  have hfb : f ≤ 10000 := by omega
  have HF2 := Lib.hid hf2
  clear s0 hl hol ho hq hqe hf hf2 hfo h8
  go_enter Try.func6, Try.ntmps6
  go_wp2_with fail
  refine (awake6 _).mono ?_
  rintro e w1 ⟨rfl, hb1⟩
  go_wp2_with fail
  refine (fput_ok none 0 0 [] a0 len0 cap0 l _ Sl.nil_ (Nat.le_refl 0) (S0.out.below hb1) (by omega) (by omega)).mono ?_
  rintro e w2 ⟨A2, c2, rfl, r2, b2⟩
  rw [List.nil_append] at r2
  rw [HQ.out, Nat.zero_add]
  have hb2 := bel_on hb1 b2
  obtain ⟨G, rfl⟩ := r2.form (by intro e; have := HQ.out; rw [e] at this; simp at this; omega)
  have hGl := r2.lt _ rfl
  have hcc : q ≤ c2 ∧ c2 ≤ maxLen := by
    rcases r2.forms with ⟨e, _⟩ | ⟨_, _, _, _, q1, q2⟩
    · cases e
    · rw [HQ.out] at q1; exact ⟨q1, q2⟩
  unfold maxLen at hcc
  replace r2 := r2.mono (b := w.heap.size) hb1.size
  have hG2 : w.heap.size ≤ G := by have := hb1.size; have h3 := hGl.1; simp at h3; omega
  clear hb1 b2 hGl
  go_wp2_with (go_at_call 17; refine (HSZ.out _).mono ?_; rintro e w' ⟨rfl, rfl⟩)
  go_loopw [12] (fun i wr => ∃ (k : Nat), k ≤ 32 ∧ i = .int .i64 k ∧ BRow wr w.heap.size (some ⟨G, 0, none⟩) c2 (burstB (frameB l) f bu k) ∧ Below w.heap.size w wr) (fun i _ => 32 - (intOf i).toNat)
  case atStart => exact ⟨0, by omega, rfl, r2, hb2⟩
  case round =>
    obtain ⟨k, hk, rfl, hrow, hbw⟩ := hrel
    clear r2 hb2
    by_cases hlt : k < 32
    · have hd : (k : Int) < 32 := by omega
      have b32 : bu.toNat < 4294967296 := bu.isLt
      have hln : (burstB (frameB l) f bu k).length = q := by rw [burst_len, HQ.out]
      by_cases hbit : bu.getLsbD k = true
      · have ht2 : (((bu.toNat : Int) / 2 ^ k).tmod 2 == 1) = true := bit_on bu k hbit
        obtain ⟨qq, hq⟩ : ∃ q : Nat, q = (f + k) / 8 := ⟨_, rfl⟩
        obtain ⟨r, hr⟩ : ∃ r : Nat, r = (f + k) % 8 := ⟨_, rfl⟩
        have q1 : ((f : Int) + (k : Int)) / 8 = (qq : Int) := by omega
        have q2 : ((f : Int) + (k : Int)) % 8 = (r : Int) := by omega
        have q3 : qq < q := by have := HF2.out; omega
        have q4 : (qq : Int) < (q : Int) := by omega
        have r8 : r < 8 := by omega
        have HQQ := Lib.hid hq
        have HR := Lib.hid hr
        have cq := hrow.cellAt (k := qq) (by rw [hln]; exact q3)
        have fq := hrow.frozenAt qq
        have HSET := Lib.hid (hrow.set (k := qq) (by rw [hln]; exact q3))
        generalize hx : (burstB (frameB l) f bu k).getD qq 0#8 = x at *
        have HX := Lib.hid hx
        clear hx hq hr hln
        have x8 : x.toNat < 256 := x.isLt
        have HY := Lib.hid (burst_yes (frameB l) f bu k qq r x hbit HQQ.out HR.out HX.out)
        have HV := Lib.hid (flip_val x r r8)
        clear e1 hqo hqo2
        go_wp2
        rw [HV.out]
        go_roundw
        case rel =>
          exact ⟨k + 1, by omega, by go_num, HY.out ▸ HSET.out _, bel_set hbw (p := ⟨G, qq, none⟩) hG2 _⟩
        case measure => simp [intOf]; omega
      · have hbit' : bu.getLsbD k = false := by simpa using hbit
        have ht2 : (((bu.toNat : Int) / 2 ^ k).tmod 2 == 1) = false := bit_off bu k hbit'
        have HY := Lib.hid (burst_no (frameB l) f bu k hbit')
        clear hbit hbit' hln e1 hqo hqo2
        go_wp2
        go_roundw
        case rel => exact ⟨k + 1, by omega, by go_num, HY.out ▸ hrow, hbw⟩
        case measure => simp [intOf]; omega
    · obtain rfl : k = 32 := by omega
      have hln : (burstB (frameB l) f bu 32).length = q := by rw [burst_len, HQ.out]
      have HSL := Lib.hid (hrow.slAt hln)
      have hseen := HSEEN.out
      generalize burstB (frameB l) f bu 32 = C at *
      clear e1 hqo hqo2 hln hrow HSEEN
      by_cases hbu : bu = 0#32
      · rw [if_pos hbu] at hseen
        have HT := Lib.hid (fun w (hs : Sl 1 w (some ⟨G, 0, none⟩) q c2 (bytesV C)) => ftake_some (some ⟨G, 0, none⟩) q c2 C l [] w hs hcc.1 (by omega) hseen)
        have hb0 : ((bu.toNat : Int) == 0) = true := by subst hbu; rfl
        clear hseen hbu
        go_wp2_with fail
        refine (HT.out _ HSL.out).mono ?_
        rintro e w6 ⟨A6, c6, A7, c7, rfl, r6, r7, b6⟩
        have hb6 := bel_on hbw b6
        have k6 := conv_sl r6.sl
        have k0 := conv_sl (S0.out.below hb6)
        have HL0 := Lib.hid S0.out.blen
        rw [HL0.out] at k6 ⊢
        simp only [List.length_nil]
        generalize txtB l = tx at *
        go_wp2
        go_ret
        exact ⟨rfl, hb6⟩
      · rw [if_neg hbu] at hseen
        have HT := Lib.hid (fun w (hs : Sl 1 w (some ⟨G, 0, none⟩) q c2 (bytesV C)) => ftake_none (some ⟨G, 0, none⟩) q c2 C w hs hcc.1 (by omega) hseen)
        have hb0 : ((bu.toNat : Int) == 0) = false := by
          simp
          intro e
          exact hbu (BitVec.eq_of_toNat_eq (by simpa using e))
        clear hseen hbu
        go_wp2_with fail
        refine (HT.out _ HSL.out).mono ?_
        rintro e w6 ⟨rfl, b6⟩
        have hb1 : ((bu.toNat : Int) = 0) = False := by simpa using hb0
        have hb2 : (bu.toNat = 0) = False := by simpa using hb0
        have hb3 : (bu = 0#32) = False := by
          simp only [eq_iff_iff, iff_false]
          rintro rfl
          simp at hb0
        go_wp2
        go_ret
        refine ⟨ret_bool ?_, bel_on hbw b6⟩
        simp [hb0, hb1, hb2, hb3]
theorem frameBurst_walk (a0 : Option Addr) (len0 cap0 : Nat) (z0 : List Int) (t b : Int) (w : World) (r0 : IsRow .u8 w a0 len0 cap0 z0) (h1 : 0 ≤ t) (h2 : t ≤ 65535) (h3 : 0 ≤ b) (h4 : b ≤ 4294967295) :
    Calls Try.prog 6 #[.slice a0 len0 cap0, .int .u16 t, .int .u32 b] w fun e w' => e = .returned (.bool true) ∧ Below w.heap.size w w' := by
  by_cases g : 1000 < len0
  · exact frameBurst_long _ _ _ _ _ w g
  · obtain ⟨l, hl, s0, hm⟩ := bytes_of_row r0
    obtain ⟨m, rfl⟩ := word_of_int h3 h4
    obtain ⟨t, rfl⟩ := Int.eq_ofNat_of_zero_le h1
    exact frameBurst_short _ _ _ l t m w s0 (by omega) (by omega)
end Go.Proofs.Ytfjbpjojpjkfcaa
