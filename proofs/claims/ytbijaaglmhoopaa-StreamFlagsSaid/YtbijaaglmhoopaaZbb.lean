/-
  Package stream's pass and take.
-/
import Derived.Test.YtbijaaglmhoopaaZba
namespace Go.Proofs.Ytbijaaglmhoopaa
open Go.RowKit
set_option linter.unusedVariables false
set_option linter.unusedSimpArgs false
set_option maxRecDepth 20000

section
variable {w0 w : World} {g : Nat} {u cap : Int} {A C D : Option Addr} {n c m d p q r : Nat} {S : List SegP} {F : List FlagP} {e : EvP} {ins : List EvP}
theorem wrapw_id {a : Int} (h0 : -9223372036854775808 ≤ a) (h1 : a < 9223372036854775808) : IntKind.i64.wrap a = a := by
  simp [IntKind.wrap, IntKind.bits, IntKind.signed]
  split <;> omega
theorem KP.refl (w0 w : World) (A C : Option Addr) : KP w0 w w A C A C := fun _ _ h _ a b => ⟨h, a, b⟩
theorem KP.on {w1 w2 : World} {A1 C1 A2 C2 : Option Addr} (h : KP w0 w w1 A C A1 C1) (k : KP w0 w1 w2 A1 C1 A2 C2) : KP w0 w w2 A C A2 C2 := fun b cs hh h0 h1 h2 => by
  obtain ⟨a1, a2, a3⟩ := h b cs hh h0 h1 h2
  exact k b cs a1 h0 a2 a3
theorem KP.below {w1 w2 : World} {A1 C1 : Option Addr} (h : KP w0 w w1 A C A1 C1) (k : Below w1.heap.size w1 w2) : KP w0 w w2 A C A1 C1 := fun b cs hh h0 h1 h2 => by
  obtain ⟨a1, a2, a3⟩ := h b cs hh h0 h1 h2
  exact ⟨a1.below k, a2, a3⟩
/-- What pass leaves, where a session ends. -/
def GotOut (w0 w w' : World) (g : Nat) (u cap : Int) (A C : Option Addr) (S' : List SegP) (F' : List FlagP) : Prop :=
  ∃ A' n' c' C' m' d', Wat w0 w' g u cap (.pointer none) A' n' c' S' C' m' d' F' ∧ KP w0 w w' A C A' C'
theorem wpass_none (h : Wat w0 w g u cap (.pointer none) A n c S C m d F) (t : Int) :
    Calls Try.prog 25 #[.pointer (some ⟨g, 0, none⟩), .int .i64 t] w fun x w' => x = .returned (.tuple #[]) ∧ w = w' := by
  have q2 := h.h.cell 2 rfl
  have z2 := cell_lt q2
  clear h
  go_enter Try.func25, Try.ntmps25
  go_wp2
  (try simp only [Exit.inBlock, Exit.then])
  refine bodyPost_ret (results_none rfl _ _ _) rfl ⟨rfl, rfl⟩
theorem wpass_not (h : Wat w0 w g u cap (.pointer (some ⟨p, 0, none⟩)) A n c S C m d F) (hs : Ses w0 w p e D q r ins) (t top : Int) (ht : e.tm + cap = top) (hle : ¬ top < t) (hb : 0 ≤ e.tm ∧ e.tm ≤ 100000000) (hc : 0 ≤ cap ∧ cap ≤ 100000000) :
    Calls Try.prog 25 #[.pointer (some ⟨g, 0, none⟩), .int .i64 t] w fun x w' => x = .returned (.tuple #[]) ∧ Below w.heap.size w w' := by
  have q1 := h.h.cell 1 rfl
  have q2 := h.h.cell 2 rfl
  have z2 := cell_lt q2
  have q3 := hs.h.cell 2 (show (sesC e (.slice D q r))[2]? = some (.int .i64 e.tm) from rfl)
  have z3 := cell_lt q3
  have ht' : IntKind.i64.wrap (e.tm + cap) = top := by rw [ht]; exact wrapw_id (by omega) (by omega)
  have mixed : Try.prog.follows Departure.mixedOrders = true := by kernel_rfl
  obtain ⟨tm, htm⟩ : ∃ tm, e.tm = tm := ⟨_, rfl⟩
  rw [htm] at q3 ht' hb
  clear h hs ht htm
  go_enter Try.func25, Try.ntmps25
  go_wp2
  go_quiet (fail)
  go_wp2
  go_end0
  exact ⟨rfl, below_drewN (Below.refl _ _) _⟩
set_option maxHeartbeats 4000000 in
theorem wpass_end (h : Wat w0 w g u cap (.pointer (some ⟨p, 0, none⟩)) A n c S C m d F) (hs : Ses w0 w p e D q r ins) (hp : Apt p A C D) (t top : Int) (ht : e.tm + cap = top) (hle : top < t) (hb : 0 ≤ e.tm ∧ e.tm ≤ 100000000) (hc : 0 ≤ cap ∧ cap ≤ 100000000)
    (first last : Int) (hf : roundP e.tm u = first) (hl : roundP top u = last) (hfl : first ≤ last) (hrise : ins.Pairwise (fun a b => a.tm ≤ b.tm)) (hnq : n + q ≤ 900) (hm : m ≤ 900) (hu : u ≤ 9223372036854775807) :
    Calls Try.prog 25 #[.pointer (some ⟨g, 0, none⟩), .int .i64 t] w fun x w' => x = .returned (.tuple #[]) ∧ GotOut w0 w w' g u cap A C (S ++ partsG first last first e ins) (F ++ [⟨e.id, 1⟩]) := by
  have HW := Lib.hid h
  have HS := Lib.hid hs
  have HP := Lib.hid hp
  have HF := Lib.hid hf
  have HL := Lib.hid hl
  have HFL := Lib.hid hfl
  have HRI := Lib.hid hrise
  have HTOP := Lib.hid ht
  have q1 := h.h.cell 1 rfl
  have q2 := h.h.cell 2 rfl
  have z2 := cell_lt q2
  have q3 := hs.h.cell 2 (show (sesC e (.slice D q r))[2]? = some (.int .i64 e.tm) from rfl)
  have z3 := cell_lt q3
  have q4 := hs.h.cell 0 (show (sesC e (.slice D q r))[0]? = some (.int .i64 e.id) from rfl)
  have ht' : IntKind.i64.wrap (e.tm + cap) = top := by rw [ht]; exact wrapw_id (by omega) (by omega)
  have mixed : Try.prog.follows Departure.mixedOrders = true := by kernel_rfl
  have HKB : Hid (∀ k, KP w0 w (w.drewN k) A C A C) := fun k => (KP.refl _ _ _ _).below (below_drewN (Below.refl _ _) _)
  obtain ⟨tm, htm⟩ : ∃ tm, e.tm = tm := ⟨_, rfl⟩
  obtain ⟨id, hid⟩ : ∃ id, e.id = id := ⟨_, rfl⟩
  rw [htm] at q3 ht' hb
  rw [hid] at q4 ⊢
  clear h hs hp hf hl hfl hrise ht htm hid
  go_enter Try.func25, Try.ntmps25
  go_wp2
  go_quiet (fail)
  have HW2 := Lib.hid (HW.out.below (below_drewN (Below.refl _ _) nq))
  have HS2 := Lib.hid (HS.out.below (below_drewN (Below.refl _ _) nq))
  have HK2 := Lib.hid (HKB.out nq)
  clear HKB HW HS
  go_wp2_with fail
  refine (wflag_any HW2.out id 1 (by omega)).mono ?_
  rintro e_r w3 ⟨rfl, C3, d3, hw3, hm3, hv3⟩
  have HS3 := Lib.hid (HS2.out.mv hm3 (fun ⟨a, ha, q⟩ => HP.out.cp a ha q) (fun x hx ⟨a, ha, q⟩ => HP.out.dc x a hx ha q.symm))
  have HP3 : Hid (Apt p A C3 D) := ⟨HP.out.ap, HP.out.cp.moved hv3 HS2.out.h.size, HP.out.da, (HP.out.dc.symm.moved hv3 fun y hy => (HS2.out.r.lt y hy).2).symm⟩
  have HK3 : Hid (KP w0 w w3 A C A C3) := fun b cs hh h0 h1 h2 => by
    obtain ⟨a1, a2, a3⟩ := HK2.out b cs hh h0 h1 h2
    exact ⟨a1.mv hm3 h0 (fun ⟨a, ha, q⟩ => a3 a ha q), a2, a3.moved hv3 a1.size⟩
  have HW3 := Lib.hid hw3
  clear hw3 hm3 hv3 HW2 HS2 HP HK2 q1 q2 z2 q3 z3 q4
  go_wp2_with fail
  refine (wend_any HW3.out HS3.out HP3.out top first last HF.out HL.out HFL.out HRI.out hnq hu).mono ?_
  rintro e_r w4 ⟨rfl, A4, n4, c4, hw4, hk4⟩
  have HEND : Hid (GotOut w0 w w4 g u cap A C (S ++ partsG first last first e ins) (F ++ [⟨id, 1⟩])) := ⟨A4, n4, c4, C3, m + 1, d3, hw4, HK3.out.on hk4⟩
  clear hw4 hk4
  go_wp2
  go_end0
  exact ⟨rfl, HEND.out⟩
/-! ### take -/
/-- The session that is open: what stands in memory. -/
def GotOpen (w0 w' : World) (g : Nat) (u cap : Int) (e : EvP) (ins : List EvP) (S' : List SegP) (F' : List FlagP) : Prop :=
  ∃ A n c C m d p D q r, Wat w0 w' g u cap (.pointer (some ⟨p, 0, none⟩)) A n c S' C m d F' ∧ Ses w0 w' p e D q r ins ∧ Apt p A C D
def GotNone (w0 w' : World) (g : Nat) (u cap : Int) (S' : List SegP) (F' : List FlagP) : Prop :=
  ∃ A n c C m d, Wat w0 w' g u cap (.pointer none) A n c S' C m d F'
/-- A session begins. -/
theorem open_new {V : Value} (h : Wat w0 w g u cap V A n c S C m d F) (b : EvP) (X : Array Value) (hX : X = sesC b (.slice none 0 0)) :
    GotOpen w0 ((w.setCell ⟨g, 2, none⟩ (.pointer (some ⟨w.heap.size, 0, none⟩))).alloc (.cells X 79)) g u cap b [] S F := by
  subst hX
  have hgB := h.gB
  have hsz := h.size
  have hsz2 : (w.setCell ⟨g, 2, none⟩ (.pointer (some ⟨w.heap.size, 0, none⟩))).heap.size = w.heap.size := by simp [World.setCell]
  refine ⟨A, n, c, C, m, d, w.heap.size, none, 0, 0, (h.open _).below (bel_alloc (Below.refl _ _) _), ⟨hsz, Has.new _ _ _ hsz2, rfl, TRow.nil _ _, fun x hx => (by cases hx)⟩, ⟨fun x hx => ?_, fun x hx => ?_, fun x y hx => (by cases hx), fun x y hx => (by cases hx)⟩⟩
  · have := (h.a.lt x hx).2; omega
  · have := (h.b.lt x hx).2; omega
/-- A setup of an event's cells, as the walk lays them. -/
def foldS (b : EvP) : Array Value := Array.foldl (fun cs x => cs.setIfInBounds x.snd x.fst) #[.int .i64 0, .int .i64 0, .int .i64 0, .int .i64 0, .int .i64 0, .int .i64 0, .int .i64 0, .int .i64 0, .int .i64 0, .int .i64 0, .int .i64 0, .slice none 0 0] ((evC b).zipIdx 0) 0 11
theorem foldS_eq (b : EvP) : foldS b = sesC b (.slice none 0 0) := by
  obtain ⟨a1, a2, a3, a4, a5, a6, a7, a8, a9, a10, a11⟩ := b
  simp [foldS, sesC, evC]
set_option maxHeartbeats 4000000 in
/-- An event, where no session is open behind pass. -/
theorem wtake_out (h0 : w0.heap.size ≤ w.heap.size) (b : EvP) (tm : Int) (htm : b.tm = tm) (S1 : List SegP) (F1 : List FlagP)
    (HP : Calls Try.prog 25 #[.pointer (some ⟨g, 0, none⟩), .int .i64 tm] (w.alloc (.cells (evC b) 39)) fun x w' => x = .returned (.tuple #[]) ∧ GotOut w0 (w.alloc (.cells (evC b) 39)) w' g u cap A C S1 F1)
    (hA : Off A w.heap.size) (hC : Off C w.heap.size) (hF : F1.length ≤ 900) :
    Calls Try.prog 24 #[.pointer (some ⟨g, 0, none⟩), .agg (evC b)] w fun x w' => x = .returned (.tuple #[]) ∧ (b.kd = 1 → GotOpen w0 w' g u cap b [] S1 F1) ∧ (b.kd ≠ 1 → GotNone w0 w' g u cap S1 (F1 ++ [⟨b.id, 3⟩])) := by
  have HB : Hid (Has (w.alloc (.cells (evC b) 39)) w.heap.size (evC b)) := Has.new w _ _ rfl
  have qt := HB.out.cell 2 (show (evC b)[2]? = some (.int .i64 b.tm) from rfl)
  have zt := cell_lt qt
  rw [htm] at qt
  have HPP := Lib.hid HP
  have HO := Lib.hid (And.intro h0 (And.intro hA hC))
  have HFF := Lib.hid hF
  clear HP htm hA hC h0 hF
  go_enter Try.func24, Try.ntmps24
  go_wp2_with fail
  refine HPP.out.mono ?_
  rintro e_r w1 ⟨rfl, A1, n1, c1, C1, m1, d1, hw1, hk1⟩
  obtain ⟨k1, k2, k3⟩ := hk1 _ _ HB.out HO.out.1 HO.out.2.1 HO.out.2.2
  have HB1 := Lib.hid k1
  have HO1 := Lib.hid (And.intro k2 k3)
  have HW1 := Lib.hid hw1
  have hm1 : m1 ≤ 1000 := by rw [← hw1.hm]; have := HFF.out; omega
  obtain ⟨be, hbe⟩ : ∃ be, Hid (w.heap.size = be) := ⟨_, rfl⟩
  rw [hbe.out] at HB1
  rw [hbe.out]
  clear k1 k2 k3 hw1 hk1 qt zt HB HPP
  have q3 := HB1.out.cell 3 (show (evC b)[3]? = some (.int .i64 b.kd) from rfl)
  have q0 := HB1.out.cell 0 (show (evC b)[0]? = some (.int .i64 b.id) from rfl)
  have z3 := cell_lt q3
  have qg := HW1.out.h.cell 2 rfl
  have zg := cell_lt qg
  have fg := HW1.out.h.frozen 2
  by_cases k1 : b.kd = 1
  · have k1' : (b.kd == 1) = true := by simpa using k1
    have HEND := Lib.hid (open_new HW1.out b _ (foldS_eq b))
    have HLD := Lib.hid (has_load_e HB1.out)
    have hk : ∀ x w', (x = Ending.returned (.tuple #[]) ∧ GotOpen w0 w' g u cap b [] S1 F1) → (x = .returned (.tuple #[]) ∧ (b.kd = 1 → GotOpen w0 w' g u cap b [] S1 F1) ∧ (b.kd ≠ 1 → GotNone w0 w' g u cap S1 (F1 ++ [⟨b.id, 3⟩]))) := fun x w' ⟨a, h⟩ => ⟨a, fun _ => h, fun q => absurd k1 q⟩
    replace hk := Lib.hid hk
    clear k1
    obtain ⟨kd, hkd⟩ : ∃ kd, Hid (b.kd = kd) := ⟨_, rfl⟩
    obtain ⟨id, hid⟩ : ∃ id, Hid (b.id = id) := ⟨_, rfl⟩
    rw [hkd.out] at q3 k1'
    rw [hid.out] at q0
    have hsz := evC_size b
    go_wp2_with (first | refine wpList_exec (o := ⟨some 48, _, _, _, _, _⟩) (by rfl) (exec_load_at _ rfl rfl HLD.out) ?_)
    go_end0
    exact hk.out _ _ ⟨rfl, HEND.out⟩
  · have k1' : (b.kd == 1) = false := beq_eq_false_iff_ne.2 k1
    have hk : ∀ x w', (x = Ending.returned (.tuple #[]) ∧ GotNone w0 w' g u cap S1 (F1 ++ [⟨b.id, 3⟩])) → (x = .returned (.tuple #[]) ∧ (b.kd = 1 → GotOpen w0 w' g u cap b [] S1 F1) ∧ (b.kd ≠ 1 → GotNone w0 w' g u cap S1 (F1 ++ [⟨b.id, 3⟩]))) := fun x w' ⟨a, h⟩ => ⟨a, fun q => absurd q k1, fun _ => h⟩
    replace hk := Lib.hid hk
    clear k1
    obtain ⟨kd, hkd⟩ : ∃ kd, Hid (b.kd = kd) := ⟨_, rfl⟩
    obtain ⟨id, hid⟩ : ∃ id, Hid (b.id = id) := ⟨_, rfl⟩
    rw [hkd.out] at q3 k1'
    rw [hid.out] at q0
    go_wp2_with fail
    refine (wflag_any HW1.out id 3 hm1).mono ?_
    rintro e_r w3 ⟨rfl, C3, d3, hw3, hm3, hv3⟩
    have HEND : Hid (GotNone w0 w3 g u cap S1 (F1 ++ [⟨id, 3⟩])) := ⟨_, _, _, _, _, _, hw3⟩
    clear hw3 hm3 hv3
    go_wp2
    go_end0
    have hid2 := hid.out
    subst hid2
    exact hk.out _ _ ⟨rfl, HEND.out⟩
set_option maxHeartbeats 8000000 in
theorem wtake_in1 {V0 : Value} (h : Wat w0 w g u cap (.pointer (some ⟨p, 0, none⟩)) A n c S C m d F) (hs : Ses w0 w p e D q r ins) (hp : Apt p A C D) (b : EvP) (tm : Int) (htm : b.tm = tm) (hk : b.kd = 1) (first last : Int) (hf : roundP e.tm u = first) (hl : roundP tm u = last) (hfl : first ≤ last) (hrise : ins.Pairwise (fun a b => a.tm ≤ b.tm)) (hnq : n + q ≤ 900) (hm : m ≤ 900) (hu : u ≤ 9223372036854775807)
    (HP : Calls Try.prog 25 #[.pointer (some ⟨g, 0, none⟩), .int .i64 tm] (w.alloc (.cells (evC b) 39)) fun x w' => x = .returned (.tuple #[]) ∧ Below (w.alloc (.cells (evC b) 39)).heap.size (w.alloc (.cells (evC b) 39)) w') :
    Calls Try.prog 24 #[.pointer (some ⟨g, 0, none⟩), .agg (evC b)] w fun x w' => x = .returned (.tuple #[]) ∧ GotOpen w0 w' g u cap b [] (S ++ partsG first last first e ins) (F ++ [⟨e.id, 2⟩]) := by
  have hb0 := bel_alloc (Below.refl w.heap.size w) (.cells (evC b) 39)
  have HB : Hid (Has (w.alloc (.cells (evC b) 39)) w.heap.size (evC b)) := Has.new w _ _ rfl
  have HW := Lib.hid (h.below hb0)
  have HS := Lib.hid (hs.below hb0)
  have HPT := Lib.hid hp
  have HBE : Hid (w0.heap.size ≤ w.heap.size ∧ Off A w.heap.size ∧ Off C w.heap.size) := ⟨h.size, fun x hx => by have := (h.a.lt x hx).2; omega, fun x hx => by have := (h.b.lt x hx).2; omega⟩
  have HPB := Lib.hid hs.h.size
  have HDL : Hid (∀ x, D = some x → x.block < w.heap.size) := fun x hx => (hs.r.lt x hx).2
  have qt := HB.out.cell 2 (show (evC b)[2]? = some (.int .i64 b.tm) from rfl)
  have zt := cell_lt qt
  rw [htm] at qt
  have HPP := Lib.hid HP
  have mixed : Try.prog.follows Departure.mixedOrders = true := by kernel_rfl
  have HF := Lib.hid hf
  have HL := Lib.hid hl
  have HFL := Lib.hid hfl
  have HRI := Lib.hid hrise
  clear hf hl hfl hrise
  have HTM := Lib.hid htm
  clear HP htm h hs hp hb0
  go_enter Try.func24, Try.ntmps24
  go_wp2_with fail
  refine HPP.out.mono ?_
  rintro e_r w1 ⟨rfl, hb1⟩
  have HBE1 := Lib.hid (HB.out.below hb1)
  have HWW := Lib.hid (HW.out.below hb1)
  have HSS := Lib.hid (HS.out.below hb1)
  obtain ⟨be, hbe⟩ : ∃ be, Hid (w.heap.size = be) := ⟨_, rfl⟩
  rw [hbe.out] at HBE1 HBE HPB HDL
  rw [hbe.out]
  clear hb1 qt zt HB HW HS HPP hbe
  have q3 := HBE1.out.cell 3 (show (evC b)[3]? = some (.int .i64 b.kd) from rfl)
  have z3 := cell_lt q3
  have qg := HWW.out.h.cell 2 rfl
  have zg := cell_lt qg
  have fg := HWW.out.h.frozen 2
  have q2 := HBE1.out.cell 2 (show (evC b)[2]? = some (.int .i64 b.tm) from rfl)
  have q4 := HSS.out.h.cell 0 (show (sesC e (.slice D q r))[0]? = some (.int .i64 e.id) from rfl)
  have z4 := cell_lt q4
  rw [hk] at q3
  obtain ⟨id, hid⟩ : ∃ id, Hid (e.id = id) := ⟨_, rfl⟩
  rw [hid.out] at q4
  clear q2
  go_wp2_with fail
  refine (wflag_any HWW.out id 2 (by omega)).mono ?_
  rintro e_r w3 ⟨rfl, C3, d3, hw3, hm3, hv3⟩
  have HS3 := Lib.hid (HSS.out.mv hm3 (fun ⟨a, ha, q⟩ => HPT.out.cp a ha q) (fun x hx ⟨a, ha, q⟩ => HPT.out.dc x a hx ha q.symm))
  have HP3 : Hid (Apt p A C3 D) := ⟨HPT.out.ap, HPT.out.cp.moved hv3 HSS.out.h.size, HPT.out.da, (HPT.out.dc.symm.moved hv3 fun y hy => (HSS.out.r.lt y hy).2).symm⟩
  have HB3 := Lib.hid (HBE1.out.mv hm3 HBE.out.1 (fun ⟨a, ha, q⟩ => HBE.out.2.2 a ha q))
  have HO3 := Lib.hid (HBE.out.2.2.moved hv3 HBE1.out.size)
  have HW3 := Lib.hid hw3
  have q2 := HB3.out.cell 2 (show (evC b)[2]? = some (.int .i64 b.tm) from rfl)
  have z2 := cell_lt q2
  rw [HTM.out] at q2
  clear hw3 hm3 hv3 HWW HSS HPT HBE1 q3 z3 qg zg fg q4 z4
  go_wp2_with fail
  refine (wend_any HW3.out HS3.out HP3.out tm first last HF.out HL.out HFL.out HRI.out hnq hu).mono ?_
  rintro e_r w4 ⟨rfl, A4, n4, c4, hw4, hk4⟩
  have HB4 := Lib.hid (hk4 _ _ HB3.out HBE.out.1 HBE.out.2.1 HO3.out).1
  have HEND := Lib.hid (open_new hw4 b _ (foldS_eq b))
  have HLD := Lib.hid (has_load_e HB4.out)
  have qg := hw4.h.cell 2 rfl
  have zg := cell_lt qg
  have fg := hw4.h.frozen 2
  clear hw4 hk4 q2 z2
  have hsz := evC_size b
  go_wp2_with (first | refine wpList_exec (o := ⟨some 48, _, _, _, _, _⟩) (by rfl) (exec_load_at _ rfl rfl HLD.out) ?_)
  go_end0
  have hid2 := hid.out
  subst hid2
  exact ⟨rfl, HEND.out⟩
set_option maxHeartbeats 8000000 in
theorem wtake_in2 {V0 : Value} (h : Wat w0 w g u cap (.pointer (some ⟨p, 0, none⟩)) A n c S C m d F) (hs : Ses w0 w p e D q r ins) (hp : Apt p A C D) (b : EvP) (tm : Int) (htm : b.tm = tm) (hk : b.kd = 2) (first last : Int) (hf : roundP e.tm u = first) (hl : roundP tm u = last) (hfl : first ≤ last) (hrise : ins.Pairwise (fun a b => a.tm ≤ b.tm)) (hnq : n + q ≤ 900) (hm : m ≤ 900) (hu : u ≤ 9223372036854775807)
    (HP : Calls Try.prog 25 #[.pointer (some ⟨g, 0, none⟩), .int .i64 tm] (w.alloc (.cells (evC b) 39)) fun x w' => x = .returned (.tuple #[]) ∧ Below (w.alloc (.cells (evC b) 39)).heap.size (w.alloc (.cells (evC b) 39)) w') :
    Calls Try.prog 24 #[.pointer (some ⟨g, 0, none⟩), .agg (evC b)] w fun x w' => x = .returned (.tuple #[]) ∧ GotNone w0 w' g u cap (S ++ partsG first last first e ins) F := by
  have hb0 := bel_alloc (Below.refl w.heap.size w) (.cells (evC b) 39)
  have HB : Hid (Has (w.alloc (.cells (evC b) 39)) w.heap.size (evC b)) := Has.new w _ _ rfl
  have HW := Lib.hid (h.below hb0)
  have HS := Lib.hid (hs.below hb0)
  have HPT := Lib.hid hp
  have HBE : Hid (w0.heap.size ≤ w.heap.size ∧ Off A w.heap.size ∧ Off C w.heap.size) := ⟨h.size, fun x hx => by have := (h.a.lt x hx).2; omega, fun x hx => by have := (h.b.lt x hx).2; omega⟩
  have HPB := Lib.hid hs.h.size
  have HDL : Hid (∀ x, D = some x → x.block < w.heap.size) := fun x hx => (hs.r.lt x hx).2
  have qt := HB.out.cell 2 (show (evC b)[2]? = some (.int .i64 b.tm) from rfl)
  have zt := cell_lt qt
  rw [htm] at qt
  have HPP := Lib.hid HP
  have mixed : Try.prog.follows Departure.mixedOrders = true := by kernel_rfl
  have HF := Lib.hid hf
  have HL := Lib.hid hl
  have HFL := Lib.hid hfl
  have HRI := Lib.hid hrise
  clear hf hl hfl hrise
  have HTM := Lib.hid htm
  clear HP htm h hs hp hb0
  go_enter Try.func24, Try.ntmps24
  go_wp2_with fail
  refine HPP.out.mono ?_
  rintro e_r w1 ⟨rfl, hb1⟩
  have HBE1 := Lib.hid (HB.out.below hb1)
  have HWW := Lib.hid (HW.out.below hb1)
  have HSS := Lib.hid (HS.out.below hb1)
  obtain ⟨be, hbe⟩ : ∃ be, Hid (w.heap.size = be) := ⟨_, rfl⟩
  rw [hbe.out] at HBE1 HBE HPB HDL
  rw [hbe.out]
  clear hb1 qt zt HB HW HS HPP hbe
  have q3 := HBE1.out.cell 3 (show (evC b)[3]? = some (.int .i64 b.kd) from rfl)
  have z3 := cell_lt q3
  have qg := HWW.out.h.cell 2 rfl
  have zg := cell_lt qg
  have fg := HWW.out.h.frozen 2
  have q2 := HBE1.out.cell 2 (show (evC b)[2]? = some (.int .i64 b.tm) from rfl)
  rw [hk] at q3
  rw [HTM.out] at q2
  go_wp2_with fail
  refine (wend_any HWW.out HSS.out HPT.out tm first last HF.out HL.out HFL.out HRI.out hnq hu).mono ?_
  rintro e_r w4 ⟨rfl, A4, n4, c4, hw4, hk4⟩
  have HEND : Hid (GotNone w0 w4 g u cap (S ++ partsG first last first e ins) F) := ⟨_, _, _, _, _, _, hw4⟩
  clear hw4 hk4
  go_wp2
  go_end0
  exact ⟨rfl, HEND.out⟩
set_option maxHeartbeats 8000000 in
theorem wtake_in3 {V0 : Value} (h : Wat w0 w g u cap (.pointer (some ⟨p, 0, none⟩)) A n c S C m d F) (hs : Ses w0 w p e D q r ins) (hp : Apt p A C D) (b : EvP) (tm : Int) (htm : b.tm = tm) (hk : b.kd ≠ 1 ∧ b.kd ≠ 2) (hq : q ≤ 1000)
    (HP : Calls Try.prog 25 #[.pointer (some ⟨g, 0, none⟩), .int .i64 tm] (w.alloc (.cells (evC b) 39)) fun x w' => x = .returned (.tuple #[]) ∧ Below (w.alloc (.cells (evC b) 39)).heap.size (w.alloc (.cells (evC b) 39)) w') :
    Calls Try.prog 24 #[.pointer (some ⟨g, 0, none⟩), .agg (evC b)] w fun x w' => x = .returned (.tuple #[]) ∧ GotOpen w0 w' g u cap e (ins ++ [b]) S F := by
  have hb0 := bel_alloc (Below.refl w.heap.size w) (.cells (evC b) 39)
  have HB : Hid (Has (w.alloc (.cells (evC b) 39)) w.heap.size (evC b)) := Has.new w _ _ rfl
  have HW := Lib.hid (h.below hb0)
  have HS := Lib.hid (hs.below hb0)
  have HPT := Lib.hid hp
  have HBE : Hid (w0.heap.size ≤ w.heap.size ∧ Off A w.heap.size ∧ Off C w.heap.size) := ⟨h.size, fun x hx => by have := (h.a.lt x hx).2; omega, fun x hx => by have := (h.b.lt x hx).2; omega⟩
  have HPB := Lib.hid hs.h.size
  have HDL : Hid (∀ x, D = some x → x.block < w.heap.size) := fun x hx => (hs.r.lt x hx).2
  have qt := HB.out.cell 2 (show (evC b)[2]? = some (.int .i64 b.tm) from rfl)
  have zt := cell_lt qt
  rw [htm] at qt
  have HPP := Lib.hid HP
  have mixed : Try.prog.follows Departure.mixedOrders = true := by kernel_rfl
  have HK := Lib.hid hk
  clear hk
  clear HP htm h hs hp hb0
  go_enter Try.func24, Try.ntmps24
  go_wp2_with fail
  refine HPP.out.mono ?_
  rintro e_r w1 ⟨rfl, hb1⟩
  have HBE1 := Lib.hid (HB.out.below hb1)
  have HWW := Lib.hid (HW.out.below hb1)
  have HSS := Lib.hid (HS.out.below hb1)
  obtain ⟨be, hbe⟩ : ∃ be, Hid (w.heap.size = be) := ⟨_, rfl⟩
  rw [hbe.out] at HBE1 HBE HPB HDL
  rw [hbe.out]
  clear hb1 qt zt HB HW HS HPP hbe
  have q3 := HBE1.out.cell 3 (show (evC b)[3]? = some (.int .i64 b.kd) from rfl)
  have z3 := cell_lt q3
  have qg := HWW.out.h.cell 2 rfl
  have zg := cell_lt qg
  have fg := HWW.out.h.frozen 2
  have k1' : (b.kd == 1) = false := beq_eq_false_iff_ne.2 HK.out.1
  have k2' : (b.kd == 2) = false := beq_eq_false_iff_ne.2 HK.out.2
  obtain ⟨kd, hkd⟩ : ∃ kd, Hid (b.kd = kd) := ⟨_, rfl⟩
  rw [hkd.out] at q3 k1' k2'
  clear hkd
  have hB1 : w0.heap.size ≤ w1.heap.size := HWW.out.size
  replace hB1 := Lib.hid hB1
  go_wp2_with fail
  have HBE' := HBE
  have HPUSH : Hid (∃ D' r' w', (Builtin.append_ #[31, 31] 31 #[.slice D q r, .slice (some ⟨w1.heap.size, 0, none⟩) 1 1]).run Try.prog (w1.drew.alloc (.cells (evC b) 39)) = .ok (.slice D' (q + 1) r') w' ∧
      Has w' p (sesC e (.slice D q r)) ∧ Ses w0 (w'.setCell ⟨p, 11, none⟩ (.slice D' (q + 1) r')) p e D' (q + 1) r' (ins ++ [b]) ∧
      Mv w0.heap.size (OnB D) w1.drew w' ∧ Moved w1.drew D D' ∧ Kept (fun b => b < w0.heap.size) w1.drew w') := HSS.out.drew.push b hq hB1.out rfl
  obtain ⟨D9, r9, w9, hr9, hh9, hs9, hm9, hv9, hk9⟩ := HPUSH.out
  have HR9 := Lib.hid hr9
  have HH9 := Lib.hid hh9
  have HPD : Hid (¬ OnB D p) := fun ⟨a, ha, q⟩ => HSS.out.ne a ha q
  have HGG : Hid (w9.heap[g]? = w1.heap[g]?) := hk9.block g HWW.out.gB
  have HW9 : Hid (Wat w0 w9 g u cap (.pointer (some ⟨p, 0, none⟩)) A n c S C m d F) :=
    HWW.out.drew.mv hm9 HGG.out (fun x hx ⟨a, ha, q⟩ => HPT.out.da a x ha hx q) (fun x hx ⟨a, ha, q⟩ => HPT.out.dc a x ha hx q) (hk9.less fun i hi => hi.1)
  have HG9 := Lib.hid HW9.out.h
  have HDB : Hid (¬ OnB D be) := fun ⟨a, ha, q⟩ => by
    have h1 := (HDL.out a ha)
    omega
  have HB9 : Hid (Has w9 be (evC b)) := HBE1.out.drew.mv hm9 HBE.out.1 HDB.out
  have HEND : Hid (GotOpen w0 (w9.setCell ⟨p, 11, none⟩ (.slice D9 (q + 1) r9)) g u cap e (ins ++ [b]) S F) :=
    ⟨A, n, c, C, m, d, p, D9, q + 1, r9, HW9.out.other ⟨HSS.out.pB, HPT.out.ap⟩ HPT.out.cp 11 _, hs9, HPT.out.ap, HPT.out.cp, HPT.out.da.moved hv9 (fun y hy => (HWW.out.a.lt y hy).2), HPT.out.dc.moved hv9 (fun y hy => (HWW.out.b.lt y hy).2)⟩
  have HBE := HBE1
  clear HPUSH hr9 hh9 hs9 hm9 hv9 hk9 q3 z3 qg zg fg
  refine wp_region_noPanic ?_
  refine wp_region_last (S := fun w' => Has w' g #[.int .i64 u, .int .i64 cap, .pointer (some ⟨p, 0, none⟩), .slice A n c, .slice C m d] ∧ Has w' p (sesC e (.slice D q r)) ∧ Has w' be (evC b)) 16 (by kernel_rfl) (⟨HWW.out.h.drew, HSS.out.h.drew, HBE.out.drew⟩) (fun hHeld => ?_)
  refine wpAnyK_take (i := 0) (oi := ⟨some 8, _, _, _, _, _⟩) (v := ?_) rfl (by kernel_rfl) (by kernel_rfl) (by kernel_rfl) (by kernel_rfl) (fun _ _ _ h => h) (Or.inl ⟨by rfl, ?_⟩) hHeld ?_
  rotate_left
  · intro ww hSw
    (try dsimp only at hSw)
    go_simp
    (try with_reducible rfl)
  simp only [Act.put, List.setIfInBounds_toArray, List.set_cons_zero, List.set_cons_succ]
  refine wpAnyK_take (i := 1) (oi := ⟨some 9, _, _, _, _, _⟩) (v := ?_) rfl (by kernel_rfl) (by kernel_rfl) (by kernel_rfl) (by kernel_rfl) (fun _ _ _ h => h) (Or.inl ⟨by rfl, ?_⟩) hHeld ?_
  rotate_left
  · intro ww hSw
    (try dsimp only at hSw)
    go_simp
    (try with_reducible rfl)
  simp only [Act.put, List.setIfInBounds_toArray, List.set_cons_zero, List.set_cons_succ]
  refine wpAnyK_take (i := 2) (oi := ⟨some 10, _, _, _, _, _⟩) (v := ?_) rfl (by kernel_rfl) (by kernel_rfl) (by kernel_rfl) (by kernel_rfl) (fun _ _ _ h => h) (Or.inl ⟨by rfl, ?_⟩) hHeld ?_
  rotate_left
  · intro ww hSw
    (try dsimp only at hSw)
    go_simp
    (try with_reducible rfl)
  simp only [Act.put, List.setIfInBounds_toArray, List.set_cons_zero, List.set_cons_succ]
  refine wpAnyK_take (i := 3) (oi := ⟨some 11, _, _, _, _, _⟩) (v := .pointer (some ⟨p, 0, none⟩)) rfl (by kernel_rfl) (by kernel_rfl) (by kernel_rfl) (by kernel_rfl) (fun _ _ _ h => h) (Or.inl ⟨by rfl, ?_⟩) hHeld ?_
  · intro ww hSw
    have q := hSw.1.cell 2 rfl
    have qz := cell_lt q
    go_simp
  simp only [Act.put, List.setIfInBounds_toArray, List.set_cons_zero, List.set_cons_succ]
  refine wpAnyK_take (i := 4) (oi := ⟨some 12, _, _, _, _, _⟩) (v := ?_) rfl (by kernel_rfl) (by kernel_rfl) (by kernel_rfl) (by kernel_rfl) (fun _ _ _ h => h) (Or.inl ⟨by rfl, ?_⟩) hHeld ?_
  rotate_left
  · intro ww hSw
    (try dsimp only at hSw)
    go_simp
    (try with_reducible rfl)
  simp only [Act.put, List.setIfInBounds_toArray, List.set_cons_zero, List.set_cons_succ]
  refine wpAnyK_take (i := 5) (oi := ⟨some 13, _, _, _, _, _⟩) (v := ?_) rfl (by kernel_rfl) (by kernel_rfl) (by kernel_rfl) (by kernel_rfl) (fun _ _ _ h => h) (Or.inl ⟨by rfl, ?_⟩) hHeld ?_
  rotate_left
  · intro ww hSw
    (try dsimp only at hSw)
    go_simp
    (try with_reducible rfl)
  simp only [Act.put, List.setIfInBounds_toArray, List.set_cons_zero, List.set_cons_succ]
  refine wpAnyK_take (i := 6) (oi := ⟨some 14, _, _, _, _, _⟩) (v := ?_) rfl (by kernel_rfl) (by kernel_rfl) (by kernel_rfl) (by kernel_rfl) (fun _ _ _ h => h) (Or.inl ⟨by rfl, ?_⟩) hHeld ?_
  rotate_left
  · intro ww hSw
    (try dsimp only at hSw)
    go_simp
    (try with_reducible rfl)
  simp only [Act.put, List.setIfInBounds_toArray, List.set_cons_zero, List.set_cons_succ]
  refine wpAnyK_take (i := 7) (oi := ⟨some 15, _, _, _, _, _⟩) (v := .pointer (some ⟨p, 0, none⟩)) rfl (by kernel_rfl) (by kernel_rfl) (by kernel_rfl) (by kernel_rfl) (fun _ _ _ h => h) (Or.inl ⟨by rfl, ?_⟩) hHeld ?_
  · intro ww hSw
    have q := hSw.1.cell 2 rfl
    have qz := cell_lt q
    go_simp
  simp only [Act.put, List.setIfInBounds_toArray, List.set_cons_zero, List.set_cons_succ]
  refine wpAnyK_take (i := 8) (oi := ⟨some 16, _, _, _, _, _⟩) (v := ?_) rfl (by kernel_rfl) (by kernel_rfl) (by kernel_rfl) (by kernel_rfl) (fun _ _ _ h => h) (Or.inl ⟨by rfl, ?_⟩) hHeld ?_
  rotate_left
  · intro ww hSw
    (try dsimp only at hSw)
    go_simp
    (try with_reducible rfl)
  simp only [Act.put, List.setIfInBounds_toArray, List.set_cons_zero, List.set_cons_succ]
  refine wpAnyK_take (i := 9) (oi := ⟨some 17, _, _, _, _, _⟩) (v := ?_) rfl (by kernel_rfl) (by kernel_rfl) (by kernel_rfl) (by kernel_rfl) (fun _ _ _ h => h) (Or.inl ⟨by rfl, ?_⟩) hHeld ?_
  rotate_left
  · intro ww hSw
    (try dsimp only at hSw)
    go_simp
    (try with_reducible rfl)
  simp only [Act.put, List.setIfInBounds_toArray, List.set_cons_zero, List.set_cons_succ]
  refine wpAnyK_take (i := 10) (oi := ⟨some 18, _, _, _, _, _⟩) (v := .slice D q r) rfl (by kernel_rfl) (by kernel_rfl) (by kernel_rfl) (by kernel_rfl) (fun _ _ _ h => h) (Or.inl ⟨by rfl, ?_⟩) hHeld ?_
  · intro ww hSw
    have q := hSw.2.1.cell 11 (show (sesC e (.slice D q r))[11]? = some (.slice D q r) from rfl)
    have qz := cell_lt q
    go_simp
  simp only [Act.put, List.setIfInBounds_toArray, List.set_cons_zero, List.set_cons_succ]
  refine wpAnyK_take (i := 11) (oi := ⟨some 19, _, _, _, _, _⟩) (v := .agg (evC b)) rfl (by kernel_rfl) (by kernel_rfl) (by kernel_rfl) (by kernel_rfl) (fun _ _ _ h => h) (Or.inl ⟨by rfl, ?_⟩) hHeld ?_
  · intro ww hSw
    exact exec_load_at _ rfl rfl (has_load_e hSw.2.2)
  simp only [Act.put, List.setIfInBounds_toArray, List.set_cons_zero, List.set_cons_succ]
  refine wpAnyK_up (i := 12) (o := ⟨some 20, _, _, _, _, _⟩) (by kernel_rfl) rfl (fun K hK => ?_)
  show if Region.wanted _ _ = true then _ else _
  rw [if_pos (by rfl)]
  refine wp_build_e b rfl rfl ?_
  refine hK.out _ _ (fun _ => ?_) (fun hHeld => ?_)
  · exact ⟨hHeld.1.alloc _, hHeld.2.1.alloc _, hHeld.2.2.alloc _⟩
  replace hHeld := hHeld (by decide)
  clear hK K
  (try simp only [Act.put, List.setIfInBounds_toArray, List.set_cons_zero, List.set_cons_succ])
  refine wpAnyK_up (i := 13) (o := ⟨some 21, _, _, _, _, _⟩) (by kernel_rfl) rfl (fun K hK => ?_)
  show if Region.wanted _ _ = true then _ else _
  rw [if_pos (by rfl)]
  refine wp_append_run8 (K := K) HR9.out rfl rfl rfl ?_
  refine hK.out _ _ (fun _ => ?_) (fun hHeld => ?_)
  · exact ⟨HG9.out, HH9.out, HB9.out⟩
  replace hHeld := hHeld (by decide)
  clear hK K
  (try simp only [Act.put, List.setIfInBounds_toArray, List.set_cons_zero, List.set_cons_succ])
  refine wpAnyK_up (i := 14) (o := ⟨some 22, _, _, _, _, _⟩) (by kernel_rfl) rfl (fun K hK => ?_)
  go_simp
  refine hK.out _ _ (fun _ => ?_) (fun hHeld => ?_)
  · exact hHeld
  replace hHeld := hHeld (by decide)
  clear hK K
  (try simp only [Act.put, List.setIfInBounds_toArray, List.set_cons_zero, List.set_cons_succ])
  refine wpAnyK_take (i := 15) (oi := ⟨some 23, _, _, _, _, _⟩) (v := ?_) rfl (by kernel_rfl) (by kernel_rfl) (by kernel_rfl) (by kernel_rfl) (fun _ _ _ h => h) (Or.inl ⟨by rfl, ?_⟩) hHeld ?_
  rotate_left
  · intro ww hSw
    (try dsimp only at hSw)
    go_simp
    (try with_reducible rfl)
  simp only [Act.put, List.setIfInBounds_toArray, List.set_cons_zero, List.set_cons_succ]
  refine wpAnyK_up (i := 16) (o := ⟨none, _, _, _, _, _⟩) (by kernel_rfl) rfl (fun K hK => ?_)
  have qs := HH9.out.cell 11 (show (sesC e (.slice D q r))[11]? = some (.slice D q r) from rfl)
  have qf := HH9.out.frozen 11
  have qz := cell_lt qs
  go_simp
  refine hK.out _ _ (fun h => absurd rfl h) (fun _ => ?_)
  clear hK K
  (try simp only [Act.put, List.setIfInBounds_toArray, List.set_cons_zero, List.set_cons_succ])
  refine wpAnyK_done (by kernel_rfl) ?_ _
  refine NoPanic.normal ?_
  go_wp2
  go_end0
  exact ⟨rfl, HEND.out⟩
end
end Go.Proofs.Ytbijaaglmhoopaa
