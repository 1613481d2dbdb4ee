/-
  Package stream's pass and take.
  Package stream's step over the next event, and each.
-/
import Derived.Test.YtpgncbhahocmbaaGreatQat
namespace Go.Proofs.YtpgncbhahocmbaaGreat
open Go.RowKit
set_option linter.unusedVariables false
set_option linter.unusedSimpArgs false
set_option maxRecDepth 20000

section
variable {w0 w : World} {g : Nat} {u cap : Int} {A C D : Option Addr} {n c m d p q r : Nat} {S : List SegP} {F : List FlagP} {e : EvP} {ins : List EvP}
theorem wrapw_id {a : Int} (h0 : -9223372036854775808 ≤ a) (h1 : a < 9223372036854775808) : IntKind.i64.wrap a = a := by
  simp [IntKind.wrap, IntKind.bits, IntKind.signed]
  split <;> omega
theorem KP.refl (w0 w : World) (A C : Option Addr) : KP w0 w w A C A C := fun _ _ h _ a b => ⟨h, a, b⟩
theorem KP.on {w1 w2 : World} {A1 C1 A2 C2 : Option Addr} (h : KP w0 w w1 A C A1 C1) (k : KP w0 w1 w2 A1 C1 A2 C2) : KP w0 w w2 A C A2 C2 := fun b cs hh h0 h1 h2 => by
  obtain ⟨a1, a2, a3⟩ := h b cs hh h0 h1 h2
  exact k b cs a1 h0 a2 a3
theorem KP.below {w1 w2 : World} {A1 C1 : Option Addr} (h : KP w0 w w1 A C A1 C1) (k : Below w1.heap.size w1 w2) : KP w0 w w2 A C A1 C1 := fun b cs hh h0 h1 h2 => by
  obtain ⟨a1, a2, a3⟩ := h b cs hh h0 h1 h2
  exact ⟨a1.below k, a2, a3⟩
/-- What pass leaves, where a session ends. -/
def GotOut (w0 w w' : World) (g : Nat) (u cap : Int) (A C : Option Addr) (S' : List SegP) (F' : List FlagP) : Prop :=
  ∃ A' n' c' C' m' d', Wat w0 w' g u cap (.pointer none) A' n' c' S' C' m' d' F' ∧ KP w0 w w' A C A' C'
theorem wpass_none (h : Wat w0 w g u cap (.pointer none) A n c S C m d F) (t : Int) :
    Calls Tryz.prog 52 #[.pointer (some ⟨g, 0, none⟩), .int .i64 t] w fun x w' => x = .returned (.tuple #[]) ∧ w = w' := by
  have q2 := h.h.cell 2 rfl
  have z2 := cell_lt q2
  clear h
  go_enter Tryz.func52, Tryz.ntmps52
  go_wp2
  (try simp only [Exit.inBlock, Exit.then])
  refine bodyPost_ret (results_none rfl _ _ _) rfl ⟨rfl, rfl⟩
theorem wpass_not (h : Wat w0 w g u cap (.pointer (some ⟨p, 0, none⟩)) A n c S C m d F) (hs : Ses w0 w p e D q r ins) (t top : Int) (ht : e.tm + cap = top) (hle : ¬ top < t) (hb : 0 ≤ e.tm ∧ e.tm ≤ 100000000) (hc : 0 ≤ cap ∧ cap ≤ 100000000) :
    Calls Tryz.prog 52 #[.pointer (some ⟨g, 0, none⟩), .int .i64 t] w fun x w' => x = .returned (.tuple #[]) ∧ Below w.heap.size w w' := by
  have q1 := h.h.cell 1 rfl
  have q2 := h.h.cell 2 rfl
  have z2 := cell_lt q2
  have q3 := hs.h.cell 2 (show (sesC e (.slice D q r))[2]? = some (.int .i64 e.tm) from rfl)
  have z3 := cell_lt q3
  have ht' : IntKind.i64.wrap (e.tm + cap) = top := by rw [ht]; exact wrapw_id (by omega) (by omega)
  have mixed : Tryz.prog.follows Departure.mixedOrders = true := by kernel_rfl
  obtain ⟨tm, htm⟩ : ∃ tm, e.tm = tm := ⟨_, rfl⟩
  rw [htm] at q3 ht' hb
  clear h hs ht htm
  go_enter Tryz.func52, Tryz.ntmps52
  go_wp2
  go_quiet (fail)
  go_wp2
  go_end0
  exact ⟨rfl, below_drewN (Below.refl _ _) _⟩
set_option maxHeartbeats 4000000 in
theorem wpass_end (h : Wat w0 w g u cap (.pointer (some ⟨p, 0, none⟩)) A n c S C m d F) (hs : Ses w0 w p e D q r ins) (hp : Apt p A C D) (t top : Int) (ht : e.tm + cap = top) (hle : top < t) (hb : 0 ≤ e.tm ∧ e.tm ≤ 100000000) (hc : 0 ≤ cap ∧ cap ≤ 100000000)
    (first last : Int) (hf : roundP e.tm u = first) (hl : roundP top u = last) (hfl : first ≤ last) (hrise : ins.Pairwise (fun a b => a.tm ≤ b.tm)) (hnq : n + q ≤ 900) (hm : m ≤ 900) (hu : u ≤ 9223372036854775807) :
    Calls Tryz.prog 52 #[.pointer (some ⟨g, 0, none⟩), .int .i64 t] w fun x w' => x = .returned (.tuple #[]) ∧ GotOut w0 w w' g u cap A C (S ++ partsG first last first e ins) (F ++ [⟨e.id, 1⟩]) := by
  have HW := Lib.hid h
  have HS := Lib.hid hs
  have HP := Lib.hid hp
  have HF := Lib.hid hf
  have HL := Lib.hid hl
  have HFL := Lib.hid hfl
  have HRI := Lib.hid hrise
  have HTOP := Lib.hid ht
  have q1 := h.h.cell 1 rfl
  have q2 := h.h.cell 2 rfl
  have z2 := cell_lt q2
  have q3 := hs.h.cell 2 (show (sesC e (.slice D q r))[2]? = some (.int .i64 e.tm) from rfl)
  have z3 := cell_lt q3
  have q4 := hs.h.cell 0 (show (sesC e (.slice D q r))[0]? = some (.int .i64 e.id) from rfl)
  have ht' : IntKind.i64.wrap (e.tm + cap) = top := by rw [ht]; exact wrapw_id (by omega) (by omega)
  have mixed : Tryz.prog.follows Departure.mixedOrders = true := by kernel_rfl
  have HKB : Hid (∀ k, KP w0 w (w.drewN k) A C A C) := fun k => (KP.refl _ _ _ _).below (below_drewN (Below.refl _ _) _)
  obtain ⟨tm, htm⟩ : ∃ tm, e.tm = tm := ⟨_, rfl⟩
  obtain ⟨id, hid⟩ : ∃ id, e.id = id := ⟨_, rfl⟩
  rw [htm] at q3 ht' hb
  rw [hid] at q4 ⊢
  clear h hs hp hf hl hfl hrise ht htm hid
  go_enter Tryz.func52, Tryz.ntmps52
  go_wp2
  go_quiet (fail)
  have HW2 := Lib.hid (HW.out.below (below_drewN (Below.refl _ _) nq))
  have HS2 := Lib.hid (HS.out.below (below_drewN (Below.refl _ _) nq))
  have HK2 := Lib.hid (HKB.out nq)
  clear HKB HW HS
  go_wp2_with fail
  refine (wflag_any HW2.out id 1 (by omega)).mono ?_
  rintro e_r w3 ⟨rfl, C3, d3, hw3, hm3, hv3⟩
  have HS3 := Lib.hid (HS2.out.mv hm3 (fun ⟨a, ha, q⟩ => HP.out.cp a ha q) (fun x hx ⟨a, ha, q⟩ => HP.out.dc x a hx ha q.symm))
  have HP3 : Hid (Apt p A C3 D) := ⟨HP.out.ap, HP.out.cp.moved hv3 HS2.out.h.size, HP.out.da, (HP.out.dc.symm.moved hv3 fun y hy => (HS2.out.r.lt y hy).2).symm⟩
  have HK3 : Hid (KP w0 w w3 A C A C3) := fun b cs hh h0 h1 h2 => by
    obtain ⟨a1, a2, a3⟩ := HK2.out b cs hh h0 h1 h2
    exact ⟨a1.mv hm3 h0 (fun ⟨a, ha, q⟩ => a3 a ha q), a2, a3.moved hv3 a1.size⟩
  have HW3 := Lib.hid hw3
  clear hw3 hm3 hv3 HW2 HS2 HP HK2 q1 q2 z2 q3 z3 q4
  go_wp2_with fail
  refine (wend_any HW3.out HS3.out HP3.out top first last HF.out HL.out HFL.out HRI.out hnq hu).mono ?_
  rintro e_r w4 ⟨rfl, A4, n4, c4, hw4, hk4⟩
  have HEND : Hid (GotOut w0 w w4 g u cap A C (S ++ partsG first last first e ins) (F ++ [⟨id, 1⟩])) := ⟨A4, n4, c4, C3, m + 1, d3, hw4, HK3.out.on hk4⟩
  clear hw4 hk4
  go_wp2
  go_end0
  exact ⟨rfl, HEND.out⟩
/-! ### take -/
/-- The session that is open: what stands in memory. -/
def GotOpen (w0 w' : World) (g : Nat) (u cap : Int) (e : EvP) (ins : List EvP) (S' : List SegP) (F' : List FlagP) : Prop :=
  ∃ A n c C m d p D q r, Wat w0 w' g u cap (.pointer (some ⟨p, 0, none⟩)) A n c S' C m d F' ∧ Ses w0 w' p e D q r ins ∧ Apt p A C D
def GotNone (w0 w' : World) (g : Nat) (u cap : Int) (S' : List SegP) (F' : List FlagP) : Prop :=
  ∃ A n c C m d, Wat w0 w' g u cap (.pointer none) A n c S' C m d F'
/-- A session begins. -/
theorem open_new {V : Value} (h : Wat w0 w g u cap V A n c S C m d F) (b : EvP) (X : Array Value) (hX : X = sesC b (.slice none 0 0)) :
    GotOpen w0 ((w.setCell ⟨g, 2, none⟩ (.pointer (some ⟨w.heap.size, 0, none⟩))).alloc (.cells X 136)) g u cap b [] S F := by
  subst hX
  have hgB := h.gB
  have hsz := h.size
  have hsz2 : (w.setCell ⟨g, 2, none⟩ (.pointer (some ⟨w.heap.size, 0, none⟩))).heap.size = w.heap.size := by simp [World.setCell]
  refine ⟨A, n, c, C, m, d, w.heap.size, none, 0, 0, (h.open _).below (bel_alloc (Below.refl _ _) _), ⟨hsz, Has.new _ _ _ hsz2, rfl, TRow.nil _ _, fun x hx => (by cases hx)⟩, ⟨fun x hx => ?_, fun x hx => ?_, fun x y hx => (by cases hx), fun x y hx => (by cases hx)⟩⟩
  · have := (h.a.lt x hx).2; omega
  · have := (h.b.lt x hx).2; omega
/-- A setup of an event's cells, as the walk lays them. -/
def foldS (b : EvP) : Array Value := Array.foldl (fun cs x => cs.setIfInBounds x.snd x.fst) #[.int .i64 0, .int .i64 0, .int .i64 0, .int .i64 0, .int .i64 0, .int .i64 0, .int .i64 0, .int .i64 0, .int .i64 0, .int .i64 0, .int .i64 0, .slice none 0 0] ((evC b).zipIdx 0) 0 11
theorem foldS_eq (b : EvP) : foldS b = sesC b (.slice none 0 0) := by
  obtain ⟨a1, a2, a3, a4, a5, a6, a7, a8, a9, a10, a11⟩ := b
  simp [foldS, sesC, evC]
set_option maxHeartbeats 4000000 in
/-- An event, where no session is open behind pass. -/
theorem wtake_out (h0 : w0.heap.size ≤ w.heap.size) (b : EvP) (tm : Int) (htm : b.tm = tm) (S1 : List SegP) (F1 : List FlagP)
    (HP : Calls Tryz.prog 52 #[.pointer (some ⟨g, 0, none⟩), .int .i64 tm] (w.alloc (.cells (evC b) 43)) fun x w' => x = .returned (.tuple #[]) ∧ GotOut w0 (w.alloc (.cells (evC b) 43)) w' g u cap A C S1 F1)
    (hA : Off A w.heap.size) (hC : Off C w.heap.size) (hF : F1.length ≤ 900) :
    Calls Tryz.prog 51 #[.pointer (some ⟨g, 0, none⟩), .agg (evC b)] w fun x w' => x = .returned (.tuple #[]) ∧ (b.kd = 1 → GotOpen w0 w' g u cap b [] S1 F1) ∧ (b.kd ≠ 1 → GotNone w0 w' g u cap S1 (F1 ++ [⟨b.id, 3⟩])) := by
  have HB : Hid (Has (w.alloc (.cells (evC b) 43)) w.heap.size (evC b)) := Has.new w _ _ rfl
  have qt := HB.out.cell 2 (show (evC b)[2]? = some (.int .i64 b.tm) from rfl)
  have zt := cell_lt qt
  rw [htm] at qt
  have HPP := Lib.hid HP
  have HO := Lib.hid (And.intro h0 (And.intro hA hC))
  have HFF := Lib.hid hF
  clear HP htm hA hC h0 hF
  go_enter Tryz.func51, Tryz.ntmps51
  go_wp2_with fail
  refine HPP.out.mono ?_
  rintro e_r w1 ⟨rfl, A1, n1, c1, C1, m1, d1, hw1, hk1⟩
  obtain ⟨k1, k2, k3⟩ := hk1 _ _ HB.out HO.out.1 HO.out.2.1 HO.out.2.2
  have HB1 := Lib.hid k1
  have HO1 := Lib.hid (And.intro k2 k3)
  have HW1 := Lib.hid hw1
  have hm1 : m1 ≤ 1000 := by rw [← hw1.hm]; have := HFF.out; omega
  obtain ⟨be, hbe⟩ : ∃ be, Hid (w.heap.size = be) := ⟨_, rfl⟩
  rw [hbe.out] at HB1
  rw [hbe.out]
  clear k1 k2 k3 hw1 hk1 qt zt HB HPP
  have q3 := HB1.out.cell 3 (show (evC b)[3]? = some (.int .i64 b.kd) from rfl)
  have q0 := HB1.out.cell 0 (show (evC b)[0]? = some (.int .i64 b.id) from rfl)
  have z3 := cell_lt q3
  have qg := HW1.out.h.cell 2 rfl
  have zg := cell_lt qg
  have fg := HW1.out.h.frozen 2
  by_cases k1 : b.kd = 1
  · have k1' : (b.kd == 1) = true := by simpa using k1
    have HEND := Lib.hid (open_new HW1.out b _ (foldS_eq b))
    have HLD := Lib.hid (has_load_e HB1.out)
    have hk : ∀ x w', (x = Ending.returned (.tuple #[]) ∧ GotOpen w0 w' g u cap b [] S1 F1) → (x = .returned (.tuple #[]) ∧ (b.kd = 1 → GotOpen w0 w' g u cap b [] S1 F1) ∧ (b.kd ≠ 1 → GotNone w0 w' g u cap S1 (F1 ++ [⟨b.id, 3⟩]))) := fun x w' ⟨a, h⟩ => ⟨a, fun _ => h, fun q => absurd k1 q⟩
    replace hk := Lib.hid hk
    clear k1
    obtain ⟨kd, hkd⟩ : ∃ kd, Hid (b.kd = kd) := ⟨_, rfl⟩
    obtain ⟨id, hid⟩ : ∃ id, Hid (b.id = id) := ⟨_, rfl⟩
    rw [hkd.out] at q3 k1'
    rw [hid.out] at q0
    have hsz := evC_size b
    go_wp2_with (first | refine wpList_exec (o := ⟨some 48, _, _, _, _, _⟩) (by rfl) (exec_load_at _ rfl rfl HLD.out) ?_)
    go_end0
    exact hk.out _ _ ⟨rfl, HEND.out⟩
  · have k1' : (b.kd == 1) = false := beq_eq_false_iff_ne.2 k1
    have hk : ∀ x w', (x = Ending.returned (.tuple #[]) ∧ GotNone w0 w' g u cap S1 (F1 ++ [⟨b.id, 3⟩])) → (x = .returned (.tuple #[]) ∧ (b.kd = 1 → GotOpen w0 w' g u cap b [] S1 F1) ∧ (b.kd ≠ 1 → GotNone w0 w' g u cap S1 (F1 ++ [⟨b.id, 3⟩]))) := fun x w' ⟨a, h⟩ => ⟨a, fun q => absurd q k1, fun _ => h⟩
    replace hk := Lib.hid hk
    clear k1
    obtain ⟨kd, hkd⟩ : ∃ kd, Hid (b.kd = kd) := ⟨_, rfl⟩
    obtain ⟨id, hid⟩ : ∃ id, Hid (b.id = id) := ⟨_, rfl⟩
    rw [hkd.out] at q3 k1'
    rw [hid.out] at q0
    go_wp2_with fail
    refine (wflag_any HW1.out id 3 hm1).mono ?_
    rintro e_r w3 ⟨rfl, C3, d3, hw3, hm3, hv3⟩
    have HEND : Hid (GotNone w0 w3 g u cap S1 (F1 ++ [⟨id, 3⟩])) := ⟨_, _, _, _, _, _, hw3⟩
    clear hw3 hm3 hv3
    go_wp2
    go_end0
    have hid2 := hid.out
    subst hid2
    exact hk.out _ _ ⟨rfl, HEND.out⟩
set_option maxHeartbeats 8000000 in
theorem wtake_in1 {V0 : Value} (h : Wat w0 w g u cap (.pointer (some ⟨p, 0, none⟩)) A n c S C m d F) (hs : Ses w0 w p e D q r ins) (hp : Apt p A C D) (b : EvP) (tm : Int) (htm : b.tm = tm) (hk : b.kd = 1) (first last : Int) (hf : roundP e.tm u = first) (hl : roundP tm u = last) (hfl : first ≤ last) (hrise : ins.Pairwise (fun a b => a.tm ≤ b.tm)) (hnq : n + q ≤ 900) (hm : m ≤ 900) (hu : u ≤ 9223372036854775807)
    (HP : Calls Tryz.prog 52 #[.pointer (some ⟨g, 0, none⟩), .int .i64 tm] (w.alloc (.cells (evC b) 43)) fun x w' => x = .returned (.tuple #[]) ∧ Below (w.alloc (.cells (evC b) 43)).heap.size (w.alloc (.cells (evC b) 43)) w') :
    Calls Tryz.prog 51 #[.pointer (some ⟨g, 0, none⟩), .agg (evC b)] w fun x w' => x = .returned (.tuple #[]) ∧ GotOpen w0 w' g u cap b [] (S ++ partsG first last first e ins) (F ++ [⟨e.id, 2⟩]) := by
  have hb0 := bel_alloc (Below.refl w.heap.size w) (.cells (evC b) 43)
  have HB : Hid (Has (w.alloc (.cells (evC b) 43)) w.heap.size (evC b)) := Has.new w _ _ rfl
  have HW := Lib.hid (h.below hb0)
  have HS := Lib.hid (hs.below hb0)
  have HPT := Lib.hid hp
  have HBE : Hid (w0.heap.size ≤ w.heap.size ∧ Off A w.heap.size ∧ Off C w.heap.size) := ⟨h.size, fun x hx => by have := (h.a.lt x hx).2; omega, fun x hx => by have := (h.b.lt x hx).2; omega⟩
  have HPB := Lib.hid hs.h.size
  have HDL : Hid (∀ x, D = some x → x.block < w.heap.size) := fun x hx => (hs.r.lt x hx).2
  have qt := HB.out.cell 2 (show (evC b)[2]? = some (.int .i64 b.tm) from rfl)
  have zt := cell_lt qt
  rw [htm] at qt
  have HPP := Lib.hid HP
  have mixed : Tryz.prog.follows Departure.mixedOrders = true := by kernel_rfl
  have HF := Lib.hid hf
  have HL := Lib.hid hl
  have HFL := Lib.hid hfl
  have HRI := Lib.hid hrise
  clear hf hl hfl hrise
  have HTM := Lib.hid htm
  clear HP htm h hs hp hb0
  go_enter Tryz.func51, Tryz.ntmps51
  go_wp2_with fail
  refine HPP.out.mono ?_
  rintro e_r w1 ⟨rfl, hb1⟩
  have HBE1 := Lib.hid (HB.out.below hb1)
  have HWW := Lib.hid (HW.out.below hb1)
  have HSS := Lib.hid (HS.out.below hb1)
  obtain ⟨be, hbe⟩ : ∃ be, Hid (w.heap.size = be) := ⟨_, rfl⟩
  rw [hbe.out] at HBE1 HBE HPB HDL
  rw [hbe.out]
  clear hb1 qt zt HB HW HS HPP hbe
  have q3 := HBE1.out.cell 3 (show (evC b)[3]? = some (.int .i64 b.kd) from rfl)
  have z3 := cell_lt q3
  have qg := HWW.out.h.cell 2 rfl
  have zg := cell_lt qg
  have fg := HWW.out.h.frozen 2
  have q2 := HBE1.out.cell 2 (show (evC b)[2]? = some (.int .i64 b.tm) from rfl)
  have q4 := HSS.out.h.cell 0 (show (sesC e (.slice D q r))[0]? = some (.int .i64 e.id) from rfl)
  have z4 := cell_lt q4
  rw [hk] at q3
  obtain ⟨id, hid⟩ : ∃ id, Hid (e.id = id) := ⟨_, rfl⟩
  rw [hid.out] at q4
  clear q2
  go_wp2_with fail
  refine (wflag_any HWW.out id 2 (by omega)).mono ?_
  rintro e_r w3 ⟨rfl, C3, d3, hw3, hm3, hv3⟩
  have HS3 := Lib.hid (HSS.out.mv hm3 (fun ⟨a, ha, q⟩ => HPT.out.cp a ha q) (fun x hx ⟨a, ha, q⟩ => HPT.out.dc x a hx ha q.symm))
  have HP3 : Hid (Apt p A C3 D) := ⟨HPT.out.ap, HPT.out.cp.moved hv3 HSS.out.h.size, HPT.out.da, (HPT.out.dc.symm.moved hv3 fun y hy => (HSS.out.r.lt y hy).2).symm⟩
  have HB3 := Lib.hid (HBE1.out.mv hm3 HBE.out.1 (fun ⟨a, ha, q⟩ => HBE.out.2.2 a ha q))
  have HO3 := Lib.hid (HBE.out.2.2.moved hv3 HBE1.out.size)
  have HW3 := Lib.hid hw3
  have q2 := HB3.out.cell 2 (show (evC b)[2]? = some (.int .i64 b.tm) from rfl)
  have z2 := cell_lt q2
  rw [HTM.out] at q2
  clear hw3 hm3 hv3 HWW HSS HPT HBE1 q3 z3 qg zg fg q4 z4
  go_wp2_with fail
  refine (wend_any HW3.out HS3.out HP3.out tm first last HF.out HL.out HFL.out HRI.out hnq hu).mono ?_
  rintro e_r w4 ⟨rfl, A4, n4, c4, hw4, hk4⟩
  have HB4 := Lib.hid (hk4 _ _ HB3.out HBE.out.1 HBE.out.2.1 HO3.out).1
  have HEND := Lib.hid (open_new hw4 b _ (foldS_eq b))
  have HLD := Lib.hid (has_load_e HB4.out)
  have qg := hw4.h.cell 2 rfl
  have zg := cell_lt qg
  have fg := hw4.h.frozen 2
  clear hw4 hk4 q2 z2
  have hsz := evC_size b
  go_wp2_with (first | refine wpList_exec (o := ⟨some 48, _, _, _, _, _⟩) (by rfl) (exec_load_at _ rfl rfl HLD.out) ?_)
  go_end0
  have hid2 := hid.out
  subst hid2
  exact ⟨rfl, HEND.out⟩
set_option maxHeartbeats 8000000 in
theorem wtake_in2 {V0 : Value} (h : Wat w0 w g u cap (.pointer (some ⟨p, 0, none⟩)) A n c S C m d F) (hs : Ses w0 w p e D q r ins) (hp : Apt p A C D) (b : EvP) (tm : Int) (htm : b.tm = tm) (hk : b.kd = 2) (first last : Int) (hf : roundP e.tm u = first) (hl : roundP tm u = last) (hfl : first ≤ last) (hrise : ins.Pairwise (fun a b => a.tm ≤ b.tm)) (hnq : n + q ≤ 900) (hm : m ≤ 900) (hu : u ≤ 9223372036854775807)
    (HP : Calls Tryz.prog 52 #[.pointer (some ⟨g, 0, none⟩), .int .i64 tm] (w.alloc (.cells (evC b) 43)) fun x w' => x = .returned (.tuple #[]) ∧ Below (w.alloc (.cells (evC b) 43)).heap.size (w.alloc (.cells (evC b) 43)) w') :
    Calls Tryz.prog 51 #[.pointer (some ⟨g, 0, none⟩), .agg (evC b)] w fun x w' => x = .returned (.tuple #[]) ∧ GotNone w0 w' g u cap (S ++ partsG first last first e ins) F := by
  have hb0 := bel_alloc (Below.refl w.heap.size w) (.cells (evC b) 43)
  have HB : Hid (Has (w.alloc (.cells (evC b) 43)) w.heap.size (evC b)) := Has.new w _ _ rfl
  have HW := Lib.hid (h.below hb0)
  have HS := Lib.hid (hs.below hb0)
  have HPT := Lib.hid hp
  have HBE : Hid (w0.heap.size ≤ w.heap.size ∧ Off A w.heap.size ∧ Off C w.heap.size) := ⟨h.size, fun x hx => by have := (h.a.lt x hx).2; omega, fun x hx => by have := (h.b.lt x hx).2; omega⟩
  have HPB := Lib.hid hs.h.size
  have HDL : Hid (∀ x, D = some x → x.block < w.heap.size) := fun x hx => (hs.r.lt x hx).2
  have qt := HB.out.cell 2 (show (evC b)[2]? = some (.int .i64 b.tm) from rfl)
  have zt := cell_lt qt
  rw [htm] at qt
  have HPP := Lib.hid HP
  have mixed : Tryz.prog.follows Departure.mixedOrders = true := by kernel_rfl
  have HF := Lib.hid hf
  have HL := Lib.hid hl
  have HFL := Lib.hid hfl
  have HRI := Lib.hid hrise
  clear hf hl hfl hrise
  have HTM := Lib.hid htm
  clear HP htm h hs hp hb0
  go_enter Tryz.func51, Tryz.ntmps51
  go_wp2_with fail
  refine HPP.out.mono ?_
  rintro e_r w1 ⟨rfl, hb1⟩
  have HBE1 := Lib.hid (HB.out.below hb1)
  have HWW := Lib.hid (HW.out.below hb1)
  have HSS := Lib.hid (HS.out.below hb1)
  obtain ⟨be, hbe⟩ : ∃ be, Hid (w.heap.size = be) := ⟨_, rfl⟩
  rw [hbe.out] at HBE1 HBE HPB HDL
  rw [hbe.out]
  clear hb1 qt zt HB HW HS HPP hbe
  have q3 := HBE1.out.cell 3 (show (evC b)[3]? = some (.int .i64 b.kd) from rfl)
  have z3 := cell_lt q3
  have qg := HWW.out.h.cell 2 rfl
  have zg := cell_lt qg
  have fg := HWW.out.h.frozen 2
  have q2 := HBE1.out.cell 2 (show (evC b)[2]? = some (.int .i64 b.tm) from rfl)
  rw [hk] at q3
  rw [HTM.out] at q2
  go_wp2_with fail
  refine (wend_any HWW.out HSS.out HPT.out tm first last HF.out HL.out HFL.out HRI.out hnq hu).mono ?_
  rintro e_r w4 ⟨rfl, A4, n4, c4, hw4, hk4⟩
  have HEND : Hid (GotNone w0 w4 g u cap (S ++ partsG first last first e ins) F) := ⟨_, _, _, _, _, _, hw4⟩
  clear hw4 hk4
  go_wp2
  go_end0
  exact ⟨rfl, HEND.out⟩
set_option maxHeartbeats 8000000 in
theorem wtake_in3 {V0 : Value} (h : Wat w0 w g u cap (.pointer (some ⟨p, 0, none⟩)) A n c S C m d F) (hs : Ses w0 w p e D q r ins) (hp : Apt p A C D) (b : EvP) (tm : Int) (htm : b.tm = tm) (hk : b.kd ≠ 1 ∧ b.kd ≠ 2) (hq : q ≤ 1000)
    (HP : Calls Tryz.prog 52 #[.pointer (some ⟨g, 0, none⟩), .int .i64 tm] (w.alloc (.cells (evC b) 43)) fun x w' => x = .returned (.tuple #[]) ∧ Below (w.alloc (.cells (evC b) 43)).heap.size (w.alloc (.cells (evC b) 43)) w') :
    Calls Tryz.prog 51 #[.pointer (some ⟨g, 0, none⟩), .agg (evC b)] w fun x w' => x = .returned (.tuple #[]) ∧ GotOpen w0 w' g u cap e (ins ++ [b]) S F := by
  have hb0 := bel_alloc (Below.refl w.heap.size w) (.cells (evC b) 43)
  have HB : Hid (Has (w.alloc (.cells (evC b) 43)) w.heap.size (evC b)) := Has.new w _ _ rfl
  have HW := Lib.hid (h.below hb0)
  have HS := Lib.hid (hs.below hb0)
  have HPT := Lib.hid hp
  have HBE : Hid (w0.heap.size ≤ w.heap.size ∧ Off A w.heap.size ∧ Off C w.heap.size) := ⟨h.size, fun x hx => by have := (h.a.lt x hx).2; omega, fun x hx => by have := (h.b.lt x hx).2; omega⟩
  have HPB := Lib.hid hs.h.size
  have HDL : Hid (∀ x, D = some x → x.block < w.heap.size) := fun x hx => (hs.r.lt x hx).2
  have qt := HB.out.cell 2 (show (evC b)[2]? = some (.int .i64 b.tm) from rfl)
  have zt := cell_lt qt
  rw [htm] at qt
  have HPP := Lib.hid HP
  have mixed : Tryz.prog.follows Departure.mixedOrders = true := by kernel_rfl
  have HK := Lib.hid hk
  clear hk
  clear HP htm h hs hp hb0
  go_enter Tryz.func51, Tryz.ntmps51
  go_wp2_with fail
  refine HPP.out.mono ?_
  rintro e_r w1 ⟨rfl, hb1⟩
  have HBE1 := Lib.hid (HB.out.below hb1)
  have HWW := Lib.hid (HW.out.below hb1)
  have HSS := Lib.hid (HS.out.below hb1)
  obtain ⟨be, hbe⟩ : ∃ be, Hid (w.heap.size = be) := ⟨_, rfl⟩
  rw [hbe.out] at HBE1 HBE HPB HDL
  rw [hbe.out]
  clear hb1 qt zt HB HW HS HPP hbe
  have q3 := HBE1.out.cell 3 (show (evC b)[3]? = some (.int .i64 b.kd) from rfl)
  have z3 := cell_lt q3
  have qg := HWW.out.h.cell 2 rfl
  have zg := cell_lt qg
  have fg := HWW.out.h.frozen 2
  have k1' : (b.kd == 1) = false := beq_eq_false_iff_ne.2 HK.out.1
  have k2' : (b.kd == 2) = false := beq_eq_false_iff_ne.2 HK.out.2
  obtain ⟨kd, hkd⟩ : ∃ kd, Hid (b.kd = kd) := ⟨_, rfl⟩
  rw [hkd.out] at q3 k1' k2'
  clear hkd
  have hB1 : w0.heap.size ≤ w1.heap.size := HWW.out.size
  replace hB1 := Lib.hid hB1
  go_wp2_with fail
  have HBE' := HBE
  have HPUSH : Hid (∃ D' r' w', (Builtin.append_ #[31, 31] 31 #[.slice D q r, .slice (some ⟨w1.heap.size, 0, none⟩) 1 1]).run Tryz.prog (w1.drew.alloc (.cells (evC b) 43)) = .ok (.slice D' (q + 1) r') w' ∧
      Has w' p (sesC e (.slice D q r)) ∧ Ses w0 (w'.setCell ⟨p, 11, none⟩ (.slice D' (q + 1) r')) p e D' (q + 1) r' (ins ++ [b]) ∧
      Mv w0.heap.size (OnB D) w1.drew w' ∧ Moved w1.drew D D' ∧ Kept (fun b => b < w0.heap.size) w1.drew w') := HSS.out.drew.push b hq hB1.out rfl
  obtain ⟨D9, r9, w9, hr9, hh9, hs9, hm9, hv9, hk9⟩ := HPUSH.out
  have HR9 := Lib.hid hr9
  have HH9 := Lib.hid hh9
  have HPD : Hid (¬ OnB D p) := fun ⟨a, ha, q⟩ => HSS.out.ne a ha q
  have HGG : Hid (w9.heap[g]? = w1.heap[g]?) := hk9.block g HWW.out.gB
  have HW9 : Hid (Wat w0 w9 g u cap (.pointer (some ⟨p, 0, none⟩)) A n c S C m d F) :=
    HWW.out.drew.mv hm9 HGG.out (fun x hx ⟨a, ha, q⟩ => HPT.out.da a x ha hx q) (fun x hx ⟨a, ha, q⟩ => HPT.out.dc a x ha hx q) (hk9.less fun i hi => hi.1)
  have HG9 := Lib.hid HW9.out.h
  have HDB : Hid (¬ OnB D be) := fun ⟨a, ha, q⟩ => by
    have h1 := (HDL.out a ha)
    omega
  have HB9 : Hid (Has w9 be (evC b)) := HBE1.out.drew.mv hm9 HBE.out.1 HDB.out
  have HEND : Hid (GotOpen w0 (w9.setCell ⟨p, 11, none⟩ (.slice D9 (q + 1) r9)) g u cap e (ins ++ [b]) S F) :=
    ⟨A, n, c, C, m, d, p, D9, q + 1, r9, HW9.out.other ⟨HSS.out.pB, HPT.out.ap⟩ HPT.out.cp 11 _, hs9, HPT.out.ap, HPT.out.cp, HPT.out.da.moved hv9 (fun y hy => (HWW.out.a.lt y hy).2), HPT.out.dc.moved hv9 (fun y hy => (HWW.out.b.lt y hy).2)⟩
  have HBE := HBE1
  clear HPUSH hr9 hh9 hs9 hm9 hv9 hk9 q3 z3 qg zg fg
  refine wp_region_noPanic ?_
  refine wp_region_last (S := fun w' => Has w' g #[.int .i64 u, .int .i64 cap, .pointer (some ⟨p, 0, none⟩), .slice A n c, .slice C m d] ∧ Has w' p (sesC e (.slice D q r)) ∧ Has w' be (evC b)) 16 (by kernel_rfl) (⟨HWW.out.h.drew, HSS.out.h.drew, HBE.out.drew⟩) (fun hHeld => ?_)
  refine wpAnyK_take (i := 0) (oi := ⟨some 8, _, _, _, _, _⟩) (v := ?_) rfl (by kernel_rfl) (by kernel_rfl) (by kernel_rfl) (by kernel_rfl) (fun _ _ _ h => h) (Or.inl ⟨by rfl, ?_⟩) hHeld ?_
  rotate_left
  · intro ww hSw
    (try dsimp only at hSw)
    go_simp
    (try with_reducible rfl)
  simp only [Act.put, List.setIfInBounds_toArray, List.set_cons_zero, List.set_cons_succ]
  refine wpAnyK_take (i := 1) (oi := ⟨some 9, _, _, _, _, _⟩) (v := ?_) rfl (by kernel_rfl) (by kernel_rfl) (by kernel_rfl) (by kernel_rfl) (fun _ _ _ h => h) (Or.inl ⟨by rfl, ?_⟩) hHeld ?_
  rotate_left
  · intro ww hSw
    (try dsimp only at hSw)
    go_simp
    (try with_reducible rfl)
  simp only [Act.put, List.setIfInBounds_toArray, List.set_cons_zero, List.set_cons_succ]
  refine wpAnyK_take (i := 2) (oi := ⟨some 10, _, _, _, _, _⟩) (v := ?_) rfl (by kernel_rfl) (by kernel_rfl) (by kernel_rfl) (by kernel_rfl) (fun _ _ _ h => h) (Or.inl ⟨by rfl, ?_⟩) hHeld ?_
  rotate_left
  · intro ww hSw
    (try dsimp only at hSw)
    go_simp
    (try with_reducible rfl)
  simp only [Act.put, List.setIfInBounds_toArray, List.set_cons_zero, List.set_cons_succ]
  refine wpAnyK_take (i := 3) (oi := ⟨some 11, _, _, _, _, _⟩) (v := .pointer (some ⟨p, 0, none⟩)) rfl (by kernel_rfl) (by kernel_rfl) (by kernel_rfl) (by kernel_rfl) (fun _ _ _ h => h) (Or.inl ⟨by rfl, ?_⟩) hHeld ?_
  · intro ww hSw
    have q := hSw.1.cell 2 rfl
    have qz := cell_lt q
    go_simp
  simp only [Act.put, List.setIfInBounds_toArray, List.set_cons_zero, List.set_cons_succ]
  refine wpAnyK_take (i := 4) (oi := ⟨some 12, _, _, _, _, _⟩) (v := ?_) rfl (by kernel_rfl) (by kernel_rfl) (by kernel_rfl) (by kernel_rfl) (fun _ _ _ h => h) (Or.inl ⟨by rfl, ?_⟩) hHeld ?_
  rotate_left
  · intro ww hSw
    (try dsimp only at hSw)
    go_simp
    (try with_reducible rfl)
  simp only [Act.put, List.setIfInBounds_toArray, List.set_cons_zero, List.set_cons_succ]
  refine wpAnyK_take (i := 5) (oi := ⟨some 13, _, _, _, _, _⟩) (v := ?_) rfl (by kernel_rfl) (by kernel_rfl) (by kernel_rfl) (by kernel_rfl) (fun _ _ _ h => h) (Or.inl ⟨by rfl, ?_⟩) hHeld ?_
  rotate_left
  · intro ww hSw
    (try dsimp only at hSw)
    go_simp
    (try with_reducible rfl)
  simp only [Act.put, List.setIfInBounds_toArray, List.set_cons_zero, List.set_cons_succ]
  refine wpAnyK_take (i := 6) (oi := ⟨some 14, _, _, _, _, _⟩) (v := ?_) rfl (by kernel_rfl) (by kernel_rfl) (by kernel_rfl) (by kernel_rfl) (fun _ _ _ h => h) (Or.inl ⟨by rfl, ?_⟩) hHeld ?_
  rotate_left
  · intro ww hSw
    (try dsimp only at hSw)
    go_simp
    (try with_reducible rfl)
  simp only [Act.put, List.setIfInBounds_toArray, List.set_cons_zero, List.set_cons_succ]
  refine wpAnyK_take (i := 7) (oi := ⟨some 15, _, _, _, _, _⟩) (v := .pointer (some ⟨p, 0, none⟩)) rfl (by kernel_rfl) (by kernel_rfl) (by kernel_rfl) (by kernel_rfl) (fun _ _ _ h => h) (Or.inl ⟨by rfl, ?_⟩) hHeld ?_
  · intro ww hSw
    have q := hSw.1.cell 2 rfl
    have qz := cell_lt q
    go_simp
  simp only [Act.put, List.setIfInBounds_toArray, List.set_cons_zero, List.set_cons_succ]
  refine wpAnyK_take (i := 8) (oi := ⟨some 16, _, _, _, _, _⟩) (v := ?_) rfl (by kernel_rfl) (by kernel_rfl) (by kernel_rfl) (by kernel_rfl) (fun _ _ _ h => h) (Or.inl ⟨by rfl, ?_⟩) hHeld ?_
  rotate_left
  · intro ww hSw
    (try dsimp only at hSw)
    go_simp
    (try with_reducible rfl)
  simp only [Act.put, List.setIfInBounds_toArray, List.set_cons_zero, List.set_cons_succ]
  refine wpAnyK_take (i := 9) (oi := ⟨some 17, _, _, _, _, _⟩) (v := ?_) rfl (by kernel_rfl) (by kernel_rfl) (by kernel_rfl) (by kernel_rfl) (fun _ _ _ h => h) (Or.inl ⟨by rfl, ?_⟩) hHeld ?_
  rotate_left
  · intro ww hSw
    (try dsimp only at hSw)
    go_simp
    (try with_reducible rfl)
  simp only [Act.put, List.setIfInBounds_toArray, List.set_cons_zero, List.set_cons_succ]
  refine wpAnyK_take (i := 10) (oi := ⟨some 18, _, _, _, _, _⟩) (v := .slice D q r) rfl (by kernel_rfl) (by kernel_rfl) (by kernel_rfl) (by kernel_rfl) (fun _ _ _ h => h) (Or.inl ⟨by rfl, ?_⟩) hHeld ?_
  · intro ww hSw
    have q := hSw.2.1.cell 11 (show (sesC e (.slice D q r))[11]? = some (.slice D q r) from rfl)
    have qz := cell_lt q
    go_simp
  simp only [Act.put, List.setIfInBounds_toArray, List.set_cons_zero, List.set_cons_succ]
  refine wpAnyK_take (i := 11) (oi := ⟨some 19, _, _, _, _, _⟩) (v := .agg (evC b)) rfl (by kernel_rfl) (by kernel_rfl) (by kernel_rfl) (by kernel_rfl) (fun _ _ _ h => h) (Or.inl ⟨by rfl, ?_⟩) hHeld ?_
  · intro ww hSw
    exact exec_load_at _ rfl rfl (has_load_e hSw.2.2)
  simp only [Act.put, List.setIfInBounds_toArray, List.set_cons_zero, List.set_cons_succ]
  refine wpAnyK_up (i := 12) (o := ⟨some 20, _, _, _, _, _⟩) (by kernel_rfl) rfl (fun K hK => ?_)
  show if Region.wanted _ _ = true then _ else _
  rw [if_pos (by rfl)]
  refine wp_build_e b rfl rfl ?_
  refine hK.out _ _ (fun _ => ?_) (fun hHeld => ?_)
  · exact ⟨hHeld.1.alloc _, hHeld.2.1.alloc _, hHeld.2.2.alloc _⟩
  replace hHeld := hHeld (by decide)
  clear hK K
  (try simp only [Act.put, List.setIfInBounds_toArray, List.set_cons_zero, List.set_cons_succ])
  refine wpAnyK_up (i := 13) (o := ⟨some 21, _, _, _, _, _⟩) (by kernel_rfl) rfl (fun K hK => ?_)
  show if Region.wanted _ _ = true then _ else _
  rw [if_pos (by rfl)]
  refine wp_append_run8 (K := K) HR9.out rfl rfl rfl ?_
  refine hK.out _ _ (fun _ => ?_) (fun hHeld => ?_)
  · exact ⟨HG9.out, HH9.out, HB9.out⟩
  replace hHeld := hHeld (by decide)
  clear hK K
  (try simp only [Act.put, List.setIfInBounds_toArray, List.set_cons_zero, List.set_cons_succ])
  refine wpAnyK_up (i := 14) (o := ⟨some 22, _, _, _, _, _⟩) (by kernel_rfl) rfl (fun K hK => ?_)
  go_simp
  refine hK.out _ _ (fun _ => ?_) (fun hHeld => ?_)
  · exact hHeld
  replace hHeld := hHeld (by decide)
  clear hK K
  (try simp only [Act.put, List.setIfInBounds_toArray, List.set_cons_zero, List.set_cons_succ])
  refine wpAnyK_take (i := 15) (oi := ⟨some 23, _, _, _, _, _⟩) (v := ?_) rfl (by kernel_rfl) (by kernel_rfl) (by kernel_rfl) (by kernel_rfl) (fun _ _ _ h => h) (Or.inl ⟨by rfl, ?_⟩) hHeld ?_
  rotate_left
  · intro ww hSw
    (try dsimp only at hSw)
    go_simp
    (try with_reducible rfl)
  simp only [Act.put, List.setIfInBounds_toArray, List.set_cons_zero, List.set_cons_succ]
  refine wpAnyK_up (i := 16) (o := ⟨none, _, _, _, _, _⟩) (by kernel_rfl) rfl (fun K hK => ?_)
  have qs := HH9.out.cell 11 (show (sesC e (.slice D q r))[11]? = some (.slice D q r) from rfl)
  have qf := HH9.out.frozen 11
  have qz := cell_lt qs
  go_simp
  refine hK.out _ _ (fun h => absurd rfl h) (fun _ => ?_)
  clear hK K
  (try simp only [Act.put, List.setIfInBounds_toArray, List.set_cons_zero, List.set_cons_succ])
  refine wpAnyK_done (by kernel_rfl) ?_ _
  refine NoPanic.normal ?_
  go_wp2
  go_end0
  exact ⟨rfl, HEND.out⟩
end
end Go.Proofs.YtpgncbhahocmbaaGreat

namespace Go.Proofs.YtpgncbhahocmbaaGreat
open Go.RowKit
set_option linter.unusedVariables false
set_option linter.unusedSimpArgs false
set_option maxRecDepth 20000

def StW (w0 w : World) (g : Nat) (u cap : Int) (st : StP) (S : List SegP) (F : List FlagP) : Prop :=
  match st with
  | none => GotNone w0 w g u cap S F
  | some (e, ins) => GotOpen w0 w g u cap e ins S F
section
variable {w0 w w' : World} {g : Nat} {u cap : Int} {st : StP} {S : List SegP} {F : List FlagP}
theorem StW.below (h : StW w0 w g u cap st S F) (hb : Below w.heap.size w w') : StW w0 w' g u cap st S F := by
  match st, h with
  | none, ⟨A, n, c, C, m, d, hw⟩ => exact ⟨A, n, c, C, m, d, hw.below hb⟩
  | some (e, ins), ⟨A, n, c, C, m, d, p, D, q, r, hw, hs, hp⟩ => exact ⟨A, n, c, C, m, d, p, D, q, r, hw.below hb, hs.below hb, hp⟩
theorem StW.kept (h : StW w0 w g u cap st S F) : Kept (fun b => b < w0.heap.size ∧ b ≠ g) w0 w := by
  match st, h with
  | none, ⟨A, n, c, C, m, d, hw⟩ => exact hw.k
  | some (e, ins), ⟨A, n, c, C, m, d, p, D, q, r, hw, hs, hp⟩ => exact hw.k
/-- The open session's times. -/
def Opn (t : Int) : StP → Prop
  | none => True
  | some (e, ins) => 0 ≤ e.tm ∧ e.tm ≤ t ∧ (∀ x ∈ ins, x.tm ≤ t) ∧ ins.Pairwise (fun a b => a.tm ≤ b.tm)
theorem opn_step {t : Int} (h : Opn t st) (b : EvP) (hb : t ≤ b.tm) (h0 : 0 ≤ b.tm) : Opn b.tm (stepS cap st b).2 := by
  match st, h with
  | none, _ =>
    by_cases k : b.kd = 1
    · simp only [stepS, if_pos k]; exact ⟨h0, Int.le_refl _, by simp, by simp⟩
    · simp only [stepS, if_neg k]; trivial
  | some (e, ins), ⟨h1, h2, h3, h4⟩ =>
    by_cases q : e.tm + cap < b.tm
    · by_cases k : b.kd = 1
      · simp only [stepS, if_pos q, if_pos k]; exact ⟨h0, Int.le_refl _, by simp, by simp⟩
      · simp only [stepS, if_pos q, if_neg k]; trivial
    · by_cases k : b.kd = 1
      · simp only [stepS, if_neg q, if_pos k]; exact ⟨h0, Int.le_refl _, by simp, by simp⟩
      · by_cases k2 : b.kd = 2
        · simp only [stepS, if_neg q, if_neg k, if_pos k2]; trivial
        · simp only [stepS, if_neg q, if_neg k, if_neg k2]
          refine ⟨h1, by omega, fun x hx => ?_, ?_⟩
          · rcases List.mem_append.1 hx with hx | hx
            · have := h3 x hx; omega
            · rw [List.mem_singleton.1 hx]; exact Int.le_refl _
          · rw [List.pairwise_append]
            refine ⟨h4, by simp, fun x hx y hy => ?_⟩
            rw [List.mem_singleton.1 hy]
            have := h3 x hx
            omega
theorem len_step (R : Int → Int) (b : EvP) : (segsS R (stepS cap st b).1).length + stN (stepS cap st b).2 ≤ 1 + stN st ∧ (flagsS (stepS cap st b).1).length + openN (stepS cap st b).2 ≤ 1 + openN st := by
  match st with
  | none => by_cases k : b.kd = 1 <;> simp [stepS, k, segsS, segsI, stN, flagsS, flagsI, openN]
  | some (e, ins) =>
    have p1 := sparts_len (first := R e.tm) (last := R (e.tm + cap)) ins (R e.tm) e
    have p2 := sparts_len (first := R e.tm) (last := R b.tm) ins (R e.tm) e
    by_cases q : e.tm + cap < b.tm
    · by_cases k : b.kd = 1 <;> simp [stepS, k, q, segsS, segsI, stN, flagsS, flagsI, openN] <;> omega
    · by_cases k : b.kd = 1
      · simp [stepS, k, q, segsS, segsI, stN, flagsS, flagsI, openN]; omega
      · by_cases k2 : b.kd = 2
        · simp [stepS, k2, q, segsS, segsI, stN, flagsS, flagsI, openN]; omega
        · simp [stepS, k, k2, q, segsS, segsI, stN, flagsS, flagsI, openN]; omega
theorem run_len (R : Int → Int) : ∀ (L : List EvP) (st : StP), (segsS R (runE cap st L)).length + stN (runT cap st L) ≤ L.length + stN st ∧ (flagsS (runE cap st L)).length + openN (runT cap st L) ≤ L.length + openN st
  | [], st => by simp [runE, runT, segsS, flagsS]
  | b :: L, st => by
    have h1 := run_len R L (stepS cap st b).2
    have h2 := len_step (cap := cap) (st := st) R b
    show (segsS R ((stepS cap st b).1 ++ runE cap (stepS cap st b).2 L)).length + stN (runT cap (stepS cap st b).2 L) ≤ _ ∧ (flagsS ((stepS cap st b).1 ++ runE cap (stepS cap st b).2 L)).length + openN (runT cap (stepS cap st b).2 L) ≤ _
    rw [segsS_append, flagsS_append, List.length_append, List.length_append, List.length_cons]
    omega
theorem runE_more (cap : Int) (b : EvP) : ∀ (A : List EvP) (st : StP), runE cap st (A ++ [b]) = runE cap st A ++ (stepS cap (runT cap st A) b).1
  | [], st => by show (stepS cap st b).1 ++ [] = [] ++ (stepS cap st b).1; simp
  | c :: A, st => by
    show (stepS cap st c).1 ++ runE cap _ (A ++ [b]) = ((stepS cap st c).1 ++ runE cap _ A) ++ _
    rw [runE_more cap b A, List.append_assoc]
    rfl
theorem runT_more (cap : Int) (b : EvP) : ∀ (A : List EvP) (st : StP), runT cap st (A ++ [b]) = (stepS cap (runT cap st A) b).2
  | [], st => rfl
  | c :: A, st => runT_more cap b A _
/-- The next event. -/
theorem wtake_any (h : StW w0 w g u cap st S F) (b : EvP) (t : Int) (ho : Opn t st) (htb : t ≤ b.tm) (hbt : 0 ≤ b.tm ∧ b.tm ≤ 31449599) (hc : 0 ≤ cap ∧ cap ≤ 100000) (hu : 1 ≤ u ∧ u ≤ 100000000) (hlen : S.length + stN st ≤ 800) (hlen2 : F.length + openN st ≤ 800) :
    Calls Tryz.prog 51 #[.pointer (some ⟨g, 0, none⟩), .agg (evC b)] w fun x w' => x = .returned (.tuple #[]) ∧
      StW w0 w' g u cap (stepS cap st b).2 (S ++ segsS (fun t => roundP t u) (stepS cap st b).1) (F ++ flagsS (stepS cap st b).1) := by
  have hR := roundP_mono hu.1 hu.2
  have hb0 := bel_alloc (Below.refl w.heap.size w) (.cells (evC b) 43)
  match st, h, ho with
  | none, ⟨A, n, c, C, m, d, hw⟩, _ =>
    refine (wtake_out (u := u) (cap := cap) (A := A) (C := C) hw.size b b.tm rfl S F ((wpass_none (hw.below hb0) b.tm).mono ?_) (fun x hx => by have := (hw.a.lt x hx).2; omega) (fun x hx => by have := (hw.b.lt x hx).2; omega) (by omega)).mono ?_
    · rintro x w' ⟨rfl, rfl⟩
      exact ⟨rfl, A, n, c, C, m, d, hw.below hb0, KP.refl _ _ _ _⟩
    · rintro x w' ⟨rfl, h1, h2⟩
      refine ⟨rfl, ?_⟩
      by_cases k : b.kd = 1
      · have := h1 k
        simp only [stepS, if_pos k, segsS, flagsS, List.flatMap_nil, List.append_nil]
        exact this
      · have := h2 k
        simp only [stepS, if_neg k, segsS, flagsS, List.flatMap_cons, List.flatMap_nil, List.append_nil, segsI, flagsI]
        exact this
  | some (e, ins), ⟨A, n, c, C, m, d, p, D, q, r, hw, hs, hp⟩, ⟨o1, o2, o3, o4⟩ =>
    have hn := hw.hn
    have hm := hw.hm
    have hq := hs.hq
    have hlen' : S.length + (ins.length + 1) ≤ 800 := hlen
    have hlen2' : F.length + 1 ≤ 800 := hlen2
    have he : 0 ≤ e.tm ∧ e.tm ≤ 100000000 := by omega
    have hcc : 0 ≤ cap ∧ cap ≤ 100000000 := by omega
    by_cases k0 : e.tm + cap < b.tm
    · refine (wtake_out (u := u) (cap := cap) (A := A) (C := C) hw.size b b.tm rfl (S ++ partsG (roundP e.tm u) (roundP (e.tm + cap) u) (roundP e.tm u) e ins) (F ++ [⟨e.id, 1⟩])
        (wpass_end (hw.below hb0) (hs.below hb0) hp b.tm (e.tm + cap) rfl k0 he hcc _ _ rfl rfl (hR _ _ (by omega)) o4 (by omega) (by omega) (by omega))
        (fun x hx => by have := (hw.a.lt x hx).2; omega) (fun x hx => by have := (hw.b.lt x hx).2; omega) (by simp; omega)).mono ?_
      rintro x w' ⟨rfl, h1, h2⟩
      refine ⟨rfl, ?_⟩
      by_cases k : b.kd = 1
      · have := h1 k
        simp only [stepS, if_pos k0, if_pos k, segsS, flagsS, List.flatMap_cons, List.flatMap_nil, List.append_nil, segsI, flagsI]
        exact this
      · have := h2 k
        simp only [stepS, if_pos k0, if_neg k, segsS, flagsS, List.flatMap_cons, List.flatMap_nil, List.append_nil, segsI, flagsI]
        rw [List.append_assoc] at this
        exact this
    · have HP := wpass_not (hw.below hb0) (hs.below hb0) b.tm (e.tm + cap) rfl k0 he hcc
      by_cases k : b.kd = 1
      · refine (wtake_in1 (V0 := undef) hw hs hp b b.tm rfl k _ _ rfl rfl (hR _ _ (by omega)) o4 (by omega) (by omega) (by omega) HP).mono ?_
        rintro x w' ⟨rfl, h1⟩
        refine ⟨rfl, ?_⟩
        simp only [stepS, if_neg k0, if_pos k, segsS, flagsS, List.flatMap_cons, List.flatMap_nil, List.append_nil, segsI, flagsI]
        exact h1
      · by_cases k2 : b.kd = 2
        · refine (wtake_in2 (V0 := undef) hw hs hp b b.tm rfl k2 _ _ rfl rfl (hR _ _ (by omega)) o4 (by omega) (by omega) (by omega) HP).mono ?_
          rintro x w' ⟨rfl, h1⟩
          refine ⟨rfl, ?_⟩
          simp only [stepS, if_neg k0, if_neg k, if_pos k2, segsS, flagsS, List.flatMap_cons, List.flatMap_nil, List.append_nil, segsI, flagsI]
          first | exact h1 | (simp only [if_true, List.append_nil]; exact h1)
        · refine (wtake_in3 (V0 := undef) hw hs hp b b.tm rfl ⟨k, k2⟩ (by omega) HP).mono ?_
          rintro x w' ⟨rfl, h1⟩
          refine ⟨rfl, ?_⟩
          simp only [stepS, if_neg k0, if_neg k, if_neg k2, segsS, flagsS, List.flatMap_nil, List.append_nil]
          exact h1
end
/-! ### each -/
theorem take_snoc_ev {l : List EvP} {i : Nat} (h : i < l.length) : l.take (i + 1) = l.take i ++ [l.getD i EvP.none] := by
  rw [List.take_add_one, List.getElem?_eq_getElem h, List.getD_eq_getElem?_getD, List.getElem?_eq_getElem h]
  rfl
theorem sort_filter (p : EvP → Bool) (l : List EvP) : sortE (l.filter p) = (sortE l).filter p := by
  refine (ev_sort_of (risen_filter _ _ (ev_sort_risen l)) fun k => ?_).symm
  rw [List.filter_filter, List.filter_filter]
  have e1 : ∀ m : List EvP, m.filter (fun a => alikeE k a && p a) = (m.filter (alikeE k)).filter p := fun m => by
    rw [List.filter_filter]
    exact List.filter_congr fun x _ => Bool.and_comm _ _
  rw [e1, e1, ev_sort_alike]
theorem evs_off {w : World} {b off n c g : Nat} {l : List EvP} (h : Evs w (some ⟨b, off, none⟩) n c l) (hn : 0 < n) {cs : Array Value} (hg : Has w g cs) (hs : cs.size ≤ 10) : b ≠ g := by
  rintro rfl
  have := h.cell (i := 0) (j := 10) hn (by decide)
  obtain ⟨t, hg⟩ := hg
  rw [cell_of_row w b (off + 0 * 11 + 10) cs t (0, 0) hg, Array.getElem?_eq_none (by omega)] at this
  cases this
set_option maxHeartbeats 16000000 in
theorem each_any (s : SetP) (cs : Array Value) (w : World) (hW : SetW w s cs) (hM : s.May) (A : Option Addr) (n c : Nat) (l : List EvP) (h : Evs w A n c l) (hn : n ≤ 800) (hIn : ∀ e ∈ l, e.In) (wk : Int) (g : Nat)
    (hg : Has w g #[.int .i64 s.unit, .int .i64 s.cap, .pointer none, .slice none 0 0, .slice none 0 0]) :
    Calls Tryz.prog 50 #[.agg cs, .slice A n c, .int .i64 wk, .func (.func 51) #[.pointer (some ⟨g, 0, none⟩)] #[]] w fun x w' => x = .returned (.tuple #[]) ∧
      ∃ w0, Below w.heap.size w w0 ∧ g < w.heap.size ∧ StW w0 w' g s.unit s.cap (runT s.cap none (wevs (mayE s.places s.elements.length s.classes.length s.gears.length s.rates.length) wk l))
        (segsS (fun t => roundP t s.unit) (runE s.cap none (wevs (mayE s.places s.elements.length s.classes.length s.gears.length s.rates.length) wk l))) (flagsS (runE s.cap none (wevs (mayE s.places s.elements.length s.classes.length s.gears.length s.rates.length) wk l))) := by
  have HZ := Lib.hid hW.size
  have HQ := Lib.hid hW.q
  have HU := Lib.hid (And.intro hM.unit hM.cap)
  have hb0 := bel_alloc (Below.refl w.heap.size w) (.cells cs 30)
  have HB0 := Lib.hid (Has.new w 30 cs rfl)
  have HL0 := Lib.hid (h.below hb0)
  have HG0 := Lib.hid (hg.below hb0)
  have HGL := Lib.hid hg.size
  have HBW := Lib.hid hb0
  have HLN := Lib.hid h.2
  have HIN := Lib.hid hIn
  have HWF : Hid (wevs (mayE s.places s.elements.length s.classes.length s.gears.length s.rates.length) wk l = sortE (l.filter (ofW (mayE s.places s.elements.length s.classes.length s.gears.length s.rates.length) wk))) := (sort_filter _ _).symm
  have HOK : Hid (∀ x ∈ wevs (mayE s.places s.elements.length s.classes.length s.gears.length s.rates.length) wk l, 0 ≤ x.tm ∧ x.tm ≤ 31449599) := fun x hx => (wevs_ok x hx).2.2.2
  have HRT : Hid ((wevs (mayE s.places s.elements.length s.classes.length s.gears.length s.rates.length) wk l).Pairwise (fun a b => a.tm ≤ b.tm)) := risen_times (wevs_risen _ _ _)
  have HCK : Hid (∀ (x : EvP), x.In → ∀ (b : Bool), mayE s.places s.elements.length s.classes.length s.gears.length s.rates.length x = b → ∀ W, Calls Tryz.prog 15 #[.agg cs, .agg (evC x)] W fun r w' => r = .returned (.bool b) ∧ Below W.heap.size W w') := fun x hi b hb W => echeck_any cs _ _ _ _ _ HQ.out x hi W b hb
  generalize mayE s.places s.elements.length s.classes.length s.gears.length s.rates.length = may at *
  obtain ⟨u, hu⟩ : ∃ u, Hid (s.unit = u) := ⟨_, rfl⟩
  obtain ⟨cap, hcap⟩ : ∃ cap, Hid (s.cap = cap) := ⟨_, rfl⟩
  rw [hu.out, hcap.out] at HU HG0
  rw [hu.out, hcap.out]
  clear hW h hb0 hIn hg HQ hM hu hcap
  have eg : ∀ args w, (callFunc 51 args).run Tryz.prog w = .ok (.enter 51 args) w := enters_of Tryz.func51 (by kernel_rfl) rfl
  obtain ⟨gs, hgs⟩ : ∃ gs, Hid (w.heap.size = gs) := ⟨_, rfl⟩
  go_enter Tryz.func50, Tryz.ntmps50
  go_wp2
  have hb1 := HBW.out
  generalize w.alloc (.cells cs 30) = w1 at *
  rw [hgs.out] at HB0
  rw [hgs.out]
  go_loopg [8, 15] n (fun kx s8 s15 wr => ∃ (k q d : Nat) (B : Option Addr), s8 = .slice B q d ∧ s15 = .int .i64 k ∧ k + kx = n ∧ q ≤ k ∧ Hid (((l.take k).filter (ofW may wk)).length = q) ∧ Hid (ERow wr w1.heap.size B q d ((l.take k).filter (ofW may wk))) ∧ Hid (Below w1.heap.size w1 wr))
  case atStart => exact ⟨0, 0, 0, none, rfl, rfl, by omega, by omega, Lib.hid (by simp), Lib.hid (by rw [List.take_zero]; exact TRow.nil _ _), Lib.hid (Below.refl _ _)⟩
  case round =>
    obtain ⟨k, q, d, B, rfl, rfl, hk, hqk, HQL, HR, HW⟩ := hrel
    by_cases hlt : k < n
    · have HLr := Lib.hid (HL0.out.below HW.out)
      obtain ⟨ba, oa, rfl⟩ := HLr.out.form (by omega)
      obtain ⟨x, hx⟩ : ∃ x, l.getD k EvP.none = x := ⟨_, rfl⟩
      have HLD := Lib.hid (evs_load HLr.out (i := k) hlt)
      rw [hx] at HLD
      have hxm : x ∈ l := by
        rw [← hx, List.getD_eq_getElem?_getD, List.getElem?_eq_getElem (by rw [HLN.out]; exact hlt), Option.getD_some]
        exact List.getElem_mem _
      have HXI := Lib.hid (HIN.out x hxm)
      have HTK : Hid (l.take (k + 1) = l.take k ++ [x]) := by show _ = _; rw [← hx]; exact take_snoc_ev (by rw [HLN.out]; exact hlt)
      have i0 : (0 : Int) ≤ (k : Int) := by omega
      have i1 : (k : Int) < (n : Int) := by omega
      have HSZ := Lib.hid (evC_size x)
      have HSO := Lib.hid (evC_one x)
      have hba := bel_alloc (Below.refl wr.heap.size wr) (.cells (evC x) 43)
      have HXA : Hid (Has (wr.alloc (.cells (evC x) 43)) wr.heap.size (evC x)) := Has.new wr _ _ rfl
      have q1 := HXA.out.cell 1 (show (evC x)[1]? = some (.int .i64 x.wk) from rfl)
      have q3 := HXA.out.cell 3 (show (evC x)[3]? = some (.int .i64 x.kd) from rfl)
      have z1 := cell_lt q1
      have HBA := Lib.hid (bel_on HW.out hba)
      have HBS := Lib.hid (HB0.out.below HBA.out)
      have HRA := Lib.hid (HR.out.alloc (.cells (evC x) 43))
      have HLX := Lib.hid (has_load_e HXA.out)
      have HCX := Lib.hid (HCK.out x HXI.out)
      clear hx hxm hba
      obtain ⟨xk, hxk⟩ : ∃ xk, Hid (x.kd = xk) := ⟨_, rfl⟩
      obtain ⟨xw, hxw⟩ : ∃ xw, Hid (x.wk = xw) := ⟨_, rfl⟩
      rw [hxk.out] at q3
      rw [hxw.out] at q1
      have HNO : Hid (ofW may wk x = false → ∃ (k' q' d' : Nat) (B' : Option Addr), (Value.slice B q d) = .slice B' q' d' ∧ (Value.int .i64 ((k : Int) + 1)) = .int .i64 k' ∧ k' + (n - (k + 1)) = n ∧ q' ≤ k' ∧ Hid (((l.take k').filter (ofW may wk)).length = q') ∧ ∀ wz, Below (wr.alloc (.cells (evC x) 43)).heap.size (wr.alloc (.cells (evC x) 43)) wz → Hid (ERow wz w1.heap.size B' q' d' ((l.take k').filter (ofW may wk)))) := fun hno => by
        have e1 : (l.take (k + 1)).filter (ofW may wk) = (l.take k).filter (ofW may wk) := by rw [HTK.out, List.filter_append, List.filter_cons_of_neg (by rw [hno]; simp)]; simp
        exact ⟨k + 1, q, d, B, rfl, by go_num, by omega, by omega, Lib.hid (by rw [e1]; exact HQL.out), fun wz hz => Lib.hid (by rw [e1]; exact HRA.out.below hz)⟩
      by_cases g1 : xw = wk
      · have g1' : (xw == wk) = true := by simpa using g1
        by_cases g2 : xk = 7
        · have g2' : (xk != 7) = false := by simp [g2]
          have hno : ofW may wk x = false := by simp [ofW, hxk.out, g2]
          obtain ⟨k', q', d', B', e1, e2, e3, e4, e5, e6⟩ := HNO.out hno
          have E6 := Lib.hid (e6 _ (Below.refl _ _))
          have E12 := Lib.hid (And.intro e1 e2)
          clear HNO hno g1 g2 e6 e1 e2
          go_wp2_with (first | refine wpList_exec (o := ⟨some 18, _, _, _, _, _⟩) (by rfl) (exec_load_at _ rfl rfl HLD.out) ?_ | refine wpList_laid_e (evC x) 10 _ _ rfl rfl rfl rfl rfl rfl rfl rfl HSZ.out HSO.out ?_)
          go_roundg (n - (k + 1))
          case measure => omega
          case rel => exact ⟨k', q', d', B', E12.out.1, E12.out.2, e3, e4, e5, E6.out, HBA⟩
        · have g2' : (xk != 7) = true := by simpa using g2
          cases hmay : may x with
          | false =>
            have hno : ofW may wk x = false := by simp [ofW, hmay]
            obtain ⟨k', q', d', B', e1, e2, e3, e4, e5, e6⟩ := HNO.out hno
            have E12 := Lib.hid (And.intro e1 e2)
            have HC := Lib.hid (HCX.out false hmay)
            have E6 := Lib.hid e6
            clear HNO hno g1 g2 hmay e1 e2 e6
            go_wp2_with (first | refine wpList_exec (o := ⟨some 18, _, _, _, _, _⟩) (by rfl) (exec_load_at _ rfl rfl HLD.out) ?_ | refine wpList_laid_e (evC x) 10 _ _ rfl rfl rfl rfl rfl rfl rfl rfl HSZ.out HSO.out ?_ | refine wpList_exec (o := ⟨some 29, _, _, _, _, _⟩) (by rfl) (exec_load_st _ rfl rfl HBS.out HZ.out) ?_ | refine wpList_exec (o := ⟨some 30, _, _, _, _, _⟩) (by rfl) (exec_load_at _ rfl rfl HLX.out) ?_)
            refine (HC.out _).mono ?_
            rintro e_r w5 ⟨rfl, hb5⟩
            have HB5 := Lib.hid (bel_on HBA.out hb5)
            have HE5 := E6.out _ hb5
            clear hb5 E6
            go_wp2
            go_roundg (n - (k + 1))
            case measure => omega
            case rel => exact ⟨k', q', d', B', E12.out.1, E12.out.2, e3, e4, e5, HE5, HB5⟩
          | true =>
            have hyes : ofW may wk x = true := by simp [ofW, hmay, hxk.out, hxw.out, g1, g2]
            have e1 : (l.take (k + 1)).filter (ofW may wk) = (l.take k).filter (ofW may wk) ++ [x] := by rw [HTK.out, List.filter_append, List.filter_cons_of_pos hyes]; simp
            have HE1 := Lib.hid e1
            have HC := Lib.hid (HCX.out true hmay)
            clear HNO hyes g1 g2 hmay e1
            go_wp2_with (first | refine wpList_exec (o := ⟨some 18, _, _, _, _, _⟩) (by rfl) (exec_load_at _ rfl rfl HLD.out) ?_ | refine wpList_laid_e (evC x) 10 _ _ rfl rfl rfl rfl rfl rfl rfl rfl HSZ.out HSO.out ?_ | refine wpList_exec (o := ⟨some 29, _, _, _, _, _⟩) (by rfl) (exec_load_st _ rfl rfl HBS.out HZ.out) ?_ | refine wpList_exec (o := ⟨some 30, _, _, _, _, _⟩) (by rfl) (exec_load_at _ rfl rfl HLX.out) ?_)
            refine (HC.out _).mono ?_
            rintro e_r w5 ⟨rfl, hb5⟩
            have HB5 := Lib.hid (bel_on HBA.out hb5)
            have HX5 := Lib.hid (HXA.out.below hb5)
            have HR5 := HRA.out.below hb5
            obtain ⟨A9, c9, w9, hr9, row9, bel9, keep9⟩ := erow_append (HR5.alloc (.cells (evC x) 43)) (evs_one w5 x) (show q + 1 ≤ 100000 by omega) (bel_alloc HB5.out _).size (k := q + 1) rfl
            have HR9 := Lib.hid hr9
            have HW9 := Lib.hid (bel9 w1 (Nat.le_refl _) (bel_alloc HB5.out _))
            have HRW9 := Lib.hid row9
            have HLX5 := Lib.hid (has_load_e HX5.out)
            obtain ⟨bx, hbx⟩ : ∃ bx, Hid (wr.heap.size = bx) := ⟨_, rfl⟩
            rw [hbx.out] at HX5 HLX5
            rw [hbx.out]
            clear hr9 row9 bel9 keep9 HR5 hb5 q1 q3 z1 hbx
            go_wp2_with (first | refine wpList_exec (o := ⟨some 34, _, _, _, _, _⟩) rfl (exec_load_at _ rfl rfl HLX5.out) ?_ | refine wpList_build_e (o := ⟨some 35, _, _, _, _, _⟩) rfl x rfl rfl ?_ | (at_builtin; refine wpList_append_run (o := ⟨some 36, _, _, _, _, _⟩) HR9.out rfl rfl rfl rfl ?_))
            go_roundg (n - (k + 1))
            case measure => omega
            case rel => exact ⟨k + 1, q + 1, c9, A9, rfl, by go_num, by omega, by omega, Lib.hid (by rw [HE1.out, List.length_append, HQL.out]; rfl), Lib.hid (by rw [HE1.out]; exact HRW9.out), HW9⟩
      · have g1' : (xw == wk) = false := beq_eq_false_iff_ne.2 g1
        have hno : ofW may wk x = false := by simp [ofW, hxw.out, g1]
        obtain ⟨k', q', d', B', e1, e2, e3, e4, e5, e6⟩ := HNO.out hno
        have E6 := Lib.hid (e6 _ (Below.refl _ _))
        have E12 := Lib.hid (And.intro e1 e2)
        clear HNO hno g1 e6 e1 e2
        go_wp2_with (first | refine wpList_exec (o := ⟨some 18, _, _, _, _, _⟩) (by rfl) (exec_load_at _ rfl rfl HLD.out) ?_ | refine wpList_laid_e (evC x) 10 _ _ rfl rfl rfl rfl rfl rfl rfl rfl HSZ.out HSO.out ?_)
        go_roundg (n - (k + 1))
        case measure => omega
        case rel => exact ⟨k', q', d', B', E12.out.1, E12.out.2, e3, e4, e5, E6.out, HBA⟩
    · obtain rfl : k = n := by omega
      have eT : l.take k = l := by rw [← HLN.out]; exact List.take_length
      rw [eT] at HQL HR
      have HEv := Lib.hid (HR.out.evs HQL.out)
      have HB1 := Lib.hid HW.out
      clear eT HR HW HCK
      go_wp2_with fail
      refine (esort_any B q d (l.filter (ofW may wk)) _ HEv.out (by omega)).mono ?_
      rintro e_r w2 ⟨A2, c2, rfl, hb2, hE2⟩
      rw [← HWF.out] at hE2
      have HE2 := Lib.hid hE2
      have HB2 := Lib.hid (bel_on HB1.out hb2)
      have HG2 := Lib.hid (HG0.out.below HB2.out)
      have HLQ := Lib.hid hE2.2
      have HFIN : Hid (Below w.heap.size w w2) := bel_on hb1 HB2.out
      clear hb2 hE2 HEv HB1 HQL
      obtain ⟨L, hL⟩ : ∃ L, Hid (wevs may wk l = L) := ⟨_, rfl⟩
      rw [hL.out] at HE2 HOK HRT HLQ
      go_wp2
      go_loopg [41] q (fun kx s41 wr => ∃ j : Nat, s41 = .int .i64 j ∧ j + kx = q ∧ Hid (StW w2 wr g u cap (runT cap none (L.take j)) (segsS (fun t => roundP t u) (runE cap none (L.take j))) (flagsS (runE cap none (L.take j)))) ∧ Hid (∃ t, Opn t (runT cap none (L.take j)) ∧ ∀ b ∈ L.drop j, t ≤ b.tm))
      case atStart => exact ⟨0, rfl, by omega, Lib.hid ⟨_, _, _, _, _, _, Wat.start HG2.out⟩, Lib.hid ⟨0, trivial, fun b hb => (HOK.out b (by simpa using hb)).1⟩⟩
      case round =>
        obtain ⟨j, rfl, hj, HST, HOP⟩ := hrel
        by_cases hlt : j < q
        · obtain ⟨b2, o2, rfl⟩ := HE2.out.form (by omega)
          obtain ⟨x, hx⟩ : ∃ x, L.getD j EvP.none = x := ⟨_, rfl⟩
          have hb2l := cell_lt (HE2.out.cell (i := 0) (j := 0) (by omega) (by decide))
          have hb2n := evs_off HE2.out (by omega) HG2.out (Nat.le_of_ble_eq_true rfl)
          have HEr := Lib.hid (HE2.out.keep (w' := wr) fun ad had => by
            injection had with had
            subst had
            exact HST.out.kept.block b2 ⟨hb2l, hb2n⟩)
          have HLD := Lib.hid (evs_load HEr.out (i := j) hlt)
          rw [hx] at HLD
          have hdr : L.drop j = x :: L.drop (j + 1) := by
            have hl : j < L.length := by rw [HLQ.out]; exact hlt
            rw [List.drop_eq_getElem_cons hl, ← hx]
            simp [List.getD, hl]
          have htk : L.take (j + 1) = L.take j ++ [x] := by rw [← hx]; exact take_snoc_ev (by rw [HLQ.out]; exact hlt)
          have hxm : x ∈ L := List.mem_of_mem_drop (by rw [hdr]; simp)
          obtain ⟨t, ho, hot⟩ := HOP.out
          have hxt := hot x (by rw [hdr]; simp)
          have hx0 := HOK.out x hxm
          have hcp : 0 ≤ cap ∧ cap ≤ 100000 := by have := HU.out.2; omega
          have huu : 1 ≤ u ∧ u ≤ 100000000 := by have := HU.out.1; omega
          have hln := run_len (cap := cap) (fun t => roundP t u) (L.take j) none
          have e0 : stN none = 0 := rfl
          have e1 : openN none = 0 := rfl
          rw [e0, e1] at hln
          have htl : (L.take j).length ≤ 800 := by rw [List.length_take, HLQ.out]; omega
          have hba := bel_alloc (Below.refl wr.heap.size wr) (.cells (evC x) 43)
          have HTK := Lib.hid (wtake_any (HST.out.below hba) x t ho hxt hx0 hcp huu (by omega) (by omega))
          have HOP' : Hid (∃ t, Opn t (runT cap none (L.take (j + 1))) ∧ ∀ b ∈ L.drop (j + 1), t ≤ b.tm) := by
            refine ⟨x.tm, ?_, fun b hb => ?_⟩
            · rw [htk, runT_more]; exact opn_step ho x hxt hx0.1
            · have hp := HRT.out
              have hp2 : (L.drop j).Pairwise (fun a b => a.tm ≤ b.tm) := hp.sublist (List.drop_sublist _ _)
              rw [hdr, List.pairwise_cons] at hp2
              exact hp2.1 b hb
          have HT1 : Hid (runT cap none (L.take (j + 1)) = (stepS cap (runT cap none (L.take j)) x).2 ∧ runE cap none (L.take (j + 1)) = runE cap none (L.take j) ++ (stepS cap (runT cap none (L.take j)) x).1) := by
            refine ⟨?_, ?_⟩
            · rw [htk, runT_more]
            · rw [htk, runE_more]
          have HXA : Hid (Has (wr.alloc (.cells (evC x) 43)) wr.heap.size (evC x)) := Has.new wr _ _ rfl
          have HLX := Lib.hid (has_load_e HXA.out)
          have HSZ := Lib.hid (evC_size x)
          have HSO := Lib.hid (evC_one x)
          have i0 : (0 : Int) ≤ (j : Int) := by omega
          have i1 : (j : Int) < (q : Int) := by omega
          clear hx hb2l hb2n HEr hdr htk hxm ho hot hxt hx0 hcp huu hln htl hba HOP HST e0 e1
          go_wp2_with (first | refine wpList_exec (o := ⟨some 44, _, _, _, _, _⟩) (by rfl) (exec_load_at _ rfl rfl HLD.out) ?_ | refine wpList_laid_e (evC x) 12 _ _ rfl rfl rfl rfl rfl rfl rfl rfl HSZ.out HSO.out ?_ | refine wpList_exec (o := ⟨some 46, _, _, _, _, _⟩) (by rfl) (exec_load_at _ rfl rfl HLX.out) ?_)
          refine HTK.out.mono ?_
          rintro e_r w5 ⟨rfl, hst5⟩
          rw [← HT1.out.1] at hst5
          have HS5 : Hid (StW w2 w5 g u cap (runT cap none (L.take (j + 1))) (segsS (fun t => roundP t u) (runE cap none (L.take (j + 1)))) (flagsS (runE cap none (L.take (j + 1))))) := by
            show StW _ _ _ _ _ _ _ _
            rw [HT1.out.2, segsS_append, flagsS_append]
            exact hst5
          clear hst5 HTK HT1
          go_wp2
          go_roundg (q - (j + 1))
          case measure => omega
          case rel => exact ⟨j + 1, by go_num, by omega, HS5, HOP'⟩
        · obtain rfl : j = q := by omega
          have eT : L.take j = L := by rw [← HLQ.out]; exact List.take_length
          rw [eT] at HST
          go_wp2
          go_end0
          have hL2 := hL.out
          subst hL2
          exact ⟨rfl, w2, HFIN.out, HGL.out, HST.out⟩
end Go.Proofs.YtpgncbhahocmbaaGreat
