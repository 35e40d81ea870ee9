import PyProof.Rows.All
import Wide.All
import OpenK.AllK
import Wide.FinOn
import HandS.ForMost
import HandS.Exc
import HandS.ExcOwn
import HandS.ExcIs
import HandS.TryOnly
import HandS.WordsExc
import HandS.IsInst
import HandS.Star
import HandS.Walk
import HandS.FStr
import HandS.Deep
import HandS.SetFor
import HandS.Defaults
import PySem.Challenge.RW_kindnotes_k09_ways_are_made
set_option Elab.async false
set_option linter.all false
set_option maxRecDepth 100000
set_option maxHeartbeats 2000000
namespace KN
open PySem PySem.Spec PyProof.Rows L2
/-! ### the text -/
def topS (i : Nat) : Stmt := PySem.Challenge.pw_kindnotes_k09_ways_are_made.main.body.getD i (.Pass ⟨0, 0, 0, 0⟩)
abbrev sWay : Stmt := topS 5
abbrev sCell : Stmt := topS 7
abbrev sTape : Stmt := topS 8
abbrev sTake : Stmt := topS 9
abbrev sShuf : Stmt := topS 10
abbrev sRefused : Stmt := topS 11
abbrev sFaults : Stmt := topS 12
abbrev sLaw : Stmt := topS 13
/-! ### heaps -/
theorem same_upd {H : Hp} {p : Addr} {o : HO} (h : H p = none) : Same H (upd H p o) := fun b x e => by
  rw [upd_ne (ne_of_none e h)]
  exact e
section
variable {P : Program} {w : World} {K : PySem.W.Frag} {mg : Str → Option Value} {base : Heap}
/-! ### a cell of the script -/
theorem scCell : FnScope ["_law_script", "_law_k"] ["_law_script", "_law_k"] (defScope sCell) := ⟨rfl, rfl, rfl, by decide +kernel, rfl, by decide +kernel, by decide +kernel⟩
def spCell (K : PySem.W.Frag) : Sp := fun vs H Q _ => ∃ (a : Addr) (ns : List Int) (k : Nat), vs = [.ref a, .int (k : Int)] ∧ SqL K H a (ns.map V.int) ∧ ns.length ≤ 63 ∧ ∀ v : Int, Q (.int v) H
theorem ok_cell {f : Addr} {fd : FuncData} (F : Fun K "_law_cell" "_law_cell" sCell f fd) (ml : mg "len" = none) : FnOk P w K mg base CX0 1 f fd ["_law_script", "_law_k"] (spCell K) := by
  refine F.ok scCell (fun vs H Q E h => ?_) (fun cdv A outer s H vs Q E hr h => ?_)
  · obtain ⟨a, ns, k, rfl, _⟩ := h
    rfl
  obtain ⟨a, ns, k, rfl, hS, hlen, q⟩ := h
  refine ⟨_, pss_cons (ps_if (pt_cmpR op_lt (pv 1) (pe_callB call_len_seq (by rfl) ml PySem.boot_len (pa_cons (pv 0) pa_nil)) (nomark _)) (pss_one (ps_ret (pe_ix ix_list (pv 0) (pv 1) (fun _ _ => rfl)))) pss_nil)
    (pss_one (ps_ret pe_int)), ?_⟩
  refine ⟨_, rfl, _, rfl, a, _, rfl, .inl hS, _, _, rfl, rfl, _, rfl, ?_⟩
  refine ite2 (fun c => ?_) (fun c => ?_)
  · have c' : (k : Int) < (((ns.map V.int).length : Nat) : Int) := of_decide_eq_true c
    rw [List.length_map] at c'
    have hk : k < ns.length := by omega
    have g : (ns.map V.int)[k]? = some (.int ns[k]) := by
      rw [List.getElem?_map, List.getElem?_eq_getElem hk]
      rfl
    exact ⟨_, rfl, _, rfl, a, _, _, _, rfl, rfl, hS, atI_nat g, q _⟩
  · exact q 0
/-! ### the tape -/
theorem scTape : FnScope ["_law_script", "_law_k", "_law_size", "_law_cell_here", "_law_left", "_law_tape_here", "_law_j", "_law_mixed"] ["_law_script", "_law_k", "_law_size"] (defScope sTape) := ⟨rfl, rfl, rfl, by decide +kernel, rfl, by decide +kernel, by decide +kernel⟩
/-- a tape stands at p -/
def Tp (H : Hp) (p : Addr) : Prop := ∃ ns : List Int, H p = some (.lst (ns.map V.int)) ∧ ns.length ≤ 1000
def spTape (K : PySem.W.Frag) : Sp := fun vs H Q _ => ∃ (a : Addr) (ns : List Int) (k m : Nat), vs = [.ref a, .int (k : Int), .int (m : Int)] ∧ SqL K H a (ns.map V.int) ∧ ns.length ≤ 63 ∧ m ≤ 1000 ∧ ∀ H' p, Same H H' → H p = none → Tp H' p → Q (.ref p) H'
theorem fmod_small (c : Int) : -(2 ^ 64) < c.fmod 9973 ∧ c.fmod 9973 < 2 ^ 64 := by
  have h : c.fmod 9973 = c % 9973 := Int.fmod_eq_emod_of_nonneg c (by decide)
  rw [h]
  have h1 := Int.emod_nonneg c (show (9973 : Int) ≠ 0 by decide)
  have h2 := Int.emod_lt_of_pos c (show (0 : Int) < 9973 by decide)
  constructor <;> omega
theorem ok_tape {f fC : Addr} {fd fdC : FuncData} (F : Fun K "_law_tape" "_law_tape" sTape f fd) (FC : Fun K "_law_cell" "_law_cell" sCell fC fdC) (bC : Binds K fdC ["_law_script", "_law_k"] []) (gC : mg "_law_cell" = some (.ref fC))
    (ml : mg "len" = none) (mr : mg "range" = none) (mi : mg "int" = none) : FnOk P w K mg base CX0 2 f fd ["_law_script", "_law_k", "_law_size"] (spTape K) := by
  have GC : FnOk P w K mg base CX0 1 fC fdC ["_law_script", "_law_k"] (spCell K) := ok_cell FC ml
  refine F.ok scTape (fun vs H Q E h => ?_) (fun cdv A outer s H vs Q E hr h => ?_)
  · obtain ⟨a, ns, k, m, rfl, _⟩ := h
    rfl
  obtain ⟨a, ns, k, m, rfl, hS, hlen, hm, q⟩ := h
  refine ⟨_, pss_cons (ps_set (i := 3) scTape.nd rfl (.inl rfl) (pe_call GC hr (by rfl) gC FC.kp bC .nil pass0 (pa_cons (pv 0) (pa_cons (pv 1) pa_nil))))
    (pss_cons (ps_set (i := 4) scTape.nd rfl (.inl rfl) (pv 3))
    (pss_cons (ps_set (i := 5) scTape.nd rfl (.inl rfl) (pe_lst pa_nil))
    (pss_cons (ps_for PassesOwn.never rfl (pi_range1 (by rfl) mr (pa_cons (pv 2) pa_nil)) (pg_name (i := 6) scTape.nd rfl (.inl rfl))
      (pss_one (ps_if (PW.pt (pw_and (pt_cmpR op_ge (pv 3) (pe_op op_pow pe_int pe_int) (nomark _)) (pw_and1 (pt_cmpR op_gt (pv 4) pe_int (nomark _)))))
        (pss_cons (ps_expr (pe_bm PySem.F.plainAttrs_list PySem.F.slot_list_append PySem.F.type_list_append mt_append (pv 5) (pa_cons (pe_op op_modN (pe_callTy call_int1 (by rfl) mi (by decide +kernel) (pa_cons (pv 4) pa_nil)) pe_int) pa_nil)))
          (pss_one (ps_set (i := 4) scTape.nd rfl (.inl rfl) (pe_op op_fdivN (pv 4) pe_int))))
        (pss_cons (ps_set (i := 7) scTape.nd rfl (.inl rfl) (pe_op op_modN (pe_callTy call_int1 (by rfl) mi (by decide +kernel) (pa_cons
            (pe_op op_add (pe_op op_mul (pe_op op_modN (pe_callTy call_int1 (by rfl) mi (by decide +kernel) (pa_cons (pv 3) pa_nil)) pe_int) (pe_op op_add pe_int (pe_op op_mul pe_int (pv 6)))) (pe_op op_mul pe_int (pv 6))) pa_nil)) pe_int))
          (pss_one (ps_expr (pe_bm PySem.F.plainAttrs_list PySem.F.slot_list_append PySem.F.type_list_append mt_append (pv 5) (pa_cons (pe_op op_add (pv 7) (pe_op op_fdivN (pv 7) pe_int)) pa_nil))))))))
    (pss_one (ps_ret (pv 5)))))), ?_⟩
  refine ⟨_, rfl, _, rfl, a, ns, k, rfl, hS, hlen, fun c => ?_⟩
  refine ⟨_, rfl, Nat.zero_le _, fun p np => ?_⟩
  refine ⟨_, rfl, (m : Int), rfl, by omega, by omega, ?_⟩
  refine for_range (lo := 0) (n := m) (fun i σ H' => ∃ (l : Int) (y6 y7 : Option V) (ts : List Int), σ = [some (.ref a), some (.int (k : Int)), some (.int (m : Int)), some (.int c), some (.int l), some (.ref p), y6, y7] ∧ Same H H' ∧ H' p = some (.lst (ts.map V.int)) ∧ ts.length = i)
    ⟨c, none, none, [], rfl, same_upd np, upd_same, rfl⟩ (fun i σ H' hi hW => ?_) (fun σ H' hW => ?_)
  · obtain ⟨l, y6, y7, ts, rfl, sm, ep, hl⟩ := hW
    have small : (ts.map V.int).length < sizeLine := by
      rw [List.length_map]
      exact small1000 (by omega)
    have smU : ∀ o, Same H (upd H' p o) := fun o b x e => by
      rw [upd_ne (ne_of_none e np)]
      exact sm _ _ e
    refine ⟨_, rfl, 10, 18, rfl, rfl, ⟨by decide, by decide, by decide⟩, _, _, rfl, rfl, _, rfl, ?_⟩
    refine ite2 (fun _ => ⟨_, rfl, _, _, rfl, rfl, _, rfl, ite2 (fun _ => ?t) (fun _ => ?e1)⟩) (fun _ => ?e2)
    case t =>
      refine ⟨_, rfl, .inl ⟨rfl, _, SqL.of ep⟩, _, rfl, .inl ⟨_, rfl, _, _, rfl, rfl, (by show (5040 : Int) ≠ 0; decide), p, _, _, rfl, rfl, ep, small, ?_⟩⟩
      refine ⟨_, rfl, _, _, rfl, rfl, ⟨by decide, by decide⟩, ?_⟩
      exact ⟨_, _, _, ts ++ [_], rfl, smU _, by rw [upd_same, List.map_append]; rfl, by rw [List.length_append, hl]; rfl⟩
    all_goals
      refine ⟨_, rfl, .inl ⟨_, rfl, _, _, rfl, rfl, (by show (9973 : Int) ≠ 0; decide), _, rfl, _, _, rfl, rfl, .inl ⟨by decide, by decide⟩, _, _, rfl, rfl, _, _, rfl, rfl, .inl (fmod_small c), _, rfl, _, _, rfl, rfl, .inl ⟨by decide, by decide⟩, _, _, rfl, rfl, .inl ⟨_, rfl, _, _, rfl, rfl, (by show (1009 : Int) ≠ 0; decide), ?_⟩⟩⟩
      refine ⟨_, rfl, .inl ⟨rfl, _, SqL.of ep⟩, _, rfl, _, rfl, _, _, rfl, rfl, ⟨by decide, by decide⟩, _, _, rfl, rfl, p, _, _, rfl, rfl, ep, small, ?_⟩
      exact ⟨_, _, _, ts ++ [_], rfl, smU _, by rw [upd_same, List.map_append]; rfl, by rw [List.length_append, hl]; rfl⟩
  · obtain ⟨l, y6, y7, ts, rfl, sm, ep, hl⟩ := hW
    exact ⟨_, rfl, q H' p sm np ⟨ts, ep, by omega⟩⟩
end
end KN
set_option Elab.async false
set_option linter.all false
set_option maxRecDepth 100000
set_option maxHeartbeats 2000000
namespace KN
open PySem PySem.Spec PyProof.Rows L2
/-- all but the object at p stands as it stood -/
def But (p : Addr) (H H' : Hp) : Prop := ∀ b o, b ≠ p → H b = some o → H' b = some o
theorem But.refl (p : Addr) (H : Hp) : But p H H := fun _ _ _ h => h
theorem But.trans {p : Addr} {H H1 H2 : Hp} (a : But p H H1) (b : But p H1 H2) : But p H H2 := fun c o n h => b c o n (a c o n h)
theorem But.of {p : Addr} {H H' : Hp} (s : Same H H') : But p H H' := fun b o _ h => s b o h
theorem But.upd (p : Addr) (H : Hp) (o : HO) : But p H (upd H p o) := fun b u n h => by
  rw [upd_ne n]
  exact h
theorem Tp.same {H H' : Hp} {p : Addr} (t : Tp H p) (s : Same H H') : Tp H' p := by
  obtain ⟨ns, e, h⟩ := t
  exact ⟨ns, s _ _ e, h⟩
theorem Tp.ne {H : Hp} {p q : Addr} (t : Tp H p) (h : H q = none) : p ≠ q := by
  obtain ⟨ns, e, _⟩ := t
  exact ne_of_none e h
theorem tyes {σ : L2.St} {H : Hp} {A B : Hp → Prop} (h : A H) : tYes σ H (fun b H3 => if b = true then A H3 else B H3) := by
  show if true = true then A H else B H
  rw [if_pos rfl]
  exact h
section
variable {P : Program} {w : World} {K : PySem.W.Frag} {mg : Str → Option Value} {base : Heap}
/-! ### take -/
theorem scTake : FnScope ["_law_tape_here", "_law_many"] ["_law_tape_here", "_law_many"] (defScope sTake) := ⟨rfl, rfl, rfl, by decide +kernel, rfl, by decide +kernel, by decide +kernel⟩
def spTake : Sp := fun vs H Q _ => ∃ (p : Addr) (m : Nat), vs = [.ref p, .int (m : Int)] ∧ Tp H p ∧ 1 ≤ m ∧ ∀ (H' : Hp) (r : Nat), But p H H' → Tp H' p → r < m → Q (.int (r : Int)) H'
theorem ok_take {f : Addr} {fd : FuncData} (F : Fun K "_law_take" "_law_take" sTake f fd) (ml : mg "len" = none) (mi : mg "int" = none) : FnOk P w K mg base CX0 1 f fd ["_law_tape_here", "_law_many"] spTake := by
  refine F.ok scTake (fun vs H Q E h => ?_) (fun cdv A outer s H vs Q E hr h => ?_)
  · obtain ⟨p, m, rfl, _⟩ := h
    rfl
  obtain ⟨p, m, rfl, ⟨ns, ep, hl⟩, hm, q⟩ := h
  refine ⟨_, pss_cons (ps_if (pt_cmpR op_eq (pe_callB call_len_seq (by rfl) ml PySem.boot_len (pa_cons (pv 0) pa_nil)) pe_int (nomark _)) (pss_one (ps_ret pe_int)) pss_nil)
    (pss_one (ps_ret (pe_op op_modN (pe_callTy call_int1 (by rfl) mi (by decide +kernel) (pa_cons (pe_bm PySem.F.plainAttrs_list PySem.F.slot_list_pop PySem.F.type_list_pop mt_popAt (pv 0) (pa_cons pe_int pa_nil)) pa_nil)) (pv 1)))), ?_⟩
  refine ⟨_, rfl, p, _, rfl, .inl (SqL.of ep), rfl, _, rfl, ite2 (fun c => ?_) (fun c => ?_)⟩
  · exact q H 0 (But.refl _ _) ⟨ns, ep, hl⟩ (by omega)
  · cases ns with
    | nil => exact absurd (decide_eq_true rfl) c
    | cons x r =>
      refine ⟨_, rfl, .inl ⟨rfl, _, SqL.of ep⟩, p, _, 0, 0, .int x, rfl, rfl, ep, by decide, by decide, ?_, rfl, .inl ⟨_, rfl, _, rfl, _, _, rfl, rfl, ?_, ?_⟩⟩
      · exact seqIndex_of (by decide) (by rw [List.length_map, List.length_cons]; omega)
      · show (m : Int) ≠ 0
        omega
      · have e1 : x.fmod (m : Int) = x % (m : Int) := Int.fmod_eq_emod_of_nonneg x (by omega)
        have h1 := Int.emod_nonneg x (show (m : Int) ≠ 0 by omega)
        have h2 := Int.emod_lt_of_pos x (show (0 : Int) < (m : Int) by omega)
        have z := q (upd H p (.lst (r.map V.int))) (x % (m : Int)).toNat (But.upd _ _ _) ⟨r, upd_same, by rw [List.length_cons] at hl; omega⟩ (by omega)
        rw [Int.toNat_of_nonneg h1] at z
        show Q (.int (x.fmod (m : Int))) _
        rw [e1]
        exact z
end
end KN
set_option Elab.async false
set_option linter.all false
set_option maxRecDepth 100000
set_option maxHeartbeats 400000
namespace KN
open PySem PySem.Spec PyProof.Rows L2
/-! ### data: texts, whole numbers, tuples, None -/
inductive Fd where
  | s (z : Str)
  | i (k : Int)
  | t (ds : List Fd)
  | n
mutual
def dep : Fd → Nat
  | .s _ => 0
  | .i _ => 0
  | .t ds => 1 + deps ds
  | .n => 0
def deps : List Fd → Nat
  | [] => 0
  | d :: ds => max (dep d) (deps ds)
end
mutual
def toPy : Fd → PyData
  | .s z => .str z
  | .i k => .int k
  | .t ds => .tuple (toPys ds)
  | .n => .none
def toPys : List Fd → List PyData
  | [] => []
  | d :: ds => toPy d :: toPys ds
end
mutual
/-- its texts are texts of Python's -/
def lay : Fd → Bool
  | .s z => PyData.strOk z
  | .i _ => true
  | .t ds => lays ds
  | .n => true
def lays : List Fd → Bool
  | [] => true
  | d :: ds => lay d && lays ds
end
mutual
theorem canLay_toPy : ∀ d : Fd, lay d = true → (toPy d).canLay0 = true
  | .s z, h => by
    simp only [toPy, PyData.canLay0]
    exact h
  | .i _, _ => rfl
  | .t ds, h => by
    simp only [toPy, PyData.canLay0]
    exact canLay_toPys ds h
  | .n, _ => rfl
theorem canLay_toPys : ∀ ds : List Fd, lays ds = true → PyData.canLayAll0 (toPys ds) = true
  | [], _ => rfl
  | d :: ds, h => by
    simp only [lays, Bool.and_eq_true] at h
    simp only [toPys, PyData.canLayAll0, Bool.and_eq_true]
    exact ⟨canLay_toPy d h.1, canLay_toPys ds h.2⟩
end
mutual
theorem depth_toPy : ∀ d : Fd, (toPy d).depth ≤ dep d
  | .s z => by simp [toPy, PyData.depth, dep]
  | .i z => by simp [toPy, PyData.depth, dep]
  | .t ds => by
    have h := depth_toPys ds
    simp [toPy, PyData.depth, dep]
    omega
  | .n => by simp [toPy, PyData.depth, dep]
theorem depth_toPys : ∀ ds : List Fd, PyData.depthAll (toPys ds) ≤ deps ds
  | [] => by simp [toPys, PyData.depthAll]
  | d :: ds => by
    have h1 := depth_toPy d
    have h2 := depth_toPys ds
    simp [toPys, PyData.depthAll, deps]
    omega
end
theorem shaped_toPy {d : Fd} (hf : lay d = true) (h : dep d ≤ 60) : SeqAt.shaped (toPy d) = true := by
  have h1 := depth_toPy d
  show ((toPy d).canLay0 && decide ((toPy d).depth ≤ 64)) = true
  rw [canLay_toPy d hf, decide_eq_true (by omega)]
  rfl
theorem eqv_toPy {d : Fd} (h : lay d = true) : PyData.eqv (toPy d) (toPy d) = true := SeqAt.eqv_refl _ (canLay_toPy d h)
mutual
/-- the value v is, in the heap H, the data d -/
inductive Rp (H : Hp) : V → Fd → Prop
  | n : Rp H .non .n
  | s (z : Str) : Rp H (.str z) (.s z)
  | i (k : Int) : Rp H (.int k) (.i k)
  | t {a : Addr} {vs : List V} {ds : List Fd} : H a = some (.tup vs) → RpA H vs ds → Rp H (.ref a) (.t ds)
inductive RpA (H : Hp) : List V → List Fd → Prop
  | nil : RpA H [] []
  | cons {v : V} {vs : List V} {d : Fd} {ds : List Fd} : Rp H v d → RpA H vs ds → RpA H (v :: vs) (d :: ds)
end
/-- the tuples stand as they stood -/
def Keep (H H' : Hp) : Prop := ∀ b xs, H b = some (.tup xs) → H' b = some (.tup xs)
theorem Keep.refl (H : Hp) : Keep H H := fun _ _ h => h
theorem Keep.trans {H H1 H2 : Hp} (a : Keep H H1) (b : Keep H1 H2) : Keep H H2 := fun c xs h => b c xs (a c xs h)
theorem Keep.same {H H' : Hp} (s : Same H H') : Keep H H' := fun b xs h => s b _ h
theorem Keep.but {H H' : Hp} {p : Addr} (s : But p H H') (t : Tp H p) : Keep H H' := fun b xs h => by
  refine s b _ (fun e => ?_) h
  obtain ⟨ns, e2, _⟩ := t
  rw [e, e2] at h
  cases h
theorem Keep.lst {H : Hp} {D : Addr} {ys : List V} {o : HO} (h : H D = some (.lst ys)) : Keep H (upd H D o) := fun b xs e => by
  rw [upd_ne (fun z => by rw [z, h] at e; cases e)]
  exact e
theorem Keep.new {H : Hp} {D : Addr} {o : HO} (h : H D = none) : Keep H (upd H D o) := .same (same_upd h)
mutual
theorem Rp.keep {H H' : Hp} (k : Keep H H') : ∀ {v : V} {d : Fd}, Rp H v d → Rp H' v d
  | _, .s z, .s _ => .s z
  | _, .i z, .i _ => .i z
  | _, .n, .n => .n
  | _, .t ds, .t h a => .t (k _ _ h) (RpA.keep k a)
theorem RpA.keep {H H' : Hp} (k : Keep H H') : ∀ {vs : List V} {ds : List Fd}, RpA H vs ds → RpA H' vs ds
  | _, [], .nil => .nil
  | _, d :: ds, .cons h a => .cons (Rp.keep k h) (RpA.keep k a)
end
mutual
theorem Rp.dp {K : PySem.W.Frag} {H : Hp} : ∀ {v : V} {d : Fd}, Rp H v d → Dp K H v (toPy d)
  | _, .s z, .s _ => .str z
  | _, .i z, .i _ => .int z
  | _, .n, .n => .non
  | _, .t ds, .t h a => .tup (SqT.of h) (RpA.dp a)
theorem RpA.dp {K : PySem.W.Frag} {H : Hp} : ∀ {vs : List V} {ds : List Fd}, RpA H vs ds → DpAll K H vs (toPys ds)
  | _, [], .nil => .nil
  | _, d :: ds, .cons h a => .cons (Rp.dp h) (RpA.dp a)
end
theorem RpA.length {H : Hp} : ∀ {vs : List V} {ds : List Fd}, RpA H vs ds → vs.length = ds.length
  | _, [], .nil => rfl
  | _, d :: ds, .cons h a => by rw [List.length_cons, List.length_cons, RpA.length a]
theorem RpA.snoc {H : Hp} : ∀ {vs : List V} {ds : List Fd} {v : V} {d : Fd}, RpA H vs ds → Rp H v d → RpA H (vs ++ [v]) (ds ++ [d])
  | _, [], _, _, .nil, h => .cons h .nil
  | _, _ :: _, _, _, .cons h a, h2 => .cons h (RpA.snoc a h2)
theorem RpA.append {H : Hp} : ∀ {vs us : List V} {ds es : List Fd}, RpA H vs ds → RpA H us es → RpA H (vs ++ us) (ds ++ es)
  | _, _, [], _, .nil, h => h
  | _, _, _ :: _, _, .cons h a, h2 => .cons h (RpA.append a h2)
theorem RpA.set {H : Hp} : ∀ {vs : List V} {ds : List Fd} {j : Nat} {v : V} {d : Fd}, RpA H vs ds → Rp H v d → RpA H (vs.set j v) (ds.set j d)
  | _, [], _, _, _, .nil, _ => .nil
  | _, _ :: _, 0, _, _, .cons _ a, h => .cons h a
  | _, _ :: _, j + 1, _, _, .cons h0 a, h => .cons h0 (RpA.set a h)
theorem RpA.get {H : Hp} : ∀ {vs : List V} {ds : List Fd} {j : Nat} {d : Fd}, RpA H vs ds → ds[j]? = some d → ∃ v, vs[j]? = some v ∧ Rp H v d
  | _, [], _, _, .nil, h => by simp at h
  | _, _ :: _, 0, _, .cons h0 a, h => ⟨_, rfl, by
    have := Option.some.inj h
    rw [← this]
    exact h0⟩
  | _, _ :: _, j + 1, _, .cons h0 a, h => RpA.get (j := j) a h
theorem RpA.get? {H : Hp} : ∀ {vs : List V} {ds : List Fd} {j : Nat} {v : V}, RpA H vs ds → vs[j]? = some v → ∃ d, ds[j]? = some d ∧ Rp H v d
  | _, [], _, _, .nil, h => by simp at h
  | _, _ :: _, 0, _, .cons h0 a, h => ⟨_, rfl, by
    have := Option.some.inj h
    rw [← this]
    exact h0⟩
  | _, _ :: _, j + 1, _, .cons h0 a, h => RpA.get? (j := j) a h
/-! ### written data -/
section
variable {X : Cx}
def tLit (d : Fd) : TE := fun _ H Q => ∀ H' v, Same H H' → Rp H' v d → Q v H'
def tLits (ds : List Fd) : TA := fun _ H Q => ∀ H' vs, Same H H' → RpA H' vs ds → Q vs H'
theorem pe_imp {e : Expr} {t t' : TE} (h : PE X e t) (i : ∀ σ H Q, t' σ H Q → t σ H Q) : PE X e t' := ⟨fun pins s σ H Q I hq => h.run pins s σ H Q I (i σ H Q hq)⟩
theorem pa_imp {es : List Expr} {t t' : TA} (h : PA X es t) (i : ∀ σ H Q, t' σ H Q → t σ H Q) : PA X es t' := ⟨fun pos pins s σ H Q I hq => h.run pos pins s σ H Q I (i σ H Q hq)⟩
theorem lit_s {z : Str} {j : Nat} {pos : Pos} : PE X (.Constant (.str z) j pos) (tLit (.s z)) := pe_imp pe_str fun σ H Q h => h H _ (Same.refl H) (.s z)
theorem lits_nil : PA X [] (tLits []) := pa_imp pa_nil fun σ H Q h => h H _ (Same.refl H) .nil
theorem lits_cons {e : Expr} {es : List Expr} {d : Fd} {ds : List Fd} (h : PE X e (tLit d)) (r : PA X es (tLits ds)) (hs : starEach (e :: es) X.env = (false, eval e X.env) :: starEach es X.env := by rfl) : PA X (e :: es) (tLits (d :: ds)) :=
  pa_imp (pa_cons h r hs) fun σ H Q q H1 v s1 r1 H2 vs s2 r2 => q H2 _ (s1.trans s2) (.cons (r1.keep (.same s2)) r2)
theorem lit_t {es : List Expr} {k : Nat} {pos : Pos} {ds : List Fd} (h : PA X es (tLits ds)) (hl : ds.length ≤ 1000) : PE X (.Tuple es k pos) (tLit (.t ds)) :=
  pe_imp (pe_tup h) fun σ H Q q H1 vs s1 r1 => ⟨Nat.le_of_lt (small1000 (by rw [r1.length]; exact hl)), fun p np => q _ _ (s1.trans (same_upd np)) (.t upd_same (r1.keep (.new np)))⟩
end
theorem lits_none {X : Cx} {j : Nat} {pos : Pos} : PE X (.Constant .none j pos) (tLit .n) := pe_imp pe_non fun σ H Q h => h H _ (Same.refl H) .n
theorem lit_i {X : Cx} {k : Int} {j : Nat} {pos : Pos} : PE X (.Constant (.int k) j pos) (tLit (.i k)) := pe_imp pe_int fun σ H Q h => h H _ (Same.refl H) (.i k)
theorem ty_s {K : PySem.W.Frag} {H : Hp} {z : Str} : TyX K H (.str z) (.type "str") := .base (.str z)
theorem ty_t {K : PySem.W.Frag} {H : Hp} {a : Addr} {vs : List V} (h : H a = some (.tup vs)) : TyX K H (.ref a) (.type "tuple") := .base (.tup h)
/-- a walk over a list or over a tuple -/
theorem pi_seq {X : Cx} {tg l : Expr} {tl : TE} (hl : PE X l tl) : PI X tg l (fun σ H R => iList X.K tl σ H R ∨ iTup X.K tl σ H R) :=
  ⟨fun pins s σ H R I h => h.elim (fun h => (pi_list hl).run pins s σ H R I h) (fun h => (pi_tup hl).run pins s σ H R I h)⟩
end KN
set_option Elab.async false
set_option linter.all false
set_option maxRecDepth 100000
set_option maxHeartbeats 400000
/-! ### calls with keywords alone -/
namespace StX
open PySem PySem.Spec PyProof.Rows L2
def FnKw (P : Program) (w : World) (K : PySem.W.Frag) (mg : Str → Option Value) (base : Heap) (CX : CXT) (k : Nat) (f : Addr) (ks : List Str) (sp : List V → Sp) : Prop :=
  ∀ (A : Around) (outer : List Env) (s : Shared) (H : Hp) (us ws : List Value) (vs zs : List V) (Q : VK) (E : XK), Room k A → Env0 P w K mg base A outer s H → Vals vs us → Vals zs ws → sp zs vs H Q E →
    codeAny (model P w) A (.call (.ref f) ⟨us, ks.zip ws⟩) (CR CX outer P w H s Q E) s
section
variable {CX : CXT} {P : Program} {w : World} {K : PySem.W.Frag} {mg : Str → Option Value} {base : Heap} {k : Nat} {f : Addr} {name qual : Str} {params : Arguments} {body : List Stmt} {scope : Scope} {dV kV doc pm cdv ct oc : Value} {an od : Option Addr}
  {osl : Array (Option Value)} {N ks : List Str} {sp : Sp}
theorem FnKw.imp {sp sp' : List V → Sp} (F : FnKw P w K mg base CX k f ks sp) (h : ∀ zs vs H Q E, sp' zs vs H Q E → sp zs vs H Q E) : FnKw P w K mg base CX k f ks sp' := fun A outer s H us ws vs zs Q E hr e0 r rz hs => F A outer s H us ws vs zs Q E hr e0 r rz (h _ _ _ _ _ hs)
/-- a def with keyword-only parameters, all of them written -/
theorem kw_of {fd : FuncData} {ps : List Str} {sp : Sp} (F : FnOk P w K mg base CX k f fd ps sp) (hb : ∀ (s : Shared) (ws : List Value), ws.length = ps.length → BindsTo s fd ⟨[], ks.zip ws⟩ (ps.zip ws)) : FnKw P w K mg base CX k f ks (fun zs vs H Q E => vs = [] ∧ sp zs H Q E) := by
  intro A outer s H us ws vs zs Q E hr e0 r rz h
  obtain ⟨rfl, h⟩ := h
  cases r
  exact F.run A outer s H ⟨[], ks.zip ws⟩ ws zs Q E hr e0 (hb s ws (by rw [← rz.length]; exact F.len _ _ _ _ h)) rz h
end
section
variable {X : Cx} {CX : CXT} {k : Nat} {f : Addr} {ks : List Str} {sp : List V → Sp} {E : XK} {x : Str} {p pos : Pos} {e : Expr} {es : List Expr} {kws : List Keyword} {t tk : TA}
theorem run_kw {pins : List (Addr × Obj)} {σ : L2.St} {H : Hp} {s : Shared} {Q : VK} {us ws : List Value} {vs zs : List V} (F : FnKw X.prog X.w X.K X.mg X.base CX k f ks sp) (hr : Room k X.A) (hx : Passes CX X E) (I : Inv X pins σ H s) (r : Vals vs us) (rz : Vals zs ws) (h : sp zs vs H Q E) :
    wpAny (model X.prog X.w) X.A (call (.ref f) us (ks.zip ws)) (EP X pins σ Q) X.xe s := by
  refine wpAny_call (codeAny_mono (F X.A X.stack s H us ws vs zs Q E hr I.env0 r rz h) fun r s' hq => ?_)
  cases r with
  | error e => exact hx pins σ H s e s' I hq
  | ok fl =>
    cases fl with
    | ret u => exact I.after hq
    | next => exact False.elim hq
    | brk => exact False.elim hq
    | cont => exact False.elim hq
def tKw (sp : List V → Sp) (E : XK) (t tk : TA) : TE := fun σ H Q => t σ H fun vs H1 => tk σ H1 fun zs H2 => sp zs vs H2 Q E
/-- f(e, .., k = v) -/
theorem pe_kw (F : FnKw X.prog X.w X.K X.mg X.base CX k f ks sp) (hr : Room k X.A) (hg : Gl X x) (hm : X.mg x = some (.ref f)) (hk : PySem.W.keepIn X.K (.ref f) = true) (hx : Passes CX X E)
    (ha : PA X (e :: es) t) (hkw : PK X kws tk) (hall : (backToKw pos (keywordEach kws X.env)).all (·.1.isSome) = true := by rfl) (hks : (backToKw pos (keywordEach kws X.env)).filterMap (·.1) = ks := by rfl)
    (hdb : (x == ("__debug__" : Str)) = false := by decide) (he : starEach (e :: es) X.env = (false, eval e X.env) :: starEach es X.env := by rfl)
    (hpl : ((backTo pos (starEach (e :: es) X.env)).any (·.1) || (backToKw pos (keywordEach kws X.env)).any (·.1.isNone)) = false := by rfl) :
    PE X (.Call (.Name x p) (e :: es) kws pos) (tKw sp E t tk) := by
  refine ⟨fun pins s σ H Q I h => ?_⟩
  refine wpAny_Call_Name_kw (ld_glob I hg hm ?_ hdb)
  refine PySem.W.callWith_KW (h₀ := X.base) I.ok.mod.kin hk hall (thn (ha.run pos pins s σ H _ I h) fun us s1 ⟨vs, H1, I1, r, q⟩ => ?_) hpl he
  refine thn (hkw.run pos pins s1 σ H1 _ I1 q) fun ws s2 ⟨zs, H2, I2, rz, q2⟩ => ⟨I2.kIn, ?_⟩
  rw [hks]
  exact run_kw F hr hx I2 r rz q2
/-- f(k = v) -/
theorem pe_kw0 (F : FnKw X.prog X.w X.K X.mg X.base CX k f ks sp) (hr : Room k X.A) (hg : Gl X x) (hm : X.mg x = some (.ref f)) (hk : PySem.W.keepIn X.K (.ref f) = true) (hx : Passes CX X E)
    (hkw : PK X kws tk) (hall : (backToKw pos (keywordEach kws X.env)).all (·.1.isSome) = true := by rfl) (hks : (backToKw pos (keywordEach kws X.env)).filterMap (·.1) = ks := by rfl)
    (hdb : (x == ("__debug__" : Str)) = false := by decide)
    (hpl : ((backTo pos (starEach [] X.env)).any (·.1) || (backToKw pos (keywordEach kws X.env)).any (·.1.isNone)) = false := by rfl) :
    PE X (.Call (.Name x p) [] kws pos) (tKw sp E tNil tk) := by
  refine ⟨fun pins s σ H Q I h => ?_⟩
  refine wpAny_Call_Name_kw (ld_glob I hg hm ?_ hdb)
  refine PySem.W.callWith_KW0 (h₀ := X.base) I.ok.mod.kin hk hall ?_ hpl
  refine thn (hkw.run pos pins s σ H _ I h) fun ws s2 ⟨zs, H2, I2, rz, q2⟩ => ⟨I2.kIn, ?_⟩
  rw [hks]
  exact run_kw F hr hx I2 .nil rz q2
end
end StX
namespace KN
open PySem PySem.Spec PyProof.Rows L2
/-- what the written part says of an error class of the program's own -/
structure ErrC (K : PySem.W.Frag) (mg : Str → Option Value) (x : Str) (C : Addr) : Prop where
  g : mg x = some (.ref C)
  kp : PySem.W.keepIn K (.ref C) = true
  ex : PySem.W.excIn K C [.type "ValueError", .type "Exception", .type "BaseException", .type "object"] "ValueError.__new__" = true
  sb : PySem.W.subIn K (.ref C) (.type "BaseException") = some true
  ty : PySem.W.typeIn K (.ref C) = some (.type "type")
  hd : PySem.W.hasDictIn K C = true
  ec : ExcC K C
/-! ### way -/
abbrev pD (w : Int × Str) : Fd := .t [.i w.1, .s w.2]
def dirB (d : Str) : Bool := inV (.str d) [.str (Str.ofString "told"), .str (Str.ofString "found")]
def cnt1 (l : List Int) (k : Nat) : Bool := decide (V.int ((l.count (k : Int) : Nat) : Int) = V.int 1)
def asc (l : List Int) (ns : List Int) : List Int := ((List.range l.length).map fun (k : Nat) => (k : Int)).filter fun k => inV (.int k) (ns.map V.int)
def wayB (z : Str) (ws : List (Int × Str)) (ns : List Int) : Bool :=
  (dirB z && ws.all fun w => dirB w.2) && ((decide (ws.length ≤ 3) && (List.range ws.length).all (cnt1 (ws.map (·.1)))) && decide ((asc (ws.map (·.1)) ns).length = ns.length))
section
variable {P : Program} {w : World} {K : PySem.W.Frag} {mg : Str → Option Value} {base : Heap}
abbrev NW : List Str := ["whole", "places", "noted", "steps", "listed", "ascending", "place", "direction", "step"]
theorem scW : FnScope NW ["whole", "places", "noted"] (defScope sWay) := ⟨rfl, rfl, rfl, by decide +kernel, rfl, by decide +kernel, by decide +kernel⟩
/-- a list or a tuple of these -/
def Sq (K : PySem.W.Frag) (H : Hp) (b : Addr) (xs : List V) : Prop := SqL K H b xs ∨ SqT K H b xs
def spWay (K : PySem.W.Frag) (CW : Addr) : Sp := fun vs H Q E => ∃ (z : Str) (b c : Addr) (items : List V) (ws : List (Int × Str)) (ns : List Int), vs = [.str z, .ref b, .ref c] ∧ Sq K H b items ∧ RpA H items (ws.map pD) ∧ ws.length ≤ 20 ∧ Sq K H c (ns.map V.int) ∧ ns.length ≤ 20 ∧
  (wayB z ws ns = true → ∀ H' t, Same H H' → Rp H' (.ref t) (.t [.s z, .t (ws.map pD), .t ((asc (ws.map (·.1)) ns).map Fd.i)]) → Q (.ref t) H') ∧ (wayB z ws ns = false → ∀ H', Same H H' → E (.ref CW) none H')
theorem sq_of {H H' : Hp} {b : Addr} {xs : List V} (s : Same H H') (h : Sq K H b xs) : Sq K H' b xs := by
  rcases h with h | h
  · exact .inl (s.seq h)
  · refine .inr ?_
    rcases h with (h | ⟨o, h⟩) | h
    · exact .inl (.inl (s _ _ h))
    · exact .inl (.inr ⟨o, s _ _ h⟩)
    · exact .inr h
theorem pd_of {H : Hp} {x : V} {d : Fd} {ws : List (Int × Str)} {i : Nat} (h : (ws.map pD)[i]? = some d) (r : Rp H x d) : ∃ w a, ws[i]? = some w ∧ x = .ref a ∧ H a = some (.tup [.int w.1, .str w.2]) := by
  rw [List.getElem?_map] at h
  cases e : ws[i]? with
  | none =>
    rw [e] at h
    cases h
  | some w =>
    rw [e] at h
    have e2 : pD w = d := Option.some.inj h
    subst e2
    cases r with
    | t ha rr =>
      cases rr with
      | cons r1 rr =>
        cases r1
        cases rr with
        | cons r2 rr =>
          cases r2
          cases rr
          exact ⟨w, _, rfl, rfl, ha⟩
theorem strs_of {l : List Str} {i : Nat} {x : V} (h : (l.map V.str)[i]? = some x) : ∃ d, l[i]? = some d ∧ x = .str d := by
  rw [List.getElem?_map] at h
  cases e : l[i]? with
  | none =>
    rw [e] at h
    cases h
  | some d =>
    rw [e] at h
    exact ⟨d, rfl, (Option.some.inj h).symm⟩
theorem int_ne' {i j : Int} (h : i ≠ j) : ¬ (V.int i = V.int j) := fun e => h (V.int.inj e)
theorem rp_ints (H : Hp) : ∀ l : List Int, RpA H (l.map V.int) (l.map Fd.i)
  | [] => .nil
  | k :: l => .cons (.i k) (rp_ints H l)
theorem flat_ints (ns : List Int) : (ns.map V.int).all flatV = true := by
  rw [List.all_map, List.all_eq_true]
  intro x _
  rfl
theorem sqt_of {H H' : Hp} {b : Addr} {xs : List V} (s : Same H H') (h : SqT K H b xs) : SqT K H' b xs := by
  rcases h with (h | ⟨o, h⟩) | h
  · exact .inl (.inl (s _ _ h))
  · exact .inl (.inr ⟨o, s _ _ h⟩)
  · exact .inr h
theorem ok_way {f CW : Addr} {fd : FuncData} (F : Fun K "way" "way" sWay f fd) (ml : mg "len" = none) (ma : mg "all" = none) (mr : mg "range" = none) (mt : mg "tuple" = none) (eW : ErrC K mg "BadWay" CW) : FnOk P w K mg base (L2.CX P w) 1 f fd ["whole", "places", "noted"] (spWay K CW) := by
  refine F.okX scW (fun vs H Q E h => ?_) (fun cdv A outer s H vs Q E hr h => ?_)
  · obtain ⟨z, b, c, items, ws, ns, rfl, _⟩ := h
    rfl
  obtain ⟨z, b, c, items, ws, ns, rfl, hb, ra, hwl, hc, hnl, good, bad⟩ := h
  have R : ∃ t2, PSs (cxOf (L2.CX P w) P w K mg base NW "way" (defScope sWay) f cdv A outer s H E) (defBody sWay).tail t2 ∧ ∀ H1 t pairs, Same H H1 → H1 t = some (.tup pairs) → RpA H1 pairs (ws.map pD) →
      t2 { nx := fun _ H' => Q .non H', rt := Q } [some (.str z), some (.ref b), some (.ref c), some (.ref t), none, none, none, none, none] H1 := by
    refine ⟨_, pss_cons (ps_if (pt_not (pt_val (pe_callB (cr_all (by rfl)) (by rfl) ma (by decide +kernel) (pa_cons
        (pe_lc (own := [("direction", 7)]) (g := gName 7) (tt := tYes) (te := tOp (rIn K false) (tVar 7) (tTup (tCons (tC (.str (Str.ofString "told"))) (tCons (tC (.str (Str.ofString "found"))) tNil)))) (by rfl) scW.nd
          (pi_list (pe_lst (pa_cons (pv 0) (StX.pa_star (pe_lc (own := [("step", 8)]) (g := gName 8) (tt := tYes) (te := tOp (rIxT K) (tVar 8) (tC (.int 1))) (by rfl) scW.nd (pi_tup (pv 3)) (blkOk_by (own := [("step", 8)]) (N := NW) (sc := defScope sWay) (by decide +kernel))
            (fun _ _ _ _ _ => pg_name (i := 8) scW.nd rfl (Or.inl rfl)) (fun _ _ _ _ _ => pts_nil) (fun _ _ _ _ _ => pe_ix ix_tup (pv 8) pe_int (fun _ _ => rfl))) pa_nil))))
          (blkOk_by (own := [("direction", 7)]) (N := NW) (sc := defScope sWay) (by decide +kernel))
          (fun _ _ _ _ _ => pg_name (i := 7) scW.nd rfl (Or.inl rfl)) (fun _ _ _ _ _ => pts_nil)
          (fun _ _ _ _ _ => pe_cmpR op_in_seq (pv 7) (pe_tup (pa_cons pe_str (pa_cons pe_str pa_nil))) (by rfl))) pa_nil))))
      (pss_one (ps_raise rfl (takes_of rfl rfl rfl rfl) (pmk_own PySem.F.excBase_ValueError eW.ex eW.g eW.kp (raises_own eW.sb eW.ty) rfl))) pss_nil)
    (pss_cons (ps_set (i := 4) scW.nd rfl (.inr rfl) (pe_lc (own := [("step", 8)]) (g := gName 8) (tt := tYes) (te := tOp (rIxT K) (tVar 8) (tC (.int 0))) (by rfl) scW.nd (pi_tup (pv 3)) (blkOk_by (own := [("step", 8)]) (N := NW) (sc := defScope sWay) (by decide +kernel))
        (fun _ _ _ _ _ => pg_name (i := 8) scW.nd rfl (Or.inl rfl)) (fun _ _ _ _ _ => pts_nil) (fun _ _ _ _ _ => pe_ix ix_tup (pv 8) pe_int (fun _ _ => rfl))))
    (pss_cons (ps_if (PW.pt (pw_or (pt_cmpR op_gt (pe_callB call_len_seq (by rfl) ml PySem.boot_len (pa_cons (pv 4) pa_nil)) pe_int (nomark _))
        (pw_or1 (pt_not (pt_val (pe_callB (cr_all (by rfl)) (by rfl) ma (by decide +kernel) (pa_cons
          (pe_lc (own := [("place", 6)]) (g := gName 6) (tt := tYes) (te := tOp rEq (tBM K "list" (rCntI K) (tVar 4) (tCons (tVar 6) tNil)) (tC (.int 1))) (by rfl) scW.nd (pi_range1 (by rfl) mr (pa_cons (pe_callB call_len_seq (by rfl) ml PySem.boot_len (pa_cons (pv 4) pa_nil)) pa_nil))
            (blkOk_by (own := [("place", 6)]) (N := NW) (sc := defScope sWay) (by decide +kernel))
            (fun _ _ _ _ _ => pg_name (i := 6) scW.nd rfl (Or.inl rfl)) (fun _ _ _ _ _ => pts_nil)
            (fun _ _ _ _ _ => pe_cmpR op_eq (pe_bm PySem.F.plainAttrs_list PySem.F.slot_list_count PySem.F.type_list_count mt_lcount (pv 4) (pa_cons (pv 6) pa_nil)) pe_int (nomark _))) pa_nil)))))))
      (pss_one (ps_raise rfl (takes_of rfl rfl rfl rfl) (pmk_own PySem.F.excBase_ValueError eW.ex eW.g eW.kp (raises_own eW.sb eW.ty) rfl))) pss_nil)
    (pss_cons (ps_set (i := 5) scW.nd rfl (.inl rfl) (pe_callTy call_tuple_of (by rfl) mt (by decide +kernel) (pa_cons
        (pe_lc (own := [("place", 6)]) (g := gName 6) (tt := tTest (tOp (rIn K false) (tVar 6) (tVar 2))) (by rfl) scW.nd (pi_range1 (by rfl) mr (pa_cons (pe_callB call_len_seq (by rfl) ml PySem.boot_len (pa_cons (pv 4) pa_nil)) pa_nil))
          (blkOk_by (own := [("place", 6)]) (N := NW) (sc := defScope sWay) (by decide +kernel))
          (fun _ _ _ _ _ => pg_name (i := 6) scW.nd rfl (Or.inl rfl)) (fun _ _ _ _ _ => pts_one (pt_cmpR op_in_seq (pv 6) (pv 2) (by rfl)))
          (fun _ _ _ _ _ => pv 6)) pa_nil)))
    (pss_cons (ps_if (pt_cmpR op_ne (pe_callB call_len_seq (by rfl) ml PySem.boot_len (pa_cons (pv 5) pa_nil)) (pe_callB call_len_seq (by rfl) ml PySem.boot_len (pa_cons (pv 2) pa_nil)) (nomark _))
      (pss_one (ps_raise rfl (takes_of rfl rfl rfl rfl) (pmk_own PySem.F.excBase_ValueError eW.ex eW.g eW.kp (raises_own eW.sb eW.ty) rfl))) pss_nil)
    (pss_one (ps_ret (pe_tup (pa_cons (pv 0) (pa_cons (pv 3) (pa_cons (pv 5) pa_nil)))))))))), fun H1 t pairs sm1 et rp => ?_⟩
    have hpl := rp.length
    rw [List.length_map] at hpl
    have L9 : ∀ {n : Nat}, n ≤ 900 → n < sizeLine := fun h => small1000 (by omega)
    -- the directions
    refine ⟨_, rfl, _, rfl, t, rfl, ⟨_, SqT.of et⟩, fun D1 nD1 => ?_⟩
    refine lc_tup (K := K) (a := t) (xs := pairs) (fun i H' => Same H1 H' ∧ H' D1 = some (.lst (((ws.take i).map (·.2)).map V.str)))
      ⟨same_upd nD1, upd_same⟩ (fun i H' _ hW => SqT.of (hW.1 _ _ et)) (fun i x H' hx hW => ?_) (fun H2 hW => ?_)
    · obtain ⟨sm, eD⟩ := hW
      obtain ⟨d, hd, rd⟩ := rp.get? hx
      obtain ⟨w0, a0, hw0, rfl, ha0⟩ := pd_of hd (rd.keep (.same sm))
      refine ⟨rfl, tyes ?_⟩
      refine ⟨_, rfl, a0, _, 1, _, rfl, rfl, SqT.of ha0, atI_nat (j := 1) rfl, _, eD, ?_, fun b' o e => ?_, ?_⟩
      · rw [List.length_map, List.length_map, List.length_take]
        exact L9 (by omega)
      · rw [upd_ne (ne_of_none e nD1)]
        exact sm _ _ e
      · rw [upd_same, List.take_add_one, hw0, List.map_append, List.map_append]
        rfl
    obtain ⟨sm2, eD1⟩ := hW
    rw [List.take_of_length_le (by omega)] at eD1
    refine ⟨D1, _, rfl, .inr (SqL.of eD1), ?_⟩
    refine ⟨?_, fun L nL => ?_⟩
    · show ((((ws.map (fun (w : Int × Str) => w.2)).map V.str) ++ ([] : List V)).length + 1) ≤ sizeLine
      rw [List.append_nil, List.length_map, List.length_map]
      exact Nat.le_of_lt (L9 (by omega))
    have eL : (upd H2 L (.lst (.str z :: (((ws.map (·.2)).map V.str) ++ [])))) L = some (.lst ((z :: ws.map (·.2)).map V.str)) := by
      rw [upd_same, List.append_nil]
      rfl
    have sm3 : Same H1 (upd H2 L (.lst (.str z :: (((ws.map (·.2)).map V.str) ++ [])))) := sm2.trans (same_upd nL)
    generalize upd H2 L (.lst (.str z :: (((ws.map (·.2)).map V.str) ++ []))) = H3 at eL sm3
    refine ⟨L, rfl, ⟨_, SqL.of eL⟩, fun D2 nD2 => ?_⟩
    refine lc_list (K := K) (a := L) (xs := (z :: ws.map (·.2)).map V.str) (fun i H' => Same H3 H' ∧ H' D2 = some (.lst ((((z :: ws.map (·.2)).take i).map dirB).map V.bl)))
      ⟨same_upd nD2, upd_same⟩ (fun i H' _ hW => SqL.of (hW.1 _ _ eL)) (fun i x H' hx hW => ?_) (fun H4 hW => ?_)
    · obtain ⟨sm, eD⟩ := hW
      obtain ⟨d, hd, rfl⟩ := strs_of hx
      refine ⟨rfl, tyes ?_⟩
      refine ⟨_, rfl, (by show 2 ≤ sizeLine; decide), fun t3 nt3 => ⟨t3, _, rfl, .inr (SqT.of upd_same), rfl, rfl, _, same_upd nt3 _ _ eD, ?_, fun b' o e => ?_, ?_⟩⟩
      · rw [List.length_map, List.length_map, List.length_take, List.length_cons, List.length_map]
        exact L9 (by omega)
      · rw [upd_ne (ne_of_none e nD2)]
        exact same_upd nt3 _ _ (sm _ _ e)
      · rw [upd_same, List.take_add_one, hd, List.map_append, List.map_append]
        rfl
    obtain ⟨sm4', eD2⟩ := hW
    rw [List.length_map, List.take_of_length_le (Nat.le_refl _)] at eD2
    have sm4 := sm3.trans sm4'
    refine ⟨D2, _, rfl, SqL.of eD2, _, rfl, ?_⟩
    have edir : ((z :: ws.map (·.2)).map dirB).all id = (dirB z && ws.all fun (w : Int × Str) => dirB w.2) := by
      rw [List.all_map, List.all_cons, List.all_map]
      rfl
    rw [edir]
    cases hdir : (dirB z && ws.all fun (w : Int × Str) => dirB w.2) with
    | false =>
      refine iteT (bad ?_ H4 (sm1.trans sm4))
      unfold wayB
      rw [hdir, Bool.false_and]
    | true =>
    refine iteF ?_
    have wb1 : wayB z ws ns = ((decide (ws.length ≤ 3) && (List.range ws.length).all (cnt1 (ws.map (·.1)))) && decide ((asc (ws.map (·.1)) ns).length = ns.length)) := by
      unfold wayB
      rw [hdir, Bool.true_and]
    have et4 := sm4 _ _ et
    -- listed
    refine ⟨_, rfl, t, rfl, ⟨_, SqT.of et4⟩, fun D3 nD3 => ?_⟩
    refine lc_tup (K := K) (a := t) (xs := pairs) (fun i H' => Same H4 H' ∧ H' D3 = some (.lst (((ws.take i).map (·.1)).map V.int)))
      ⟨same_upd nD3, upd_same⟩ (fun i H' _ hW => SqT.of (hW.1 _ _ et4)) (fun i x H' hx hW => ?_) (fun H5 hW => ?_)
    · obtain ⟨sm, eD⟩ := hW
      obtain ⟨d, hd, rd⟩ := rp.get? hx
      obtain ⟨w0, a0, hw0, rfl, ha0⟩ := pd_of hd (rd.keep (.same (sm4.trans sm)))
      refine ⟨rfl, tyes ?_⟩
      refine ⟨_, rfl, a0, _, 0, _, rfl, rfl, SqT.of ha0, atI_nat (j := 0) rfl, _, eD, ?_, fun b' o e => ?_, ?_⟩
      · rw [List.length_map, List.length_map, List.length_take]
        exact L9 (by omega)
      · rw [upd_ne (ne_of_none e nD3)]
        exact sm _ _ e
      · rw [upd_same, List.take_add_one, hw0, List.map_append, List.map_append]
        rfl
    obtain ⟨sm45, eD3⟩ := hW
    rw [List.take_of_length_le (by omega)] at eD3
    have sm5 := sm4.trans sm45
    have lll : ((ws.map (·.1)).map V.int).length = ws.length := by rw [List.length_map, List.length_map]
    have ll1 : (ws.map (·.1)).length = ws.length := List.length_map _
    refine ⟨_, rfl, D3, _, rfl, .inl (SqL.of eD3), _, _, rfl, rfl, _, rfl, ite2 (fun c3 => ?_) (fun c3 => ?_)⟩
    · have c3' : (((((ws.map (·.1)).map V.int).length : Nat)) : Int) > 3 := of_decide_eq_true c3
      rw [lll] at c3'
      refine iteT (bad ?_ H5 (sm1.trans sm5))
      rw [wb1, decide_eq_false (show ¬ ws.length ≤ 3 by omega)]
      rfl
    · have c3' : ¬ (((((ws.map (·.1)).map V.int).length : Nat)) : Int) > 3 := of_decide_eq_false (Bool.eq_false_iff.mpr c3)
      rw [lll] at c3'
      rw [decide_eq_true (show ws.length ≤ 3 by omega), Bool.true_and] at wb1
      refine ⟨_, rfl, D3, _, rfl, .inl (SqL.of eD3), ?_⟩
      rw [lll]
      refine ⟨(ws.length : Int), rfl, by omega, by omega, fun D4 nD4 => ?_⟩
      refine lc_range (lo := 0) (n := ws.length) (fun i H' => Same H5 H' ∧ H' D4 = some (.lst (((List.range i).map (cnt1 (ws.map (·.1)))).map V.bl)))
        ⟨same_upd nD4, upd_same⟩ (fun i H' hi hW => ?_) (fun H6 hW => ?_)
      · obtain ⟨sm, eD⟩ := hW
        refine ⟨rfl, tyes ?_⟩
        refine ⟨_, rfl, .inl ⟨rfl, _, SqL.of (sm _ _ eD3)⟩, _, rfl, D3, _, _, rfl, rfl, SqL.of (sm _ _ eD3), rfl, _, eD, ?_, fun b' o e => ?_, ?_⟩
        · rw [List.length_map, List.length_map, List.length_range]
          exact L9 (by omega)
        · rw [upd_ne (ne_of_none e nD4)]
          exact sm _ _ e
        · rw [upd_same, List.range_succ, List.map_append, List.map_append, Int.zero_add]
          rfl
      obtain ⟨sm56, eD4⟩ := hW
      have sm6 := sm5.trans sm56
      refine ⟨D4, _, rfl, SqL.of eD4, _, rfl, ?_⟩
      rw [List.all_map, show (id ∘ cnt1 (ws.map (·.1))) = cnt1 (ws.map (·.1)) from rfl]
      cases hcnt : (List.range ws.length).all (cnt1 (ws.map (·.1))) with
      | false =>
        refine iteT (bad ?_ H6 (sm1.trans sm6))
        rw [wb1, hcnt]
        rfl
      | true =>
      refine iteF ?_
      rw [hcnt, Bool.true_and] at wb1
      -- ascending
      have eD3' := sm56 _ _ eD3
      have hc6 := sq_of (sm1.trans sm6) hc
      refine ⟨_, rfl, D3, _, rfl, .inl (SqL.of eD3'), ?_⟩
      rw [lll]
      refine ⟨(ws.length : Int), rfl, by omega, by omega, fun D5 nD5 => ?_⟩
      refine lc_range (lo := 0) (n := ws.length) (fun i H' => Same H6 H' ∧ H' D5 = some (.lst ((((List.range i).map fun (k : Nat) => (k : Int)).filter fun k => inV (.int k) (ns.map V.int)).map V.int)))
        ⟨same_upd nD5, upd_same⟩ (fun i H' hi hW => ?_) (fun H7 hW => ?_)
      · obtain ⟨sm, eD⟩ := hW
        refine ⟨rfl, ?_⟩
        refine ⟨_, rfl, _, rfl, c, _, rfl, sq_of sm hc6, rfl, flat_ints ns, _, rfl, ?_⟩
        have one : ((List.map (fun (k : Nat) => (k : Int)) [i]).filter fun k => inV (.int k) (ns.map V.int)) = if inV (.int (i : Int)) (ns.map V.int) = true then [(i : Int)] else [] := by
          show List.filter _ [(i : Int)] = _
          rw [List.filter_cons]
          rfl
        have lenf : ((((List.range i).map fun (k : Nat) => (k : Int)).filter fun k => inV (.int k) (ns.map V.int)).map V.int).length < sizeLine := by
          have h1 := List.length_filter_le (fun k => inV (.int k) (ns.map V.int)) ((List.range i).map fun (k : Nat) => (k : Int))
          rw [List.length_map, List.length_range] at h1
          rw [List.length_map]
          exact L9 (by omega)
        refine ite2 (fun hv => ?_) (fun hv => ?_)
        · refine ⟨_, rfl, _, eD, lenf, fun b' o e => ?_, ?_⟩
          · rw [upd_ne (ne_of_none e nD5)]
            exact sm _ _ e
          · have hv' : inV (.int (i : Int)) (ns.map V.int) = true := by
              have h0 : inV (.int (0 + (i : Int))) (ns.map V.int) = true := hv
              rwa [Int.zero_add] at h0
            rw [upd_same, List.range_succ, List.map_append, List.filter_append, List.map_append, one, if_pos hv', Int.zero_add]
            rfl
        · have hv' : ¬ inV (.int (i : Int)) (ns.map V.int) = true := fun h0 => hv (by
            show inV (.int (0 + (i : Int))) (ns.map V.int) = true
            rwa [Int.zero_add])
          refine ⟨sm, ?_⟩
          rw [List.range_succ, List.map_append, List.filter_append, List.map_append, one, if_neg hv', List.map_nil, List.append_nil, eD]
      obtain ⟨sm67, eD5⟩ := hW
      have sm7 := sm6.trans sm67
      refine ⟨D5, _, rfl, .inl ⟨SqL.of eD5, fun t5 nt5 => ?_⟩⟩
      have eA : ((List.range ws.length).map fun (k : Nat) => (k : Int)).filter (fun k => inV (.int k) (ns.map V.int)) = asc (ws.map (·.1)) ns := by
        unfold asc
        rw [ll1]
      rw [eA]
      have et5 : (upd H7 t5 (.tup ((asc (ws.map (·.1)) ns).map V.int))) t5 = some (.tup ((asc (ws.map (·.1)) ns).map V.int)) := upd_same
      have sm8 : Same H1 (upd H7 t5 (.tup ((asc (ws.map (·.1)) ns).map V.int))) := sm7.trans (same_upd nt5)
      generalize upd H7 t5 (.tup ((asc (ws.map (·.1)) ns).map V.int)) = H8 at et5 sm8
      have hc8 := sq_of (sm1.trans sm8) hc
      refine ⟨_, rfl, t5, _, rfl, .inr (SqT.of et5), _, rfl, c, _, rfl, hc8, rfl, _, rfl, ite2 (fun ce => ?_) (fun ce => ?_)⟩
      · refine bad ?_ H8 (sm1.trans sm8)
        rw [wb1]
        refine decide_eq_false fun e => ?_
        have ce' : (!decide (V.int ((((asc (ws.map (·.1)) ns).map V.int).length : Nat) : Int) = V.int (((ns.map V.int).length : Nat) : Int))) = true := ce
        rw [List.length_map, List.length_map, e, decide_eq_true rfl] at ce'
        cases ce'
      · have hwb : wayB z ws ns = true := by
          rw [wb1]
          refine decide_eq_true ?_
          have ce' : ¬ (!decide (V.int ((((asc (ws.map (·.1)) ns).map V.int).length : Nat) : Int) = V.int (((ns.map V.int).length : Nat) : Int))) = true := ce
          rw [List.length_map, List.length_map] at ce'
          by_cases h0 : (asc (ws.map (·.1)) ns).length = ns.length
          · exact h0
          · refine absurd ?_ ce'
            rw [decide_eq_false (int_ne' (by omega))]
            rfl
        refine ⟨_, rfl, _, rfl, _, rfl, (by show 3 ≤ sizeLine; decide), fun t9 nt9 => ?_⟩
        have sm9 := same_upd (o := .tup [.str z, .ref t, .ref t5]) nt9
        exact good hwb _ t9 ((sm1.trans sm8).trans sm9) (.t upd_same (.cons (.s z) (.cons (.t (sm9 _ _ (sm8 _ _ et)) (rp.keep (.same (sm8.trans sm9)))) (.cons (.t (sm9 _ _ et5) (rp_ints _ _)) .nil))))
  obtain ⟨t2, h2, q2⟩ := R
  rcases hb with hb | hb
  · refine ⟨_, pss_cons (ps_set (i := 3) scW.nd rfl (.inl rfl) (pe_callTy call_tuple_of (by rfl) mt (by decide +kernel) (pa_cons
      (pe_lc (own := [("place", 6), ("direction", 7)]) (g := gTup K 2 (gCons (gName 6) (gCons (gName 7) gNil))) (tt := tYes) (by rfl) scW.nd (pi_list (pv 1)) (blkOk_by (own := [("place", 6), ("direction", 7)]) (N := NW) (sc := defScope sWay) (by decide +kernel))
        (fun _ _ _ _ _ => pg_tup (by rfl) (pgs_cons (pg_name (i := 6) scW.nd rfl (Or.inl rfl)) (pgs_cons (pg_name (i := 7) scW.nd rfl (Or.inl rfl)) pgs_nil))) (fun _ _ _ _ _ => pts_nil)
        (fun _ _ _ _ _ => pe_tup (pa_cons (pv 6) (pa_cons (pv 7) pa_nil)))) pa_nil))) h2, ?_⟩
    have L9 : ∀ {n : Nat}, n ≤ 900 → n < sizeLine := fun h => small1000 (by omega)
    refine ⟨_, rfl, b, rfl, ⟨_, hb⟩, fun D0 nD0 => lc_list (K := K) (a := b) (xs := items) (fun i H' => Same H H' ∧ ∃ vs, H' D0 = some (.lst vs) ∧ RpA H' vs ((ws.take i).map pD))
      ⟨same_upd nD0, [], upd_same, .nil⟩ (fun i H' _ hW => hW.1.seq hb) (fun i x H' hx hW => ?_) (fun H1 hW => ?_)⟩
    · obtain ⟨sm, vs, eD, rv⟩ := hW
      obtain ⟨d, hd, rd⟩ := ra.get? hx
      obtain ⟨w0, a0, hw0, rfl, ha0⟩ := pd_of hd (rd.keep (.same sm))
      refine ⟨a0, _, rfl, SqT.of ha0, rfl, .int w0.1, [.str w0.2], rfl, .str w0.2, [], rfl, rfl, rfl, tyes ?_⟩
      refine ⟨_, rfl, _, rfl, (by show 2 ≤ sizeLine; decide), fun t3 nt3 => ⟨vs, same_upd nt3 _ _ eD, ?_, fun b' o e => ?_, vs ++ [.ref t3], upd_same, ?_⟩⟩
      · rw [rv.length, List.length_map, List.length_take]
        exact L9 (by omega)
      · rw [upd_ne (ne_of_none e nD0)]
        exact same_upd nt3 _ _ (sm _ _ e)
      · have kp : Keep (upd H' t3 (.tup [.int w0.1, .str w0.2])) (upd (upd H' t3 (.tup [.int w0.1, .str w0.2])) D0 (.lst (vs ++ [.ref t3]))) := .lst (same_upd nt3 _ _ eD)
        rw [List.take_add_one, hw0, List.map_append]
        exact ((rv.keep (.new nt3)).keep kp).snoc (.t (kp _ _ upd_same) (.cons (.i _) (.cons (.s _) .nil)))
    · obtain ⟨sm, vs, eD, rv⟩ := hW
      have hil := ra.length
      rw [List.length_map] at hil
      rw [List.take_of_length_le (by omega)] at rv
      refine ⟨D0, vs, rfl, .inl ⟨SqL.of eD, fun t nt => ?_⟩⟩
      exact q2 _ t vs (sm.trans (same_upd nt)) upd_same (rv.keep (.new nt))
  · refine ⟨_, pss_cons (ps_set (i := 3) scW.nd rfl (.inl rfl) (pe_callTy call_tuple_of (by rfl) mt (by decide +kernel) (pa_cons
      (pe_lc (own := [("place", 6), ("direction", 7)]) (g := gTup K 2 (gCons (gName 6) (gCons (gName 7) gNil))) (tt := tYes) (by rfl) scW.nd (pi_tup (pv 1)) (blkOk_by (own := [("place", 6), ("direction", 7)]) (N := NW) (sc := defScope sWay) (by decide +kernel))
        (fun _ _ _ _ _ => pg_tup (by rfl) (pgs_cons (pg_name (i := 6) scW.nd rfl (Or.inl rfl)) (pgs_cons (pg_name (i := 7) scW.nd rfl (Or.inl rfl)) pgs_nil))) (fun _ _ _ _ _ => pts_nil)
        (fun _ _ _ _ _ => pe_tup (pa_cons (pv 6) (pa_cons (pv 7) pa_nil)))) pa_nil))) h2, ?_⟩
    have L9 : ∀ {n : Nat}, n ≤ 900 → n < sizeLine := fun h => small1000 (by omega)
    refine ⟨_, rfl, b, rfl, ⟨_, hb⟩, fun D0 nD0 => lc_tup (K := K) (a := b) (xs := items) (fun i H' => Same H H' ∧ ∃ vs, H' D0 = some (.lst vs) ∧ RpA H' vs ((ws.take i).map pD))
      ⟨same_upd nD0, [], upd_same, .nil⟩ (fun i H' _ hW => sqt_of hW.1 hb) (fun i x H' hx hW => ?_) (fun H1 hW => ?_)⟩
    · obtain ⟨sm, vs, eD, rv⟩ := hW
      obtain ⟨d, hd, rd⟩ := ra.get? hx
      obtain ⟨w0, a0, hw0, rfl, ha0⟩ := pd_of hd (rd.keep (.same sm))
      refine ⟨a0, _, rfl, SqT.of ha0, rfl, .int w0.1, [.str w0.2], rfl, .str w0.2, [], rfl, rfl, rfl, tyes ?_⟩
      refine ⟨_, rfl, _, rfl, (by show 2 ≤ sizeLine; decide), fun t3 nt3 => ⟨vs, same_upd nt3 _ _ eD, ?_, fun b' o e => ?_, vs ++ [.ref t3], upd_same, ?_⟩⟩
      · rw [rv.length, List.length_map, List.length_take]
        exact L9 (by omega)
      · rw [upd_ne (ne_of_none e nD0)]
        exact same_upd nt3 _ _ (sm _ _ e)
      · have kp : Keep (upd H' t3 (.tup [.int w0.1, .str w0.2])) (upd (upd H' t3 (.tup [.int w0.1, .str w0.2])) D0 (.lst (vs ++ [.ref t3]))) := .lst (same_upd nt3 _ _ eD)
        rw [List.take_add_one, hw0, List.map_append]
        exact ((rv.keep (.new nt3)).keep kp).snoc (.t (kp _ _ upd_same) (.cons (.i _) (.cons (.s _) .nil)))
    · obtain ⟨sm, vs, eD, rv⟩ := hW
      have hil := ra.length
      rw [List.length_map] at hil
      rw [List.take_of_length_le (by omega)] at rv
      refine ⟨D0, vs, rfl, .inl ⟨SqL.of eD, fun t nt => ?_⟩⟩
      exact q2 _ t vs (sm.trans (same_upd nt)) upd_same (rv.keep (.new nt))
end
end KN
set_option Elab.async false
set_option linter.all false
set_option maxRecDepth 100000
set_option maxHeartbeats 400000
namespace KN
open PySem PySem.Spec PyProof.Rows L2
theorem map_erase {α β : Type} (f : α → β) : ∀ (l : List α) (r : Nat), (l.map f).eraseIdx r = (l.eraseIdx r).map f
  | [], _ => rfl
  | _ :: _, 0 => rfl
  | x :: l, r + 1 => by
    show f x :: (l.map f).eraseIdx r = f x :: (l.eraseIdx r).map f
    rw [map_erase f l r]
theorem perm_erase {α : Type} : ∀ {l : List α} {r : Nat} (h : r < l.length), (l[r] :: l.eraseIdx r).Perm l
  | [], _, h => by simp at h
  | x :: l, 0, _ => List.Perm.refl _
  | x :: l, r + 1, h => by
    have h' : r < l.length := by simpa using h
    have ih := perm_erase (l := l) (r := r) h'
    show (l[r] :: x :: l.eraseIdx r).Perm (x :: l)
    exact (List.Perm.swap x l[r] _).trans (ih.cons x)
section
variable {P : Program} {w : World} {K : PySem.W.Frag} {mg : Str → Option Value} {base : Heap}
/-! ### shuffled -/
abbrev NS : List Str := ["_law_tape_here", "_law_many", "_law_k", "_law_left", "_law_row"]
theorem scS : FnScope NS ["_law_tape_here", "_law_many"] (defScope sShuf) := ⟨rfl, rfl, rfl, by decide +kernel, rfl, by decide +kernel, by decide +kernel⟩
abbrev iV (k : Nat) : V := .int (k : Int)
def spS : Sp := fun vs H Q _ => ∃ (p : Addr) (m : Nat), vs = [.ref p, .int (m : Int)] ∧ Tp H p ∧ m ≤ 10 ∧ ∀ (H' : Hp) (l : Addr) (ns : List Nat), But p H H' → Tp H' p → l ≠ p → H' l = some (.lst (ns.map iV)) → ns.Perm (List.range m) → Q (.ref l) H'
theorem ok_S {f fT : Addr} {fd fdT : FuncData} (F : Fun K "_law_shuffled" "_law_shuffled" sShuf f fd) (FT : Fun K "_law_take" "_law_take" sTake fT fdT) (bT : Binds K fdT ["_law_tape_here", "_law_many"] []) (gT : mg "_law_take" = some (.ref fT))
    (GT : FnOk P w K mg base CX0 1 fT fdT ["_law_tape_here", "_law_many"] spTake) (ml : mg "len" = none) (mr : mg "range" = none) : FnOk P w K mg base CX0 2 f fd ["_law_tape_here", "_law_many"] spS := by
  refine F.ok scS (fun vs H Q E h => ?_) (fun cdv A outer s H vs Q E hr h => ?_)
  · obtain ⟨p, m, rfl, _⟩ := h
    rfl
  obtain ⟨p, m, rfl, hT, hm, q⟩ := h
  refine ⟨_, pss_cons (ps_setLc (i := 3) (own := [("_law_k", 2)]) (g := gName 2) (tt := tYes) (by rfl) scS.nd rfl rfl (sw_true rfl rfl rfl (by decide +kernel))
      (pi_range1 (by rfl) mr (pa_cons (pv 1) pa_nil)) (blkOk_by (own := [("_law_k", 2)]) (N := NS) (sc := defScope sShuf) (by decide +kernel))
      (fun _ _ _ _ _ => pg_name (i := 2) scS.nd rfl (Or.inl rfl)) (fun _ _ _ _ _ => pts_nil) (fun _ _ _ _ _ => pv 2))
    (pss_cons (ps_set (i := 4) scS.nd rfl (.inl rfl) (pe_lst pa_nil))
    (pss_cons (ps_for PassesOwn.never rfl (pi_range1 (by rfl) mr (pa_cons (pv 1) pa_nil)) (pg_name (i := 2) scS.nd rfl (.inl rfl))
      (pss_one (ps_expr (pe_bm PySem.F.plainAttrs_list PySem.F.slot_list_append PySem.F.type_list_append mt_append (pv 4) (pa_cons
        (pe_bm PySem.F.plainAttrs_list PySem.F.slot_list_pop PySem.F.type_list_pop mt_popAt (pv 3) (pa_cons (pe_call GT hr (by rfl) gT FT.kp bT .nil pass0 (pa_cons (pv 0) (pa_cons (pe_callB call_len_seq (by rfl) ml PySem.boot_len (pa_cons (pv 3) pa_nil)) pa_nil))) pa_nil)) pa_nil)))))
    (pss_one (ps_ret (pv 4))))), ?_⟩
  refine ⟨_, rfl, (m : Int), rfl, by omega, by omega, fun D nD => ?_⟩
  have npD : p ≠ D := hT.ne nD
  refine lc_range (lo := 0) (n := m) (fun i H' => Same H H' ∧ H' D = some (.lst ((List.range i).map iV))) ⟨same_upd nD, upd_same⟩ (fun i H' hi hW => ?_) (fun H1 hW => ?_)
  · obtain ⟨sm, eD⟩ := hW
    refine ⟨rfl, tyes ?_⟩
    refine ⟨_, rfl, _, eD, ?_, fun b o e => ?_, ?_⟩
    · rw [List.length_map, List.length_range]
      exact small1000 (by omega)
    · rw [upd_ne (ne_of_none e nD)]
      exact sm _ _ e
    · rw [upd_same, List.range_succ, List.map_append, Int.zero_add]
      rfl
  obtain ⟨sm, eD⟩ := hW
  refine ⟨Nat.zero_le _, fun l nl => ?_⟩
  have hT1 : Tp (upd H1 l (.lst [])) p := (hT.same sm).same (same_upd nl)
  have npl : p ≠ l := (hT.same sm).ne nl
  have nDl : D ≠ l := ne_of_none eD nl
  have nlH : H l = none := sm.free nl
  refine ⟨_, rfl, (m : Int), rfl, by omega, by omega, ?_⟩
  refine for_range (lo := 0) (n := m) (fun i σ H' => ∃ (y2 : Option V) (row left : List Nat), σ = [some (.ref p), some (.int (m : Int)), y2, some (.ref D), some (.ref l)] ∧ But p H H' ∧ Tp H' p ∧ H' D = some (.lst (left.map iV)) ∧ H' l = some (.lst (row.map iV)) ∧ (row ++ left).Perm (List.range m) ∧ row.length = i)
    ⟨none, [], List.range m, rfl, .of (sm.trans (same_upd nl)), hT1, same_upd nl _ _ eD, upd_same, by simp, rfl⟩ (fun i σ H' hi hW => ?_) (fun σ H' hW => ?_)
  · obtain ⟨y2, row, left, rfl, bt, tp, eD', el, pm, hrl⟩ := hW
    have hlen := pm.length_eq
    rw [List.length_append, List.length_range] at hlen
    have hleft : 1 ≤ left.length := by omega
    refine ⟨_, rfl, .inl ⟨rfl, _, SqL.of el⟩, _, rfl, .inl ⟨rfl, _, SqL.of eD'⟩, _, rfl, _, rfl, D, _, rfl, .inl (SqL.of eD'), p, (left.map iV).length, rfl, tp, by rw [List.length_map]; exact hleft, fun H2 r b2 t2 hr2 => ?_⟩
    rw [List.length_map] at hr2
    have eD2 := b2 _ _ npD.symm eD'
    have el2 := b2 _ _ npl.symm el
    have gx : (left.map iV)[r]? = some (iV left[r]) := by
      rw [List.getElem?_map, List.getElem?_eq_getElem hr2]
      rfl
    refine ⟨D, _, (r : Int), r, iV left[r], rfl, rfl, eD2, by omega, by omega, ?_, gx, ?_⟩
    · rw [seqIndex_of (by omega) (by rw [List.length_map]; omega)]
      simp
    have nlD : l ≠ D := nDl.symm
    refine ⟨l, _, _, rfl, rfl, by rw [upd_ne nlD]; exact el2, ?_, some (.int (0 + (i : Int))), row ++ [left[r]], left.eraseIdx r, rfl, fun b o nb e => ?_, ?_, ?_, ?_, ?_, ?_⟩
    · rw [List.length_map]
      exact small1000 (by omega)
    · rw [upd_ne (ne_of_none e nlH), upd_ne (ne_of_none e nD)]
      exact b2 _ _ nb (bt _ _ nb e)
    · obtain ⟨ns, e, h⟩ := t2
      exact ⟨ns, by rw [upd_ne npl, upd_ne npD]; exact e, h⟩
    · rw [upd_ne nDl, upd_same, map_erase]
    · rw [upd_same, List.map_append]
      rfl
    · refine List.Perm.trans ?_ pm
      rw [List.append_assoc]
      exact List.Perm.append_left row (perm_erase hr2)
    · rw [List.length_append, hrl]
      rfl
  · obtain ⟨y2, row, left, rfl, bt, tp, eD', el, pm, hrl⟩ := hW
    have hlen := pm.length_eq
    rw [List.length_append, List.length_range] at hlen
    have : left = [] := List.length_eq_zero_iff.mp (by omega)
    subst this
    rw [List.append_nil] at pm
    exact ⟨_, rfl, q H' l row bt tp npl.symm el pm⟩
end
end KN
set_option Elab.async false
set_option linter.all false
set_option maxRecDepth 100000
set_option maxHeartbeats 400000
namespace StX
open PySem PySem.Spec PyProof.Rows L2
section
variable {X : Cx} {CX : CXT} {k : Nat} {f : Addr} {ks : List Str} {sp : List V → Sp} {E : L2.St → XK} {x : Str} {p pos : Pos} {kws : List Keyword} {tk : TA}
theorem run_kwS {pins : List (Addr × Obj)} {σ : L2.St} {H : Hp} {s : Shared} {Q : VK} {us ws : List Value} {vs zs : List V} (F : FnKw X.prog X.w X.K X.mg X.base CX k f ks sp) (hr : Room k X.A) (hx : PassesAt CX X σ (E σ)) (I : Inv X pins σ H s) (r : Vals vs us) (rz : Vals zs ws) (h : sp zs vs H Q (E σ)) :
    wpAny (model X.prog X.w) X.A (call (.ref f) us (ks.zip ws)) (EP X pins σ Q) X.xe s := by
  refine wpAny_call (codeAny_mono (F X.A X.stack s H us ws vs zs Q (E σ) hr I.env0 r rz h) fun r s' hq => ?_)
  cases r with
  | error e => exact hx pins H s e s' I hq
  | ok fl =>
    cases fl with
    | ret u => exact I.after hq
    | next => exact False.elim hq
    | brk => exact False.elim hq
    | cont => exact False.elim hq
def tKwS (sp : List V → Sp) (E : L2.St → XK) (tk : TA) : TE := fun σ H Q => tk σ H fun zs H2 => sp zs [] H2 Q (E σ)
theorem pe_kw0S (F : FnKw X.prog X.w X.K X.mg X.base CX k f ks sp) (hr : Room k X.A) (hg : Gl X x) (hm : X.mg x = some (.ref f)) (hk : PySem.W.keepIn X.K (.ref f) = true) (hx : ∀ σ, PassesAt CX X σ (E σ))
    (hkw : PK X kws tk) (hall : (backToKw pos (keywordEach kws X.env)).all (·.1.isSome) = true := by rfl) (hks : (backToKw pos (keywordEach kws X.env)).filterMap (·.1) = ks := by rfl)
    (hdb : (x == ("__debug__" : Str)) = false := by decide)
    (hpl : ((backTo pos (starEach [] X.env)).any (·.1) || (backToKw pos (keywordEach kws X.env)).any (·.1.isNone)) = false := by rfl) :
    PE X (.Call (.Name x p) [] kws pos) (tKwS sp E tk) := by
  refine ⟨fun pins s σ H Q I h => ?_⟩
  refine wpAny_Call_Name_kw (ld_glob I hg hm ?_ hdb)
  refine PySem.W.callWith_KW0 (h₀ := X.base) I.ok.mod.kin hk hall ?_ hpl
  refine thn (hkw.run pos pins s σ H _ I h) fun ws s2 ⟨zs, H2, I2, rz, q2⟩ => ⟨I2.kIn, ?_⟩
  rw [hks]
  exact run_kwS F hr (hx σ) I2 .nil rz q2
end
end StX
namespace KN
open PySem PySem.Spec PyProof.Rows L2
/-! ### ways that are refused, and ways that are not -/
def dirW (d : Bool) : Str := if d then Str.ofString "told" else Str.ofString "found"
theorem dirW_ok (d : Bool) : dirB (dirW d) = true := by cases d <;> decide +kernel
theorem bad_head {z : Str} {ws : List (Int × Str)} {ns : List Int} (h : dirB z = false) : wayB z ws ns = false := by
  unfold wayB
  rw [h]
  rfl
theorem bad_dir {z : Str} {ws : List (Int × Str)} {ns : List Int} {w : Int × Str} (hw : w ∈ ws) (h : dirB w.2 = false) : wayB z ws ns = false := by
  have : (ws.all fun (w : Int × Str) => dirB w.2) = false := Bool.eq_false_iff.mpr fun e => by
    rw [List.all_eq_true] at e
    rw [e w hw] at h
    cases h
  unfold wayB
  rw [this, Bool.and_false, Bool.false_and]
theorem bad_cnt {z : Str} {ws : List (Int × Str)} {ns : List Int} {k : Nat} (hk : k < ws.length) (h : (ws.map (·.1)).count (k : Int) = 0) : wayB z ws ns = false := by
  have : ((List.range ws.length).all (cnt1 (ws.map (·.1)))) = false := Bool.eq_false_iff.mpr fun e => by
    rw [List.all_eq_true] at e
    have := V.int.inj (of_decide_eq_true (e k (List.mem_range.mpr hk)))
    rw [h] at this
    cases this
  unfold wayB
  rw [this, Bool.and_false, Bool.false_and, Bool.and_false]
theorem bad_len {z : Str} {ws : List (Int × Str)} {ns : List Int} (h : 3 < ws.length) : wayB z ws ns = false := by
  unfold wayB
  rw [decide_eq_false (show ¬ ws.length ≤ 3 by omega), Bool.false_and, Bool.false_and, Bool.and_false]
theorem bad_ns {z : Str} {ws : List (Int × Str)} {ns : List Int} (h : (asc (ws.map (·.1)) ns).length ≠ ns.length) : wayB z ws ns = false := by
  unfold wayB
  rw [decide_eq_false h, Bool.and_false, Bool.and_false]
theorem inV_app {x : V} {xs ys : List V} : inV x (xs ++ ys) = (inV x xs || inV x ys) := List.any_append
theorem asc_congr {l : List Int} {ns ms : List Int} (h : ∀ k : Nat, k < l.length → inV (.int (k : Int)) (ns.map V.int) = inV (.int (k : Int)) (ms.map V.int)) : asc l ns = asc l ms := by
  unfold asc
  refine List.filter_congr fun k hk => ?_
  obtain ⟨j, hj, rfl⟩ := List.mem_map.mp hk
  exact h j (List.mem_range.mp hj)
theorem in_iff {k : Int} {ns : List Int} : inV (.int k) (ns.map V.int) = true ↔ k ∈ ns := by
  show ((ns.map V.int).any fun y => eqV y (.int k)) = true ↔ _
  rw [List.any_map, List.any_eq_true]
  constructor
  · rintro ⟨j, hj, e⟩
    have : j = k := beq_iff_eq.mp e
    rw [← this]
    exact hj
  · intro h
    exact ⟨k, h, beq_self_eq_true k⟩
theorem asc_perm {l ns : List Int} (nd : ns.Nodup) (hn : ∀ k ∈ ns, 0 ≤ k ∧ k < (l.length : Int)) : (asc l ns).Perm ns := by
  have nd2 : (asc l ns).Nodup := by
    unfold asc
    refine List.Nodup.sublist List.filter_sublist ?_
    rw [List.nodup_iff_pairwise_ne, List.pairwise_map]
    refine (List.nodup_iff_pairwise_ne.mp List.nodup_range).imp fun h e => h ?_
    omega
  refine (List.perm_ext_iff_of_nodup nd2 nd).mpr fun k => ?_
  unfold asc
  rw [List.mem_filter, in_iff]
  constructor
  · exact fun h => h.2
  · intro h
    have := hn k h
    refine ⟨List.mem_map.mpr ⟨k.toNat, List.mem_range.mpr (by omega), ?_⟩, h⟩
    show ((k.toNat : Nat) : Int) = k
    omega
end KN
set_option Elab.async false
set_option linter.all false
set_option maxRecDepth 100000
set_option maxHeartbeats 400000
namespace KN
open PySem PySem.Spec PyProof.Rows L2
section
variable {P : Program} {w : World} {K : PySem.W.Frag} {mg : Str → Option Value} {base : Heap}
/-! ### refused -/
theorem scRef : FnScope ["_law_head", "_law_steps", "_law_marked", "e"] ["_law_head", "_law_steps", "_law_marked"] (defScope sRefused) := ⟨rfl, rfl, rfl, by decide +kernel, rfl, by decide +kernel, by decide +kernel⟩
def spRef (K : PySem.W.Frag) : Sp := fun vs H Q _ => ∃ (z : Str) (b c : Addr) (items : List V) (ws : List (Int × Str)) (ns : List Int), vs = [.str z, .ref b, .ref c] ∧ Sq K H b items ∧ RpA H items (ws.map pD) ∧ ws.length ≤ 20 ∧ Sq K H c (ns.map V.int) ∧ ns.length ≤ 20 ∧ wayB z ws ns = false ∧
  ∀ H', Same H H' → Q (.bl true) H'
theorem ok_ref {f fW CW CN CB : Addr} {fd : FuncData} (F : Fun K "_law_refused" "_law_refused" sRefused f fd) (GW : StX.FnKw P w K mg base (L2.CX P w) 1 fW ["whole", "places", "noted"] (fun zs vs H Q E => vs = [] ∧ spWay K CW zs H Q E)) (gW : mg "way" = some (.ref fW)) (kW : PySem.W.keepIn K (.ref fW) = true)
    (mI : mg "isinstance" = none) (eW : ErrC K mg "BadWay" CW) (gN : mg "NotesError" = some (.ref CN)) (gB : mg "BadKind" = some (.ref CB))
    (eN : PySem.W.exmOne K (.ref CW) (.ref CN) = some true) (k1 : PySem.W.kitOne K (.ref CW) (.ref CW) = some true) (k3 : PySem.W.kitOne K (.ref CW) (.ref CB) = some false) :
    FnOk P w K mg base CX0 2 f fd ["_law_head", "_law_steps", "_law_marked"] (spRef K) := by
  refine F.ok scRef (fun vs H Q E h => ?_) (fun cdv A outer s H vs Q E hr h => ?_)
  · obtain ⟨z, b, c, items, ws, ns, rfl, _⟩ := h
    rfl
  obtain ⟨z, b, c, items, ws, ns, rfl, hb, ra, hwl, hc, hnl, bad, q⟩ := h
  refine ⟨_, pss_cons (ps_try_as (i := 3) (ts := fun a cls d D σ H => (cls = .ref CW ∧ d = none) ∧ σ[3]? = some (some (.ref a)) ∧ D.rt (.bl true) H) (Wout := fun _ _ _ _ => False) rfl rfl scRef.nd rfl rfl ⟨rfl, by decide, .inl gN⟩ takes0
      (fun W pn xe tk _ => pss_one (ps_expr (StX.pe_kw0S (E := WE W) GW hr (by rfl) gW kW (fun σ => passAt tk σ) (pk_cons (pv 0) (pk_cons (pv 1) (pk_cons (pv 2) pk_nil))))))
      (fun a oe cls d pn hz hf => ⟨fun pins s' σ H D I hx => ?_⟩))
    (pss_one (ps_ret pe_bl)), ?_⟩
  · obtain ⟨⟨rfl, rfl⟩, hσ, hq⟩ := hx
    refine (pss_one (ps_ret (pe_and (pe_callB (call_isE eW.ec hz hf) (by rfl) mI (by decide +kernel) (pa_cons (pv 3) (pa_cons (pe_glob (v := .ref CW) (by rfl) eW.g rfl) pa_nil)))
      (pe_one (pe_not (pe_callB (call_isE eW.ec hz hf) (by rfl) mI (by decide +kernel) (pa_cons (pv 3) (pa_cons (pe_glob (v := .ref CB) (by rfl) gB rfl) pa_nil))))))) : PSs _ _ _).run pins s' σ H D I ?_
    refine ⟨_, hσ, .ref CW, .ref CW, true, rfl, fun u r => r, k1, _, rfl, iteT ?_⟩
    exact ⟨_, hσ, .ref CB, .ref CB, false, rfl, fun u r => r, k3, _, rfl, hq⟩
  · refine ⟨_, rfl, _, rfl, _, rfl, rfl, z, b, c, items, ws, ns, rfl, hb, ra, hwl, hc, hnl, fun hf => ?_, fun _ H' sm => ?_⟩
    · rw [bad] at hf
      cases hf
    · exact ⟨true, eN, fun _ a ha => ⟨⟨rfl, rfl⟩, rfl, q H' sm⟩, fun z => nomatch z⟩
/-! ### rows of faults -/
/-- a row that must be refused, its lists apart from the tape and from the list of rows -/
def BR (p R : Addr) (H : Hp) (v : V) : Prop := ∃ (t : Addr) (z : Str) (sL mL : Addr) (items : List V) (ws : List (Int × Str)) (ns : List Int), v = .ref t ∧ H t = some (.tup [.str z, .ref sL, .ref mL]) ∧ H sL = some (.lst items) ∧ RpA H items (ws.map pD) ∧ H mL = some (.lst (ns.map V.int)) ∧
  ws.length ≤ 20 ∧ ns.length ≤ 20 ∧ wayB z ws ns = false ∧ (sL ≠ p ∧ mL ≠ p) ∧ (sL ≠ R ∧ mL ≠ R)
def RW (p R : Addr) (H : Hp) (n : Nat) : Prop := ∃ vs, H R = some (.lst vs) ∧ vs.length = n ∧ ∀ v ∈ vs, BR p R H v
/-- all but two objects, lists, stand as they stood -/
theorem BR.keep {p R : Addr} {H H' : Hp} {v : V} {xs ys : List V} (h : BR p R H v) (hp : H p = some (.lst xs)) (hR : H R = some (.lst ys)) (k : ∀ b o, b ≠ p → b ≠ R → H b = some o → H' b = some o) : BR p R H' v := by
  obtain ⟨t, z, sL, mL, items, ws, ns, e, ht, hs, ra, hm, h1, h2, h3, h4, h5⟩ := h
  have kp : Keep H H' := fun b xs' eb => k b _ (fun z => by rw [z, hp] at eb; cases eb) (fun z => by rw [z, hR] at eb; cases eb) eb
  exact ⟨t, z, sL, mL, items, ws, ns, e, kp _ _ ht, k _ _ h4.1 h5.1 hs, ra.keep kp, k _ _ h4.2 h5.2 hm, h1, h2, h3, h4, h5⟩
theorem RW.but {p R : Addr} {H H' : Hp} {n : Nat} (h : RW p R H n) (tp : Tp H p) (hne : R ≠ p) (b : But p H H') : RW p R H' n := by
  obtain ⟨vs, eR, hl, hb⟩ := h
  obtain ⟨xs, ep, _⟩ := tp
  exact ⟨vs, b _ _ hne eR, hl, fun v hv => (hb v hv).keep ep eR fun c o n1 _ e => b c o n1 e⟩
theorem RW.same {p R : Addr} {H H' : Hp} {n : Nat} (h : RW p R H n) (tp : Tp H p) (s : Same H H') : RW p R H' n := by
  obtain ⟨vs, eR, hl, hb⟩ := h
  obtain ⟨xs, ep, _⟩ := tp
  exact ⟨vs, s _ _ eR, hl, fun v hv => (hb v hv).keep ep eR fun c o _ _ e => s c o e⟩
/-- one row more: its tuple t is new, H2 holds its lists -/
theorem RW.add {p R : Addr} {H2 : Hp} {n : Nat} {t : Addr} {z : Str} {sL mL : Addr} {items : List V} {ws : List (Int × Str)} {ns : List Int} (h : RW p R H2 n) (tp : Tp H2 p) (nt : H2 t = none) (hs : H2 sL = some (.lst items)) (ra : RpA H2 items (ws.map pD)) (hm : H2 mL = some (.lst (ns.map V.int)))
    (h1 : ws.length ≤ 20) (h2 : ns.length ≤ 20) (bad : wayB z ws ns = false) (h4 : sL ≠ p ∧ mL ≠ p) (h5 : sL ≠ R ∧ mL ≠ R) :
    ∃ vs, (upd H2 t (.tup [.str z, .ref sL, .ref mL])) R = some (.lst vs) ∧ vs.length = n ∧ RW p R (upd (upd H2 t (.tup [.str z, .ref sL, .ref mL])) R (.lst (vs ++ [.ref t]))) (n + 1) := by
  have h' := h.same tp (same_upd (o := .tup [.str z, .ref sL, .ref mL]) nt)
  obtain ⟨vs, eR, hl, hb⟩ := h'
  have tp' : Tp (upd H2 t (.tup [.str z, .ref sL, .ref mL])) p := tp.same (same_upd nt)
  obtain ⟨xs, ep, _⟩ := tp'
  have kk : ∀ b o, b ≠ p → b ≠ R → (upd H2 t (.tup [.str z, .ref sL, .ref mL])) b = some o → (upd (upd H2 t (.tup [.str z, .ref sL, .ref mL])) R (.lst (vs ++ [.ref t]))) b = some o := fun b o _ n2 e => by
    rw [upd_ne n2]
    exact e
  refine ⟨vs, eR, hl, vs ++ [.ref t], upd_same, by rw [List.length_append, hl]; rfl, fun v hv => ?_⟩
  rcases List.mem_append.mp hv with hv | hv
  · exact (hb v hv).keep ep eR kk
  · rw [List.mem_singleton.mp hv]
    exact BR.keep ⟨t, z, sL, mL, items, ws, ns, rfl, upd_same, same_upd nt _ _ hs, ra.keep (.new nt), same_upd nt _ _ hm, h1, h2, bad, h4, h5⟩ ep eR kk
/-! ### faults -/
abbrev NF : List Str := ["_law_tape_here", "_law_head", "_law_steps", "_law_marked", "_law_many", "_law_word", "_law_rows", "_law_at", "_law_least", "_law_k", "_law_step"]
theorem scF : FnScope NF ["_law_tape_here", "_law_head", "_law_steps", "_law_marked"] (defScope sFaults) := ⟨rfl, rfl, rfl, by decide +kernel, rfl, by decide +kernel, by decide +kernel⟩
abbrev iV' (k : Nat) : Int := (k : Int)
/-- a way of the law's -/
structure Wz (m : Nat) (ws : List (Int × Str)) (ns : List Int) : Prop where
  m3 : m ≤ 3
  len : ws.length = m
  pm : (ws.map (·.1)).Perm ((List.range m).map iV')
  dir : ∀ x ∈ ws, ∃ d, x.2 = dirW d
  nd : ns.Nodup
  n : ∀ k ∈ ns, 0 ≤ k ∧ k < (m : Int)
def spF : Sp := fun vs H Q _ => ∃ (p : Addr) (d : Bool) (S M : Addr) (items : List V) (m : Nat) (ws : List (Int × Str)) (ns : List Int), vs = [.ref p, .str (dirW d), .ref S, .ref M] ∧ Tp H p ∧ S ≠ p ∧ M ≠ p ∧ H S = some (.lst items) ∧ RpA H items (ws.map pD) ∧ H M = some (.lst (ns.map V.int)) ∧ Wz m ws ns ∧
  ∀ (H' : Hp) (R : Addr) (n : Nat), But p H H' → R ≠ p → RW p R H' n → n ≤ 20 → Tp H' p → Q (.ref R) H'
def badW : List Str := [Str.ofString "", Str.ofString "Told", Str.ofString "noted", Str.ofString "found ", Str.ofString "tell"]
theorem badW_at {r : Nat} (h : r < 5) : ∃ z, [V.str (Str.ofString ""), V.str (Str.ofString "Told"), V.str (Str.ofString "noted"), V.str (Str.ofString "found "), V.str (Str.ofString "tell")][r]? = some (.str z) ∧ dirB z = false := by
  match r, h with
  | 0, _ => exact ⟨_, rfl, by decide +kernel⟩
  | 1, _ => exact ⟨_, rfl, by decide +kernel⟩
  | 2, _ => exact ⟨_, rfl, by decide +kernel⟩
  | 3, _ => exact ⟨_, rfl, by decide +kernel⟩
  | 4, _ => exact ⟨_, rfl, by decide +kernel⟩
end
end KN
set_option Elab.async false
set_option linter.all false
set_option maxRecDepth 100000
set_option maxHeartbeats 1000000
namespace KN
open PySem PySem.Spec PyProof.Rows L2
theorem Wz.mem {m : Nat} {ws : List (Int × Str)} {ns : List Int} (W : Wz m ws ns) {k : Int} : k ∈ ws.map (·.1) ↔ ∃ j : Nat, j < m ∧ k = (j : Int) := by
  rw [W.pm.mem_iff, List.mem_map]
  constructor
  · rintro ⟨j, hj, rfl⟩
    exact ⟨j, List.mem_range.mp hj, rfl⟩
  · rintro ⟨j, hj, rfl⟩
    exact ⟨j, List.mem_range.mpr hj, rfl⟩
theorem Wz.nodup {m : Nat} {ws : List (Int × Str)} {ns : List Int} (W : Wz m ws ns) : (ws.map (·.1)).Nodup := by
  refine W.pm.nodup_iff.mpr ?_
  rw [List.nodup_iff_pairwise_ne, List.pairwise_map]
  refine (List.nodup_iff_pairwise_ne.mp List.nodup_range).imp fun h e => h ?_
  have e' : ((_ : Nat) : Int) = ((_ : Nat) : Int) := e
  omega
theorem Wz.ll {m : Nat} {ws : List (Int × Str)} {ns : List Int} (W : Wz m ws ns) : (ws.map (·.1)).length = m := by
  rw [List.length_map, W.len]
theorem Wz.n3 {m : Nat} {ws : List (Int × Str)} {ns : List Int} (W : Wz m ws ns) : ns.length ≤ 3 := by
  have h1 := (asc_perm (l := ws.map (·.1)) W.nd (by rw [W.ll]; exact W.n)).length_eq
  have h2 : (asc (ws.map (·.1)) ns).length ≤ (ws.map (·.1)).length := by
    unfold asc
    refine Nat.le_trans (List.length_filter_le _ _) ?_
    rw [List.length_map, List.length_range]
    exact Nat.le_refl _
  rw [W.ll] at h2
  have := W.m3
  omega
theorem bad_mem {z : Str} {ws : List (Int × Str)} {ns : List Int} {k : Nat} (hk : k < ws.length) (h : (k : Int) ∉ ws.map (·.1)) : wayB z ws ns = false := bad_cnt hk (List.count_eq_zero.mpr h)
theorem bad_out {z : Str} {m : Nat} {ws : List (Int × Str)} {ns : List Int} (W : Wz m ws ns) {j : Int} (hj : j < 0 ∨ (m : Int) ≤ j) : wayB z ws (ns ++ [j]) = false := by
  refine bad_ns ?_
  rw [asc_congr (l := ws.map (·.1)) (ns := ns ++ [j]) (ms := ns) fun k hk => ?_, (asc_perm (l := ws.map (·.1)) W.nd (by rw [W.ll]; exact W.n)).length_eq, List.length_append]
  · show ns.length ≠ ns.length + 1
    omega
  · rw [W.ll] at hk
    rw [Bool.eq_iff_iff, in_iff, in_iff, List.mem_append]
    constructor
    · rintro (h | h)
      · exact h
      · have := List.mem_singleton.mp h
        omega
    · exact Or.inl
theorem bad_snoc {z : Str} {m : Nat} {ws : List (Int × Str)} {ns ns' : List Int} (W : Wz m ws ns) {w : Int × Str} (hw : w.1 ≠ (m : Int)) : wayB z (ws ++ [w]) ns' = false := by
  refine bad_mem (k := m) ?_ fun h => ?_
  · rw [List.length_append, W.len]
    show m < m + 1
    omega
  · rw [List.map_append] at h
    rcases List.mem_append.mp h with h | h
    · obtain ⟨j, hj, e⟩ := W.mem.mp h
      omega
    · exact hw (List.mem_singleton.mp h).symm
theorem bad_cons {z : Str} {m : Nat} {ws : List (Int × Str)} {ns ns' : List Int} (W : Wz m ws ns) {w : Int × Str} (hw : w.1 ≠ (m : Int)) : wayB z ([w] ++ ws) ns' = false := by
  refine bad_mem (k := m) ?_ fun h => ?_
  · have := W.len
    show m < ws.length + 1
    omega
  · rcases List.mem_cons.mp h with h | h
    · exact hw h.symm
    · obtain ⟨j, hj, e⟩ := W.mem.mp h
      omega
theorem bad_dup {z : Str} {m : Nat} {ws : List (Int × Str)} {ns : List Int} (W : Wz m ws ns) {a : Nat} (ha : a < m) {f : Int → Bool} (hf : ∀ k, f k = true → k ≠ (a : Int)) : wayB z ws (([(a : Int)] ++ ns.filter f) ++ [(a : Int)]) = false := by
  refine bad_ns ?_
  rw [asc_congr (l := ws.map (·.1)) (ns := ([(a : Int)] ++ ns.filter f) ++ [(a : Int)]) (ms := [(a : Int)] ++ ns.filter f) fun k hk => ?_, (asc_perm (l := ws.map (·.1)) (ns := [(a : Int)] ++ ns.filter f) ?_ ?_).length_eq]
  · intro e
    rw [List.length_append (as := [(a : Int)] ++ ns.filter f) (bs := [(a : Int)])] at e
    have : [(a : Int)].length = 1 := rfl
    omega
  · show ((a : Int) :: ns.filter f).Nodup
    refine List.nodup_cons.mpr ⟨fun h => ?_, W.nd.sublist List.filter_sublist⟩
    exact hf _ (List.mem_filter.mp h).2 rfl
  · intro k hk
    rw [W.ll]
    rcases List.mem_append.mp hk with h | h
    · have := List.mem_singleton.mp h
      omega
    · exact W.n k (List.mem_filter.mp h).1
  · rw [Bool.eq_iff_iff, in_iff, in_iff, List.mem_append]
    constructor
    · rintro (h | h)
      · exact h
      · exact List.mem_append.mpr (.inl h)
    · exact Or.inl
theorem cut_lo {xs : List V} {j : Nat} (h : j ≤ xs.length) : cutV xs none (some (j : Int)) = xs.take j := by
  unfold cutV
  rw [HT.sIx_none, HT.sIx_nat, Nat.min_eq_left h]
  rfl
theorem cut_hi {xs : List V} {j : Nat} (h : j ≤ xs.length) : cutV xs (some (j : Int)) none = xs.drop j := by
  unfold cutV
  rw [HT.sIx_none, HT.sIx_nat, Nat.min_eq_left h]
  exact List.take_of_length_le (by rw [List.length_drop]; exact Nat.le_refl _)
theorem RpA.take {H : Hp} : ∀ {vs : List V} {ds : List Fd} (j : Nat), RpA H vs ds → RpA H (vs.take j) (ds.take j)
  | _, [], 0, .nil => .nil
  | _, [], j + 1, .nil => .nil
  | _, _ :: _, 0, .cons _ _ => .nil
  | _, _ :: _, j + 1, .cons h a => .cons h (RpA.take j a)
theorem RpA.drop {H : Hp} : ∀ {vs : List V} {ds : List Fd} (j : Nat), RpA H vs ds → RpA H (vs.drop j) (ds.drop j)
  | _, [], 0, .nil => .nil
  | _, [], j + 1, .nil => .nil
  | _, _ :: _, 0, .cons h a => .cons h a
  | _, _ :: _, j + 1, .cons _ a => RpA.drop j a
/-- the step with place 0, and where it stands -/
abbrev z0 (w : Int × Str) : Bool := decide (V.int w.1 = V.int 0)
theorem z0_iff {w : Int × Str} : z0 w = true ↔ w.1 = 0 := by
  rw [decide_eq_true_iff]
  exact ⟨V.int.inj, fun h => by rw [h]⟩
theorem least_at {m : Nat} {ws : List (Int × Str)} {ns : List Int} (W : Wz m ws ns) (hm : 0 < m) : ∃ (w0 : Int × Str) (rest : List (Int × Str)) (j : Nat), ws.filter z0 = w0 :: rest ∧ w0.1 = 0 ∧ ws[j]? = some w0 ∧ j < m ∧ ∀ i w, i < j → ws[i]? = some w → w.1 ≠ 0 := by
  cases e : ws.filter z0 with
  | nil =>
    obtain ⟨w, hw, h0⟩ := List.mem_map.mp (W.mem.mpr ⟨0, hm, rfl⟩)
    have : w ∈ ws.filter z0 := List.mem_filter.mpr ⟨hw, z0_iff.mpr h0⟩
    rw [e] at this
    cases this
  | cons w0 rest =>
    have hw0 := List.mem_filter.mp (e ▸ List.mem_cons_self .. : w0 ∈ ws.filter z0)
    obtain ⟨j, hj, ej⟩ := List.mem_iff_getElem.mp hw0.1
    refine ⟨w0, rest, j, rfl, z0_iff.mp hw0.2, by rw [List.getElem?_eq_getElem hj, ej], by rw [← W.len]; exact hj, fun i w hi ew h0 => ?_⟩
    have nd := List.pairwise_iff_getElem.mp (List.nodup_iff_pairwise_ne.mp W.nodup) i j (by rw [List.length_map]; omega) (by rw [List.length_map]; exact hj) hi
    refine nd ?_
    rw [List.getElem_map, List.getElem_map, ej, z0_iff.mp hw0.2]
    obtain ⟨hi', ei⟩ := List.getElem?_eq_some_iff.mp ew
    rw [ei, h0]
theorem bad_gone {z : Str} {m : Nat} {ws : List (Int × Str)} {ns ns' : List Int} (W : Wz m ws ns) (hm : 1 < m) {j : Nat} {w0 : Int × Str} (hj : ws[j]? = some w0) (h0 : w0.1 = 0) : wayB z (ws.take j ++ ws.drop (j + 1)) ns' = false := by
  obtain ⟨hjl, ej⟩ := List.getElem?_eq_some_iff.mp hj
  have e2 : ws.take j ++ w0 :: ws.drop (j + 1) = ws := by
    rw [← ej, List.getElem_cons_drop, List.take_append_drop]
  have hl : (ws.take j ++ ws.drop (j + 1)).length = m - 1 := by
    rw [List.length_append, List.length_take, List.length_drop, W.len]
    rw [W.len] at hjl
    omega
  refine bad_mem (k := 0) (by omega) fun h => ?_
  have nd := W.nodup
  rw [← e2, List.map_append, List.map_cons] at nd
  rw [List.map_append] at h
  have nd2 := (List.perm_middle (a := w0.1) (l₁ := (ws.take j).map (·.1)) (l₂ := (ws.drop (j + 1)).map (·.1))).nodup_iff.mp nd
  rw [h0] at nd2
  exact (List.nodup_cons.mp nd2).1 h
theorem lay_ints : ∀ l : List Int, lays (l.map Fd.i) = true
  | [] => rfl
  | k :: l => by
    show (true && lays (l.map Fd.i)) = true
    rw [lay_ints l]
    rfl
theorem lay_steps : ∀ {l : List (Int × Str)}, (∀ x ∈ l, ∃ d, x.2 = dirW d) → lays (l.map pD) = true
  | [], _ => rfl
  | x :: l, h => by
    obtain ⟨d, hd⟩ := h x (List.mem_cons_self ..)
    show ((true && (PyData.strOk x.2 && true)) && lays (l.map pD)) = true
    rw [lay_steps (l := l) fun y hy => h y (List.mem_cons_of_mem _ hy), hd]
    cases d <;> decide +kernel
theorem dep_ints : ∀ l : List Int, deps (l.map Fd.i) = 0
  | [] => rfl
  | k :: l => by
    show max 0 (deps (l.map Fd.i)) = 0
    rw [dep_ints l]
    rfl
theorem dep_steps : ∀ l : List (Int × Str), deps (l.map pD) ≤ 1
  | [] => Nat.zero_le _
  | x :: l => by
    have := dep_steps l
    show max (1 + max 0 (max 0 0)) (deps (l.map pD)) ≤ 1
    omega
theorem toPys_map : ∀ ds : List Fd, toPys ds = ds.map toPy
  | [] => rfl
  | d :: ds => by
    show toPy d :: toPys ds = toPy d :: ds.map toPy
    rw [toPys_map ds]
theorem eqv_pD {w v : Int × Str} (h : w.1 ≠ v.1) : PyData.eqv (toPy (pD w)) (toPy (pD v)) = false := by
  simp [toPy, toPys, PyData.eqv, PyData.eqvAll, h]
theorem shaped_steps {ws : List (Int × Str)} (h : ∀ x ∈ ws, ∃ d, x.2 = dirW d) : SeqAt.shaped (.list (toPys (ws.map pD))) = true := by
  have h1 := depth_toPys (ws.map pD)
  have h2 := dep_steps ws
  show ((PyData.list (toPys (ws.map pD))).canLay0 && decide ((PyData.list (toPys (ws.map pD))).depth ≤ 64)) = true
  have h3 : (PyData.list (toPys (ws.map pD))).depth ≤ 64 := by
    simp only [PyData.depth]
    omega
  have h4 : (PyData.list (toPys (ws.map pD))).canLay0 = true := by
    simp only [PyData.canLay0]
    exact canLay_toPys _ (lay_steps h)
  rw [h4, decide_eq_true h3]
  rfl
end KN
set_option Elab.async false
set_option linter.all false
set_option maxRecDepth 100000
set_option maxHeartbeats 1000000
namespace KN
open PySem PySem.Spec PyProof.Rows L2
section
variable {P : Program} {w : World} {K : PySem.W.Frag} {mg : Str → Option Value} {base : Heap}
/-- the state between two rows of faults -/
structure St (H0 : Hp) (p S M R : Addr) (items : List V) (ws : List (Int × Str)) (ns : List Int) (n : Nat) (H : Hp) : Prop where
  tp : Tp H p
  pS : S ≠ p
  pM : M ≠ p
  pR : R ≠ p
  RS : S ≠ R
  RM : M ≠ R
  eS : H S = some (.lst items)
  rS : RpA H items (ws.map pD)
  eM : H M = some (.lst (ns.map V.int))
  k : RW p R H n
  b : But p H0 H
  nR : H0 R = none
section
variable {p S M R : Addr} {items : List V} {ws : List (Int × Str)} {ns : List Int} {n : Nat} {H0 H H' : Hp}
theorem St.same (x : St H0 p S M R items ws ns n H) (s : Same H H') : St H0 p S M R items ws ns n H' :=
  ⟨x.tp.same s, x.pS, x.pM, x.pR, x.RS, x.RM, s _ _ x.eS, x.rS.keep (.same s), s _ _ x.eM, x.k.same x.tp s, x.b.trans (.of s), x.nR⟩
theorem St.but (x : St H0 p S M R items ws ns n H) (b : But p H H') (t : Tp H' p) : St H0 p S M R items ws ns n H' :=
  ⟨t, x.pS, x.pM, x.pR, x.RS, x.RM, b _ _ x.pS x.eS, x.rS.keep (Keep.but b x.tp), b _ _ x.pM x.eM, x.k.but x.tp x.pR b, x.b.trans b, x.nR⟩
theorem St.eR (x : St H0 p S M R items ws ns n H) : ∃ vs, H R = some (.lst vs) ∧ vs.length = n := by
  obtain ⟨vs, e, hl, _⟩ := x.k
  exact ⟨vs, e, hl⟩
theorem St.add {t : Addr} {z : Str} {sL mL : Addr} {items2 : List V} {ws2 : List (Int × Str)} {ns2 : List Int} (x : St H0 p S M R items ws ns n H) (nt : H t = none) (hs : H sL = some (.lst items2)) (ra : RpA H items2 (ws2.map pD)) (hm : H mL = some (.lst (ns2.map V.int)))
    (h1 : ws2.length ≤ 20) (h2 : ns2.length ≤ 20) (bad : wayB z ws2 ns2 = false) (h4 : sL ≠ p ∧ mL ≠ p) (h5 : sL ≠ R ∧ mL ≠ R) :
    ∃ vs, (upd H t (.tup [.str z, .ref sL, .ref mL])) R = some (.lst vs) ∧ vs.length = n ∧ St H0 p S M R items ws ns (n + 1) (upd (upd H t (.tup [.str z, .ref sL, .ref mL])) R (.lst (vs ++ [.ref t]))) := by
  obtain ⟨vs, e, hl, kk⟩ := x.k.add x.tp nt hs ra hm h1 h2 bad h4 h5
  have y := x.same (same_upd (o := .tup [.str z, .ref sL, .ref mL]) nt)
  refine ⟨vs, e, hl, ?_, x.pS, x.pM, x.pR, x.RS, x.RM, ?_, y.rS.keep (.lst e), ?_, kk, fun b o n1 eb => ?_, x.nR⟩
  · obtain ⟨l, el, h⟩ := y.tp
    exact ⟨l, by rw [upd_ne x.pR.symm]; exact el, h⟩
  · rw [upd_ne x.RS]
    exact y.eS
  · rw [upd_ne x.RM]
    exact y.eM
  · rw [upd_ne (ne_of_none eb x.nR)]
    exact y.b _ _ n1 eb
end
abbrev toldW (k : Nat) : Int × Str := ((k : Int), Str.ofString "told")
theorem ok_F {f fT : Addr} {fd fdT : FuncData} (F : Fun K "_law_faults" "_law_faults" sFaults f fd) (bT : Binds K fdT ["_law_tape_here", "_law_many"] []) (gT : mg "_law_take" = some (.ref fT)) (kT : PySem.W.keepIn K (.ref fT) = true)
    (GT : FnOk P w K mg base CX0 1 fT fdT ["_law_tape_here", "_law_many"] spTake) (ml : mg "len" = none) (mr : mg "range" = none) : FnOk P w K mg base CX0 2 f fd ["_law_tape_here", "_law_head", "_law_steps", "_law_marked"] spF := by
  refine F.ok scF (fun vs H Q E h => ?_) (fun cdv A outer s H vs Q E hr h => ?_)
  · obtain ⟨p, d, S, M, items, m, ws, ns, rfl, _⟩ := h
    rfl
  obtain ⟨p, d, S, M, items, m, ws, ns, rfl, tp, nSp, nMp, eS, rS, eM, W, q⟩ := h
  have hu65 : (A.deeper (envOfC "_law_faults" (defScope sFaults) s.heap.objs.size f cdv)).units + 65 < cLine := by
    have := hr.un
    omega
  refine ⟨_, pss_cons (ps_set (i := 4) scF.nd rfl (.inl rfl) (pe_callB call_len_seq (by rfl) ml PySem.boot_len (pa_cons (pv 2) pa_nil)))
    (pss_cons (ps_set (i := 5) scF.nd rfl (.inl rfl) (pe_ix ix_list (pe_lst (pa_cons pe_str (pa_cons pe_str (pa_cons pe_str (pa_cons pe_str (pa_cons pe_str pa_nil)))))) (pe_call GT hr (by rfl) gT kT bT .nil pass0 (pa_cons (pv 0) (pa_cons pe_int pa_nil))) (fun _ _ => rfl)))
    (pss_cons (ps_set (i := 6) scF.nd rfl (.inl rfl) (pe_lst (pa_cons (pe_tup (pa_cons (pv 5) (pa_cons (pv 2) (pa_cons (pv 3) pa_nil)))) (pa_cons (pe_tup (pa_cons (pv 1) (pa_cons (pv 2) (pa_cons (pe_op op_cat (pv 3) (pe_lst (pa_cons (pv 4) pa_nil))) pa_nil))))
      (pa_cons (pe_tup (pa_cons (pv 1) (pa_cons (pv 2) (pa_cons (pe_op op_cat (pv 3) (pe_lst (pa_cons (pe_un un_neg pe_int) pa_nil))) pa_nil)))) pa_nil)))))
    (pss_cons (ps_expr (pe_bm PySem.F.plainAttrs_list PySem.F.slot_list_append PySem.F.type_list_append mt_append (pv 6) (pa_cons (pe_tup (pa_cons (pv 1) (pa_cons
        (pe_lc (own := [("_law_k", 9)]) (g := gName 9) (tt := tYes) (te := tTup (tCons (tVar 9) (tCons (tC (.str (Str.ofString "told"))) tNil))) (by rfl) scF.nd (pi_range1 (by rfl) mr (pa_cons pe_int pa_nil)) (blkOk_by (own := [("_law_k", 9)]) (N := NF) (sc := defScope sFaults) (by decide +kernel))
          (fun _ _ _ _ _ => pg_name (i := 9) scF.nd rfl (Or.inl rfl)) (fun _ _ _ _ _ => pts_nil) (fun _ _ _ _ _ => pe_tup (pa_cons (pv 9) (pa_cons pe_str pa_nil))))
        (pa_cons (pe_lst pa_nil) pa_nil)))) pa_nil)))
    (pss_cons (ps_expr (pe_bm PySem.F.plainAttrs_list PySem.F.slot_list_append PySem.F.type_list_append mt_append (pv 6) (pa_cons (pe_tup (pa_cons (pv 1) (pa_cons
        (pe_op op_cat (pv 2) (pe_lst (pa_cons (pe_tup (pa_cons (pe_op op_add (pv 4) pe_int) (pa_cons pe_str pa_nil))) pa_nil))) (pa_cons (pe_lst pa_nil) pa_nil)))) pa_nil)))
    (pss_cons (ps_expr (pe_bm PySem.F.plainAttrs_list PySem.F.slot_list_append PySem.F.type_list_append mt_append (pv 6) (pa_cons (pe_tup (pa_cons (pv 1) (pa_cons
        (pe_op op_cat (pe_lst (pa_cons (pe_tup (pa_cons (pe_un un_neg pe_int) (pa_cons pe_str pa_nil))) pa_nil)) (pv 2)) (pa_cons (pe_lst pa_nil) pa_nil)))) pa_nil)))
    (pss_cons (ps_if (pt_cmpR op_gt (pv 4) pe_int (nomark _))
      (pss_cons (ps_set (i := 7) scF.nd rfl (.inr rfl) (pe_call GT hr (by rfl) gT kT bT .nil pass0 (pa_cons (pv 0) (pa_cons (pv 4) pa_nil))))
      (pss_cons (ps_expr (pe_bm PySem.F.plainAttrs_list PySem.F.slot_list_append PySem.F.type_list_append mt_append (pv 6) (pa_cons (pe_tup (pa_cons (pv 1) (pa_cons
          (pe_op op_cat (pe_op op_cat (pe_slice sl_list (pv 2) po_none (po_some (pv 7))) (pe_lst (pa_cons (pe_tup (pa_cons (pe_ix ix_tup (pe_ix ix_list (pv 2) (pv 7) (fun _ _ => rfl)) pe_int (fun _ _ => rfl)) (pa_cons (pv 5) pa_nil))) pa_nil))) (pe_slice sl_list (pv 2) (po_some (pe_op op_add (pv 7) pe_int)) po_none))
          (pa_cons (pv 3) pa_nil)))) pa_nil)))
      (pss_cons (ps_expr (pe_bm PySem.F.plainAttrs_list PySem.F.slot_list_append PySem.F.type_list_append mt_append (pv 6) (pa_cons (pe_tup (pa_cons (pv 1) (pa_cons
          (pe_op op_cat (pv 2) (pe_lst (pa_cons (pe_ix ix_list (pv 2) (pv 7) (fun _ _ => rfl)) pa_nil))) (pa_cons (pv 3) pa_nil)))) pa_nil)))
      (pss_cons (ps_expr (pe_bm PySem.F.plainAttrs_list PySem.F.slot_list_append PySem.F.type_list_append mt_append (pv 6) (pa_cons (pe_tup (pa_cons (pv 1) (pa_cons (pv 2) (pa_cons
          (pe_op op_cat (pe_op op_cat (pe_lst (pa_cons (pv 7) pa_nil))
            (pe_lc (own := [("_law_k", 9)]) (g := gName 9) (tt := tTest (tOp rNe (tVar 9) (tVar 7))) (te := tVar 9) (by rfl) scF.nd (pi_list (pv 3)) (blkOk_by (own := [("_law_k", 9)]) (N := NF) (sc := defScope sFaults) (by decide +kernel))
              (fun _ _ _ _ _ => pg_name (i := 9) scF.nd rfl (Or.inl rfl)) (fun _ _ _ _ _ => pts_one (pt_cmpR op_ne (pv 9) (pv 7) (nomark _))) (fun _ _ _ _ _ => pv 9)))
            (pe_lst (pa_cons (pv 7) pa_nil))) pa_nil)))) pa_nil)))
      (pss_cons (ps_set (i := 8) scF.nd rfl (.inl rfl) (pe_bm PySem.F.plainAttrs_list PySem.F.slot_list_index PySem.F.type_list_index (mt_indexD hu65) (pv 2) (pa_cons (pe_tup (pa_cons pe_int (pa_cons
          (pe_ix ix_list (pe_lc (own := [("_law_step", 10)]) (g := gName 10) (tt := tTest (tOp rEq (tOp (rIxT K) (tVar 10) (tC (.int 0))) (tC (.int 0)))) (te := tOp (rIxT K) (tVar 10) (tC (.int 1))) (by rfl) scF.nd (pi_list (pv 2)) (blkOk_by (own := [("_law_step", 10)]) (N := NF) (sc := defScope sFaults) (by decide +kernel))
              (fun _ _ _ _ _ => pg_name (i := 10) scF.nd rfl (Or.inl rfl)) (fun _ _ _ _ _ => pts_one (pt_cmpR op_eq (pe_ix ix_tup (pv 10) pe_int (fun _ _ => rfl)) pe_int (nomark _))) (fun _ _ _ _ _ => pe_ix ix_tup (pv 10) pe_int (fun _ _ => rfl)))
            pe_int (fun _ _ => rfl)) pa_nil))) pa_nil)))
      (pss_one (ps_if (pt_cmpR op_gt (pv 4) pe_int (nomark _))
        (pss_one (ps_expr (pe_bm PySem.F.plainAttrs_list PySem.F.slot_list_append PySem.F.type_list_append mt_append (pv 6) (pa_cons (pe_tup (pa_cons (pv 1) (pa_cons
          (pe_op op_cat (pe_slice sl_list (pv 2) po_none (po_some (pv 8))) (pe_slice sl_list (pv 2) (po_some (pe_op op_add (pv 8) pe_int)) po_none)) (pa_cons (pe_lst pa_nil) pa_nil)))) pa_nil)))) pss_nil)))))))
      pss_nil)
    (pss_one (ps_ret (pv 6))))))))), ?_⟩
  have L9 : ∀ {n : Nat}, n ≤ 900 → n ≤ sizeLine := fun h => Nat.le_of_lt (small1000 (by omega))
  have m3 := W.m3
  have hwl := W.len
  have hil := rS.length
  rw [List.length_map, hwl] at hil
  have hn3 : ns.length ≤ 3 := by
    have h1 := (asc_perm (l := ws.map (·.1)) W.nd (by rw [List.length_map, hwl]; exact W.n)).length_eq
    have h2 : (asc (ws.map (·.1)) ns).length ≤ (ws.map (·.1)).length := by
      unfold asc
      refine Nat.le_trans (List.length_filter_le _ _) ?_
      rw [List.length_map, List.length_range]
      exact Nat.le_refl _
    rw [List.length_map, hwl] at h2
    omega
  refine ⟨_, rfl, S, _, rfl, .inl (SqL.of eS), ?_⟩
  rw [hil]
  refine ⟨(by show 5 ≤ sizeLine; exact L9 (by decide)), fun l0 nl0 => ?_⟩
  refine ⟨_, rfl, p, 5, rfl, tp.same (same_upd nl0), by decide, fun H1 r b1 t1p hr5 => ?_⟩
  obtain ⟨bw, ebw, hbw⟩ := badW_at hr5
  refine ⟨l0, _, _, _, rfl, rfl, SqL.of (b1 _ _ (tp.ne nl0).symm upd_same), atI_nat ebw, ?_⟩
  have b0 : But p H H1 := (But.of (same_upd nl0)).trans b1
  have eS1 := b0 _ _ nSp eS
  have rS1 := rS.keep (Keep.but b0 tp)
  have eM1 := b0 _ _ nMp (id eM)
  -- the first three rows
  refine ⟨_, rfl, _, rfl, _, rfl, (by show 3 ≤ sizeLine; exact L9 (by decide)), fun t1 nt1 => ?_⟩
  refine ⟨_, rfl, _, rfl, _, rfl, _, rfl, (by show 1 ≤ sizeLine; exact L9 (by decide)), fun a1 na1 => ?_⟩
  have smA := (same_upd (o := .tup [.str bw, .ref S, .ref M]) nt1).trans (same_upd (o := .lst [.int (m : Int)]) na1)
  have et1 := same_upd (o := .lst [.int (m : Int)]) na1 _ _ (upd_same (H := H1) (a := t1) (o := .tup [.str bw, .ref S, .ref M]))
  have ea1 := upd_same (H := upd H1 t1 (.tup [.str bw, .ref S, .ref M])) (a := a1) (o := .lst [.int (m : Int)])
  refine ⟨M, a1, _, _, rfl, rfl, smA _ _ eM1, ea1, ?_, fun c1 nc1 => ?_⟩
  · rw [List.length_map]
    show ns.length + 1 ≤ sizeLine
    exact L9 (by omega)
  generalize upd (upd H1 t1 (.tup [.str bw, .ref S, .ref M])) a1 (.lst [.int (m : Int)]) = H2 at smA et1 ea1 nc1
  refine ⟨(by show 3 ≤ sizeLine; exact L9 (by decide)), fun t2 nt2 => ?_⟩
  have smB := (smA.trans (same_upd (o := .lst (ns.map V.int ++ [.int (m : Int)])) nc1)).trans (same_upd (o := .tup [.str (dirW d), .ref S, .ref c1]) nt2)
  have et1B := same_upd (o := .tup [.str (dirW d), .ref S, .ref c1]) nt2 _ _ (same_upd (o := .lst (ns.map V.int ++ [.int (m : Int)])) nc1 _ _ et1)
  have ec1B := same_upd (o := .tup [.str (dirW d), .ref S, .ref c1]) nt2 _ _ (upd_same (H := H2) (a := c1) (o := .lst (ns.map V.int ++ [.int (m : Int)])))
  have et2B := upd_same (H := upd H2 c1 (.lst (ns.map V.int ++ [.int (m : Int)]))) (a := t2) (o := .tup [.str (dirW d), .ref S, .ref c1])
  have c1p : c1 ≠ p := ((t1p.same smA).ne nc1).symm
  generalize upd (upd H2 c1 (.lst (ns.map V.int ++ [.int (m : Int)]))) t2 (.tup [.str (dirW d), .ref S, .ref c1]) = H3 at smB et1B ec1B et2B
  refine ⟨_, rfl, _, rfl, _, rfl, 1, rfl, (by show 1 ≤ sizeLine; exact L9 (by decide)), fun a2 na2 => ?_⟩
  have smC := smB.trans (same_upd (o := .lst [.int (-1)]) na2)
  have ea2 := upd_same (H := H3) (a := a2) (o := .lst [.int (-1)])
  have et1C := same_upd (o := .lst [.int (-1)]) na2 _ _ et1B
  have et2C := same_upd (o := .lst [.int (-1)]) na2 _ _ et2B
  have ec1C := same_upd (o := .lst [.int (-1)]) na2 _ _ ec1B
  generalize upd H3 a2 (.lst [.int (-1)]) = H4 at smC ea2 et1C et2C ec1C
  refine ⟨M, a2, _, _, rfl, rfl, smC _ _ eM1, ea2, ?_, fun c2 nc2 => ?_⟩
  · rw [List.length_map]
    show ns.length + 1 ≤ sizeLine
    exact L9 (by omega)
  refine ⟨(by show 3 ≤ sizeLine; exact L9 (by decide)), fun t3 nt3 => ?_⟩
  have c2p : c2 ≠ p := ((t1p.same smC).ne nc2).symm
  have sm4 := (same_upd (o := .lst (ns.map V.int ++ [.int (-1)])) nc2).trans (same_upd (o := .tup [.str (dirW d), .ref S, .ref c2]) nt3)
  have ec2D := same_upd (o := .tup [.str (dirW d), .ref S, .ref c2]) nt3 _ _ (upd_same (H := H4) (a := c2) (o := .lst (ns.map V.int ++ [.int (-1)])))
  have et3D := upd_same (H := upd H4 c2 (.lst (ns.map V.int ++ [.int (-1)]))) (a := t3) (o := .tup [.str (dirW d), .ref S, .ref c2])
  generalize upd (upd H4 c2 (.lst (ns.map V.int ++ [.int (-1)]))) t3 (.tup [.str (dirW d), .ref S, .ref c2]) = H5 at sm4 ec2D et3D
  have sm15 := smC.trans sm4
  refine ⟨(by show 3 ≤ sizeLine; exact L9 (by decide)), fun R nR => ?_⟩
  have nS : S ≠ R := ne_of_none (sm15 _ _ eS1) nR
  have nM : M ≠ R := ne_of_none (sm15 _ _ eM1) nR
  have nc1R : c1 ≠ R := ne_of_none (sm4 _ _ ec1C) nR
  have nc2R : c2 ≠ R := ne_of_none ec2D nR
  have smR := same_upd (o := .lst [.ref t1, .ref t2, .ref t3]) nR
  have sm16 := sm15.trans smR
  have mp : ∀ j : Int, ns.map V.int ++ [V.int j] = (ns ++ [j]).map V.int := fun j => by
    rw [List.map_append]
    rfl
  have nRH : H R = none := by
    cases e : H R with
    | none => rfl
    | some o => 
      have := (b0.trans (.of sm15)) R o ((t1p.same sm15).ne nR).symm e
      rw [nR] at this
      cases this
  have x3 : St H p S M R items ws ns 3 (upd H5 R (.lst [.ref t1, .ref t2, .ref t3])) := by
    refine ⟨t1p.same sm16, nSp, nMp, ((t1p.same sm15).ne nR).symm, nS, nM, sm16 _ _ eS1, rS1.keep (.same sm16), sm16 _ _ eM1, ⟨_, upd_same, rfl, fun v hv => ?_⟩, b0.trans (.of sm16), nRH⟩
    rcases List.mem_cons.mp hv with rfl | hv
    · exact ⟨t1, bw, S, M, items, ws, ns, rfl, smR _ _ (sm4 _ _ et1C), sm16 _ _ eS1, rS1.keep (.same sm16), sm16 _ _ eM1, by omega, by omega, bad_head hbw, ⟨nSp, nMp⟩, ⟨nS, nM⟩⟩
    rcases List.mem_cons.mp hv with rfl | hv
    · refine ⟨t2, dirW d, S, c1, items, ws, ns ++ [(m : Int)], rfl, smR _ _ (sm4 _ _ et2C), sm16 _ _ eS1, rS1.keep (.same sm16), ?_, by omega, ?_, bad_out W (.inr (Int.le_refl _)), ⟨nSp, c1p⟩, ⟨nS, nc1R⟩⟩
      · rw [← mp]
        exact smR _ _ (sm4 _ _ ec1C)
      · rw [List.length_append]
        show ns.length + 1 ≤ 20
        omega
    rcases List.mem_cons.mp hv with rfl | hv
    · refine ⟨t3, dirW d, S, c2, items, ws, ns ++ [-1], rfl, smR _ _ et3D, sm16 _ _ eS1, rS1.keep (.same sm16), ?_, by omega, ?_, bad_out W (.inl (by decide)), ⟨nSp, c2p⟩, ⟨nS, nc2R⟩⟩
      · rw [← mp]
        exact smR _ _ ec2D
      · rw [List.length_append]
        show ns.length + 1 ≤ 20
        omega
    · cases hv
  generalize upd H5 R (.lst [.ref t1, .ref t2, .ref t3]) = H6 at x3
  -- four places
  obtain ⟨vs3, eR3, _⟩ := x3.eR
  refine ⟨_, rfl, .inl ⟨rfl, _, SqL.of eR3⟩, _, rfl, 4, rfl, by decide, by decide, fun D nD => ?_⟩
  have npD : p ≠ D := x3.tp.ne nD
  refine lc_range (lo := 0) (n := 4) (fun i H' => Same H6 H' ∧ ∃ vs, H' D = some (.lst vs) ∧ RpA H' vs (((List.range i).map toldW).map pD))
    ⟨same_upd nD, [], upd_same, .nil⟩ (fun i H' hi hW => ?_) (fun H7 hW => ?_)
  · obtain ⟨sm, vs, eD, rv⟩ := hW
    refine ⟨rfl, tyes ?_⟩
    refine ⟨_, rfl, (by show 2 ≤ sizeLine; exact L9 (by decide)), fun t4 nt4 => ⟨vs, same_upd nt4 _ _ eD, ?_, fun b' o e => ?_, vs ++ [.ref t4], upd_same, ?_⟩⟩
    · rw [rv.length, List.length_map, List.length_map, List.length_range]
      exact small1000 (by omega)
    · rw [upd_ne (ne_of_none e nD)]
      exact same_upd nt4 _ _ (sm _ _ e)
    · have kp : Keep (upd H' t4 (.tup [.int (0 + (i : Int)), .str (Str.ofString "told")])) (upd (upd H' t4 (.tup [.int (0 + (i : Int)), .str (Str.ofString "told")])) D (.lst (vs ++ [.ref t4]))) := .lst (same_upd nt4 _ _ eD)
      rw [List.range_succ, List.map_append, List.map_append]
      refine ((rv.keep (.new nt4)).keep kp).snoc (.t (kp _ _ upd_same) ?_)
      rw [Int.zero_add]
      exact .cons (.i _) (.cons (.s _) .nil)
  obtain ⟨sm67, vsD, eD, rD⟩ := hW
  have nRD : D ≠ R := (ne_of_none eR3 nD).symm
  refine ⟨Nat.zero_le _, fun l4 nl4 => ⟨(by show 3 ≤ sizeLine; exact L9 (by decide)), fun t4 nt4 => ?_⟩⟩
  have x3a := x3.same sm67
  have x3' := (x3.same sm67).same (same_upd (o := .lst []) nl4)
  obtain ⟨vs4, eR4, hvl4, x4⟩ := x3'.add (z := dirW d) (sL := D) (mL := l4) (ns2 := []) nt4 (same_upd nl4 _ _ eD) (rD.keep (.new nl4)) upd_same (by rw [List.length_map, List.length_range]; decide) (by decide) (bad_len (by rw [List.length_map, List.length_range]; decide))
    ⟨npD.symm, (x3a.tp.ne nl4).symm⟩ ⟨nRD, (ne_of_none (x3a.eR).choose_spec.1 nl4).symm⟩
  refine ⟨R, vs4, _, rfl, rfl, eR4, small1000 (by omega), ?_⟩
  generalize upd (upd (upd H7 l4 (.lst [])) t4 (.tup [.str (dirW d), .ref D, .ref l4])) R (.lst (vs4 ++ [.ref t4])) = H8 at x4
  -- row 4
  obtain ⟨ve, eRe, _⟩ := x4.eR
  refine ⟨_, rfl, .inl ⟨rfl, _, SqL.of eRe⟩, _, rfl, _, rfl, _, rfl, _, _, rfl, rfl, (by show 2 ≤ sizeLine; exact L9 (by decide)), fun ta nta => ⟨(by show 1 ≤ sizeLine; exact L9 (by decide)), fun la nla => ?_⟩⟩
  have y4 := (x4.same (same_upd (o := .tup [.int ((m : Int) + 1), .str (Str.ofString "found")]) nta)).same (same_upd (o := .lst [.ref ta]) nla)
  have eta := same_upd (o := .lst [.ref ta]) nla _ _ (upd_same (H := H8) (a := ta) (o := .tup [.int ((m : Int) + 1), .str (Str.ofString "found")]))
  have ela := upd_same (H := upd H8 ta (.tup [.int ((m : Int) + 1), .str (Str.ofString "found")])) (a := la) (o := .lst [.ref ta])
  generalize upd (upd H8 ta (.tup [.int ((m : Int) + 1), .str (Str.ofString "found")])) la (.lst [.ref ta]) = Hy at y4 eta ela
  refine ⟨S, la, _, _, rfl, rfl, y4.eS, ela, by rw [hil]; exact L9 (by show m + 1 ≤ 900; omega), fun ca nca => ?_⟩
  have z4 := y4.same (same_upd (o := .lst (items ++ [.ref ta])) nca)
  have rca : RpA Hy (items ++ [.ref ta]) ((ws ++ [((m : Int) + 1, Str.ofString "found")]).map pD) := by
    rw [List.map_append]; exact (y4.rS.snoc (.t eta (.cons (.i _) (.cons (.s _) .nil))))
  obtain ⟨vy, eRy, _⟩ := y4.eR
  have nca1 : ca ≠ p ∧ ca ≠ R := ⟨(y4.tp.ne nca).symm, (ne_of_none eRy nca).symm⟩
  refine ⟨Nat.zero_le _, fun ll nll => ⟨(by show 3 ≤ sizeLine; exact L9 (by decide)), fun tt ntt => ?_⟩⟩
  have w4 := z4.same (same_upd (o := .lst []) nll)
  obtain ⟨vz, eRz, _⟩ := z4.eR
  obtain ⟨vs5, eR5, hvl5, x5⟩ := w4.add (z := dirW d) (sL := ca) (mL := ll) (ns2 := []) ntt (same_upd nll _ _ upd_same) ((rca.keep (.new nca)).keep (.new nll)) upd_same (by rw [List.length_append, hwl]; show m + 1 ≤ 20; omega) (by decide) (bad_snoc W (by show (m : Int) + 1 ≠ (m : Int); omega))
    ⟨nca1.1, (z4.tp.ne nll).symm⟩ ⟨nca1.2, (ne_of_none eRz nll).symm⟩
  refine ⟨R, vs5, _, rfl, rfl, eR5, small1000 (by omega), ?_⟩
  generalize upd (upd (upd (upd Hy ca (.lst (items ++ [.ref ta]))) ll (.lst [])) tt (.tup [.str (dirW d), .ref ca, .ref ll])) R (.lst (vs5 ++ [.ref tt])) = H9 at x5
  clear w4 z4 y4 rca eRz eRy eRe ela eta nca1
  -- row 5
  obtain ⟨ve, eRe, _⟩ := x5.eR
  refine ⟨_, rfl, .inl ⟨rfl, _, SqL.of eRe⟩, _, rfl, 1, rfl, (by show 2 ≤ sizeLine; exact L9 (by decide)), fun ta nta => ⟨(by show 1 ≤ sizeLine; exact L9 (by decide)), fun la nla => ?_⟩⟩
  have y5 := (x5.same (same_upd (o := .tup [.int (-1), .str (Str.ofString "found")]) nta)).same (same_upd (o := .lst [.ref ta]) nla)
  have eta := same_upd (o := .lst [.ref ta]) nla _ _ (upd_same (H := H9) (a := ta) (o := .tup [.int (-1), .str (Str.ofString "found")]))
  have ela := upd_same (H := upd H9 ta (.tup [.int (-1), .str (Str.ofString "found")])) (a := la) (o := .lst [.ref ta])
  generalize upd (upd H9 ta (.tup [.int (-1), .str (Str.ofString "found")])) la (.lst [.ref ta]) = Hy at y5 eta ela
  refine ⟨_, rfl, la, S, _, _, rfl, rfl, ela, y5.eS, by rw [hil]; exact L9 (by show 1 + m ≤ 900; omega), fun ca nca => ?_⟩
  have z5 := y5.same (same_upd (o := .lst ([.ref ta] ++ items)) nca)
  have rca : RpA Hy ([.ref ta] ++ items) (([((-1 : Int), Str.ofString "found")] ++ ws).map pD) := by
    exact (RpA.cons (.t eta (.cons (.i _) (.cons (.s _) .nil))) y5.rS)
  obtain ⟨vy, eRy, _⟩ := y5.eR
  have nca1 : ca ≠ p ∧ ca ≠ R := ⟨(y5.tp.ne nca).symm, (ne_of_none eRy nca).symm⟩
  refine ⟨Nat.zero_le _, fun ll nll => ⟨(by show 3 ≤ sizeLine; exact L9 (by decide)), fun tt ntt => ?_⟩⟩
  have w5 := z5.same (same_upd (o := .lst []) nll)
  obtain ⟨vz, eRz, _⟩ := z5.eR
  obtain ⟨vs6, eR6, hvl6, x6⟩ := w5.add (z := dirW d) (sL := ca) (mL := ll) (ns2 := []) ntt (same_upd nll _ _ upd_same) ((rca.keep (.new nca)).keep (.new nll)) upd_same (by show ws.length + 1 ≤ 20; omega) (by decide) (bad_cons W (by show (-1 : Int) ≠ (m : Int); omega))
    ⟨nca1.1, (z5.tp.ne nll).symm⟩ ⟨nca1.2, (ne_of_none eRz nll).symm⟩
  refine ⟨R, vs6, _, rfl, rfl, eR6, small1000 (by omega), ?_⟩
  generalize upd (upd (upd (upd Hy ca (.lst ([.ref ta] ++ items))) ll (.lst [])) tt (.tup [.str (dirW d), .ref ca, .ref ll])) R (.lst (vs6 ++ [.ref tt])) = H10 at x6
  clear w5 z5 y5 rca eRz eRy eRe ela eta nca1
  refine ⟨_, rfl, _, _, rfl, rfl, _, rfl, ite2 (fun hc => ?_) (fun hc => ?_)⟩
  · have hm : 1 ≤ m := by
      have : (m : Int) > 0 := of_decide_eq_true hc
      omega
    refine ⟨_, rfl, _, rfl, p, m, rfl, x6.tp, hm, fun H11 at7 b11 t11 hat => ?_⟩
    have x6b := x6.but b11 t11
    have hxi : items[at7]? = some items[at7] := List.getElem?_eq_getElem (by omega)
    obtain ⟨dd, hdd, rdd⟩ := x6b.rS.get? hxi
    obtain ⟨w0, a0, hw0, ex, ha0⟩ := pd_of hdd rdd
    rw [ex] at hxi
    have cutl : cutV items none (some (at7 : Int)) = items.take at7 := cut_lo (by omega)
    have cuth : cutV items (some ((at7 : Int) + 1)) none = items.drop (at7 + 1) := cut_hi (j := at7 + 1) (by omega)
    obtain ⟨v6, eR6, _⟩ := x6b.eR
    -- row 7: a step's direction
    refine ⟨_, rfl, .inl ⟨rfl, _, SqL.of eR6⟩, _, rfl, _, rfl, _, rfl, _, rfl, S, _, rfl, SqL.of x6b.eS, fun s1 ns1 => ?_⟩
    have u1 := same_upd (o := .lst (cutV items none (some (at7 : Int)))) ns1
    refine ⟨_, rfl, _, rfl, S, items, _, _, rfl, rfl, SqL.of (u1 _ _ x6b.eS), atI_nat hxi, a0, _, 0, _, rfl, rfl, SqT.of (u1 _ _ ha0), atI_nat rfl, _, rfl, (by show 2 ≤ sizeLine; exact L9 (by decide)), fun t7 nt7 => ⟨(by show 1 ≤ sizeLine; exact L9 (by decide)), fun l7 nl7 => ?_⟩⟩
    have u2 := same_upd (o := .tup [.int w0.1, .str bw]) nt7
    have u3 := same_upd (o := .lst [.ref t7]) nl7
    have es1 := u3 _ _ (u2 _ _ (upd_same (H := H11) (a := s1) (o := .lst (cutV items none (some (at7 : Int))))))
    refine ⟨s1, l7, _, _, rfl, rfl, es1, upd_same, ?_, fun c7 nc7 => ?_⟩
    · rw [cutl, List.length_take]
      exact L9 (by show _ + 1 ≤ 900; omega)
    have u4 := same_upd (o := .lst (cutV items none (some (at7 : Int)) ++ [.ref t7])) nc7
    have et7 := u4 _ _ (u3 _ _ (upd_same (H := upd H11 s1 (.lst (cutV items none (some (at7 : Int))))) (a := t7) (o := .tup [.int w0.1, .str bw])))
    have ec7 := upd_same (H := upd (upd (upd H11 s1 (.lst (cutV items none (some (at7 : Int))))) t7 (.tup [.int w0.1, .str bw])) l7 (.lst [.ref t7])) (a := c7) (o := .lst (cutV items none (some (at7 : Int)) ++ [.ref t7]))
    have u := ((u1.trans u2).trans u3).trans u4
    generalize upd (upd (upd (upd H11 s1 (.lst (cutV items none (some (at7 : Int))))) t7 (.tup [.int w0.1, .str bw])) l7 (.lst [.ref t7])) c7 (.lst (cutV items none (some (at7 : Int)) ++ [.ref t7])) = H12 at u et7 ec7
    have x6c := x6b.same u
    refine ⟨_, rfl, _, rfl, _, _, rfl, rfl, _, rfl, S, _, rfl, SqL.of x6c.eS, fun s2 ns2 => ?_⟩
    have v1 := same_upd (o := .lst (cutV items (some ((at7 : Int) + 1)) none)) ns2
    refine ⟨c7, s2, _, _, rfl, rfl, v1 _ _ ec7, upd_same, ?_, fun c8 nc8 => ?_⟩
    · rw [cutl, cuth, List.length_append, List.length_take, List.length_drop]
      exact L9 (by show _ + 1 + _ ≤ 900; omega)
    have v2 := same_upd (o := .lst (cutV items none (some (at7 : Int)) ++ [.ref t7] ++ cutV items (some ((at7 : Int) + 1)) none)) nc8
    have x6d := (x6c.same v1).same v2
    have ec8 := upd_same (H := upd H12 s2 (.lst (cutV items (some ((at7 : Int) + 1)) none))) (a := c8) (o := .lst (cutV items none (some (at7 : Int)) ++ [.ref t7] ++ cutV items (some ((at7 : Int) + 1)) none))
    have et7' := v2 _ _ (v1 _ _ et7)
    have c8p : c8 ≠ p := ((x6c.same v1).tp.ne nc8).symm
    have c8R : c8 ≠ R := by
      obtain ⟨_, e, _⟩ := (x6c.same v1).eR
      exact (ne_of_none e nc8).symm
    rw [cutl, cuth] at x6d ec8 et7'
    rw [cutl, cuth]
    generalize upd (upd H12 s2 (.lst (items.drop (at7 + 1)))) c8 (.lst (items.take at7 ++ [.ref t7] ++ items.drop (at7 + 1))) = H13 at x6d ec8 et7'
    have rc8 : RpA H13 (items.take at7 ++ [.ref t7] ++ items.drop (at7 + 1)) ((ws.take at7 ++ [(w0.1, bw)] ++ ws.drop (at7 + 1)).map pD) := by
      rw [List.map_append, List.map_append, List.map_take, List.map_drop]
      exact ((x6d.rS.take at7).append (.cons (.t et7' (.cons (.i _) (.cons (.s _) .nil))) .nil)).append (x6d.rS.drop (at7 + 1))
    refine ⟨_, rfl, (by show 3 ≤ sizeLine; exact L9 (by decide)), fun tt ntt => ?_⟩
    obtain ⟨vs7, eR7, hvl7, x7⟩ := x6d.add (z := dirW d) (sL := c8) (mL := M) ntt ec8 rc8 x6d.eM (by rw [List.length_append, List.length_append, List.length_take, List.length_drop]; show _ + 1 + _ ≤ 20; omega) (by omega)
      (bad_dir (w := (w0.1, bw)) (List.mem_append.mpr (.inl (List.mem_append.mpr (.inr (List.mem_singleton.mpr rfl))))) hbw) ⟨c8p, x6d.pM⟩ ⟨c8R, x6d.RM⟩
    refine ⟨R, vs7, _, rfl, rfl, eR7, small1000 (by omega), ?_⟩
    generalize upd (upd H13 tt (.tup [.str (dirW d), .ref c8, .ref M])) R (.lst (vs7 ++ [.ref tt])) = H14 at x7
    clear x6d x6c et7' ec8 rc8 eR7
    have r0 : ∀ {n : Nat} {H' : Hp}, St H p S M R items ws ns n H' → Rp H' (.ref a0) (pD w0) := fun y => by
      obtain ⟨v, ev, rv⟩ := y.rS.get (j := at7) (d := pD w0) (by rw [List.getElem?_map, hw0]; rfl)
      rw [hxi] at ev
      rw [Option.some.inj ev]
      exact rv
    have w0m : w0.1 ≠ (m : Int) := fun e => by
      obtain ⟨j, hj, ej⟩ := W.mem.mp (List.mem_map.mpr ⟨w0, List.mem_of_getElem? hw0, rfl⟩)
      have e1 : w0.1 = (j : Int) := ej
      omega
    -- row 8: a step twice
    obtain ⟨va, eRa, _⟩ := x7.eR
    refine ⟨_, rfl, .inl ⟨rfl, _, SqL.of eRa⟩, _, rfl, _, rfl, _, rfl, _, rfl, S, items, _, _, rfl, rfl, SqL.of x7.eS, atI_nat hxi, (by show 1 ≤ sizeLine; exact L9 (by decide)), fun l8 nl8 => ?_⟩
    have x7a := x7.same (same_upd (o := .lst [.ref a0]) nl8)
    refine ⟨S, l8, _, _, rfl, rfl, x7a.eS, upd_same, by rw [hil]; exact L9 (by show m + 1 ≤ 900; omega), fun c9 nc9 => ?_⟩
    have x7b := x7a.same (same_upd (o := .lst (items ++ [.ref a0])) nc9)
    have c9p : c9 ≠ p := (x7a.tp.ne nc9).symm
    have c9R : c9 ≠ R := by
      obtain ⟨_, e, _⟩ := x7a.eR
      exact (ne_of_none e nc9).symm
    refine ⟨_, rfl, (by show 3 ≤ sizeLine; exact L9 (by decide)), fun tt ntt => ?_⟩
    obtain ⟨vs8, eR8, hvl8, x8⟩ := x7b.add (z := dirW d) (sL := c9) (mL := M) (ws2 := ws ++ [w0]) ntt upd_same (by rw [List.map_append]; exact x7b.rS.snoc (r0 x7b)) x7b.eM (by rw [List.length_append, hwl]; show m + 1 ≤ 20; omega) (by omega) (bad_snoc W w0m) ⟨c9p, x7b.pM⟩ ⟨c9R, x7b.RM⟩
    refine ⟨R, vs8, _, rfl, rfl, eR8, small1000 (by omega), ?_⟩
    generalize upd (upd (upd (upd H14 l8 (.lst [.ref a0])) c9 (.lst (items ++ [.ref a0]))) tt (.tup [.str (dirW d), .ref c9, .ref M])) R (.lst (vs8 ++ [.ref tt])) = H15 at x8
    clear x7b x7a eR8
    -- row 9: a noted place twice
    obtain ⟨vb, eRb, _⟩ := x8.eR
    refine ⟨_, rfl, .inl ⟨rfl, _, SqL.of eRb⟩, _, rfl, _, rfl, _, rfl, (by show 1 ≤ sizeLine; exact L9 (by decide)), fun la nla => ?_⟩
    have x8a := x8.same (same_upd (o := .lst [.int (at7 : Int)]) nla)
    have ela := upd_same (H := H15) (a := la) (o := .lst [.int (at7 : Int)])
    generalize upd H15 la (.lst [.int (at7 : Int)]) = H16 at x8a ela
    refine ⟨_, rfl, M, rfl, ⟨_, SqL.of x8a.eM⟩, fun D nD => ?_⟩
    refine lc_list (K := K) (a := M) (xs := ns.map V.int) (fun i H' => Same H16 H' ∧ H' D = some (.lst (((ns.take i).filter fun k => !decide (V.int k = V.int (at7 : Int))).map V.int)))
      ⟨same_upd nD, upd_same⟩ (fun i H' _ hW => SqL.of (hW.1 _ _ x8a.eM)) (fun i x H' hx hW => ?_) (fun H17 hW => ?_)
    · obtain ⟨sm, eD⟩ := hW
      rw [List.getElem?_map] at hx
      cases e : ns[i]? with
      | none =>
        rw [e] at hx
        cases hx
      | some k =>
        rw [e] at hx
        have e3 : V.int k = x := Option.some.inj hx
        subst e3
        have one : ([k].filter fun k => !decide (V.int k = V.int (at7 : Int))) = if (!decide (V.int k = V.int (at7 : Int))) = true then [k] else [] := by
          rw [List.filter_cons]
          rfl
        refine ⟨rfl, ?_⟩
        refine ⟨_, rfl, _, rfl, rfl, _, rfl, ite2 (fun hv => ?_) (fun hv => ?_)⟩
        · refine ⟨_, rfl, _, eD, ?_, fun b' o e => ?_, ?_⟩
          · have h1 := List.length_filter_le (fun k => !decide (V.int k = V.int (at7 : Int))) (ns.take i)
            rw [List.length_take] at h1
            rw [List.length_map]
            exact small1000 (by omega)
          · rw [upd_ne (ne_of_none e nD)]
            exact sm _ _ e
          · rw [upd_same, List.take_add_one, e, List.filter_append, List.map_append]
            show _ = some (HO.lst (_ ++ List.map V.int ([k].filter _)))
            rw [one, if_pos hv]
            rfl
        · refine ⟨sm, ?_⟩
          rw [eD, List.take_add_one, e, List.filter_append, List.map_append]
          show _ = some (HO.lst (_ ++ List.map V.int ([k].filter _)))
          rw [one, if_neg hv, List.map_nil, List.append_nil]
    obtain ⟨sm1617, eD⟩ := hW
    rw [List.length_map, List.take_of_length_le (Nat.le_refl _)] at eD
    have x8b := x8a.same sm1617
    have hfl := List.length_filter_le (fun k => !decide (V.int k = V.int (at7 : Int))) ns
    have hdup := bad_dup (z := dirW d) W hat (f := fun k => !decide (V.int k = V.int (at7 : Int))) (fun k hk e => by
      rw [e, decide_eq_true rfl] at hk
      cases hk)
    generalize (ns.filter fun k => !decide (V.int k = V.int (at7 : Int))) = nf at eD hfl hdup
    refine ⟨la, D, _, _, rfl, rfl, sm1617 _ _ ela, eD, ?_, fun c1 nc1 => ?_⟩
    · rw [List.length_map]
      exact L9 (by show 1 + _ ≤ 900; omega)
    have x8c := x8b.same (same_upd (o := .lst ([V.int (at7 : Int)] ++ nf.map V.int)) nc1)
    have ec1 := upd_same (H := H17) (a := c1) (o := .lst ([V.int (at7 : Int)] ++ nf.map V.int))
    generalize upd H17 c1 (.lst ([V.int (at7 : Int)] ++ nf.map V.int)) = H18 at x8c ec1
    refine ⟨_, rfl, (by show 1 ≤ sizeLine; exact L9 (by decide)), fun l2 nl2 => ?_⟩
    have x8d := x8c.same (same_upd (o := .lst [.int (at7 : Int)]) nl2)
    refine ⟨c1, l2, _, _, rfl, rfl, same_upd nl2 _ _ ec1, upd_same, ?_, fun c2 nc2 => ?_⟩
    · rw [List.length_append, List.length_map]
      exact L9 (by show 1 + _ + 1 ≤ 900; omega)
    have x8e := x8d.same (same_upd (o := .lst (([V.int (at7 : Int)] ++ nf.map V.int) ++ [V.int (at7 : Int)])) nc2)
    have c2p : c2 ≠ p := (x8d.tp.ne nc2).symm
    have c2R : c2 ≠ R := by
      obtain ⟨_, e, _⟩ := x8d.eR
      exact (ne_of_none e nc2).symm
    refine ⟨(by show 3 ≤ sizeLine; exact L9 (by decide)), fun tt ntt => ?_⟩
    obtain ⟨vs9, eR9, hvl9, x9⟩ := x8e.add (z := dirW d) (sL := S) (mL := c2) (ns2 := ([(at7 : Int)] ++ nf) ++ [(at7 : Int)]) ntt x8e.eS x8e.rS (by rw [List.map_append, List.map_append]; exact upd_same) (by omega) (by rw [List.length_append, List.length_append]; show 1 + _ + 1 ≤ 20; omega) hdup ⟨x8e.pS, c2p⟩ ⟨x8e.RS, c2R⟩
    refine ⟨R, vs9, _, rfl, rfl, eR9, small1000 (by omega), ?_⟩
    generalize upd (upd (upd (upd H18 l2 (.lst [.int (at7 : Int)])) c2 (.lst (([V.int (at7 : Int)] ++ nf.map V.int) ++ [V.int (at7 : Int)]))) tt (.tup [.str (dirW d), .ref S, .ref c2])) R (.lst (vs9 ++ [.ref tt])) = H19 at x9
    clear x8e x8d x8c x8b x8a eR9
    -- the least place
    obtain ⟨w00, rest, jl, efl, hw00, hjl, hjm, hno⟩ := least_at W (by omega)
    refine ⟨_, rfl, .inl ⟨rfl, _, SqL.of x9.eS⟩, _, rfl, S, rfl, ⟨_, SqL.of x9.eS⟩, fun D nD => ?_⟩
    refine lc_list (K := K) (a := S) (xs := items) (fun i H' => Same H19 H' ∧ H' D = some (.lst (((ws.take i).filter z0).map fun w => V.str w.2)))
      ⟨same_upd nD, upd_same⟩ (fun i H' _ hW => SqL.of (hW.1 _ _ x9.eS)) (fun i x H' hx hW => ?_) (fun H20 hW => ?_)
    · obtain ⟨sm, eD⟩ := hW
      obtain ⟨d1, hd1, rd1⟩ := x9.rS.get? hx
      obtain ⟨w1, a1, hw1, rfl, ha1⟩ := pd_of hd1 (rd1.keep (.same sm))
      have one : [w1].filter z0 = if z0 w1 = true then [w1] else [] := by
        rw [List.filter_cons]
        rfl
      refine ⟨rfl, ?_⟩
      refine ⟨_, rfl, a1, _, 0, _, rfl, rfl, SqT.of ha1, atI_nat rfl, rfl, _, rfl, ite2 (fun hv => ?_) (fun hv => ?_)⟩
      · have hv' : z0 w1 = true := hv
        refine ⟨_, rfl, a1, _, 1, _, rfl, rfl, SqT.of ha1, atI_nat (j := 1) rfl, _, eD, ?_, fun b' o e => ?_, ?_⟩
        · have h1 := List.length_filter_le z0 (ws.take i)
          rw [List.length_take] at h1
          rw [List.length_map]
          exact small1000 (by omega)
        · rw [upd_ne (ne_of_none e nD)]
          exact sm _ _ e
        · rw [upd_same, List.take_add_one, hw1, List.filter_append, List.map_append]
          show _ = some (HO.lst (_ ++ List.map (fun w : Int × Str => V.str w.2) ([w1].filter z0)))
          rw [one, if_pos hv']
          rfl
      · have hv' : ¬ z0 w1 = true := hv
        refine ⟨sm, ?_⟩
        rw [eD, List.take_add_one, hw1, List.filter_append, List.map_append]
        show _ = some (HO.lst (_ ++ List.map (fun w : Int × Str => V.str w.2) ([w1].filter z0)))
        rw [one, if_neg hv', List.map_nil, List.append_nil]
    obtain ⟨sm20, eD⟩ := hW
    rw [List.take_of_length_le (by omega), efl] at eD
    have x9a := x9.same sm20
    refine ⟨D, _, _, _, rfl, rfl, SqL.of eD, atI_nat (j := 0) rfl, (by show 2 ≤ sizeLine; exact L9 (by decide)), fun ty nty => ?_⟩
    have x9b := x9a.same (same_upd (o := .tup [.int 0, .str w00.2]) nty)
    have ety := upd_same (H := H20) (a := ty) (o := .tup [.int 0, .str w00.2])
    have rty : Rp (upd H20 ty (.tup [.int 0, .str w00.2])) (.ref ty) (pD w00) := by
      refine .t ety ?_
      rw [hw00]
      exact .cons (.i _) (.cons (.s _) .nil)
    have lw : lay (pD w00) = true := by
      have hd0 := W.dir w00 (List.mem_of_getElem? hjl)
      have := lay_steps (l := [w00]) (fun x hx => by rw [List.mem_singleton.mp hx]; exact hd0)
      have h2 : (lay (pD w00) && true) = true := this
      rwa [Bool.and_true] at h2
    have dw : dep (pD w00) ≤ 60 := by
      show 1 + max 0 (max 0 0) ≤ 60
      omega
    refine ⟨S, .ref ty, toPy (pD w00), toPys (ws.map pD), jl, toPy (pD w00), rfl, rfl, .lst (SqL.of x9b.eS) (RpA.dp x9b.rS), Rp.dp rty, shaped_steps W.dir, shaped_toPy lw dw, ?_, eqv_toPy lw, fun i z' hi ez => ?_, ?_⟩
    · rw [toPys_map, List.getElem?_map, List.getElem?_map, hjl]
      rfl
    · rw [toPys_map, List.getElem?_map, List.getElem?_map] at ez
      cases e : ws[i]? with
      | none =>
        rw [e] at ez
        cases ez
      | some v =>
        rw [e] at ez
        have e3 : toPy (pD v) = z' := Option.some.inj ez
        rw [← e3]
        refine eqv_pD ?_
        rw [hw00]
        exact hno i v hi e
    generalize upd H20 ty (.tup [.int 0, .str w00.2]) = H21 at x9b
    refine ⟨_, rfl, _, _, rfl, rfl, _, rfl, ite2 (fun hc1 => ?_) (fun hc1 => ?_)⟩
    · have hm1 : 1 < m := by
        have : (m : Int) > 1 := of_decide_eq_true hc1
        omega
      have cutl : cutV items none (some (jl : Int)) = items.take jl := cut_lo (by omega)
      have cuth : cutV items (some ((jl : Int) + 1)) none = items.drop (jl + 1) := cut_hi (j := jl + 1) (by omega)
      obtain ⟨vc, eRc, _⟩ := x9b.eR
      refine ⟨_, rfl, .inl ⟨rfl, _, SqL.of eRc⟩, _, rfl, _, rfl, _, rfl, _, rfl, S, _, rfl, SqL.of x9b.eS, fun s1 ns1 => ?_⟩
      have x9c := x9b.same (same_upd (o := .lst (cutV items none (some (jl : Int)))) ns1)
      refine ⟨_, rfl, _, rfl, _, _, rfl, rfl, _, rfl, S, _, rfl, SqL.of x9c.eS, fun s2 ns2 => ?_⟩
      have u2 := same_upd (o := .lst (cutV items (some ((jl : Int) + 1)) none)) ns2
      have x9d := x9c.same u2
      refine ⟨s1, s2, _, _, rfl, rfl, u2 _ _ upd_same, upd_same, ?_, fun c nc => ?_⟩
      · rw [cutl, cuth, List.length_take, List.length_drop]
        exact L9 (by omega)
      have u3 := same_upd (o := .lst (cutV items none (some (jl : Int)) ++ cutV items (some ((jl : Int) + 1)) none)) nc
      have x9e := x9d.same u3
      have cp : c ≠ p := (x9d.tp.ne nc).symm
      have cR : c ≠ R := by
        obtain ⟨_, e, _⟩ := x9d.eR
        exact (ne_of_none e nc).symm
      have ec := upd_same (H := upd (upd H21 s1 (.lst (cutV items none (some (jl : Int))))) s2 (.lst (cutV items (some ((jl : Int) + 1)) none))) (a := c) (o := .lst (cutV items none (some (jl : Int)) ++ cutV items (some ((jl : Int) + 1)) none))
      generalize upd (upd (upd H21 s1 (.lst (cutV items none (some (jl : Int))))) s2 (.lst (cutV items (some ((jl : Int) + 1)) none))) c (.lst (cutV items none (some (jl : Int)) ++ cutV items (some ((jl : Int) + 1)) none)) = H22 at x9e ec
      refine ⟨Nat.zero_le _, fun ll nll => ⟨(by show 3 ≤ sizeLine; exact L9 (by decide)), fun tt ntt => ?_⟩⟩
      have x9f := x9e.same (same_upd (o := .lst []) nll)
      have lp : ll ≠ p := (x9e.tp.ne nll).symm
      have lR : ll ≠ R := by
        obtain ⟨_, e, _⟩ := x9e.eR
        exact (ne_of_none e nll).symm
      rw [cutl, cuth] at ec
      have rc : RpA H22 (items.take jl ++ items.drop (jl + 1)) ((ws.take jl ++ ws.drop (jl + 1)).map pD) := by
        rw [List.map_append, List.map_take, List.map_drop]
        exact (x9e.rS.take jl).append (x9e.rS.drop (jl + 1))
      obtain ⟨vs10, eR10, hvl10, x10⟩ := x9f.add (z := dirW d) (sL := c) (mL := ll) (ns2 := []) ntt (same_upd nll _ _ ec) (rc.keep (.new nll)) upd_same (by rw [List.length_append, List.length_take, List.length_drop]; omega) (by decide) (bad_gone W hm1 hjl hw00) ⟨cp, lp⟩ ⟨cR, lR⟩
      refine ⟨R, vs10, _, rfl, rfl, eR10, small1000 (by omega), ?_⟩
      exact ⟨_, rfl, q _ R 10 x10.b x10.pR x10.k (by decide) x10.tp⟩
    · exact ⟨_, rfl, q _ R 9 x9b.b x9b.pR x9b.k (by decide) x9b.tp⟩
  · exact ⟨_, rfl, q H10 R 6 x6.b x6.pR x6.k (by decide) x6.tp⟩
end
end KN
set_option Elab.async false
set_option linter.all false
set_option maxRecDepth 100000
set_option maxHeartbeats 400000
namespace KN
open PySem PySem.Spec PyProof.Rows L2
section
variable {CX : CXT} {P : Program} {w : World} {K : PySem.W.Frag} {mg : Str → Option Value} {base : Heap} {k : Nat} {f : Addr}
theorem vals_snoc : ∀ {vs : List V} {us : List Value} {y : V} {u : Value}, Vals vs us → RelV y u → Vals (vs ++ [y]) (us ++ [u])
  | _, _, _, _, .nil, h => .cons h .nil
  | _, _, _, _, .cons h a, h2 => .cons h (vals_snoc a h2)
/-- a def with keyword-only parameters, the last of them left out -/
theorem kw_def {fd : FuncData} {ps ks : List Str} {sp : Sp} {y : V} {u : Value} (F : FnOk P w K mg base CX k f fd ps sp) (ry : RelV y u) (hl : ps.length = ks.length + 1)
    (hb : ∀ (s : Shared) (ws : List Value), K.In s.heap → ws.length = ks.length → BindsTo s fd ⟨[], ks.zip ws⟩ (ps.zip (ws ++ [u]))) :
    StX.FnKw P w K mg base CX k f ks (fun zs vs H Q E => vs = [] ∧ sp (zs ++ [y]) H Q E) := by
  intro A outer s H us ws vs zs Q E hr e0 r rz h
  obtain ⟨rfl, h⟩ := h
  cases r
  have hlen := F.len _ _ _ _ h
  rw [List.length_append] at hlen
  have h1 : zs.length = ks.length := by
    have : [y].length = 1 := rfl
    omega
  exact F.run A outer s H ⟨[], ks.zip ws⟩ (ws ++ [u]) (zs ++ [y]) Q E hr e0 (hb s ws (fun a o ho => (e0.bs a o (e0.mod.kin a o ho)).1) (by rw [← rz.length]; exact h1)) (vals_snoc rz ry) h
end
theorem way_binds {K : PySem.W.Frag} {D : Addr} {u : Value} {dc pm cd ct : Value} {an : Option Addr} (hq : PySem.W.nsIn K D "noted" = some (some u)) (s : Shared) (ws : List Value) (X : K.In s.heap) (hl : ws.length = ["whole", "places"].length) :
    BindsTo s (PySem.W.fnOf "way" "way" (defArgs sWay) (defBody sWay) (defScope sWay) .none (.ref D) dc pm an cd ct) ⟨[], (["whole", "places"] : List Str).zip ws⟩ ((["whole", "places", "noted"] : List Str).zip (ws ++ [u])) := by
  match ws, hl with
  | [a, b], _ =>
    refine BindsTo.of_looks fun M => KwChain.looks (D := D) (l := [("noted", u)]) X (fun q hm => by rw [List.mem_singleton.mp hm]; exact hq) ?_
    exact ⟨_, _, _, _, _, _, rfl, rfl, rfl⟩
end KN
set_option Elab.async false
set_option linter.all false
set_option maxRecDepth 100000
set_option maxHeartbeats 1000000
namespace KN
open PySem PySem.Spec PyProof.Rows L2
theorem way_good {m : Nat} {ws : List (Int × Str)} {ns : List Int} (W : Wz m ws ns) (d : Bool) : wayB (dirW d) ws ns = true := by
  have h1 : (ws.all fun (w : Int × Str) => dirB w.2) = true := by
    rw [List.all_eq_true]
    intro x hx
    obtain ⟨e, h⟩ := W.dir x hx
    rw [h]
    exact dirW_ok e
  have h2 : (List.range ws.length).all (cnt1 (ws.map (·.1))) = true := by
    rw [List.all_eq_true]
    intro k hk
    have hk' := List.mem_range.mp hk
    rw [W.len] at hk'
    refine decide_eq_true ?_
    have h3 : (ws.map (·.1)).count (k : Int) = ((List.range m).map iV').count (k : Int) := W.pm.count_eq _
    rw [h3]
    have m3 := W.m3
    have : ∀ m : Fin 4, ∀ k : Fin 3, k.val < m.val → ((List.range m.val).map iV').count (k.val : Int) = 1 := by decide +kernel
    rw [this ⟨m, by omega⟩ ⟨k, by omega⟩ hk']
    rfl
  have h4 : (asc (ws.map (·.1)) ns).length = ns.length := (asc_perm (l := ws.map (·.1)) W.nd (by rw [W.ll]; exact W.n)).length_eq
  unfold wayB
  rw [dirW_ok, h1, h2, decide_eq_true (show ws.length ≤ 3 by rw [W.len]; exact W.m3), decide_eq_true h4]
  rfl
theorem Wz.nil {m : Nat} {ws : List (Int × Str)} {ns : List Int} (W : Wz m ws ns) : Wz m ws [] := ⟨W.m3, W.len, W.pm, W.dir, List.nodup_nil, fun k hk => nomatch hk⟩
theorem asc_nil (l : List Int) : asc l [] = [] := by
  unfold asc
  refine List.filter_eq_nil_iff.mpr fun k _ h => ?_
  exact absurd (in_iff.mp h) (List.not_mem_nil)
theorem wz_of {m : Nat} {ps qs ms : List Nat} {ds : List Bool} (hm : m ≤ 3) (hp : ps.Perm (List.range m)) (hd : ds.length = ps.length) (hq : qs.Perm (List.range m)) (hs : ms.Sublist qs) : Wz m ((ps.zip ds).map fun x => ((x.1 : Int), dirW x.2)) (ms.map iV') := by
  have hl : ps.length = m := by
    have := hp.length_eq
    rwa [List.length_range] at this
  have e1 : ((ps.zip ds).map fun x => ((x.1 : Int), dirW x.2)).map (·.1) = ps.map iV' := by
    rw [List.map_map]
    have : (ps.zip ds).map (fun x => x.1) = ps := List.map_fst_zip (by omega)
    conv => rhs; rw [← this]
    rw [List.map_map]
    rfl
  refine ⟨hm, ?_, ?_, fun x hx => ?_, ?_, fun k hk => ?_⟩
  · rw [List.length_map, List.length_zip]
    omega
  · rw [e1]
    exact hp.map _
  · obtain ⟨y, hy, rfl⟩ := List.mem_map.mp hx
    exact ⟨y.2, rfl⟩
  · rw [List.nodup_iff_pairwise_ne, List.pairwise_map]
    refine (List.nodup_iff_pairwise_ne.mp ((hq.nodup_iff.mpr List.nodup_range).sublist hs)).imp fun {a b} h e => h ?_
    have e' : (a : Int) = (b : Int) := e
    omega
  · obtain ⟨j, hj, rfl⟩ := List.mem_map.mp hk
    have := List.mem_range.mp (hq.mem_iff.mp (hs.subset hj))
    show 0 ≤ (j : Int) ∧ (j : Int) < (m : Int)
    omega
/-- a made way is data -/
theorem made_ok {m : Nat} {ws : List (Int × Str)} {ns : List Int} (W : Wz m ws ns) (d : Bool) (l : List Int) : lay (.t [.s (dirW d), .t (ws.map pD), .t (l.map Fd.i)]) = true ∧ dep (.t [.s (dirW d), .t (ws.map pD), .t (l.map Fd.i)]) ≤ 60 := by
  constructor
  · show (PyData.strOk (dirW d) && (lays (ws.map pD) && (lays (l.map Fd.i) && true))) = true
    rw [lay_steps W.dir, lay_ints]
    cases d <;> decide +kernel
  · have := dep_steps ws
    show 1 + max 0 (max (1 + deps (ws.map pD)) (max (1 + deps (l.map Fd.i)) 0)) ≤ 60
    rw [dep_ints]
    omega
/-- the two lists that were passed -/
abbrev twoD (ws : List (Int × Str)) (ns : List Int) : PyData := .list [.list (toPys (ws.map pD)), .list (toPys (ns.map Fd.i))]
theorem two_lay {m : Nat} {ws : List (Int × Str)} {ns : List Int} (W : Wz m ws ns) : (twoD ws ns).canLay0 = true := by
  simp only [PyData.canLay0, PyData.canLayAll0]
  rw [canLay_toPys _ (lay_steps W.dir), canLay_toPys _ (lay_ints ns)]
  rfl
theorem two_shaped {m : Nat} {ws : List (Int × Str)} {ns : List Int} (W : Wz m ws ns) : SeqAt.shaped (twoD ws ns) = true := by
  have h1 := depth_toPys (ws.map pD)
  have h2 := dep_steps ws
  have h3 := depth_toPys (ns.map Fd.i)
  have h4 := dep_ints ns
  have h5 : (twoD ws ns).depth ≤ 64 := by
    simp only [PyData.depth, PyData.depthAll]
    omega
  show ((twoD ws ns).canLay0 && decide ((twoD ws ns).depth ≤ 64)) = true
  rw [two_lay W, decide_eq_true h5]
  rfl
theorem two_dp {K : PySem.W.Frag} {H : Hp} {L a b : Addr} {vs : List V} {ws : List (Int × Str)} {ns : List Int} (eL : H L = some (.lst [.ref a, .ref b])) (ea : H a = some (.lst vs)) (ra : RpA H vs (ws.map pD)) (eb : H b = some (.lst (ns.map V.int))) : Dp K H (.ref L) (twoD ws ns) :=
  .lst (SqL.of eL) (.cons (.lst (SqL.of ea) (RpA.dp ra)) (.cons (.lst (SqL.of eb) (RpA.dp (rp_ints H ns))) .nil))
end KN
set_option Elab.async false
set_option linter.all false
set_option maxRecDepth 100000
set_option maxHeartbeats 2000000
namespace KN
open PySem PySem.Spec PyProof.Rows L2
structure Txt (P : Program) (w : World) (K : PySem.W.Frag) (mg : Str → Option Value) (base : Heap) (fTp fT fS fW fR fF T0 CW : Addr) (fdTp fdT fdS fdR fdF : FuncData) : Prop where
  GTp : FnOk P w K mg base CX0 2 fTp fdTp ["_law_script", "_law_k", "_law_size"] (spTape K)
  gTp : mg "_law_tape" = some (.ref fTp)
  kTp : PySem.W.keepIn K (.ref fTp) = true
  bTp : Binds K fdTp ["_law_script", "_law_k", "_law_size"] []
  GT : FnOk P w K mg base CX0 1 fT fdT ["_law_tape_here", "_law_many"] spTake
  gT : mg "_law_take" = some (.ref fT)
  kT : PySem.W.keepIn K (.ref fT) = true
  bT : Binds K fdT ["_law_tape_here", "_law_many"] []
  GS : FnOk P w K mg base CX0 2 fS fdS ["_law_tape_here", "_law_many"] spS
  gS : mg "_law_shuffled" = some (.ref fS)
  kS : PySem.W.keepIn K (.ref fS) = true
  bS : Binds K fdS ["_law_tape_here", "_law_many"] []
  GW : StX.FnKw P w K mg base (L2.CX P w) 1 fW ["whole", "places", "noted"] (fun zs vs H Q E => vs = [] ∧ spWay K CW zs H Q E)
  GD : StX.FnKw P w K mg base (L2.CX P w) 1 fW ["whole", "places"] (fun zs vs H Q E => vs = [] ∧ spWay K CW (zs ++ [.ref T0]) H Q E)
  gW : mg "way" = some (.ref fW)
  kW : PySem.W.keepIn K (.ref fW) = true
  hT : ∀ H, SqT K H T0 []
  GR : FnOk P w K mg base CX0 2 fR fdR ["_law_head", "_law_steps", "_law_marked"] (spRef K)
  gR : mg "_law_refused" = some (.ref fR)
  kR : PySem.W.keepIn K (.ref fR) = true
  bR : Binds K fdR ["_law_head", "_law_steps", "_law_marked"] []
  GF : FnOk P w K mg base CX0 2 fF fdF ["_law_tape_here", "_law_head", "_law_steps", "_law_marked"] spF
  gF : mg "_law_faults" = some (.ref fF)
  kF : PySem.W.keepIn K (.ref fF) = true
  bF : Binds K fdF ["_law_tape_here", "_law_head", "_law_steps", "_law_marked"] []
  mr : mg "range" = none
  mt : mg "tuple" = none
  mL : mg "list" = none
  mI : mg "isinstance" = none
section
variable {P : Program} {w : World} {K : PySem.W.Frag} {mg : Str → Option Value} {base : Heap} {fTp fT fS fW fR fF T0 CW : Addr} {fdTp fdT fdS fdR fdF : FuncData}
abbrev NL : List Str := ["_law_script", "_law_tape_here", "_law_head", "_law_many", "_law_k", "_law_steps", "_law_marked", "_law_due", "_law_passed", "_law_made", "_law_row"]
theorem scL : FnScope NL ["_law_script"] (defScope sLaw) := ⟨rfl, rfl, rfl, by decide +kernel, rfl, by decide +kernel, by decide +kernel⟩
def spLaw (K : PySem.W.Frag) : Sp := fun vs H Q _ => ∃ (a : Addr) (ns : List Int), vs = [.ref a] ∧ SqL K H a (ns.map V.int) ∧ ns.length ≤ 63 ∧ ∀ H', Q (.bl true) H'
theorem dir_at {r : Nat} (h : r < 2) : [V.str (Str.ofString "told"), V.str (Str.ofString "found")][r]? = some (.str (dirW (decide (r = 0)))) := by
  match r, h with
  | 0, _ => rfl
  | 1, _ => rfl
abbrev wI (x : Nat × Bool) : Int × Str := ((x.1 : Int), dirW x.2)
theorem zip_snoc {α β : Type} {l : List α} {r : List β} {a : α} {b : β} (h : l.length = r.length) : (l ++ [a]).zip (r ++ [b]) = l.zip r ++ [(a, b)] := by
  rw [List.zip_append h]
  rfl
theorem ok_law {f : Addr} {fd : FuncData} (F : Fun K "law" "law" sLaw f fd) (T : Txt P w K mg base fTp fT fS fW fR fF T0 CW fdTp fdT fdS fdR fdF) : FnOk P w K mg base CX0 3 f fd ["_law_script"] (spLaw K) := by
  refine F.ok scL (fun vs H Q E h => ?_) (fun cdv A outer s H vs Q E hr h => ?_)
  · obtain ⟨a, ns, rfl, _⟩ := h
    rfl
  obtain ⟨a, script, rfl, hS, hlen, q⟩ := h
  have hr1 : Room 1 _ := hr.mono (by decide)
  refine ⟨_, pss_cons (ps_set (i := 1) scL.nd rfl (.inr rfl) (pe_call T.GTp hr (by rfl) T.gTp T.kTp T.bTp .nil pass0 (pa_cons (pv 0) (pa_cons pe_int (pa_cons pe_int pa_nil)))))
    (pss_cons (ps_set (i := 2) scL.nd rfl (.inl rfl) (pe_ix ix_list (pe_lst (pa_cons pe_str (pa_cons pe_str pa_nil))) (pe_call T.GT hr1 (by rfl) T.gT T.kT T.bT .nil pass0 (pa_cons (pv 1) (pa_cons pe_int pa_nil))) (fun _ _ => rfl)))
    (pss_cons (ps_set (i := 3) scL.nd rfl (.inl rfl) (pe_call T.GT hr1 (by rfl) T.gT T.kT T.bT .nil pass0 (pa_cons (pv 1) (pa_cons pe_int pa_nil))))
    (pss_cons (ps_setLc (i := 5) (own := [("_law_k", 4)]) (g := gName 4) (tt := tYes) (te := tTup (tCons (tVar 4) (tCons (tOp (rIxL K) (tLst (tCons (tC (.str (Str.ofString "told"))) (tCons (tC (.str (Str.ofString "found"))) tNil))) (tCall spTake [] E0 (tCons (tVar 1) (tCons (tC (.int 2)) tNil)))) tNil)))
      (by rfl) scL.nd rfl rfl (sw_true rfl rfl rfl (by decide +kernel)) (pi_list (pe_call T.GS hr (by rfl) T.gS T.kS T.bS .nil pass0 (pa_cons (pv 1) (pa_cons (pv 3) pa_nil))))
      (blkOk_by (own := [("_law_k", 4)]) (N := NL) (sc := defScope sLaw) (by decide +kernel)) (fun _ _ _ _ _ => pg_name (i := 4) scL.nd rfl (Or.inl rfl)) (fun _ _ _ _ _ => pts_nil)
      (fun _ _ _ _ _ => pe_tup (pa_cons (pv 4) (pa_cons (pe_ix ix_list (pe_lst (pa_cons pe_str (pa_cons pe_str pa_nil))) (pe_call T.GT hr1 (by rfl) T.gT T.kT T.bT .nil pass0 (pa_cons (pv 1) (pa_cons pe_int pa_nil))) (fun _ _ => rfl)) pa_nil))))
    (pss_cons (ps_set (i := 6) scL.nd rfl (.inr rfl) (pe_lc (own := [("_law_k", 4)]) (g := gName 4) (tt := tTest (tOp rEq (tCall spTake [] E0 (tCons (tVar 1) (tCons (tC (.int 2)) tNil))) (tC (.int 1)))) (te := tVar 4)
      (by rfl) scL.nd (pi_list (pe_call T.GS hr (by rfl) T.gS T.kS T.bS .nil pass0 (pa_cons (pv 1) (pa_cons (pv 3) pa_nil))))
      (blkOk_by (own := [("_law_k", 4)]) (N := NL) (sc := defScope sLaw) (by decide +kernel)) (fun _ _ _ _ _ => pg_name (i := 4) scL.nd rfl (Or.inl rfl))
      (fun _ _ _ _ _ => pts_one (pt_cmpR op_eq (pe_call T.GT hr1 (by rfl) T.gT T.kT T.bT .nil pass0 (pa_cons (pv 1) (pa_cons pe_int pa_nil))) pe_int (nomark _))) (fun _ _ _ _ _ => pv 4)))
    (pss_cons (ps_set (i := 7) scL.nd rfl (.inl rfl) (pe_tup (pa_cons (pv 2) (pa_cons (pe_callTy call_tuple_of (by rfl) T.mt (by decide +kernel) (pa_cons (pv 5) pa_nil)) (pa_cons (pe_callTy call_tuple_of (by rfl) T.mt (by decide +kernel) (pa_cons
        (pe_lc (own := [("_law_k", 4)]) (g := gName 4) (tt := tTest (tOp (rIn K false) (tVar 4) (tVar 6))) (te := tVar 4) (by rfl) scL.nd (pi_range1 (by rfl) T.mr (pa_cons (pv 3) pa_nil)) (blkOk_by (own := [("_law_k", 4)]) (N := NL) (sc := defScope sLaw) (by decide +kernel))
          (fun _ _ _ _ _ => pg_name (i := 4) scL.nd rfl (Or.inl rfl)) (fun _ _ _ _ _ => pts_one (pt_cmpR op_in_seq (pv 4) (pv 6) (by rfl))) (fun _ _ _ _ _ => pv 4)) pa_nil)) pa_nil)))))
    (pss_cons (ps_set (i := 8) scL.nd rfl (.inl rfl) (pe_lst (pa_cons (pe_callTy call_list_of (by rfl) T.mL (by decide +kernel) (pa_cons (pv 5) pa_nil)) (pa_cons (pe_callTy call_list_of (by rfl) T.mL (by decide +kernel) (pa_cons (pv 6) pa_nil)) pa_nil))))
    (pss_cons (ps_set (i := 9) scL.nd rfl (.inl rfl) (StX.pe_kw0 T.GW hr1 (by rfl) T.gW T.kW passL (pk_cons (pv 2) (pk_cons (pe_ix ix_list (pv 8) pe_int (fun _ _ => rfl)) (pk_cons (pe_ix ix_list (pv 8) pe_int (fun _ _ => rfl)) pk_nil)))))
    (pss_cons (ps_if (PW.pt (pw_or (pt_not (pt_val (pe_callB call_isi (by rfl) T.mI (by decide +kernel) (pa_cons (pv 9) (pa_cons (pe_bltn (v := .ty "tuple") (by rfl) T.mt (by decide +kernel) rfl) pa_nil)))))
      (pw_or (pt_cmpR (op_neD hr.units) (pv 9) (pv 7) (nomark _)) (pw_or1 (pt_cmpR (op_neD hr.units) (pv 8) (pe_lst (pa_cons (pv 5) (pa_cons (pv 6) pa_nil))) (nomark _)))))) (pss_one (ps_ret pe_bl)) pss_nil)
    (pss_cons (ps_if (pt_cmpR (op_neD hr.units) (StX.pe_kw0 T.GW hr1 (by rfl) T.gW T.kW passL (pk_cons (pv 2) (pk_cons (pe_callTy call_tuple_of (by rfl) T.mt (by decide +kernel) (pa_cons (pv 5) pa_nil)) (pk_cons (pe_callTy call_tuple_of (by rfl) T.mt (by decide +kernel) (pa_cons (pv 6) pa_nil)) pk_nil)))) (pv 7) (nomark _)) (pss_one (ps_ret pe_bl)) pss_nil)
    (pss_cons (ps_if (pt_cmpR (op_neD hr.units) (StX.pe_kw0 T.GD hr1 (by rfl) T.gW T.kW passL (pk_cons (pv 2) (pk_cons (pe_callTy call_list_of (by rfl) T.mL (by decide +kernel) (pa_cons (pv 5) pa_nil)) pk_nil)))
        (pe_tup (pa_cons (pv 2) (pa_cons (pe_callTy call_tuple_of (by rfl) T.mt (by decide +kernel) (pa_cons (pv 5) pa_nil)) (pa_cons (pe_tup pa_nil) pa_nil)))) (nomark _)) (pss_one (ps_ret pe_bl)) pss_nil)
    (pss_cons (ps_for PassesOwn.never rfl (pi_list (pe_call T.GF hr (by rfl) T.gF T.kF T.bF .nil pass0 (pa_cons (pv 1) (pa_cons (pv 2) (pa_cons (pv 5) (pa_cons (pv 6) pa_nil)))))) (pg_name (i := 10) scL.nd rfl (.inl rfl))
      (pss_one (ps_if (pt_not (pt_val (pe_call T.GR hr (by rfl) T.gR T.kR T.bR .nil pass0 (pa_cons (pe_ix ix_tup (pv 10) pe_int (fun _ _ => rfl)) (pa_cons (pe_ix ix_tup (pv 10) pe_int (fun _ _ => rfl)) (pa_cons (pe_ix ix_tup (pv 10) pe_int (fun _ _ => rfl)) pa_nil)))))) (pss_one (ps_ret pe_bl)) pss_nil)))
    (pss_one (ps_ret pe_bl))))))))))))), ?_⟩
  have L9 : ∀ {n : Nat}, n ≤ 900 → n ≤ sizeLine := fun h => Nat.le_of_lt (small1000 (by omega))
  refine ⟨_, rfl, a, script, 0, 40, rfl, hS, hlen, by decide, fun H1 p sm1 np t1 => ?_⟩
  -- head, many
  refine ⟨(by show 2 ≤ sizeLine; exact L9 (by decide)), fun l0 nl0 => ?_⟩
  refine ⟨_, rfl, p, 2, rfl, t1.same (same_upd nl0), by decide, fun H2 r2 b2 t2 hr2 => ?_⟩
  refine ⟨l0, _, _, _, rfl, rfl, SqL.of (b2 _ _ (t1.ne nl0).symm upd_same), atI_nat (dir_at hr2), ?_⟩
  generalize decide (r2 = 0) = d
  refine ⟨_, rfl, p, 4, rfl, t2, by decide, fun H3 m b3 t3 hm4 => ?_⟩
  -- steps
  refine ⟨_, rfl, _, rfl, p, m, rfl, t3, by omega, fun H4 ls ps b4 t4 nlp els hperm => ?_⟩
  have hpl : ps.length = m := by
    have := hperm.length_eq
    rwa [List.length_range] at this
  refine ⟨ls, rfl, ⟨_, SqL.of els⟩, fun D nD => ?_⟩
  have npD : p ≠ D := t4.ne nD
  refine lc_list (K := K) (a := ls) (xs := ps.map iV) (fun i H' => But p H4 H' ∧ Tp H' p ∧ ∃ (vs : List V) (ds : List Bool), H' D = some (.lst vs) ∧ RpA H' vs ((((ps.take i).zip ds).map wI).map pD) ∧ ds.length = i)
    ⟨.of (same_upd nD), t4.same (same_upd nD), [], [], upd_same, (by simpa using RpA.nil), rfl⟩ (fun i H' _ hW => SqL.of (hW.1 _ _ nlp els)) (fun i x H' hx hW => ?_) (fun H5 hW => ?_)
  · obtain ⟨b5, t5, vs, ds, eD, rv, hdl⟩ := hW
    rw [List.getElem?_map] at hx
    cases e : ps[i]? with
    | none =>
      rw [e] at hx
      cases hx
    | some k =>
      rw [e] at hx
      have e3 : iV k = x := Option.some.inj hx
      subst e3
      have hi : i < ps.length := (List.getElem?_eq_some_iff.mp e).1
      refine ⟨rfl, tyes ?_⟩
      refine ⟨_, rfl, (by show 2 ≤ sizeLine; exact L9 (by decide)), fun l1 nl1 => ?_⟩
      refine ⟨_, rfl, p, 2, rfl, t5.same (same_upd nl1), by decide, fun H6 r6 b6 t6 hr6 => ?_⟩
      refine ⟨l1, _, _, _, rfl, rfl, SqL.of (b6 _ _ (t5.ne nl1).symm upd_same), atI_nat (dir_at hr6), (by show 2 ≤ sizeLine; exact L9 (by decide)), fun t7 nt7 => ?_⟩
      have bt : But p H' H6 := (But.of (same_upd nl1)).trans b6
      have eD6 := bt _ _ npD.symm eD
      have t7p : Tp (upd H6 t7 (.tup [iV k, .str (dirW (decide (r6 = 0)))])) p := t6.same (same_upd nt7)
      refine ⟨vs, same_upd nt7 _ _ eD6, ?_, fun b' o nb e => ?_, ?_, vs ++ [.ref t7], ds ++ [decide (r6 = 0)], upd_same, ?_, ?_⟩
      · rw [rv.length, List.length_map, List.length_map, List.length_zip]
        exact small1000 (by omega)
      · rw [upd_ne (ne_of_none e nD)]
        exact same_upd nt7 _ _ (bt _ _ nb (b5 _ _ nb e))
      · obtain ⟨ns, e, h⟩ := t7p
        exact ⟨ns, by rw [upd_ne npD]; exact e, h⟩
      · have kp : Keep (upd H6 t7 (.tup [iV k, .str (dirW (decide (r6 = 0)))])) (upd (upd H6 t7 (.tup [iV k, .str (dirW (decide (r6 = 0)))])) D (.lst (vs ++ [.ref t7]))) := .lst (same_upd nt7 _ _ eD6)
        rw [List.take_add_one, e]
        show RpA _ _ (List.map pD (List.map wI ((List.take i ps ++ [k]).zip (ds ++ [decide (r6 = 0)]))))
        rw [zip_snoc (by rw [List.length_take, hdl]; omega), List.map_append, List.map_append]
        exact (((rv.keep (Keep.but bt t5)).keep (.new nt7)).keep kp).snoc (.t (kp _ _ upd_same) (.cons (.i _) (.cons (.s _) .nil)))
      · rw [List.length_append, hdl]
        rfl
  obtain ⟨b5, t5, vs, ds, eD, rv, hdl⟩ := hW
  rw [List.length_map] at rv hdl
  rw [List.take_of_length_le (Nat.le_refl _)] at rv
  -- marked
  refine ⟨_, rfl, _, rfl, p, m, rfl, t5, by omega, fun H6 lq qs b6 t6 nqp elq hqerm => ?_⟩
  have hql : qs.length = m := by
    have := hqerm.length_eq
    rwa [List.length_range] at this
  have eD6 := b6 _ _ npD.symm eD
  have rv6 := rv.keep (Keep.but b6 t5)
  refine ⟨lq, rfl, ⟨_, SqL.of elq⟩, fun M nM => ?_⟩
  have npM : p ≠ M := t6.ne nM
  refine lc_list (K := K) (a := lq) (xs := qs.map iV) (fun i H' => But p H6 H' ∧ Tp H' p ∧ ∃ ms : List Nat, H' M = some (.lst (ms.map iV)) ∧ ms.Sublist (qs.take i))
    ⟨.of (same_upd nM), t6.same (same_upd nM), [], upd_same, List.nil_sublist _⟩ (fun i H' _ hW => SqL.of (hW.1 _ _ nqp elq)) (fun i x H' hx hW => ?_) (fun H7 hW => ?_)
  · obtain ⟨b7, t7, ms, eM, hsub⟩ := hW
    rw [List.getElem?_map] at hx
    cases e : qs[i]? with
    | none =>
      rw [e] at hx
      cases hx
    | some k =>
      rw [e] at hx
      have e3 : iV k = x := Option.some.inj hx
      subst e3
      refine ⟨rfl, ?_⟩
      refine ⟨_, rfl, p, 2, rfl, t7, by decide, fun H8 r8 b8 t8 hr8 => ⟨rfl, _, rfl, ?_⟩⟩
      have eM8 := b8 _ _ npM.symm eM
      have hsl := hsub.length_le
      rw [List.length_take] at hsl
      have et : qs.take (i + 1) = qs.take i ++ [k] := by
        rw [List.take_add_one, e]
        rfl
      refine ite2 (fun _ => ?_) (fun _ => ?_)
      · refine ⟨_, rfl, _, eM8, ?_, fun b' o nb e => ?_, ?_, ms ++ [k], ?_, ?_⟩
        · rw [List.length_map]
          exact small1000 (by omega)
        · rw [upd_ne (ne_of_none e nM)]
          exact b8 _ _ nb (b7 _ _ nb e)
        · obtain ⟨ns, e, h⟩ := t8
          exact ⟨ns, by rw [upd_ne npM]; exact e, h⟩
        · rw [upd_same, List.map_append]
          rfl
        · rw [et]
          exact hsub.append (List.Sublist.refl _)
      · refine ⟨b7.trans b8, t8, ms, eM8, ?_⟩
        rw [et]
        exact hsub.trans (List.sublist_append_left _ _)
  obtain ⟨b7, t7, ms, eM, hsub⟩ := hW
  rw [List.length_map, List.take_of_length_le (Nat.le_refl _)] at hsub
  have eD7 := b7 _ _ npD.symm eD6
  have rv7 := rv6.keep (Keep.but b7 t6)
  have W := wz_of (ds := ds) (by omega) hperm (by omega) hqerm hsub
  have eM7 : H7 M = some (.lst ((ms.map iV').map V.int)) := by
    rw [eM, List.map_map]
    rfl
  have hwse : ((ps.zip ds).map wI) = ((ps.zip ds).map fun x => ((x.1 : Int), dirW x.2)) := rfl
  rw [hwse] at rv7
  generalize ((ps.zip ds).map fun x => ((x.1 : Int), dirW x.2)) = ws at rv7 W
  generalize ms.map iV' = ns at eM7 W
  have m3 := W.m3
  have hwl := W.len
  have hn3 := W.n3
  have hvl := rv7.length
  rw [List.length_map, hwl] at hvl
  clear hwse rv6 rv b7 b6 b5 b4 b3 b2 eM elq hsub hqerm els hperm
  -- due
  refine ⟨_, rfl, _, rfl, D, vs, rfl, .inl ⟨SqL.of eD7, fun tS ntS => ?_⟩⟩
  have s1 := same_upd (o := .tup vs) ntS
  refine ⟨_, rfl, (m : Int), rfl, by omega, by omega, fun G nG => ?_⟩
  refine lc_range (lo := 0) (n := m) (fun i H' => Same (upd H7 tS (.tup vs)) H' ∧ H' G = some (.lst ((((List.range i).map fun (k : Nat) => (k : Int)).filter fun k => inV (.int k) (ns.map V.int)).map V.int)))
    ⟨same_upd nG, upd_same⟩ (fun i H' hi hW => ?_) (fun H8 hW => ?_)
  · obtain ⟨sm, eG⟩ := hW
    refine ⟨rfl, ?_⟩
    refine ⟨_, rfl, _, rfl, M, _, rfl, .inl (SqL.of (sm _ _ (s1 _ _ eM7))), rfl, flat_ints ns, _, rfl, ?_⟩
    have one : ((List.map (fun (k : Nat) => (k : Int)) [i]).filter fun k => inV (.int k) (ns.map V.int)) = if inV (.int (i : Int)) (ns.map V.int) = true then [(i : Int)] else [] := by
      show List.filter _ [(i : Int)] = _
      rw [List.filter_cons]
      rfl
    have lenf : ((((List.range i).map fun (k : Nat) => (k : Int)).filter fun k => inV (.int k) (ns.map V.int)).map V.int).length < sizeLine := by
      have h1 := List.length_filter_le (fun k => inV (.int k) (ns.map V.int)) ((List.range i).map fun (k : Nat) => (k : Int))
      rw [List.length_map, List.length_range] at h1
      rw [List.length_map]
      exact small1000 (by omega)
    refine ite2 (fun hv => ?_) (fun hv => ?_)
    · refine ⟨_, rfl, _, eG, lenf, fun b' o e => ?_, ?_⟩
      · rw [upd_ne (ne_of_none e nG)]
        exact sm _ _ e
      · have hv' : inV (.int (i : Int)) (ns.map V.int) = true := by
          have h0 : inV (.int (0 + (i : Int))) (ns.map V.int) = true := hv
          rwa [Int.zero_add] at h0
        rw [upd_same, List.range_succ, List.map_append, List.filter_append, List.map_append, one, if_pos hv', Int.zero_add]
        rfl
    · have hv' : ¬ inV (.int (i : Int)) (ns.map V.int) = true := fun h0 => hv (by
        show inV (.int (0 + (i : Int))) (ns.map V.int) = true
        rwa [Int.zero_add])
      refine ⟨sm, ?_⟩
      rw [List.range_succ, List.map_append, List.filter_append, List.map_append, one, if_neg hv', List.map_nil, List.append_nil, eG]
  obtain ⟨sm78', eG⟩ := hW
  have eA : ((List.range m).map fun (k : Nat) => (k : Int)).filter (fun k => inV (.int k) (ns.map V.int)) = asc (ws.map (·.1)) ns := by
    unfold asc
    rw [W.ll]
  rw [eA] at eG
  have sm78 := s1.trans sm78'
  refine ⟨G, _, rfl, .inl ⟨SqL.of eG, fun tA ntA => ⟨(by show 3 ≤ sizeLine; exact L9 (by decide)), fun O nO => ?_⟩⟩⟩
  have s2 := same_upd (o := .tup ((asc (ws.map (·.1)) ns).map V.int)) ntA
  have s3 := same_upd (o := .tup [.str (dirW d), .ref tS, .ref tA]) nO
  have sm9 := (sm78.trans s2).trans s3
  have rO : Rp (upd (upd H8 tA (.tup ((asc (ws.map (·.1)) ns).map V.int))) O (.tup [.str (dirW d), .ref tS, .ref tA])) (.ref O) (.t [.s (dirW d), .t (ws.map pD), .t ((asc (ws.map (·.1)) ns).map Fd.i)]) :=
    .t upd_same (.cons (.s _) (.cons (.t (s3 _ _ (s2 _ _ (sm78' _ _ upd_same))) (rv7.keep (.same sm9))) (.cons (.t (s3 _ _ upd_same) (rp_ints _ _)) .nil)))
  generalize upd (upd H8 tA (.tup ((asc (ws.map (·.1)) ns).map V.int))) O (.tup [.str (dirW d), .ref tS, .ref tA]) = H9 at sm9 rO
  clear s3 s2 eA eG sm78 sm78' s1
  have eD9 := sm9 _ _ eD7
  have eM9 := sm9 _ _ eM7
  have rv9 := rv7.keep (.same sm9)
  have t9 := t7.same sm9
  have mk1 := made_ok W d (asc (ws.map (·.1)) ns)
  have shp := shaped_toPy mk1.1 mk1.2
  have rfx := eqv_toPy mk1.1
  have good := way_good W d
  -- passed
  refine ⟨_, rfl, D, vs, rfl, .inl (SqL.of eD9), fun l1 nl1 => ?_⟩
  have u1 := same_upd (o := .lst vs) nl1
  refine ⟨_, rfl, M, _, rfl, .inl (SqL.of (u1 _ _ eM9)), fun l2 nl2 => ⟨(by show 2 ≤ sizeLine; exact L9 (by decide)), fun L nL => ?_⟩⟩
  have u2 := same_upd (o := .lst (ns.map V.int)) nl2
  have u3 := same_upd (o := .lst [.ref l1, .ref l2]) nL
  have el1 := u3 _ _ (u2 _ _ (upd_same (H := H9) (a := l1) (o := .lst vs)))
  have el2 := u3 _ _ (upd_same (H := upd H9 l1 (.lst vs)) (a := l2) (o := .lst (ns.map V.int)))
  have eL := upd_same (H := upd (upd H9 l1 (.lst vs)) l2 (.lst (ns.map V.int))) (a := L) (o := .lst [.ref l1, .ref l2])
  have u := (u1.trans u2).trans u3
  generalize upd (upd (upd H9 l1 (.lst vs)) l2 (.lst (ns.map V.int))) L (.lst [.ref l1, .ref l2]) = H10 at u el1 el2 eL
  clear u3 u2 u1
  -- made
  refine ⟨_, rfl, _, rfl, L, _, _, _, rfl, rfl, SqL.of eL, atI_nat (j := 0) rfl, _, rfl, L, _, _, _, rfl, rfl, SqL.of eL, atI_nat (j := 1) rfl, rfl, dirW d, l1, l2, vs, ws, ns, rfl, .inl (SqL.of el1), rv9.keep (.same u), by omega, .inl (SqL.of el2), by omega, fun _ H11 t sm11 rt => ?_, fun hf => by rw [good] at hf; cases hf⟩
  have sm911 := u.trans sm11
  obtain ⟨vt, et⟩ : ∃ vt, H11 t = some (.tup vt) := by
    cases rt with
    | t h _ => exact ⟨_, h⟩
  refine ⟨_, rfl, _, _, _, _, true, rfl, .ty "tuple", ty_t et, kit_ty (by decide +kernel), _, rfl, iteF ?_⟩
  refine ⟨_, rfl, _, rfl, _, _, Rp.dp rt, Rp.dp (rO.keep (.same sm911)), shp, shp, _, rfl, ?_⟩
  rw [rfx]
  refine iteF ?_
  refine ⟨_, rfl, _, rfl, _, rfl, (by show 2 ≤ sizeLine; exact L9 (by decide)), fun L3 nL3 => ?_⟩
  have u4 := same_upd (o := .lst [.ref D, .ref M]) nL3
  refine ⟨_, _, two_dp (u4 _ _ (sm11 _ _ eL)) (u4 _ _ (sm11 _ _ el1)) (rv9.keep (.same (sm911.trans u4))) (u4 _ _ (sm11 _ _ el2)), two_dp upd_same (u4 _ _ (sm911 _ _ eD9)) (rv9.keep (.same (sm911.trans u4))) (u4 _ _ (sm911 _ _ eM9)), two_shaped W, two_shaped W, _, rfl, ?_⟩
  rw [SeqAt.eqv_refl _ (two_lay W)]
  refine iteF ?_
  have sm12 := sm911.trans u4
  generalize upd H11 L3 (.lst [.ref D, .ref M]) = H12 at sm12
  -- tuples
  refine ⟨_, rfl, _, rfl, D, vs, rfl, .inl ⟨SqL.of (sm12 _ _ eD9), fun t5 nt5 => ?_⟩⟩
  have u5 := same_upd (o := .tup vs) nt5
  refine ⟨_, rfl, M, _, rfl, .inl ⟨SqL.of (u5 _ _ (sm12 _ _ eM9)), fun t6 nt6 => ?_⟩⟩
  have u6 := same_upd (o := .tup (ns.map V.int)) nt6
  refine ⟨rfl, dirW d, t5, t6, vs, ws, ns, rfl, .inr (SqT.of (u6 _ _ upd_same)), rv9.keep (.same ((sm12.trans u5).trans u6)), by omega, .inr (SqT.of upd_same), by omega, fun _ H13 tb sm13 rtb => ?_, fun hf => by rw [good] at hf; cases hf⟩
  have sm913 := ((sm12.trans u5).trans u6).trans sm13
  refine ⟨_, rfl, _, _, Rp.dp rtb, Rp.dp (rO.keep (.same sm913)), shp, shp, _, rfl, ?_⟩
  rw [rfx]
  refine iteF ?_
  clear u6 u5 sm12 u4 sm11
  -- noted left out
  have W0 := W.nil
  have good0 := way_good W0 d
  have mk0 := made_ok W d []
  have shp0 := shaped_toPy mk0.1 mk0.2
  have rfx0 := eqv_toPy mk0.1
  refine ⟨_, rfl, _, rfl, D, vs, rfl, .inl (SqL.of (sm913 _ _ eD9)), fun l7 nl7 => ?_⟩
  have u7 := same_upd (o := .lst vs) nl7
  refine ⟨rfl, dirW d, l7, T0, vs, ws, [], rfl, .inl (SqL.of upd_same), rv9.keep (.same (sm913.trans u7)), by omega, .inr (T.hT _), by decide, fun _ H14 tc sm14 rtc => ?_, fun hf => by rw [good0] at hf; cases hf⟩
  rw [asc_nil] at rtc
  have sm914 := (sm913.trans u7).trans sm14
  refine ⟨_, rfl, _, rfl, D, vs, rfl, .inl ⟨SqL.of (sm914 _ _ eD9), fun t8 nt8 => ⟨Nat.zero_le _, fun t9' nt9 => ⟨(by show 3 ≤ sizeLine; exact L9 (by decide)), fun O2 nO2 => ?_⟩⟩⟩⟩
  have u8 := same_upd (o := .tup vs) nt8
  have u9 := same_upd (o := .tup []) nt9
  have u10 := same_upd (o := .tup [.str (dirW d), .ref t8, .ref t9']) nO2
  have uu := (u8.trans u9).trans u10
  have rO2 : Rp (upd (upd (upd H14 t8 (.tup vs)) t9' (.tup [])) O2 (.tup [.str (dirW d), .ref t8, .ref t9'])) (.ref O2) (.t [.s (dirW d), .t (ws.map pD), .t (([] : List Int).map Fd.i)]) :=
    .t upd_same (.cons (.s _) (.cons (.t (u10 _ _ (u9 _ _ upd_same)) (rv9.keep (.same (sm914.trans uu)))) (.cons (.t (u10 _ _ upd_same) .nil) .nil)))
  refine ⟨_, _, Rp.dp (rtc.keep (.same uu)), Rp.dp rO2, shp0, shp0, _, rfl, ?_⟩
  rw [rfx0]
  refine iteF ?_
  have sm15 := sm914.trans uu
  generalize upd (upd (upd H14 t8 (.tup vs)) t9' (.tup [])) O2 (.tup [.str (dirW d), .ref t8, .ref t9']) = H15 at sm15
  clear rO2 uu u10 u9 u8 u7
  -- the faults
  refine ⟨_, rfl, _, rfl, _, rfl, _, rfl, p, d, D, M, vs, m, ws, ns, rfl, t9.same sm15, npD.symm, npM.symm, sm15 _ _ eD9, rv9.keep (.same sm15), sm15 _ _ eM9, W, fun H16 R n b16 nRp kk hn t16 => ?_⟩
  obtain ⟨vr, eR, hvr, hb⟩ := kk
  refine ⟨R, rfl, ⟨_, SqL.of eR⟩, for_list (K := K) (a := R) (xs := vr) (fun i σ H' => ∃ y4 y10 : Option V, σ = [some (.ref a), some (.ref p), some (.str (dirW d)), some (.int (m : Int)), y4, some (.ref D), some (.ref M), some (.ref O), some (.ref L), some (.ref t), y10] ∧ Same H16 H')
    ⟨_, _, rfl, Same.refl _⟩ (fun i σ H' _ hW => ?_) (fun i x σ H' hx hW => ?_) (fun σ H17 hW => ?_)⟩
  · obtain ⟨_, _, _, sm⟩ := hW
    exact SqL.of (sm _ _ eR)
  · obtain ⟨y4, y10, rfl, sm⟩ := hW
    obtain ⟨tt, z, sL, mL, items, ws2, ns2, rfl, ht, hs, ra, hm, h1, h2, bad, _, _⟩ := hb x (List.mem_of_getElem? hx)
    have ht' := sm _ _ ht
    refine ⟨_, rfl, tt, _, 0, _, rfl, rfl, SqT.of ht', atI_nat (j := 0) rfl, _, rfl, tt, _, 1, _, rfl, rfl, SqT.of ht', atI_nat (j := 1) rfl, _, rfl, tt, _, 2, _, rfl, rfl, SqT.of ht', atI_nat (j := 2) rfl, z, sL, mL, items, ws2, ns2, rfl, .inl (SqL.of (sm _ _ hs)), ra.keep (.same sm), h1, .inl (SqL.of (sm _ _ hm)), h2, bad, fun H18 sm18 => ⟨_, rfl, iteF ?_⟩⟩
    exact ⟨_, _, rfl, sm.trans sm18⟩
  · exact q _
end
end KN
set_option Elab.async false
set_option linter.all false
set_option maxRecDepth 100000
set_option maxHeartbeats 1000000
namespace KN
open PySem PySem.Spec PyProof.Rows L2
/-! ### isinstance of a caught error -/
theorem kit_self {K : PySem.W.Frag} {C : Addr} : PySem.W.kitOne K (.ref C) (.ref C) = some true := by
  unfold PySem.W.kitOne
  rw [if_pos (beq_self_eq_true _)]
theorem kit_builtin {K : PySem.W.Frag} {C : Addr} {T : String} {b : Bool} (m : PySem.W.kitMeta T = true) (h : PySem.W.subIn K (.ref C) (.type T) = some b) : PySem.W.kitOne K (.ref C) (.type T) = some b := by
  have hne : ¬ ((Value.ref C == Value.type T) = true) := fun e => by
    have e2 := beq_iff_eq.mp e
    cases e2
  unfold PySem.W.kitOne
  rw [if_neg hne]
  show (if PySem.W.kitMeta T = true then _ else none) = _
  rw [if_pos m]
  exact h
theorem kit_other {K : PySem.W.Frag} {C D : Addr} (h1 : PySem.W.subIn K (.ref C) (.ref C) = some true) (h2 : PySem.W.subIn K (.ref C) (.ref D) = some false) (hd : PySem.W.hasDictIn K D = true) (ht : PySem.W.typeIn K (.ref D) = some (.type "type")) : PySem.W.kitOne K (.ref C) (.ref D) = some false := by
  have hne : ¬ ((Value.ref C == Value.ref D) = true) := fun e => by
    have e2 : C = D := Value.ref.inj (beq_iff_eq.mp e)
    subst e2
    rw [h1] at h2
    cases h2
  obtain ⟨cd, hc, _⟩ := PySem.W.any_some hd
  unfold PySem.W.kitOne
  rw [if_neg hne]
  show (if ((PySem.W.clsIn K D).isSome && PySem.W.typeIn K (.ref D) == some (.type "type")) = true then _ else none) = _
  rw [if_pos (by rw [hc, ht]; rfl)]
  exact h2
/-! ### what the top has written -/
theorem all_mk {l : PySem.W.OpenLaw} {w : World} {K : PySem.W.Frag} {h : Heap} {mg : Str → Option Value} {fa C_BadWay C_NotesError C_BadKind f1 f2 f3 f4 f5 f6 f7 f8 : Addr} {Dk T0 : Addr} {odT : Option Addr} {nT : Nat} {slT : Array (Option Value)} (X : K.In h) (G : h.Ns mainGlobals mg) (hfa : mg "law" = some (.ref fa))
    {od1 an1 od2 an2 od3 an3 od4 an4 od5 an5 od6 an6 od7 an7 od8 an8 : Option Addr} {sl1 sl2 sl3 sl4 sl5 sl6 sl7 sl8 : Array (Option Value)} {oc1 dc1 pm1 cd1 ct1 oc2 kV2 dc2 pm2 cd2 ct2 oc3 kV3 dc3 pm3 cd3 ct3 oc4 kV4 dc4 pm4 cd4 ct4 oc5 kV5 dc5 pm5 cd5 ct5 oc6 kV6 dc6 pm6 cd6 ct6 oc7 kV7 dc7 pm7 cd7 ct7 oc8 kV8 dc8 pm8 cd8 ct8 : Value}
    (a1 : PySem.W.nsIn K mainGlobals "way" = some (some (.ref f1))) (l1 : K.lookup f1 = some ⟨oc1, od1, .func (PySem.W.fnOf "way" "way" (defArgs sWay) (defBody sWay) (defScope sWay) .none (.ref Dk) dc1 pm1 an1 cd1 ct1), sl1⟩) (c1 : PySem.W.codeIn K cd1 "way" = true) (k1 : PySem.W.keepIn K (.ref f1) = true)
    (a2 : PySem.W.nsIn K mainGlobals "_law_cell" = some (some (.ref f2))) (l2 : K.lookup f2 = some ⟨oc2, od2, .func (PySem.W.fnOf "_law_cell" "_law_cell" (defArgs sCell) (defBody sCell) (defScope sCell) .none kV2 dc2 pm2 an2 cd2 ct2), sl2⟩) (c2 : PySem.W.codeIn K cd2 "_law_cell" = true) (k2 : PySem.W.keepIn K (.ref f2) = true)
    (a3 : PySem.W.nsIn K mainGlobals "_law_tape" = some (some (.ref f3))) (l3 : K.lookup f3 = some ⟨oc3, od3, .func (PySem.W.fnOf "_law_tape" "_law_tape" (defArgs sTape) (defBody sTape) (defScope sTape) .none kV3 dc3 pm3 an3 cd3 ct3), sl3⟩) (c3 : PySem.W.codeIn K cd3 "_law_tape" = true) (k3 : PySem.W.keepIn K (.ref f3) = true)
    (a4 : PySem.W.nsIn K mainGlobals "_law_take" = some (some (.ref f4))) (l4 : K.lookup f4 = some ⟨oc4, od4, .func (PySem.W.fnOf "_law_take" "_law_take" (defArgs sTake) (defBody sTake) (defScope sTake) .none kV4 dc4 pm4 an4 cd4 ct4), sl4⟩) (c4 : PySem.W.codeIn K cd4 "_law_take" = true) (k4 : PySem.W.keepIn K (.ref f4) = true)
    (a5 : PySem.W.nsIn K mainGlobals "_law_shuffled" = some (some (.ref f5))) (l5 : K.lookup f5 = some ⟨oc5, od5, .func (PySem.W.fnOf "_law_shuffled" "_law_shuffled" (defArgs sShuf) (defBody sShuf) (defScope sShuf) .none kV5 dc5 pm5 an5 cd5 ct5), sl5⟩) (c5 : PySem.W.codeIn K cd5 "_law_shuffled" = true) (k5 : PySem.W.keepIn K (.ref f5) = true)
    (a6 : PySem.W.nsIn K mainGlobals "_law_refused" = some (some (.ref f6))) (l6 : K.lookup f6 = some ⟨oc6, od6, .func (PySem.W.fnOf "_law_refused" "_law_refused" (defArgs sRefused) (defBody sRefused) (defScope sRefused) .none kV6 dc6 pm6 an6 cd6 ct6), sl6⟩) (c6 : PySem.W.codeIn K cd6 "_law_refused" = true) (k6 : PySem.W.keepIn K (.ref f6) = true)
    (a7 : PySem.W.nsIn K mainGlobals "_law_faults" = some (some (.ref f7))) (l7 : K.lookup f7 = some ⟨oc7, od7, .func (PySem.W.fnOf "_law_faults" "_law_faults" (defArgs sFaults) (defBody sFaults) (defScope sFaults) .none kV7 dc7 pm7 an7 cd7 ct7), sl7⟩) (c7 : PySem.W.codeIn K cd7 "_law_faults" = true) (k7 : PySem.W.keepIn K (.ref f7) = true)
    (a8 : PySem.W.nsIn K mainGlobals "law" = some (some (.ref f8))) (l8 : K.lookup f8 = some ⟨oc8, od8, .func (PySem.W.fnOf "law" "law" (defArgs sLaw) (defBody sLaw) (defScope sLaw) .none kV8 dc8 pm8 an8 cd8 ct8), sl8⟩) (c8 : PySem.W.codeIn K cd8 "law" = true) (k8 : PySem.W.keepIn K (.ref f8) = true)
    (z0 : PySem.W.nsIn K mainGlobals "len" = some none)
    (z1 : PySem.W.nsIn K mainGlobals "range" = some none)
    (z2 : PySem.W.nsIn K mainGlobals "int" = some none)
    (z3 : PySem.W.nsIn K mainGlobals "tuple" = some none)
    (z4 : PySem.W.nsIn K mainGlobals "list" = some none)
    (z5 : PySem.W.nsIn K mainGlobals "isinstance" = some none)
    (z6 : PySem.W.nsIn K mainGlobals "all" = some none)
    (x_BadWay : PySem.W.nsIn K mainGlobals "BadWay" = some (some (.ref C_BadWay)))
    (x_NotesError : PySem.W.nsIn K mainGlobals "NotesError" = some (some (.ref C_NotesError)))
    (x_BadKind : PySem.W.nsIn K mainGlobals "BadKind" = some (some (.ref C_BadKind)))
    (e1 : PySem.W.keepIn K (.ref C_BadWay) = true)
    (e2 : PySem.W.excIn K C_BadWay [.type "ValueError", .type "Exception", .type "BaseException", .type "object"] "ValueError.__new__" = true)
    (e3 : PySem.W.subIn K (.ref C_BadWay) (.type "BaseException") = some true)
    (e4 : PySem.W.typeIn K (.ref C_BadWay) = some (.type "type"))
    (e5 : PySem.W.hasDictIn K C_BadWay = true)
    (e6 : PySem.W.findIn K (.ref C_BadWay) "__getattribute__" = some (some (.builtin "BaseException.__getattribute__")))
    (e7 : PySem.W.findIn K (.ref C_BadWay) "__getattr__" = some none)
    (e8 : PySem.W.findIn K (.ref C_BadWay) "__class__" = some (some (.builtin "object.__class__")))
    (e9 : PySem.W.specialIn K (.builtin "object.__class__") "__get__" = some (some (.builtin "getset_descriptor.__get__")))
    (e10 : PySem.W.takesIn K (.builtin "object.__class__") = some true)
    (e11 : PySem.W.mroIn K C_BadWay (.type "object") = some true)
    (e12 : PySem.W.subIn K (.ref C_BadWay) (.ref C_BadWay) = some true)
    (e13 : PySem.W.subIn K (.ref C_BadWay) (.type "ValueError") = some true)
    (n1 : PySem.W.subIn K (.ref C_NotesError) (.type "BaseException") = some true)
    (n2 : PySem.W.hasDictIn K C_NotesError = true)
    (n3 : PySem.W.typeIn K (.ref C_NotesError) = some (.type "type"))
    (n4 : PySem.W.subIn K (.ref C_BadWay) (.ref C_NotesError) = some true)
    (y1_BadKind : PySem.W.subIn K (.ref C_BadWay) (.ref C_BadKind) = some false)
    (y2_BadKind : PySem.W.hasDictIn K C_BadKind = true)
    (y3_BadKind : PySem.W.typeIn K (.ref C_BadKind) = some (.type "type"))
    (qN : PySem.W.nsIn K Dk "noted" = some (some (.ref T0)))
    (lT : K.lookup T0 = some ⟨.type "tuple", odT, .seq #[] nT, slT⟩) :
    ∃ fd : FuncData, (∀ (s : Shared) (v : Value), BindsTo s fd ⟨[v], []⟩ [("_law_script", v)]) ∧ ∀ base : Heap, K.In base → base.Ns mainGlobals mg → FnOk l.prog w K mg base CX0 3 fa fd ["_law_script"] (spLaw K) := by
  have e := hfa.symm.trans (PySem.W.mg_of X G a8)
  cases e
  have F1 := fun_mk (st := sWay) l1 c1 k1
  have g1 := PySem.W.mg_of X G a1
  have F2 := fun_mk (st := sCell) l2 c2 k2
  have b2 := F2.binds (ps := ["_law_script", "_law_k"]) fun _ _ _ _ _ _ us hl => match us, hl with | [_, _], _ => rfl
  have g2 := PySem.W.mg_of X G a2
  have F3 := fun_mk (st := sTape) l3 c3 k3
  have b3 := F3.binds (ps := ["_law_script", "_law_k", "_law_size"]) fun _ _ _ _ _ _ us hl => match us, hl with | [_, _, _], _ => rfl
  have g3 := PySem.W.mg_of X G a3
  have F4 := fun_mk (st := sTake) l4 c4 k4
  have b4 := F4.binds (ps := ["_law_tape_here", "_law_many"]) fun _ _ _ _ _ _ us hl => match us, hl with | [_, _], _ => rfl
  have g4 := PySem.W.mg_of X G a4
  have F5 := fun_mk (st := sShuf) l5 c5 k5
  have b5 := F5.binds (ps := ["_law_tape_here", "_law_many"]) fun _ _ _ _ _ _ us hl => match us, hl with | [_, _], _ => rfl
  have g5 := PySem.W.mg_of X G a5
  have F6 := fun_mk (st := sRefused) l6 c6 k6
  have b6 := F6.binds (ps := ["_law_head", "_law_steps", "_law_marked"]) fun _ _ _ _ _ _ us hl => match us, hl with | [_, _, _], _ => rfl
  have g6 := PySem.W.mg_of X G a6
  have F7 := fun_mk (st := sFaults) l7 c7 k7
  have b7 := F7.binds (ps := ["_law_tape_here", "_law_head", "_law_steps", "_law_marked"]) fun _ _ _ _ _ _ us hl => match us, hl with | [_, _, _, _], _ => rfl
  have g7 := PySem.W.mg_of X G a7
  have F8 := fun_mk (st := sLaw) l8 c8 k8
  have m0 := PySem.W.mg_none_of X G z0
  have m1 := PySem.W.mg_none_of X G z1
  have m2 := PySem.W.mg_none_of X G z2
  have m3 := PySem.W.mg_none_of X G z3
  have m4 := PySem.W.mg_none_of X G z4
  have m5 := PySem.W.mg_none_of X G z5
  have m6 := PySem.W.mg_none_of X G z6
  have g_BadWay := PySem.W.mg_of X G x_BadWay
  have g_NotesError := PySem.W.mg_of X G x_NotesError
  have g_BadKind := PySem.W.mg_of X G x_BadKind
  have eX : ErrC K mg "BadWay" C_BadWay := ⟨g_BadWay, e1, e2, e3, e4, e5, ⟨e6, e7, e3, e5, e8, e9, e10, e11⟩⟩
  refine ⟨PySem.W.fnOf "law" "law" (defArgs sLaw) (defBody sLaw) (defScope sLaw) .none kV8 dc8 pm8 an8 cd8 ct8, fun s v => .of_eq rfl, fun base _ _ => ?_⟩
  have GT : FnOk l.prog w K mg base CX0 1 f4 _ ["_law_tape_here", "_law_many"] spTake := ok_take F4 m0 m2
  have GTp : FnOk l.prog w K mg base CX0 2 f3 _ ["_law_script", "_law_k", "_law_size"] (spTape K) := ok_tape F3 F2 b2 g2 m0 m1 m2
  have GS : FnOk l.prog w K mg base CX0 2 f5 _ ["_law_tape_here", "_law_many"] spS := ok_S F5 F4 b4 g4 GT m0 m1
  have GW := ok_way (P := l.prog) (w := w) (base := base) F1 m0 m6 m1 m3 eX
  have GWk := StX.kw_of (ks := ["whole", "places", "noted"]) GW (fun s ws hl => match ws, hl with | [a, b, c], _ => .of_eq (by with_unfolding_all rfl))
  have GD := kw_def (ks := ["whole", "places"]) (y := .ref T0) (u := .ref T0) GW rfl rfl (fun s ws X hl => way_binds qN s ws X hl)
  have hT : ∀ H, SqT K H T0 [] := fun H => .inr ⟨_, #[], nT, lT, rfl, rfl, Nat.zero_le _, .nil⟩
  have GR := ok_ref F6 GWk g1 k1 m5 eX g_NotesError g_BadKind (PySem.W.exm_ref n1 n2 n3 n4) kit_self (kit_other e12 y1_BadKind y2_BadKind y3_BadKind)
  have GF := ok_F F7 b4 g4 k4 GT m0 m1
  exact ok_law F8 ⟨GTp, g3, k3, b3, GT, g4, k4, b4, GS, g5, k5, b5, GWk, GD, g1, k1, hT, GR, g6, k6, b6, GF, g7, k7, b7, m1, m3, m4, m5⟩
end KN
open PySem PySem.W PyProof.Rows
set_option Elab.async false
set_option maxRecDepth 100000 in
set_option maxHeartbeats 0 in
theorem PySem.Challenge.cw_kindnotes_k09_ways_are_made_holds : PySem.Challenge.rw_kindnotes_k09_ways_are_made.Holds := by
  w_on; o_law; k_head; (case hw => w_witness2)
  k_fill
  refine L2.walk_of (l := PySem.Challenge.rw_kindnotes_k09_ways_are_made) (n := 63) (k := 3) (x := "_law_script") (CX := fun _ => L2.CX0) (sp := fun w => KN.spLaw _) rfl (by decide) rfl ⟨rfl, by decide, by decide⟩ (fun w h Y => PySem.W.kIn_of Y) ?F (fun _ _ a ns hl _ hS => ⟨a, ns, rfl, hS, hl, fun _ => rfl⟩) (fun _ _ _ _ _ h => h)
  case F =>
    intro w mg fa h KX G hmg
    refine' KN.all_mk KX G hmg ?a1 ?l1 ?c1 ?k1 ?a2 ?l2 ?c2 ?k2 ?a3 ?l3 ?c3 ?k3 ?a4 ?l4 ?c4 ?k4 ?a5 ?l5 ?c5 ?k5 ?a6 ?l6 ?c6 ?k6 ?a7 ?l7 ?c7 ?k7 ?a8 ?l8 ?c8 ?k8 ?z0 ?z1 ?z2 ?z3 ?z4 ?z5 ?z6 ?x_BadWay ?x_NotesError ?x_BadKind ?e1 ?e2 ?e3 ?e4 ?e5 ?e6 ?e7 ?e8 ?e9 ?e10 ?e11 ?e12 ?e13 ?n1 ?n2 ?n3 ?n4 ?y1_BadKind ?y2_BadKind ?y3_BadKind ?qN ?lT
    (case a1 => k_is)
    (case l1 => k_is)
    (case c1 => k_is)
    (case k1 => k_is)
    (case a2 => k_is)
    (case l2 => k_is)
    (case c2 => k_is)
    (case k2 => k_is)
    (case a3 => k_is)
    (case l3 => k_is)
    (case c3 => k_is)
    (case k3 => k_is)
    (case a4 => k_is)
    (case l4 => k_is)
    (case c4 => k_is)
    (case k4 => k_is)
    (case a5 => k_is)
    (case l5 => k_is)
    (case c5 => k_is)
    (case k5 => k_is)
    (case a6 => k_is)
    (case l6 => k_is)
    (case c6 => k_is)
    (case k6 => k_is)
    (case a7 => k_is)
    (case l7 => k_is)
    (case c7 => k_is)
    (case k7 => k_is)
    (case a8 => k_is)
    (case l8 => k_is)
    (case c8 => k_is)
    (case k8 => k_is)
    (case z0 => k_is)
    (case z1 => k_is)
    (case z2 => k_is)
    (case z3 => k_is)
    (case z4 => k_is)
    (case z5 => k_is)
    (case z6 => k_is)
    (case x_BadWay => k_is)
    (case x_NotesError => k_is)
    (case x_BadKind => k_is)
    (case e1 => k_is)
    (case e2 => k_exc)
    (case e3 => k_is)
    (case e4 => k_is)
    (case e5 => k_is)
    (case e6 => k_is)
    (case e7 => k_is)
    (case e8 => k_is)
    (case e9 => k_is)
    (case e10 => k_is)
    (case e11 => k_is)
    (case e12 => k_is)
    (case e13 => k_is)
    (case n1 => k_is)
    (case n2 => k_is)
    (case n3 => k_is)
    (case n4 => k_is)
    (case y1_BadKind => k_is)
    (case y2_BadKind => k_is)
    (case y3_BadKind => k_is)
    (case qN => k_is)
    (case lT => k_is)
