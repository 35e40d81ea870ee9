import PyProof.Rows.All
import Wide.All
import OpenK.AllK
import Wide.FinOn
import HandS.ForMost
import HandS.Exc
import HandS.ExcOwn
import HandS.ExcIs
import HandS.TryOnly
import HandS.WordsExc
import HandS.IsInst
import HandS.Star
import HandS.Walk
import HandS.FStr
import HandS.Deep
import HandS.SetFor
import HandS.Defaults
import PySem.Challenge.RW_kindnotes_k10_text_of_a_way
set_option Elab.async false
set_option linter.all false
set_option maxRecDepth 100000
set_option maxHeartbeats 2000000
namespace KN
open PySem PySem.Spec PyProof.Rows L2
/-! ### the text -/
def topS (i : Nat) : Stmt := PySem.Challenge.pw_kindnotes_k10_text_of_a_way.main.body.getD i (.Pass ⟨0, 0, 0, 0⟩)
abbrev sWay : Stmt := topS 5
abbrev sWayText : Stmt := topS 6
abbrev sParse : Stmt := topS 7
abbrev sParseStep : Stmt := topS 8
abbrev sCell : Stmt := topS 10
abbrev sTape : Stmt := topS 11
abbrev sTake : Stmt := topS 12
abbrev sShuf : Stmt := topS 13
abbrev sLaw : Stmt := topS 14
/-! ### heaps -/
theorem same_upd {H : Hp} {p : Addr} {o : HO} (h : H p = none) : Same H (upd H p o) := fun b x e => by
  rw [upd_ne (ne_of_none e h)]
  exact e
section
variable {P : Program} {w : World} {K : PySem.W.Frag} {mg : Str → Option Value} {base : Heap}
/-! ### a cell of the script -/
theorem scCell : FnScope ["_law_script", "_law_k"] ["_law_script", "_law_k"] (defScope sCell) := ⟨rfl, rfl, rfl, by decide +kernel, rfl, by decide +kernel, by decide +kernel⟩
def spCell (K : PySem.W.Frag) : Sp := fun vs H Q _ => ∃ (a : Addr) (ns : List Int) (k : Nat), vs = [.ref a, .int (k : Int)] ∧ SqL K H a (ns.map V.int) ∧ ns.length ≤ 63 ∧ ∀ v : Int, Q (.int v) H
theorem ok_cell {f : Addr} {fd : FuncData} (F : Fun K "_law_cell" "_law_cell" sCell f fd) (ml : mg "len" = none) : FnOk P w K mg base CX0 1 f fd ["_law_script", "_law_k"] (spCell K) := by
  refine F.ok scCell (fun vs H Q E h => ?_) (fun cdv A outer s H vs Q E hr h => ?_)
  · obtain ⟨a, ns, k, rfl, _⟩ := h
    rfl
  obtain ⟨a, ns, k, rfl, hS, hlen, q⟩ := h
  refine ⟨_, pss_cons (ps_if (pt_cmpR op_lt (pv 1) (pe_callB call_len_seq (by rfl) ml PySem.boot_len (pa_cons (pv 0) pa_nil)) (nomark _)) (pss_one (ps_ret (pe_ix ix_list (pv 0) (pv 1) (fun _ _ => rfl)))) pss_nil)
    (pss_one (ps_ret pe_int)), ?_⟩
  refine ⟨_, rfl, _, rfl, a, _, rfl, .inl hS, _, _, rfl, rfl, _, rfl, ?_⟩
  refine ite2 (fun c => ?_) (fun c => ?_)
  · have c' : (k : Int) < (((ns.map V.int).length : Nat) : Int) := of_decide_eq_true c
    rw [List.length_map] at c'
    have hk : k < ns.length := by omega
    have g : (ns.map V.int)[k]? = some (.int ns[k]) := by
      rw [List.getElem?_map, List.getElem?_eq_getElem hk]
      rfl
    exact ⟨_, rfl, _, rfl, a, _, _, _, rfl, rfl, hS, atI_nat g, q _⟩
  · exact q 0
/-! ### the tape -/
theorem scTape : FnScope ["_law_script", "_law_k", "_law_size", "_law_cell_here", "_law_left", "_law_tape_here", "_law_j", "_law_mixed"] ["_law_script", "_law_k", "_law_size"] (defScope sTape) := ⟨rfl, rfl, rfl, by decide +kernel, rfl, by decide +kernel, by decide +kernel⟩
/-- a tape stands at p -/
def Tp (H : Hp) (p : Addr) : Prop := ∃ ns : List Int, H p = some (.lst (ns.map V.int)) ∧ ns.length ≤ 1000
def spTape (K : PySem.W.Frag) : Sp := fun vs H Q _ => ∃ (a : Addr) (ns : List Int) (k m : Nat), vs = [.ref a, .int (k : Int), .int (m : Int)] ∧ SqL K H a (ns.map V.int) ∧ ns.length ≤ 63 ∧ m ≤ 1000 ∧ ∀ H' p, Same H H' → H p = none → Tp H' p → Q (.ref p) H'
theorem fmod_small (c : Int) : -(2 ^ 64) < c.fmod 9973 ∧ c.fmod 9973 < 2 ^ 64 := by
  have h : c.fmod 9973 = c % 9973 := Int.fmod_eq_emod_of_nonneg c (by decide)
  rw [h]
  have h1 := Int.emod_nonneg c (show (9973 : Int) ≠ 0 by decide)
  have h2 := Int.emod_lt_of_pos c (show (0 : Int) < 9973 by decide)
  constructor <;> omega
theorem ok_tape {f fC : Addr} {fd fdC : FuncData} (F : Fun K "_law_tape" "_law_tape" sTape f fd) (FC : Fun K "_law_cell" "_law_cell" sCell fC fdC) (bC : Binds K fdC ["_law_script", "_law_k"] []) (gC : mg "_law_cell" = some (.ref fC))
    (ml : mg "len" = none) (mr : mg "range" = none) (mi : mg "int" = none) : FnOk P w K mg base CX0 2 f fd ["_law_script", "_law_k", "_law_size"] (spTape K) := by
  have GC : FnOk P w K mg base CX0 1 fC fdC ["_law_script", "_law_k"] (spCell K) := ok_cell FC ml
  refine F.ok scTape (fun vs H Q E h => ?_) (fun cdv A outer s H vs Q E hr h => ?_)
  · obtain ⟨a, ns, k, m, rfl, _⟩ := h
    rfl
  obtain ⟨a, ns, k, m, rfl, hS, hlen, hm, q⟩ := h
  refine ⟨_, pss_cons (ps_set (i := 3) scTape.nd rfl (.inl rfl) (pe_call GC hr (by rfl) gC FC.kp bC .nil pass0 (pa_cons (pv 0) (pa_cons (pv 1) pa_nil))))
    (pss_cons (ps_set (i := 4) scTape.nd rfl (.inl rfl) (pv 3))
    (pss_cons (ps_set (i := 5) scTape.nd rfl (.inl rfl) (pe_lst pa_nil))
    (pss_cons (ps_for PassesOwn.never rfl (pi_range1 (by rfl) mr (pa_cons (pv 2) pa_nil)) (pg_name (i := 6) scTape.nd rfl (.inl rfl))
      (pss_one (ps_if (PW.pt (pw_and (pt_cmpR op_ge (pv 3) (pe_op op_pow pe_int pe_int) (nomark _)) (pw_and1 (pt_cmpR op_gt (pv 4) pe_int (nomark _)))))
        (pss_cons (ps_expr (pe_bm PySem.F.plainAttrs_list PySem.F.slot_list_append PySem.F.type_list_append mt_append (pv 5) (pa_cons (pe_op op_modN (pe_callTy call_int1 (by rfl) mi (by decide +kernel) (pa_cons (pv 4) pa_nil)) pe_int) pa_nil)))
          (pss_one (ps_set (i := 4) scTape.nd rfl (.inl rfl) (pe_op op_fdivN (pv 4) pe_int))))
        (pss_cons (ps_set (i := 7) scTape.nd rfl (.inl rfl) (pe_op op_modN (pe_callTy call_int1 (by rfl) mi (by decide +kernel) (pa_cons
            (pe_op op_add (pe_op op_mul (pe_op op_modN (pe_callTy call_int1 (by rfl) mi (by decide +kernel) (pa_cons (pv 3) pa_nil)) pe_int) (pe_op op_add pe_int (pe_op op_mul pe_int (pv 6)))) (pe_op op_mul pe_int (pv 6))) pa_nil)) pe_int))
          (pss_one (ps_expr (pe_bm PySem.F.plainAttrs_list PySem.F.slot_list_append PySem.F.type_list_append mt_append (pv 5) (pa_cons (pe_op op_add (pv 7) (pe_op op_fdivN (pv 7) pe_int)) pa_nil))))))))
    (pss_one (ps_ret (pv 5)))))), ?_⟩
  refine ⟨_, rfl, _, rfl, a, ns, k, rfl, hS, hlen, fun c => ?_⟩
  refine ⟨_, rfl, Nat.zero_le _, fun p np => ?_⟩
  refine ⟨_, rfl, (m : Int), rfl, by omega, by omega, ?_⟩
  refine for_range (lo := 0) (n := m) (fun i σ H' => ∃ (l : Int) (y6 y7 : Option V) (ts : List Int), σ = [some (.ref a), some (.int (k : Int)), some (.int (m : Int)), some (.int c), some (.int l), some (.ref p), y6, y7] ∧ Same H H' ∧ H' p = some (.lst (ts.map V.int)) ∧ ts.length = i)
    ⟨c, none, none, [], rfl, same_upd np, upd_same, rfl⟩ (fun i σ H' hi hW => ?_) (fun σ H' hW => ?_)
  · obtain ⟨l, y6, y7, ts, rfl, sm, ep, hl⟩ := hW
    have small : (ts.map V.int).length < sizeLine := by
      rw [List.length_map]
      exact small1000 (by omega)
    have smU : ∀ o, Same H (upd H' p o) := fun o b x e => by
      rw [upd_ne (ne_of_none e np)]
      exact sm _ _ e
    refine ⟨_, rfl, 10, 18, rfl, rfl, ⟨by decide, by decide, by decide⟩, _, _, rfl, rfl, _, rfl, ?_⟩
    refine ite2 (fun _ => ⟨_, rfl, _, _, rfl, rfl, _, rfl, ite2 (fun _ => ?t) (fun _ => ?e1)⟩) (fun _ => ?e2)
    case t =>
      refine ⟨_, rfl, .inl ⟨rfl, _, SqL.of ep⟩, _, rfl, .inl ⟨_, rfl, _, _, rfl, rfl, (by show (5040 : Int) ≠ 0; decide), p, _, _, rfl, rfl, ep, small, ?_⟩⟩
      refine ⟨_, rfl, _, _, rfl, rfl, ⟨by decide, by decide⟩, ?_⟩
      exact ⟨_, _, _, ts ++ [_], rfl, smU _, by rw [upd_same, List.map_append]; rfl, by rw [List.length_append, hl]; rfl⟩
    all_goals
      refine ⟨_, rfl, .inl ⟨_, rfl, _, _, rfl, rfl, (by show (9973 : Int) ≠ 0; decide), _, rfl, _, _, rfl, rfl, .inl ⟨by decide, by decide⟩, _, _, rfl, rfl, _, _, rfl, rfl, .inl (fmod_small c), _, rfl, _, _, rfl, rfl, .inl ⟨by decide, by decide⟩, _, _, rfl, rfl, .inl ⟨_, rfl, _, _, rfl, rfl, (by show (1009 : Int) ≠ 0; decide), ?_⟩⟩⟩
      refine ⟨_, rfl, .inl ⟨rfl, _, SqL.of ep⟩, _, rfl, _, rfl, _, _, rfl, rfl, ⟨by decide, by decide⟩, _, _, rfl, rfl, p, _, _, rfl, rfl, ep, small, ?_⟩
      exact ⟨_, _, _, ts ++ [_], rfl, smU _, by rw [upd_same, List.map_append]; rfl, by rw [List.length_append, hl]; rfl⟩
  · obtain ⟨l, y6, y7, ts, rfl, sm, ep, hl⟩ := hW
    exact ⟨_, rfl, q H' p sm np ⟨ts, ep, by omega⟩⟩
end
end KN
set_option Elab.async false
set_option linter.all false
set_option maxRecDepth 100000
set_option maxHeartbeats 2000000
namespace KN
open PySem PySem.Spec PyProof.Rows L2
/-- all but the object at p stands as it stood -/
def But (p : Addr) (H H' : Hp) : Prop := ∀ b o, b ≠ p → H b = some o → H' b = some o
theorem But.refl (p : Addr) (H : Hp) : But p H H := fun _ _ _ h => h
theorem But.trans {p : Addr} {H H1 H2 : Hp} (a : But p H H1) (b : But p H1 H2) : But p H H2 := fun c o n h => b c o n (a c o n h)
theorem But.of {p : Addr} {H H' : Hp} (s : Same H H') : But p H H' := fun b o _ h => s b o h
theorem But.upd (p : Addr) (H : Hp) (o : HO) : But p H (upd H p o) := fun b u n h => by
  rw [upd_ne n]
  exact h
theorem Tp.same {H H' : Hp} {p : Addr} (t : Tp H p) (s : Same H H') : Tp H' p := by
  obtain ⟨ns, e, h⟩ := t
  exact ⟨ns, s _ _ e, h⟩
theorem Tp.ne {H : Hp} {p q : Addr} (t : Tp H p) (h : H q = none) : p ≠ q := by
  obtain ⟨ns, e, _⟩ := t
  exact ne_of_none e h
theorem tyes {σ : L2.St} {H : Hp} {A B : Hp → Prop} (h : A H) : tYes σ H (fun b H3 => if b = true then A H3 else B H3) := by
  show if true = true then A H else B H
  rw [if_pos rfl]
  exact h
section
variable {P : Program} {w : World} {K : PySem.W.Frag} {mg : Str → Option Value} {base : Heap}
/-! ### take -/
theorem scTake : FnScope ["_law_tape_here", "_law_many"] ["_law_tape_here", "_law_many"] (defScope sTake) := ⟨rfl, rfl, rfl, by decide +kernel, rfl, by decide +kernel, by decide +kernel⟩
def spTake : Sp := fun vs H Q _ => ∃ (p : Addr) (m : Nat), vs = [.ref p, .int (m : Int)] ∧ Tp H p ∧ 1 ≤ m ∧ ∀ (H' : Hp) (r : Nat), But p H H' → Tp H' p → r < m → Q (.int (r : Int)) H'
theorem ok_take {f : Addr} {fd : FuncData} (F : Fun K "_law_take" "_law_take" sTake f fd) (ml : mg "len" = none) (mi : mg "int" = none) : FnOk P w K mg base CX0 1 f fd ["_law_tape_here", "_law_many"] spTake := by
  refine F.ok scTake (fun vs H Q E h => ?_) (fun cdv A outer s H vs Q E hr h => ?_)
  · obtain ⟨p, m, rfl, _⟩ := h
    rfl
  obtain ⟨p, m, rfl, ⟨ns, ep, hl⟩, hm, q⟩ := h
  refine ⟨_, pss_cons (ps_if (pt_cmpR op_eq (pe_callB call_len_seq (by rfl) ml PySem.boot_len (pa_cons (pv 0) pa_nil)) pe_int (nomark _)) (pss_one (ps_ret pe_int)) pss_nil)
    (pss_one (ps_ret (pe_op op_modN (pe_callTy call_int1 (by rfl) mi (by decide +kernel) (pa_cons (pe_bm PySem.F.plainAttrs_list PySem.F.slot_list_pop PySem.F.type_list_pop mt_popAt (pv 0) (pa_cons pe_int pa_nil)) pa_nil)) (pv 1)))), ?_⟩
  refine ⟨_, rfl, p, _, rfl, .inl (SqL.of ep), rfl, _, rfl, ite2 (fun c => ?_) (fun c => ?_)⟩
  · exact q H 0 (But.refl _ _) ⟨ns, ep, hl⟩ (by omega)
  · cases ns with
    | nil => exact absurd (decide_eq_true rfl) c
    | cons x r =>
      refine ⟨_, rfl, .inl ⟨rfl, _, SqL.of ep⟩, p, _, 0, 0, .int x, rfl, rfl, ep, by decide, by decide, ?_, rfl, .inl ⟨_, rfl, _, rfl, _, _, rfl, rfl, ?_, ?_⟩⟩
      · exact seqIndex_of (by decide) (by rw [List.length_map, List.length_cons]; omega)
      · show (m : Int) ≠ 0
        omega
      · have e1 : x.fmod (m : Int) = x % (m : Int) := Int.fmod_eq_emod_of_nonneg x (by omega)
        have h1 := Int.emod_nonneg x (show (m : Int) ≠ 0 by omega)
        have h2 := Int.emod_lt_of_pos x (show (0 : Int) < (m : Int) by omega)
        have z := q (upd H p (.lst (r.map V.int))) (x % (m : Int)).toNat (But.upd _ _ _) ⟨r, upd_same, by rw [List.length_cons] at hl; omega⟩ (by omega)
        rw [Int.toNat_of_nonneg h1] at z
        show Q (.int (x.fmod (m : Int))) _
        rw [e1]
        exact z
end
end KN
set_option Elab.async false
set_option linter.all false
set_option maxRecDepth 100000
set_option maxHeartbeats 400000
namespace KN
open PySem PySem.Spec PyProof.Rows L2
/-! ### data: texts, whole numbers, tuples, None -/
inductive Fd where
  | s (z : Str)
  | i (k : Int)
  | t (ds : List Fd)
  | n
mutual
def dep : Fd → Nat
  | .s _ => 0
  | .i _ => 0
  | .t ds => 1 + deps ds
  | .n => 0
def deps : List Fd → Nat
  | [] => 0
  | d :: ds => max (dep d) (deps ds)
end
mutual
def toPy : Fd → PyData
  | .s z => .str z
  | .i k => .int k
  | .t ds => .tuple (toPys ds)
  | .n => .none
def toPys : List Fd → List PyData
  | [] => []
  | d :: ds => toPy d :: toPys ds
end
mutual
/-- its texts are texts of Python's -/
def lay : Fd → Bool
  | .s z => PyData.strOk z
  | .i _ => true
  | .t ds => lays ds
  | .n => true
def lays : List Fd → Bool
  | [] => true
  | d :: ds => lay d && lays ds
end
mutual
theorem canLay_toPy : ∀ d : Fd, lay d = true → (toPy d).canLay0 = true
  | .s z, h => by
    simp only [toPy, PyData.canLay0]
    exact h
  | .i _, _ => rfl
  | .t ds, h => by
    simp only [toPy, PyData.canLay0]
    exact canLay_toPys ds h
  | .n, _ => rfl
theorem canLay_toPys : ∀ ds : List Fd, lays ds = true → PyData.canLayAll0 (toPys ds) = true
  | [], _ => rfl
  | d :: ds, h => by
    simp only [lays, Bool.and_eq_true] at h
    simp only [toPys, PyData.canLayAll0, Bool.and_eq_true]
    exact ⟨canLay_toPy d h.1, canLay_toPys ds h.2⟩
end
mutual
theorem depth_toPy : ∀ d : Fd, (toPy d).depth ≤ dep d
  | .s z => by simp [toPy, PyData.depth, dep]
  | .i z => by simp [toPy, PyData.depth, dep]
  | .t ds => by
    have h := depth_toPys ds
    simp [toPy, PyData.depth, dep]
    omega
  | .n => by simp [toPy, PyData.depth, dep]
theorem depth_toPys : ∀ ds : List Fd, PyData.depthAll (toPys ds) ≤ deps ds
  | [] => by simp [toPys, PyData.depthAll]
  | d :: ds => by
    have h1 := depth_toPy d
    have h2 := depth_toPys ds
    simp [toPys, PyData.depthAll, deps]
    omega
end
theorem shaped_toPy {d : Fd} (hf : lay d = true) (h : dep d ≤ 60) : SeqAt.shaped (toPy d) = true := by
  have h1 := depth_toPy d
  show ((toPy d).canLay0 && decide ((toPy d).depth ≤ 64)) = true
  rw [canLay_toPy d hf, decide_eq_true (by omega)]
  rfl
theorem eqv_toPy {d : Fd} (h : lay d = true) : PyData.eqv (toPy d) (toPy d) = true := SeqAt.eqv_refl _ (canLay_toPy d h)
mutual
/-- the value v is, in the heap H, the data d -/
inductive Rp (H : Hp) : V → Fd → Prop
  | n : Rp H .non .n
  | s (z : Str) : Rp H (.str z) (.s z)
  | i (k : Int) : Rp H (.int k) (.i k)
  | t {a : Addr} {vs : List V} {ds : List Fd} : H a = some (.tup vs) → RpA H vs ds → Rp H (.ref a) (.t ds)
inductive RpA (H : Hp) : List V → List Fd → Prop
  | nil : RpA H [] []
  | cons {v : V} {vs : List V} {d : Fd} {ds : List Fd} : Rp H v d → RpA H vs ds → RpA H (v :: vs) (d :: ds)
end
/-- the tuples stand as they stood -/
def Keep (H H' : Hp) : Prop := ∀ b xs, H b = some (.tup xs) → H' b = some (.tup xs)
theorem Keep.refl (H : Hp) : Keep H H := fun _ _ h => h
theorem Keep.trans {H H1 H2 : Hp} (a : Keep H H1) (b : Keep H1 H2) : Keep H H2 := fun c xs h => b c xs (a c xs h)
theorem Keep.same {H H' : Hp} (s : Same H H') : Keep H H' := fun b xs h => s b _ h
theorem Keep.but {H H' : Hp} {p : Addr} (s : But p H H') (t : Tp H p) : Keep H H' := fun b xs h => by
  refine s b _ (fun e => ?_) h
  obtain ⟨ns, e2, _⟩ := t
  rw [e, e2] at h
  cases h
theorem Keep.lst {H : Hp} {D : Addr} {ys : List V} {o : HO} (h : H D = some (.lst ys)) : Keep H (upd H D o) := fun b xs e => by
  rw [upd_ne (fun z => by rw [z, h] at e; cases e)]
  exact e
theorem Keep.new {H : Hp} {D : Addr} {o : HO} (h : H D = none) : Keep H (upd H D o) := .same (same_upd h)
mutual
theorem Rp.keep {H H' : Hp} (k : Keep H H') : ∀ {v : V} {d : Fd}, Rp H v d → Rp H' v d
  | _, .s z, .s _ => .s z
  | _, .i z, .i _ => .i z
  | _, .n, .n => .n
  | _, .t ds, .t h a => .t (k _ _ h) (RpA.keep k a)
theorem RpA.keep {H H' : Hp} (k : Keep H H') : ∀ {vs : List V} {ds : List Fd}, RpA H vs ds → RpA H' vs ds
  | _, [], .nil => .nil
  | _, d :: ds, .cons h a => .cons (Rp.keep k h) (RpA.keep k a)
end
mutual
theorem Rp.dp {K : PySem.W.Frag} {H : Hp} : ∀ {v : V} {d : Fd}, Rp H v d → Dp K H v (toPy d)
  | _, .s z, .s _ => .str z
  | _, .i z, .i _ => .int z
  | _, .n, .n => .non
  | _, .t ds, .t h a => .tup (SqT.of h) (RpA.dp a)
theorem RpA.dp {K : PySem.W.Frag} {H : Hp} : ∀ {vs : List V} {ds : List Fd}, RpA H vs ds → DpAll K H vs (toPys ds)
  | _, [], .nil => .nil
  | _, d :: ds, .cons h a => .cons (Rp.dp h) (RpA.dp a)
end
theorem RpA.length {H : Hp} : ∀ {vs : List V} {ds : List Fd}, RpA H vs ds → vs.length = ds.length
  | _, [], .nil => rfl
  | _, d :: ds, .cons h a => by rw [List.length_cons, List.length_cons, RpA.length a]
theorem RpA.snoc {H : Hp} : ∀ {vs : List V} {ds : List Fd} {v : V} {d : Fd}, RpA H vs ds → Rp H v d → RpA H (vs ++ [v]) (ds ++ [d])
  | _, [], _, _, .nil, h => .cons h .nil
  | _, _ :: _, _, _, .cons h a, h2 => .cons h (RpA.snoc a h2)
theorem RpA.append {H : Hp} : ∀ {vs us : List V} {ds es : List Fd}, RpA H vs ds → RpA H us es → RpA H (vs ++ us) (ds ++ es)
  | _, _, [], _, .nil, h => h
  | _, _, _ :: _, _, .cons h a, h2 => .cons h (RpA.append a h2)
theorem RpA.set {H : Hp} : ∀ {vs : List V} {ds : List Fd} {j : Nat} {v : V} {d : Fd}, RpA H vs ds → Rp H v d → RpA H (vs.set j v) (ds.set j d)
  | _, [], _, _, _, .nil, _ => .nil
  | _, _ :: _, 0, _, _, .cons _ a, h => .cons h a
  | _, _ :: _, j + 1, _, _, .cons h0 a, h => .cons h0 (RpA.set a h)
theorem RpA.get {H : Hp} : ∀ {vs : List V} {ds : List Fd} {j : Nat} {d : Fd}, RpA H vs ds → ds[j]? = some d → ∃ v, vs[j]? = some v ∧ Rp H v d
  | _, [], _, _, .nil, h => by simp at h
  | _, _ :: _, 0, _, .cons h0 a, h => ⟨_, rfl, by
    have := Option.some.inj h
    rw [← this]
    exact h0⟩
  | _, _ :: _, j + 1, _, .cons h0 a, h => RpA.get (j := j) a h
theorem RpA.get? {H : Hp} : ∀ {vs : List V} {ds : List Fd} {j : Nat} {v : V}, RpA H vs ds → vs[j]? = some v → ∃ d, ds[j]? = some d ∧ Rp H v d
  | _, [], _, _, .nil, h => by simp at h
  | _, _ :: _, 0, _, .cons h0 a, h => ⟨_, rfl, by
    have := Option.some.inj h
    rw [← this]
    exact h0⟩
  | _, _ :: _, j + 1, _, .cons h0 a, h => RpA.get? (j := j) a h
/-! ### written data -/
section
variable {X : Cx}
def tLit (d : Fd) : TE := fun _ H Q => ∀ H' v, Same H H' → Rp H' v d → Q v H'
def tLits (ds : List Fd) : TA := fun _ H Q => ∀ H' vs, Same H H' → RpA H' vs ds → Q vs H'
theorem pe_imp {e : Expr} {t t' : TE} (h : PE X e t) (i : ∀ σ H Q, t' σ H Q → t σ H Q) : PE X e t' := ⟨fun pins s σ H Q I hq => h.run pins s σ H Q I (i σ H Q hq)⟩
theorem pa_imp {es : List Expr} {t t' : TA} (h : PA X es t) (i : ∀ σ H Q, t' σ H Q → t σ H Q) : PA X es t' := ⟨fun pos pins s σ H Q I hq => h.run pos pins s σ H Q I (i σ H Q hq)⟩
theorem lit_s {z : Str} {j : Nat} {pos : Pos} : PE X (.Constant (.str z) j pos) (tLit (.s z)) := pe_imp pe_str fun σ H Q h => h H _ (Same.refl H) (.s z)
theorem lits_nil : PA X [] (tLits []) := pa_imp pa_nil fun σ H Q h => h H _ (Same.refl H) .nil
theorem lits_cons {e : Expr} {es : List Expr} {d : Fd} {ds : List Fd} (h : PE X e (tLit d)) (r : PA X es (tLits ds)) (hs : starEach (e :: es) X.env = (false, eval e X.env) :: starEach es X.env := by rfl) : PA X (e :: es) (tLits (d :: ds)) :=
  pa_imp (pa_cons h r hs) fun σ H Q q H1 v s1 r1 H2 vs s2 r2 => q H2 _ (s1.trans s2) (.cons (r1.keep (.same s2)) r2)
theorem lit_t {es : List Expr} {k : Nat} {pos : Pos} {ds : List Fd} (h : PA X es (tLits ds)) (hl : ds.length ≤ 1000) : PE X (.Tuple es k pos) (tLit (.t ds)) :=
  pe_imp (pe_tup h) fun σ H Q q H1 vs s1 r1 => ⟨Nat.le_of_lt (small1000 (by rw [r1.length]; exact hl)), fun p np => q _ _ (s1.trans (same_upd np)) (.t upd_same (r1.keep (.new np)))⟩
end
theorem lits_none {X : Cx} {j : Nat} {pos : Pos} : PE X (.Constant .none j pos) (tLit .n) := pe_imp pe_non fun σ H Q h => h H _ (Same.refl H) .n
theorem lit_i {X : Cx} {k : Int} {j : Nat} {pos : Pos} : PE X (.Constant (.int k) j pos) (tLit (.i k)) := pe_imp pe_int fun σ H Q h => h H _ (Same.refl H) (.i k)
theorem ty_s {K : PySem.W.Frag} {H : Hp} {z : Str} : TyX K H (.str z) (.type "str") := .base (.str z)
theorem ty_t {K : PySem.W.Frag} {H : Hp} {a : Addr} {vs : List V} (h : H a = some (.tup vs)) : TyX K H (.ref a) (.type "tuple") := .base (.tup h)
/-- a walk over a list or over a tuple -/
theorem pi_seq {X : Cx} {tg l : Expr} {tl : TE} (hl : PE X l tl) : PI X tg l (fun σ H R => iList X.K tl σ H R ∨ iTup X.K tl σ H R) :=
  ⟨fun pins s σ H R I h => h.elim (fun h => (pi_list hl).run pins s σ H R I h) (fun h => (pi_tup hl).run pins s σ H R I h)⟩
end KN
set_option Elab.async false
set_option linter.all false
set_option maxRecDepth 100000
set_option maxHeartbeats 400000
/-! ### calls with keywords alone -/
namespace StX
open PySem PySem.Spec PyProof.Rows L2
def FnKw (P : Program) (w : World) (K : PySem.W.Frag) (mg : Str → Option Value) (base : Heap) (CX : CXT) (k : Nat) (f : Addr) (ks : List Str) (sp : List V → Sp) : Prop :=
  ∀ (A : Around) (outer : List Env) (s : Shared) (H : Hp) (us ws : List Value) (vs zs : List V) (Q : VK) (E : XK), Room k A → Env0 P w K mg base A outer s H → Vals vs us → Vals zs ws → sp zs vs H Q E →
    codeAny (model P w) A (.call (.ref f) ⟨us, ks.zip ws⟩) (CR CX outer P w H s Q E) s
section
variable {CX : CXT} {P : Program} {w : World} {K : PySem.W.Frag} {mg : Str → Option Value} {base : Heap} {k : Nat} {f : Addr} {name qual : Str} {params : Arguments} {body : List Stmt} {scope : Scope} {dV kV doc pm cdv ct oc : Value} {an od : Option Addr}
  {osl : Array (Option Value)} {N ks : List Str} {sp : Sp}
theorem FnKw.imp {sp sp' : List V → Sp} (F : FnKw P w K mg base CX k f ks sp) (h : ∀ zs vs H Q E, sp' zs vs H Q E → sp zs vs H Q E) : FnKw P w K mg base CX k f ks sp' := fun A outer s H us ws vs zs Q E hr e0 r rz hs => F A outer s H us ws vs zs Q E hr e0 r rz (h _ _ _ _ _ hs)
/-- a def with keyword-only parameters, all of them written -/
theorem kw_of {fd : FuncData} {ps : List Str} {sp : Sp} (F : FnOk P w K mg base CX k f fd ps sp) (hb : ∀ (s : Shared) (ws : List Value), ws.length = ps.length → BindsTo s fd ⟨[], ks.zip ws⟩ (ps.zip ws)) : FnKw P w K mg base CX k f ks (fun zs vs H Q E => vs = [] ∧ sp zs H Q E) := by
  intro A outer s H us ws vs zs Q E hr e0 r rz h
  obtain ⟨rfl, h⟩ := h
  cases r
  exact F.run A outer s H ⟨[], ks.zip ws⟩ ws zs Q E hr e0 (hb s ws (by rw [← rz.length]; exact F.len _ _ _ _ h)) rz h
end
section
variable {X : Cx} {CX : CXT} {k : Nat} {f : Addr} {ks : List Str} {sp : List V → Sp} {E : XK} {x : Str} {p pos : Pos} {e : Expr} {es : List Expr} {kws : List Keyword} {t tk : TA}
theorem run_kw {pins : List (Addr × Obj)} {σ : L2.St} {H : Hp} {s : Shared} {Q : VK} {us ws : List Value} {vs zs : List V} (F : FnKw X.prog X.w X.K X.mg X.base CX k f ks sp) (hr : Room k X.A) (hx : Passes CX X E) (I : Inv X pins σ H s) (r : Vals vs us) (rz : Vals zs ws) (h : sp zs vs H Q E) :
    wpAny (model X.prog X.w) X.A (call (.ref f) us (ks.zip ws)) (EP X pins σ Q) X.xe s := by
  refine wpAny_call (codeAny_mono (F X.A X.stack s H us ws vs zs Q E hr I.env0 r rz h) fun r s' hq => ?_)
  cases r with
  | error e => exact hx pins σ H s e s' I hq
  | ok fl =>
    cases fl with
    | ret u => exact I.after hq
    | next => exact False.elim hq
    | brk => exact False.elim hq
    | cont => exact False.elim hq
def tKw (sp : List V → Sp) (E : XK) (t tk : TA) : TE := fun σ H Q => t σ H fun vs H1 => tk σ H1 fun zs H2 => sp zs vs H2 Q E
/-- f(e, .., k = v) -/
theorem pe_kw (F : FnKw X.prog X.w X.K X.mg X.base CX k f ks sp) (hr : Room k X.A) (hg : Gl X x) (hm : X.mg x = some (.ref f)) (hk : PySem.W.keepIn X.K (.ref f) = true) (hx : Passes CX X E)
    (ha : PA X (e :: es) t) (hkw : PK X kws tk) (hall : (backToKw pos (keywordEach kws X.env)).all (·.1.isSome) = true := by rfl) (hks : (backToKw pos (keywordEach kws X.env)).filterMap (·.1) = ks := by rfl)
    (hdb : (x == ("__debug__" : Str)) = false := by decide) (he : starEach (e :: es) X.env = (false, eval e X.env) :: starEach es X.env := by rfl)
    (hpl : ((backTo pos (starEach (e :: es) X.env)).any (·.1) || (backToKw pos (keywordEach kws X.env)).any (·.1.isNone)) = false := by rfl) :
    PE X (.Call (.Name x p) (e :: es) kws pos) (tKw sp E t tk) := by
  refine ⟨fun pins s σ H Q I h => ?_⟩
  refine wpAny_Call_Name_kw (ld_glob I hg hm ?_ hdb)
  refine PySem.W.callWith_KW (h₀ := X.base) I.ok.mod.kin hk hall (thn (ha.run pos pins s σ H _ I h) fun us s1 ⟨vs, H1, I1, r, q⟩ => ?_) hpl he
  refine thn (hkw.run pos pins s1 σ H1 _ I1 q) fun ws s2 ⟨zs, H2, I2, rz, q2⟩ => ⟨I2.kIn, ?_⟩
  rw [hks]
  exact run_kw F hr hx I2 r rz q2
/-- f(k = v) -/
theorem pe_kw0 (F : FnKw X.prog X.w X.K X.mg X.base CX k f ks sp) (hr : Room k X.A) (hg : Gl X x) (hm : X.mg x = some (.ref f)) (hk : PySem.W.keepIn X.K (.ref f) = true) (hx : Passes CX X E)
    (hkw : PK X kws tk) (hall : (backToKw pos (keywordEach kws X.env)).all (·.1.isSome) = true := by rfl) (hks : (backToKw pos (keywordEach kws X.env)).filterMap (·.1) = ks := by rfl)
    (hdb : (x == ("__debug__" : Str)) = false := by decide)
    (hpl : ((backTo pos (starEach [] X.env)).any (·.1) || (backToKw pos (keywordEach kws X.env)).any (·.1.isNone)) = false := by rfl) :
    PE X (.Call (.Name x p) [] kws pos) (tKw sp E tNil tk) := by
  refine ⟨fun pins s σ H Q I h => ?_⟩
  refine wpAny_Call_Name_kw (ld_glob I hg hm ?_ hdb)
  refine PySem.W.callWith_KW0 (h₀ := X.base) I.ok.mod.kin hk hall ?_ hpl
  refine thn (hkw.run pos pins s σ H _ I h) fun ws s2 ⟨zs, H2, I2, rz, q2⟩ => ⟨I2.kIn, ?_⟩
  rw [hks]
  exact run_kw F hr hx I2 .nil rz q2
end
end StX
namespace KN
open PySem PySem.Spec PyProof.Rows L2
/-- what the written part says of an error class of the program's own -/
structure ErrC (K : PySem.W.Frag) (mg : Str → Option Value) (x : Str) (C : Addr) : Prop where
  g : mg x = some (.ref C)
  kp : PySem.W.keepIn K (.ref C) = true
  ex : PySem.W.excIn K C [.type "ValueError", .type "Exception", .type "BaseException", .type "object"] "ValueError.__new__" = true
  sb : PySem.W.subIn K (.ref C) (.type "BaseException") = some true
  ty : PySem.W.typeIn K (.ref C) = some (.type "type")
  hd : PySem.W.hasDictIn K C = true
  ec : ExcC K C
/-! ### way -/
abbrev pD (w : Int × Str) : Fd := .t [.i w.1, .s w.2]
def dirB (d : Str) : Bool := inV (.str d) [.str (Str.ofString "told"), .str (Str.ofString "found")]
def cnt1 (l : List Int) (k : Nat) : Bool := decide (V.int ((l.count (k : Int) : Nat) : Int) = V.int 1)
def asc (l : List Int) (ns : List Int) : List Int := ((List.range l.length).map fun (k : Nat) => (k : Int)).filter fun k => inV (.int k) (ns.map V.int)
def wayB (z : Str) (ws : List (Int × Str)) (ns : List Int) : Bool :=
  (dirB z && ws.all fun w => dirB w.2) && ((decide (ws.length ≤ 3) && (List.range ws.length).all (cnt1 (ws.map (·.1)))) && decide ((asc (ws.map (·.1)) ns).length = ns.length))
section
variable {P : Program} {w : World} {K : PySem.W.Frag} {mg : Str → Option Value} {base : Heap}
abbrev NW : List Str := ["whole", "places", "noted", "steps", "listed", "ascending", "place", "direction", "step"]
theorem scW : FnScope NW ["whole", "places", "noted"] (defScope sWay) := ⟨rfl, rfl, rfl, by decide +kernel, rfl, by decide +kernel, by decide +kernel⟩
/-- a list or a tuple of these -/
def Sq (K : PySem.W.Frag) (H : Hp) (b : Addr) (xs : List V) : Prop := SqL K H b xs ∨ SqT K H b xs
def spWay (K : PySem.W.Frag) (CW : Addr) : Sp := fun vs H Q E => ∃ (z : Str) (b c : Addr) (items : List V) (ws : List (Int × Str)) (ns : List Int), vs = [.str z, .ref b, .ref c] ∧ Sq K H b items ∧ RpA H items (ws.map pD) ∧ ws.length ≤ 20 ∧ Sq K H c (ns.map V.int) ∧ ns.length ≤ 20 ∧
  (wayB z ws ns = true → ∀ H' t, Same H H' → Rp H' (.ref t) (.t [.s z, .t (ws.map pD), .t ((asc (ws.map (·.1)) ns).map Fd.i)]) → Q (.ref t) H') ∧ (wayB z ws ns = false → ∀ H', Same H H' → E (.ref CW) none H')
theorem sq_of {H H' : Hp} {b : Addr} {xs : List V} (s : Same H H') (h : Sq K H b xs) : Sq K H' b xs := by
  rcases h with h | h
  · exact .inl (s.seq h)
  · refine .inr ?_
    rcases h with (h | ⟨o, h⟩) | h
    · exact .inl (.inl (s _ _ h))
    · exact .inl (.inr ⟨o, s _ _ h⟩)
    · exact .inr h
theorem pd_of {H : Hp} {x : V} {d : Fd} {ws : List (Int × Str)} {i : Nat} (h : (ws.map pD)[i]? = some d) (r : Rp H x d) : ∃ w a, ws[i]? = some w ∧ x = .ref a ∧ H a = some (.tup [.int w.1, .str w.2]) := by
  rw [List.getElem?_map] at h
  cases e : ws[i]? with
  | none =>
    rw [e] at h
    cases h
  | some w =>
    rw [e] at h
    have e2 : pD w = d := Option.some.inj h
    subst e2
    cases r with
    | t ha rr =>
      cases rr with
      | cons r1 rr =>
        cases r1
        cases rr with
        | cons r2 rr =>
          cases r2
          cases rr
          exact ⟨w, _, rfl, rfl, ha⟩
theorem strs_of {l : List Str} {i : Nat} {x : V} (h : (l.map V.str)[i]? = some x) : ∃ d, l[i]? = some d ∧ x = .str d := by
  rw [List.getElem?_map] at h
  cases e : l[i]? with
  | none =>
    rw [e] at h
    cases h
  | some d =>
    rw [e] at h
    exact ⟨d, rfl, (Option.some.inj h).symm⟩
theorem int_ne' {i j : Int} (h : i ≠ j) : ¬ (V.int i = V.int j) := fun e => h (V.int.inj e)
theorem rp_ints (H : Hp) : ∀ l : List Int, RpA H (l.map V.int) (l.map Fd.i)
  | [] => .nil
  | k :: l => .cons (.i k) (rp_ints H l)
theorem flat_ints (ns : List Int) : (ns.map V.int).all flatV = true := by
  rw [List.all_map, List.all_eq_true]
  intro x _
  rfl
theorem sqt_of {H H' : Hp} {b : Addr} {xs : List V} (s : Same H H') (h : SqT K H b xs) : SqT K H' b xs := by
  rcases h with (h | ⟨o, h⟩) | h
  · exact .inl (.inl (s _ _ h))
  · exact .inl (.inr ⟨o, s _ _ h⟩)
  · exact .inr h
theorem ok_way {f CW : Addr} {fd : FuncData} (F : Fun K "way" "way" sWay f fd) (ml : mg "len" = none) (ma : mg "all" = none) (mr : mg "range" = none) (mt : mg "tuple" = none) (eW : ErrC K mg "BadWay" CW) : FnOk P w K mg base (L2.CX P w) 1 f fd ["whole", "places", "noted"] (spWay K CW) := by
  refine F.okX scW (fun vs H Q E h => ?_) (fun cdv A outer s H vs Q E hr h => ?_)
  · obtain ⟨z, b, c, items, ws, ns, rfl, _⟩ := h
    rfl
  obtain ⟨z, b, c, items, ws, ns, rfl, hb, ra, hwl, hc, hnl, good, bad⟩ := h
  have R : ∃ t2, PSs (cxOf (L2.CX P w) P w K mg base NW "way" (defScope sWay) f cdv A outer s H E) (defBody sWay).tail t2 ∧ ∀ H1 t pairs, Same H H1 → H1 t = some (.tup pairs) → RpA H1 pairs (ws.map pD) →
      t2 { nx := fun _ H' => Q .non H', rt := Q } [some (.str z), some (.ref b), some (.ref c), some (.ref t), none, none, none, none, none] H1 := by
    refine ⟨_, pss_cons (ps_if (pt_not (pt_val (pe_callB (cr_all (by rfl)) (by rfl) ma (by decide +kernel) (pa_cons
        (pe_lc (own := [("direction", 7)]) (g := gName 7) (tt := tYes) (te := tOp (rIn K false) (tVar 7) (tTup (tCons (tC (.str (Str.ofString "told"))) (tCons (tC (.str (Str.ofString "found"))) tNil)))) (by rfl) scW.nd
          (pi_list (pe_lst (pa_cons (pv 0) (StX.pa_star (pe_lc (own := [("step", 8)]) (g := gName 8) (tt := tYes) (te := tOp (rIxT K) (tVar 8) (tC (.int 1))) (by rfl) scW.nd (pi_tup (pv 3)) (blkOk_by (own := [("step", 8)]) (N := NW) (sc := defScope sWay) (by decide +kernel))
            (fun _ _ _ _ _ => pg_name (i := 8) scW.nd rfl (Or.inl rfl)) (fun _ _ _ _ _ => pts_nil) (fun _ _ _ _ _ => pe_ix ix_tup (pv 8) pe_int (fun _ _ => rfl))) pa_nil))))
          (blkOk_by (own := [("direction", 7)]) (N := NW) (sc := defScope sWay) (by decide +kernel))
          (fun _ _ _ _ _ => pg_name (i := 7) scW.nd rfl (Or.inl rfl)) (fun _ _ _ _ _ => pts_nil)
          (fun _ _ _ _ _ => pe_cmpR op_in_seq (pv 7) (pe_tup (pa_cons pe_str (pa_cons pe_str pa_nil))) (by rfl))) pa_nil))))
      (pss_one (ps_raise rfl (takes_of rfl rfl rfl rfl) (pmk_own PySem.F.excBase_ValueError eW.ex eW.g eW.kp (raises_own eW.sb eW.ty) rfl))) pss_nil)
    (pss_cons (ps_set (i := 4) scW.nd rfl (.inr rfl) (pe_lc (own := [("step", 8)]) (g := gName 8) (tt := tYes) (te := tOp (rIxT K) (tVar 8) (tC (.int 0))) (by rfl) scW.nd (pi_tup (pv 3)) (blkOk_by (own := [("step", 8)]) (N := NW) (sc := defScope sWay) (by decide +kernel))
        (fun _ _ _ _ _ => pg_name (i := 8) scW.nd rfl (Or.inl rfl)) (fun _ _ _ _ _ => pts_nil) (fun _ _ _ _ _ => pe_ix ix_tup (pv 8) pe_int (fun _ _ => rfl))))
    (pss_cons (ps_if (PW.pt (pw_or (pt_cmpR op_gt (pe_callB call_len_seq (by rfl) ml PySem.boot_len (pa_cons (pv 4) pa_nil)) pe_int (nomark _))
        (pw_or1 (pt_not (pt_val (pe_callB (cr_all (by rfl)) (by rfl) ma (by decide +kernel) (pa_cons
          (pe_lc (own := [("place", 6)]) (g := gName 6) (tt := tYes) (te := tOp rEq (tBM K "list" (rCntI K) (tVar 4) (tCons (tVar 6) tNil)) (tC (.int 1))) (by rfl) scW.nd (pi_range1 (by rfl) mr (pa_cons (pe_callB call_len_seq (by rfl) ml PySem.boot_len (pa_cons (pv 4) pa_nil)) pa_nil))
            (blkOk_by (own := [("place", 6)]) (N := NW) (sc := defScope sWay) (by decide +kernel))
            (fun _ _ _ _ _ => pg_name (i := 6) scW.nd rfl (Or.inl rfl)) (fun _ _ _ _ _ => pts_nil)
            (fun _ _ _ _ _ => pe_cmpR op_eq (pe_bm PySem.F.plainAttrs_list PySem.F.slot_list_count PySem.F.type_list_count mt_lcount (pv 4) (pa_cons (pv 6) pa_nil)) pe_int (nomark _))) pa_nil)))))))
      (pss_one (ps_raise rfl (takes_of rfl rfl rfl rfl) (pmk_own PySem.F.excBase_ValueError eW.ex eW.g eW.kp (raises_own eW.sb eW.ty) rfl))) pss_nil)
    (pss_cons (ps_set (i := 5) scW.nd rfl (.inl rfl) (pe_callTy call_tuple_of (by rfl) mt (by decide +kernel) (pa_cons
        (pe_lc (own := [("place", 6)]) (g := gName 6) (tt := tTest (tOp (rIn K false) (tVar 6) (tVar 2))) (by rfl) scW.nd (pi_range1 (by rfl) mr (pa_cons (pe_callB call_len_seq (by rfl) ml PySem.boot_len (pa_cons (pv 4) pa_nil)) pa_nil))
          (blkOk_by (own := [("place", 6)]) (N := NW) (sc := defScope sWay) (by decide +kernel))
          (fun _ _ _ _ _ => pg_name (i := 6) scW.nd rfl (Or.inl rfl)) (fun _ _ _ _ _ => pts_one (pt_cmpR op_in_seq (pv 6) (pv 2) (by rfl)))
          (fun _ _ _ _ _ => pv 6)) pa_nil)))
    (pss_cons (ps_if (pt_cmpR op_ne (pe_callB call_len_seq (by rfl) ml PySem.boot_len (pa_cons (pv 5) pa_nil)) (pe_callB call_len_seq (by rfl) ml PySem.boot_len (pa_cons (pv 2) pa_nil)) (nomark _))
      (pss_one (ps_raise rfl (takes_of rfl rfl rfl rfl) (pmk_own PySem.F.excBase_ValueError eW.ex eW.g eW.kp (raises_own eW.sb eW.ty) rfl))) pss_nil)
    (pss_one (ps_ret (pe_tup (pa_cons (pv 0) (pa_cons (pv 3) (pa_cons (pv 5) pa_nil)))))))))), fun H1 t pairs sm1 et rp => ?_⟩
    have hpl := rp.length
    rw [List.length_map] at hpl
    have L9 : ∀ {n : Nat}, n ≤ 900 → n < sizeLine := fun h => small1000 (by omega)
    -- the directions
    refine ⟨_, rfl, _, rfl, t, rfl, ⟨_, SqT.of et⟩, fun D1 nD1 => ?_⟩
    refine lc_tup (K := K) (a := t) (xs := pairs) (fun i H' => Same H1 H' ∧ H' D1 = some (.lst (((ws.take i).map (·.2)).map V.str)))
      ⟨same_upd nD1, upd_same⟩ (fun i H' _ hW => SqT.of (hW.1 _ _ et)) (fun i x H' hx hW => ?_) (fun H2 hW => ?_)
    · obtain ⟨sm, eD⟩ := hW
      obtain ⟨d, hd, rd⟩ := rp.get? hx
      obtain ⟨w0, a0, hw0, rfl, ha0⟩ := pd_of hd (rd.keep (.same sm))
      refine ⟨rfl, tyes ?_⟩
      refine ⟨_, rfl, a0, _, 1, _, rfl, rfl, SqT.of ha0, atI_nat (j := 1) rfl, _, eD, ?_, fun b' o e => ?_, ?_⟩
      · rw [List.length_map, List.length_map, List.length_take]
        exact L9 (by omega)
      · rw [upd_ne (ne_of_none e nD1)]
        exact sm _ _ e
      · rw [upd_same, List.take_add_one, hw0, List.map_append, List.map_append]
        rfl
    obtain ⟨sm2, eD1⟩ := hW
    rw [List.take_of_length_le (by omega)] at eD1
    refine ⟨D1, _, rfl, .inr (SqL.of eD1), ?_⟩
    refine ⟨?_, fun L nL => ?_⟩
    · show ((((ws.map (fun (w : Int × Str) => w.2)).map V.str) ++ ([] : List V)).length + 1) ≤ sizeLine
      rw [List.append_nil, List.length_map, List.length_map]
      exact Nat.le_of_lt (L9 (by omega))
    have eL : (upd H2 L (.lst (.str z :: (((ws.map (·.2)).map V.str) ++ [])))) L = some (.lst ((z :: ws.map (·.2)).map V.str)) := by
      rw [upd_same, List.append_nil]
      rfl
    have sm3 : Same H1 (upd H2 L (.lst (.str z :: (((ws.map (·.2)).map V.str) ++ [])))) := sm2.trans (same_upd nL)
    generalize upd H2 L (.lst (.str z :: (((ws.map (·.2)).map V.str) ++ []))) = H3 at eL sm3
    refine ⟨L, rfl, ⟨_, SqL.of eL⟩, fun D2 nD2 => ?_⟩
    refine lc_list (K := K) (a := L) (xs := (z :: ws.map (·.2)).map V.str) (fun i H' => Same H3 H' ∧ H' D2 = some (.lst ((((z :: ws.map (·.2)).take i).map dirB).map V.bl)))
      ⟨same_upd nD2, upd_same⟩ (fun i H' _ hW => SqL.of (hW.1 _ _ eL)) (fun i x H' hx hW => ?_) (fun H4 hW => ?_)
    · obtain ⟨sm, eD⟩ := hW
      obtain ⟨d, hd, rfl⟩ := strs_of hx
      refine ⟨rfl, tyes ?_⟩
      refine ⟨_, rfl, (by show 2 ≤ sizeLine; decide), fun t3 nt3 => ⟨t3, _, rfl, .inr (SqT.of upd_same), rfl, rfl, _, same_upd nt3 _ _ eD, ?_, fun b' o e => ?_, ?_⟩⟩
      · rw [List.length_map, List.length_map, List.length_take, List.length_cons, List.length_map]
        exact L9 (by omega)
      · rw [upd_ne (ne_of_none e nD2)]
        exact same_upd nt3 _ _ (sm _ _ e)
      · rw [upd_same, List.take_add_one, hd, List.map_append, List.map_append]
        rfl
    obtain ⟨sm4', eD2⟩ := hW
    rw [List.length_map, List.take_of_length_le (Nat.le_refl _)] at eD2
    have sm4 := sm3.trans sm4'
    refine ⟨D2, _, rfl, SqL.of eD2, _, rfl, ?_⟩
    have edir : ((z :: ws.map (·.2)).map dirB).all id = (dirB z && ws.all fun (w : Int × Str) => dirB w.2) := by
      rw [List.all_map, List.all_cons, List.all_map]
      rfl
    rw [edir]
    cases hdir : (dirB z && ws.all fun (w : Int × Str) => dirB w.2) with
    | false =>
      refine iteT (bad ?_ H4 (sm1.trans sm4))
      unfold wayB
      rw [hdir, Bool.false_and]
    | true =>
    refine iteF ?_
    have wb1 : wayB z ws ns = ((decide (ws.length ≤ 3) && (List.range ws.length).all (cnt1 (ws.map (·.1)))) && decide ((asc (ws.map (·.1)) ns).length = ns.length)) := by
      unfold wayB
      rw [hdir, Bool.true_and]
    have et4 := sm4 _ _ et
    -- listed
    refine ⟨_, rfl, t, rfl, ⟨_, SqT.of et4⟩, fun D3 nD3 => ?_⟩
    refine lc_tup (K := K) (a := t) (xs := pairs) (fun i H' => Same H4 H' ∧ H' D3 = some (.lst (((ws.take i).map (·.1)).map V.int)))
      ⟨same_upd nD3, upd_same⟩ (fun i H' _ hW => SqT.of (hW.1 _ _ et4)) (fun i x H' hx hW => ?_) (fun H5 hW => ?_)
    · obtain ⟨sm, eD⟩ := hW
      obtain ⟨d, hd, rd⟩ := rp.get? hx
      obtain ⟨w0, a0, hw0, rfl, ha0⟩ := pd_of hd (rd.keep (.same (sm4.trans sm)))
      refine ⟨rfl, tyes ?_⟩
      refine ⟨_, rfl, a0, _, 0, _, rfl, rfl, SqT.of ha0, atI_nat (j := 0) rfl, _, eD, ?_, fun b' o e => ?_, ?_⟩
      · rw [List.length_map, List.length_map, List.length_take]
        exact L9 (by omega)
      · rw [upd_ne (ne_of_none e nD3)]
        exact sm _ _ e
      · rw [upd_same, List.take_add_one, hw0, List.map_append, List.map_append]
        rfl
    obtain ⟨sm45, eD3⟩ := hW
    rw [List.take_of_length_le (by omega)] at eD3
    have sm5 := sm4.trans sm45
    have lll : ((ws.map (·.1)).map V.int).length = ws.length := by rw [List.length_map, List.length_map]
    have ll1 : (ws.map (·.1)).length = ws.length := List.length_map _
    refine ⟨_, rfl, D3, _, rfl, .inl (SqL.of eD3), _, _, rfl, rfl, _, rfl, ite2 (fun c3 => ?_) (fun c3 => ?_)⟩
    · have c3' : (((((ws.map (·.1)).map V.int).length : Nat)) : Int) > 3 := of_decide_eq_true c3
      rw [lll] at c3'
      refine iteT (bad ?_ H5 (sm1.trans sm5))
      rw [wb1, decide_eq_false (show ¬ ws.length ≤ 3 by omega)]
      rfl
    · have c3' : ¬ (((((ws.map (·.1)).map V.int).length : Nat)) : Int) > 3 := of_decide_eq_false (Bool.eq_false_iff.mpr c3)
      rw [lll] at c3'
      rw [decide_eq_true (show ws.length ≤ 3 by omega), Bool.true_and] at wb1
      refine ⟨_, rfl, D3, _, rfl, .inl (SqL.of eD3), ?_⟩
      rw [lll]
      refine ⟨(ws.length : Int), rfl, by omega, by omega, fun D4 nD4 => ?_⟩
      refine lc_range (lo := 0) (n := ws.length) (fun i H' => Same H5 H' ∧ H' D4 = some (.lst (((List.range i).map (cnt1 (ws.map (·.1)))).map V.bl)))
        ⟨same_upd nD4, upd_same⟩ (fun i H' hi hW => ?_) (fun H6 hW => ?_)
      · obtain ⟨sm, eD⟩ := hW
        refine ⟨rfl, tyes ?_⟩
        refine ⟨_, rfl, .inl ⟨rfl, _, SqL.of (sm _ _ eD3)⟩, _, rfl, D3, _, _, rfl, rfl, SqL.of (sm _ _ eD3), rfl, _, eD, ?_, fun b' o e => ?_, ?_⟩
        · rw [List.length_map, List.length_map, List.length_range]
          exact L9 (by omega)
        · rw [upd_ne (ne_of_none e nD4)]
          exact sm _ _ e
        · rw [upd_same, List.range_succ, List.map_append, List.map_append, Int.zero_add]
          rfl
      obtain ⟨sm56, eD4⟩ := hW
      have sm6 := sm5.trans sm56
      refine ⟨D4, _, rfl, SqL.of eD4, _, rfl, ?_⟩
      rw [List.all_map, show (id ∘ cnt1 (ws.map (·.1))) = cnt1 (ws.map (·.1)) from rfl]
      cases hcnt : (List.range ws.length).all (cnt1 (ws.map (·.1))) with
      | false =>
        refine iteT (bad ?_ H6 (sm1.trans sm6))
        rw [wb1, hcnt]
        rfl
      | true =>
      refine iteF ?_
      rw [hcnt, Bool.true_and] at wb1
      -- ascending
      have eD3' := sm56 _ _ eD3
      have hc6 := sq_of (sm1.trans sm6) hc
      refine ⟨_, rfl, D3, _, rfl, .inl (SqL.of eD3'), ?_⟩
      rw [lll]
      refine ⟨(ws.length : Int), rfl, by omega, by omega, fun D5 nD5 => ?_⟩
      refine lc_range (lo := 0) (n := ws.length) (fun i H' => Same H6 H' ∧ H' D5 = some (.lst ((((List.range i).map fun (k : Nat) => (k : Int)).filter fun k => inV (.int k) (ns.map V.int)).map V.int)))
        ⟨same_upd nD5, upd_same⟩ (fun i H' hi hW => ?_) (fun H7 hW => ?_)
      · obtain ⟨sm, eD⟩ := hW
        refine ⟨rfl, ?_⟩
        refine ⟨_, rfl, _, rfl, c, _, rfl, sq_of sm hc6, rfl, flat_ints ns, _, rfl, ?_⟩
        have one : ((List.map (fun (k : Nat) => (k : Int)) [i]).filter fun k => inV (.int k) (ns.map V.int)) = if inV (.int (i : Int)) (ns.map V.int) = true then [(i : Int)] else [] := by
          show List.filter _ [(i : Int)] = _
          rw [List.filter_cons]
          rfl
        have lenf : ((((List.range i).map fun (k : Nat) => (k : Int)).filter fun k => inV (.int k) (ns.map V.int)).map V.int).length < sizeLine := by
          have h1 := List.length_filter_le (fun k => inV (.int k) (ns.map V.int)) ((List.range i).map fun (k : Nat) => (k : Int))
          rw [List.length_map, List.length_range] at h1
          rw [List.length_map]
          exact L9 (by omega)
        refine ite2 (fun hv => ?_) (fun hv => ?_)
        · refine ⟨_, rfl, _, eD, lenf, fun b' o e => ?_, ?_⟩
          · rw [upd_ne (ne_of_none e nD5)]
            exact sm _ _ e
          · have hv' : inV (.int (i : Int)) (ns.map V.int) = true := by
              have h0 : inV (.int (0 + (i : Int))) (ns.map V.int) = true := hv
              rwa [Int.zero_add] at h0
            rw [upd_same, List.range_succ, List.map_append, List.filter_append, List.map_append, one, if_pos hv', Int.zero_add]
            rfl
        · have hv' : ¬ inV (.int (i : Int)) (ns.map V.int) = true := fun h0 => hv (by
            show inV (.int (0 + (i : Int))) (ns.map V.int) = true
            rwa [Int.zero_add])
          refine ⟨sm, ?_⟩
          rw [List.range_succ, List.map_append, List.filter_append, List.map_append, one, if_neg hv', List.map_nil, List.append_nil, eD]
      obtain ⟨sm67, eD5⟩ := hW
      have sm7 := sm6.trans sm67
      refine ⟨D5, _, rfl, .inl ⟨SqL.of eD5, fun t5 nt5 => ?_⟩⟩
      have eA : ((List.range ws.length).map fun (k : Nat) => (k : Int)).filter (fun k => inV (.int k) (ns.map V.int)) = asc (ws.map (·.1)) ns := by
        unfold asc
        rw [ll1]
      rw [eA]
      have et5 : (upd H7 t5 (.tup ((asc (ws.map (·.1)) ns).map V.int))) t5 = some (.tup ((asc (ws.map (·.1)) ns).map V.int)) := upd_same
      have sm8 : Same H1 (upd H7 t5 (.tup ((asc (ws.map (·.1)) ns).map V.int))) := sm7.trans (same_upd nt5)
      generalize upd H7 t5 (.tup ((asc (ws.map (·.1)) ns).map V.int)) = H8 at et5 sm8
      have hc8 := sq_of (sm1.trans sm8) hc
      refine ⟨_, rfl, t5, _, rfl, .inr (SqT.of et5), _, rfl, c, _, rfl, hc8, rfl, _, rfl, ite2 (fun ce => ?_) (fun ce => ?_)⟩
      · refine bad ?_ H8 (sm1.trans sm8)
        rw [wb1]
        refine decide_eq_false fun e => ?_
        have ce' : (!decide (V.int ((((asc (ws.map (·.1)) ns).map V.int).length : Nat) : Int) = V.int (((ns.map V.int).length : Nat) : Int))) = true := ce
        rw [List.length_map, List.length_map, e, decide_eq_true rfl] at ce'
        cases ce'
      · have hwb : wayB z ws ns = true := by
          rw [wb1]
          refine decide_eq_true ?_
          have ce' : ¬ (!decide (V.int ((((asc (ws.map (·.1)) ns).map V.int).length : Nat) : Int) = V.int (((ns.map V.int).length : Nat) : Int))) = true := ce
          rw [List.length_map, List.length_map] at ce'
          by_cases h0 : (asc (ws.map (·.1)) ns).length = ns.length
          · exact h0
          · refine absurd ?_ ce'
            rw [decide_eq_false (int_ne' (by omega))]
            rfl
        refine ⟨_, rfl, _, rfl, _, rfl, (by show 3 ≤ sizeLine; decide), fun t9 nt9 => ?_⟩
        have sm9 := same_upd (o := .tup [.str z, .ref t, .ref t5]) nt9
        exact good hwb _ t9 ((sm1.trans sm8).trans sm9) (.t upd_same (.cons (.s z) (.cons (.t (sm9 _ _ (sm8 _ _ et)) (rp.keep (.same (sm8.trans sm9)))) (.cons (.t (sm9 _ _ et5) (rp_ints _ _)) .nil))))
  obtain ⟨t2, h2, q2⟩ := R
  rcases hb with hb | hb
  · refine ⟨_, pss_cons (ps_set (i := 3) scW.nd rfl (.inl rfl) (pe_callTy call_tuple_of (by rfl) mt (by decide +kernel) (pa_cons
      (pe_lc (own := [("place", 6), ("direction", 7)]) (g := gTup K 2 (gCons (gName 6) (gCons (gName 7) gNil))) (tt := tYes) (by rfl) scW.nd (pi_list (pv 1)) (blkOk_by (own := [("place", 6), ("direction", 7)]) (N := NW) (sc := defScope sWay) (by decide +kernel))
        (fun _ _ _ _ _ => pg_tup (by rfl) (pgs_cons (pg_name (i := 6) scW.nd rfl (Or.inl rfl)) (pgs_cons (pg_name (i := 7) scW.nd rfl (Or.inl rfl)) pgs_nil))) (fun _ _ _ _ _ => pts_nil)
        (fun _ _ _ _ _ => pe_tup (pa_cons (pv 6) (pa_cons (pv 7) pa_nil)))) pa_nil))) h2, ?_⟩
    have L9 : ∀ {n : Nat}, n ≤ 900 → n < sizeLine := fun h => small1000 (by omega)
    refine ⟨_, rfl, b, rfl, ⟨_, hb⟩, fun D0 nD0 => lc_list (K := K) (a := b) (xs := items) (fun i H' => Same H H' ∧ ∃ vs, H' D0 = some (.lst vs) ∧ RpA H' vs ((ws.take i).map pD))
      ⟨same_upd nD0, [], upd_same, .nil⟩ (fun i H' _ hW => hW.1.seq hb) (fun i x H' hx hW => ?_) (fun H1 hW => ?_)⟩
    · obtain ⟨sm, vs, eD, rv⟩ := hW
      obtain ⟨d, hd, rd⟩ := ra.get? hx
      obtain ⟨w0, a0, hw0, rfl, ha0⟩ := pd_of hd (rd.keep (.same sm))
      refine ⟨a0, _, rfl, SqT.of ha0, rfl, .int w0.1, [.str w0.2], rfl, .str w0.2, [], rfl, rfl, rfl, tyes ?_⟩
      refine ⟨_, rfl, _, rfl, (by show 2 ≤ sizeLine; decide), fun t3 nt3 => ⟨vs, same_upd nt3 _ _ eD, ?_, fun b' o e => ?_, vs ++ [.ref t3], upd_same, ?_⟩⟩
      · rw [rv.length, List.length_map, List.length_take]
        exact L9 (by omega)
      · rw [upd_ne (ne_of_none e nD0)]
        exact same_upd nt3 _ _ (sm _ _ e)
      · have kp : Keep (upd H' t3 (.tup [.int w0.1, .str w0.2])) (upd (upd H' t3 (.tup [.int w0.1, .str w0.2])) D0 (.lst (vs ++ [.ref t3]))) := .lst (same_upd nt3 _ _ eD)
        rw [List.take_add_one, hw0, List.map_append]
        exact ((rv.keep (.new nt3)).keep kp).snoc (.t (kp _ _ upd_same) (.cons (.i _) (.cons (.s _) .nil)))
    · obtain ⟨sm, vs, eD, rv⟩ := hW
      have hil := ra.length
      rw [List.length_map] at hil
      rw [List.take_of_length_le (by omega)] at rv
      refine ⟨D0, vs, rfl, .inl ⟨SqL.of eD, fun t nt => ?_⟩⟩
      exact q2 _ t vs (sm.trans (same_upd nt)) upd_same (rv.keep (.new nt))
  · refine ⟨_, pss_cons (ps_set (i := 3) scW.nd rfl (.inl rfl) (pe_callTy call_tuple_of (by rfl) mt (by decide +kernel) (pa_cons
      (pe_lc (own := [("place", 6), ("direction", 7)]) (g := gTup K 2 (gCons (gName 6) (gCons (gName 7) gNil))) (tt := tYes) (by rfl) scW.nd (pi_tup (pv 1)) (blkOk_by (own := [("place", 6), ("direction", 7)]) (N := NW) (sc := defScope sWay) (by decide +kernel))
        (fun _ _ _ _ _ => pg_tup (by rfl) (pgs_cons (pg_name (i := 6) scW.nd rfl (Or.inl rfl)) (pgs_cons (pg_name (i := 7) scW.nd rfl (Or.inl rfl)) pgs_nil))) (fun _ _ _ _ _ => pts_nil)
        (fun _ _ _ _ _ => pe_tup (pa_cons (pv 6) (pa_cons (pv 7) pa_nil)))) pa_nil))) h2, ?_⟩
    have L9 : ∀ {n : Nat}, n ≤ 900 → n < sizeLine := fun h => small1000 (by omega)
    refine ⟨_, rfl, b, rfl, ⟨_, hb⟩, fun D0 nD0 => lc_tup (K := K) (a := b) (xs := items) (fun i H' => Same H H' ∧ ∃ vs, H' D0 = some (.lst vs) ∧ RpA H' vs ((ws.take i).map pD))
      ⟨same_upd nD0, [], upd_same, .nil⟩ (fun i H' _ hW => sqt_of hW.1 hb) (fun i x H' hx hW => ?_) (fun H1 hW => ?_)⟩
    · obtain ⟨sm, vs, eD, rv⟩ := hW
      obtain ⟨d, hd, rd⟩ := ra.get? hx
      obtain ⟨w0, a0, hw0, rfl, ha0⟩ := pd_of hd (rd.keep (.same sm))
      refine ⟨a0, _, rfl, SqT.of ha0, rfl, .int w0.1, [.str w0.2], rfl, .str w0.2, [], rfl, rfl, rfl, tyes ?_⟩
      refine ⟨_, rfl, _, rfl, (by show 2 ≤ sizeLine; decide), fun t3 nt3 => ⟨vs, same_upd nt3 _ _ eD, ?_, fun b' o e => ?_, vs ++ [.ref t3], upd_same, ?_⟩⟩
      · rw [rv.length, List.length_map, List.length_take]
        exact L9 (by omega)
      · rw [upd_ne (ne_of_none e nD0)]
        exact same_upd nt3 _ _ (sm _ _ e)
      · have kp : Keep (upd H' t3 (.tup [.int w0.1, .str w0.2])) (upd (upd H' t3 (.tup [.int w0.1, .str w0.2])) D0 (.lst (vs ++ [.ref t3]))) := .lst (same_upd nt3 _ _ eD)
        rw [List.take_add_one, hw0, List.map_append]
        exact ((rv.keep (.new nt3)).keep kp).snoc (.t (kp _ _ upd_same) (.cons (.i _) (.cons (.s _) .nil)))
    · obtain ⟨sm, vs, eD, rv⟩ := hW
      have hil := ra.length
      rw [List.length_map] at hil
      rw [List.take_of_length_le (by omega)] at rv
      refine ⟨D0, vs, rfl, .inl ⟨SqL.of eD, fun t nt => ?_⟩⟩
      exact q2 _ t vs (sm.trans (same_upd nt)) upd_same (rv.keep (.new nt))
end
end KN
set_option Elab.async false
set_option linter.all false
set_option maxRecDepth 100000
set_option maxHeartbeats 400000
/-! ### d.get(k), d a dict of the module -/
namespace L2
open PySem PySem.Spec PyProof.Rows
def IsKD (K : PySem.W.Frag) (w : World) (a : Addr) : Prop := (∃ es n, K.lookup a = some ⟨.type "dict", none, .dict es n, #[]⟩ ∧ PySem.W.KeysLit w.params es.toList) ∧ (a == sysModules) = false
def tKGet (K : PySem.W.Frag) (w : World) (td ty : TE) : TE := fun σ H Q => td σ H fun x H1 => ∃ a, x = .ref a ∧ IsKD K w a ∧ ty σ H1 fun y H2 => ∃ z r v, y = .str z ∧ PySem.W.nsIn K a z = some r ∧ RelV v (r.getD .none) ∧ Q v H2
section
variable {X : Cx} {o e : Expr} {apos cpos : Pos} {td ty : TE}
theorem pe_kget (ho : PE X o td) (he : PE X e ty) (m : M1 X o "get" apos e cpos) : PE X (.Call (.Attribute o "get" apos) [e] [] cpos) (tKGet X.K X.w td ty) := by
  refine ⟨fun pins s σ H Q I h => ?_⟩
  refine wpAny_Call_method m.base m.few m.line PySem.F.plainAttrs_dict PySem.F.slot_dict_get PySem.F.type_dict_get (thn (ho.run pins s σ H _ I h) fun u s1 ⟨x, H1, I1, rx, a, ex, ⟨⟨es, n, hl, hk⟩, hm⟩, q1⟩ => ?_)
  subst ex
  obtain rfl : u = Value.ref a := rx
  have M1' := PySem.W.mapOf_K (prog := X.prog) (w := X.w) I1.kIn hl hk
  refine ⟨M1'.typeIs, M1'.noDict, ?_⟩
  rw [m.trees]
  refine Calls.callWith_builtin rfl (Calls.evalArgs_plain (Calls.spliced_cons (thn (he.run pins s1 σ H1 _ I1 q1) fun iv s2 ⟨y, H2, I2, ry, z, r, v, ey, e0, rv, q2⟩ => Calls.spliced_nil ?_)))
  subst ey
  obtain ⟨t, rfl⟩ := (show ∃ t, iv = Value.str z t from ry)
  have M2' := PySem.W.mapOf_K (prog := X.prog) (w := X.w) I2.kIn hl hk
  refine call_meetsIn PySem.F.slot_dict_get M2'.typeIs PySem.F.entry_dict_get (PySem.F.args_dict_get_2 _ _) (meets_dict_get (strKind X.prog X.w) (d := a) (k := z) (strKind_is X.prog X.w z t) hm) ⟨_, M2', ?_⟩
  show EP X pins σ Q _ _
  rw [PySem.W.find_K hl e0]
  exact ⟨v, H2, I2.tok _, rv, q2⟩
end
end L2
namespace KN
open PySem PySem.Spec PyProof.Rows L2
/-! ### the texts -/
def digT (k : Int) : Str := Str.ofString (toString k)
def stepT (w : Int × Str) : Str := ((Str.empty ++ digT w.1) ++ Str.ofString " ") ++ w.2
def shownT (ws : List (Int × Str)) : Str := if ws.isEmpty = true then Str.ofString "-" else Txt.join (Str.ofString ", ") (ws.map stepT)
def wayT (z : Str) (ws : List (Int × Str)) (ns : List Int) : Str :=
  let text := ((Str.empty ++ z) ++ Str.ofString ": ") ++ shownT ws
  if ns.isEmpty = true then text else ((Str.empty ++ text) ++ Str.ofString "; noted ") ++ Txt.join (Str.ofString ", ") (ns.map digT)
theorem len_append (x y : Str) : (x ++ y).length = x.length + y.length := by
  show (x.cps ++ y.cps).size = _
  rw [Array.size_append]
  rfl
theorem len_empty : Str.empty.length = 0 := rfl
theorem dig_len {k : Int} (h0 : 0 ≤ k) (h3 : k < 3) : (digT k).length = 1 ∧ k.natAbs.log2 < 1920 := by
  have : k = 0 ∨ k = 1 ∨ k = 2 := by omega
  rcases this with rfl | rfl | rfl <;> exact ⟨by decide +kernel, by decide +kernel⟩
theorem sum_len : ∀ {ys : List Str} {m : Nat}, (∀ y ∈ ys, y.length ≤ m) → (ys.map (·.length)).sum ≤ ys.length * m
  | [], _, _ => Nat.zero_le _
  | y :: r, m, h => by
    have ih := sum_len (ys := r) fun z hz => h z (List.mem_cons_of_mem _ hz)
    have := h y (List.mem_cons_self ..)
    rw [List.map_cons, List.sum_cons, List.length_cons, Nat.succ_mul]
    omega
theorem join_len (s : Str) : ∀ ys : List Str, (Txt.join s ys).length ≤ (ys.map (·.length)).sum + ys.length * s.length := by
  intro ys
  rw [TL.join_eq]
  induction ys with
  | nil => exact Nat.zero_le _
  | cons x r ih =>
    cases r with
    | nil =>
      show x.length ≤ (x.length + 0) + 1 * s.length
      omega
    | cons y r =>
      show (x ++ s ++ Str.join s (y :: r)).length ≤ _
      rw [len_append, len_append, List.map_cons, List.sum_cons, List.length_cons, Nat.succ_mul]
      omega
/-- what such a way has of sizes -/
structure Small (z : Str) (ws : List (Int × Str)) (ns : List Int) : Prop where
  z5 : z.length ≤ 5
  w3 : ws.length ≤ 3
  w : ∀ x ∈ ws, (0 ≤ x.1 ∧ x.1 < 3) ∧ x.2.length ≤ 5
  n3 : ns.length ≤ 3
  n : ∀ k ∈ ns, 0 ≤ k ∧ k < 3
theorem lsp : (Str.ofString " ").length = 1 := by decide +kernel
theorem lco : (Str.ofString ": ").length = 2 := by decide +kernel
theorem lcm : (Str.ofString ", ").length = 2 := by decide +kernel
theorem lno : (Str.ofString "; noted ").length = 8 := by decide +kernel
theorem ldash : (Str.ofString "-").length = 1 := by decide +kernel
theorem step_len {w : Int × Str} (h : (0 ≤ w.1 ∧ w.1 < 3) ∧ w.2.length ≤ 5) : (stepT w).length ≤ 7 := by
  have := (dig_len h.1.1 h.1.2).1
  unfold stepT
  rw [len_append, len_append, len_append, len_empty, this, lsp]
  omega
theorem shown_len {z : Str} {ws : List (Int × Str)} {ns : List Int} (S : Small z ws ns) : (shownT ws).length ≤ 30 := by
  unfold shownT
  split
  · rw [ldash]
    decide
  · have h1 := join_len (Str.ofString ", ") (ws.map stepT)
    have h2 := sum_len (ys := ws.map stepT) (m := 7) fun y hy => by
      obtain ⟨w, hw, rfl⟩ := List.mem_map.mp hy
      exact step_len (S.w w hw)
    rw [List.length_map, lcm] at h1
    rw [List.length_map] at h2
    have := S.w3
    omega
section
variable {P : Program} {w : World} {K : PySem.W.Frag} {mg : Str → Option Value} {base : Heap}
/-! ### way_text -/
def tJd (ts : List TE) : TE := fun σ H Q => tJs ts Str.empty σ H fun out H1 => Q (.str out) H1
abbrev NT : List Str := ["way", "whole", "steps", "noted", "shown", "text", "places", "place", "direction"]
theorem scT : FnScope NT ["way"] (defScope sWayText) := ⟨rfl, rfl, rfl, by decide +kernel, rfl, by decide +kernel, by decide +kernel⟩
def spT : Sp := fun vs H Q _ => ∃ (v : V) (z : Str) (ws : List (Int × Str)) (ns : List Int), vs = [v] ∧ Rp H v (.t [.s z, .t (ws.map pD), .t (ns.map Fd.i)]) ∧ Small z ws ns ∧ ∀ H', Same H H' → Q (.str (wayT z ws ns)) H'
theorem ok_T {f : Addr} {fd : FuncData} (F : Fun K "way_text" "way_text" sWayText f fd) (ms : mg "str" = none) : FnOk P w K mg base CX0 1 f fd ["way"] spT := by
  refine F.ok scT (fun vs H Q E h => ?_) (fun cdv A outer s H vs Q E hr h => ?_)
  · obtain ⟨v, z, ws, ns, rfl, _⟩ := h
    rfl
  obtain ⟨v, z, ws, ns, rfl, rp, S, q⟩ := h
  cases rp with
  | t ha rr =>
  cases rr with
  | cons rz rr =>
  cases rz
  cases rr with
  | cons r1 rr =>
  cases rr with
  | cons r2 rr =>
  cases rr
  cases r1 with
  | @t t1 vs1 _ h1 ra1 =>
  cases r2 with
  | @t t2' vs2 _ h2' ra2 =>
  rename_i a
  have big : ∀ {n : Nat}, n ≤ 900 → n ≤ sizeLine := fun h => Nat.le_of_lt (small1000 (by omega))
  have l1 := ra1.length
  have l2 := ra2.length
  rw [List.length_map] at l1 l2
  have hsl := shown_len S
  have hz5 := S.z5
  have R : ∃ t2, PSs (cxOf CX0 P w K mg base NT "way_text" (defScope sWayText) f cdv A outer s H E).nox (defBody sWayText).tail.tail t2 ∧ ∀ H1, Same H H1 →
      t2 { nx := fun _ H' => Q .non H', rt := Q } [some (.ref a), some (.str z), some (.ref t1), some (.ref t2'), some (.str (shownT ws)), none, none, none, none] H1 := by
    refine ⟨_, pss_cons (ps_set (i := 5) scT.nd rfl (.inl rfl) (pe_joined (.cons (pe_fmt (pv 1)) (.cons pe_str (.cons (pe_fmt (pv 4)) .nil)))))
    (pss_cons (ps_if (pt_truth (pv 3) (by intro _; rfl))
      (pss_cons (ps_set (i := 6) scT.nd rfl (.inl rfl) (pe_join pe_str
        (pe_lc (own := [("place", 7)]) (g := gName 7) (tt := tYes) (by rfl) scT.nd (pi_tup (pv 3)) (blkOk_by (own := [("place", 7)]) (N := NT) (sc := defScope sWayText) (by decide +kernel))
          (fun _ _ _ _ _ => pg_name (i := 7) scT.nd rfl (Or.inl rfl)) (fun _ _ _ _ _ => pts_nil)
          (fun _ _ _ _ _ => pe_callTy call_str_int (by rfl) ms (by decide +kernel) (pa_cons (pv 7) pa_nil)))))
        (pss_one (ps_set (i := 5) scT.nd rfl (.inl rfl) (pe_joined (.cons (pe_fmt (pv 5)) (.cons pe_str (.cons (pe_fmt (pv 6)) .nil))))))) pss_nil)
    (pss_one (ps_ret (pv 5)))), fun H1 sm1 => ?_⟩
    have tl : (((Str.empty ++ z) ++ Str.ofString ": ") ++ shownT ws).length ≤ 40 := by
      rw [len_append, len_append, len_append, len_empty, lco]
      omega
    refine ⟨_, rfl, .inl ⟨z, rfl, big (by omega), _, rfl, ?_, _, rfl, ?_, _, rfl, .inl ⟨_, rfl, big (by omega), _, rfl, ?_, ?_⟩⟩⟩
    · rw [len_append, len_empty]
      exact big (by omega)
    · rw [len_append, len_append, len_empty, lco]
      exact big (by omega)
    · exact big (by omega)
    refine ⟨_, rfl, !vs2.isEmpty, .inr (.inl ⟨vs2, SqT.of (sm1 _ _ h2'), rfl⟩), ?_⟩
    cases hns : ns with
    | nil =>
      have hv : vs2.isEmpty = true := by
        rw [hns] at l2
        exact List.isEmpty_iff.mpr (List.length_eq_zero_iff.mp l2)
      rw [hv]
      refine iteF ⟨_, rfl, ?_⟩
      have z1 := q H1 sm1
      unfold wayT at z1
      rw [hns] at z1
      exact z1
    | cons n0 nr =>
      have hv : vs2.isEmpty = false := by
        cases vs2 with
        | nil =>
          rw [hns] at l2
          cases l2
        | cons x r => rfl
      rw [hv]
      refine iteT ?_
      have h2'' := sm1 _ _ h2'
      refine ⟨⟨_, rfl⟩, _, rfl, t2', rfl, ⟨_, SqT.of h2''⟩, fun D nD => ?_⟩
      refine lc_tup (K := K) (a := t2') (xs := vs2) (fun i H' => Same H1 H' ∧ H' D = some (.lst (((ns.take i).map digT).map V.str)))
        ⟨same_upd nD, upd_same⟩ (fun i H' _ hW => SqT.of (hW.1 _ _ h2'')) (fun i x H' hx hW => ?_) (fun H2 hW => ?_)
      · obtain ⟨sm, eD⟩ := hW
        obtain ⟨d, hd, rd⟩ := ra2.get? hx
        rw [List.getElem?_map] at hd
        cases e : ns[i]? with
        | none =>
          rw [e] at hd
          cases hd
        | some k =>
          rw [e] at hd
          have e2 : Fd.i k = d := Option.some.inj hd
          subst e2
          cases rd
          have hk := S.n k (List.mem_of_getElem? e)
          refine ⟨rfl, tyes ?_⟩
          refine ⟨_, rfl, k, rfl, (dig_len hk.1 hk.2).2, _, eD, ?_, fun b' o e => ?_, ?_⟩
          · rw [List.length_map, List.length_map, List.length_take]
            have := S.n3
            exact small1000 (by omega)
          · rw [upd_ne (ne_of_none e nD)]
            exact sm _ _ e
          · rw [upd_same, List.take_add_one, e, List.map_append, List.map_append]
            rfl
      obtain ⟨sm12, eD⟩ := hW
      rw [List.take_of_length_le (by omega)] at eD
      have hn3 := S.n3
      have dl : ∀ y ∈ ns.map digT, y.length ≤ 1 := fun y hy => by
        obtain ⟨k, hk, rfl⟩ := List.mem_map.mp hy
        have := S.n k hk
        exact Nat.le_of_eq (dig_len this.1 this.2).1
      have sl := sum_len dl
      have jl := join_len (Str.ofString ", ") (ns.map digT)
      rw [List.length_map] at sl
      rw [List.length_map, lcm] at jl
      refine ⟨_, D, ns.map digT, rfl, rfl, .inl (SqL.of eD), ?_, ?_⟩
      · rw [List.length_map, lcm]
        omega
      refine ⟨_, rfl, .inl ⟨_, rfl, big (by omega), _, rfl, ?_, _, rfl, ?_, _, rfl, .inl ⟨_, rfl, big (by omega), _, rfl, ?_, ?_⟩⟩⟩
      · rw [len_append, len_empty]
        exact big (by omega)
      · rw [len_append, len_append, len_empty, lno]
        exact big (by omega)
      · rw [len_append, len_append, len_append, len_empty, lno]
        exact big (by omega)
      refine ⟨_, rfl, ?_⟩
      have z1 := q H2 (sm1.trans sm12)
      unfold wayT at z1
      rw [hns] at z1
      rw [hns]
      exact z1
  obtain ⟨t2, h2, q2⟩ := R
  refine ⟨_, pss_cons (ps_asg (pv 0) (pg_tup (by rfl) (pgs_cons (pg_name (i := 1) scT.nd rfl (.inl rfl)) (pgs_cons (pg_name (i := 2) scT.nd rfl (.inl rfl)) (pgs_cons (pg_name (i := 3) scT.nd rfl (.inl rfl)) pgs_nil))))) (pss_cons (ps_set (i := 4) scT.nd rfl (.inl rfl) (pe_ifExp (pt_truth (pv 2) (by intro _; rfl)) (pe_join pe_str
        (pe_lc (own := [("place", 7), ("direction", 8)]) (g := gTup K 2 (gCons (gName 7) (gCons (gName 8) gNil))) (tt := tYes) (te := tJd [tFmt (tVar 7), tC (.str (Str.ofString " ")), tFmt (tVar 8)]) (by rfl) scT.nd (pi_tup (pv 2)) (blkOk_by (own := [("place", 7), ("direction", 8)]) (N := NT) (sc := defScope sWayText) (by decide +kernel))
          (fun _ _ _ _ _ => pg_tup (by rfl) (pgs_cons (pg_name (i := 7) scT.nd rfl (Or.inl rfl)) (pgs_cons (pg_name (i := 8) scT.nd rfl (Or.inl rfl)) pgs_nil))) (fun _ _ _ _ _ => pts_nil)
          (fun _ _ _ _ _ => pe_joined (.cons (pe_fmt (pv 7)) (.cons pe_str (.cons (pe_fmt (pv 8)) .nil)))))) pe_str)) h2), ?_⟩
  refine ⟨_, rfl, a, _, rfl, SqT.of ha, rfl, .str z, _, rfl, .ref t1, _, rfl, .ref t2', [], rfl, rfl, ?_⟩
  refine ⟨_, rfl, !vs1.isEmpty, .inr (.inl ⟨vs1, SqT.of h1, rfl⟩), ?_⟩
  cases hws : ws with
  | nil =>
    have hv : vs1.isEmpty = true := by
      rw [hws] at l1
      exact List.isEmpty_iff.mpr (List.length_eq_zero_iff.mp l1)
    rw [hv]
    refine iteF ?_
    have z1 := q2 H (Same.refl H)
    rw [hws] at z1
    exact z1
  | cons w0 wr =>
    have hv : vs1.isEmpty = false := by
      cases vs1 with
      | nil =>
        rw [hws] at l1
        cases l1
      | cons x r => rfl
    rw [hv]
    refine iteT ?_
    refine ⟨⟨_, rfl⟩, _, rfl, t1, rfl, ⟨_, SqT.of h1⟩, fun D nD => ?_⟩
    refine lc_tup (K := K) (a := t1) (xs := vs1) (fun i H' => Same H H' ∧ H' D = some (.lst (((ws.take i).map stepT).map V.str)))
      ⟨same_upd nD, upd_same⟩ (fun i H' _ hW => SqT.of (hW.1 _ _ h1)) (fun i x H' hx hW => ?_) (fun H2 hW => ?_)
    · obtain ⟨sm, eD⟩ := hW
      obtain ⟨d, hd, rd⟩ := ra1.get? hx
      obtain ⟨w1, a1, hw1, rfl, ha1⟩ := pd_of hd (rd.keep (.same sm))
      have hw := S.w w1 (List.mem_of_getElem? hw1)
      have hd1 := dig_len hw.1.1 hw.1.2
      refine ⟨a1, _, rfl, SqT.of ha1, rfl, .int w1.1, [.str w1.2], rfl, .str w1.2, [], rfl, rfl, rfl, tyes ?_⟩
      have sl7 := step_len hw
      have e1 : (Str.empty ++ digT w1.1).length = 1 := by rw [len_append, len_empty, hd1.1]
      refine ⟨_, rfl, .inr ⟨w1.1, rfl, hd1.2, _, rfl, ?_, _, rfl, ?_, _, rfl, .inl ⟨_, rfl, big (by omega), _, rfl, ?_, ?_⟩⟩⟩
      · exact big (by show (Str.empty ++ digT w1.1).length ≤ 900; omega)
      · refine big ?_
        show ((Str.empty ++ digT w1.1) ++ Str.ofString " ").length ≤ 900
        rw [len_append, e1, lsp]
        decide
      · exact big (by show (stepT w1).length ≤ 900; omega)
      · refine ⟨_, eD, ?_, fun b' o e => ?_, ?_⟩
        · rw [List.length_map, List.length_map, List.length_take]
          have := S.w3
          exact small1000 (by omega)
        · rw [upd_ne (ne_of_none e nD)]
          exact sm _ _ e
        · rw [upd_same, List.take_add_one, hw1, List.map_append, List.map_append]
          rfl
    obtain ⟨sm12, eD⟩ := hW
    rw [List.take_of_length_le (by omega)] at eD
    have hw3 := S.w3
    have sl := sum_len (ys := ws.map stepT) (m := 7) fun y hy => by
      obtain ⟨w, hw, rfl⟩ := List.mem_map.mp hy
      exact step_len (S.w w hw)
    rw [List.length_map] at sl
    refine ⟨_, D, ws.map stepT, rfl, rfl, .inl (SqL.of eD), ?_, ?_⟩
    · rw [List.length_map, lcm]
      omega
    have z1 := q2 H2 sm12
    rw [show shownT ws = Txt.join (Str.ofString ", ") (ws.map stepT) by unfold shownT; rw [hws]; rfl] at z1
    exact z1
end
end KN
set_option Elab.async false
set_option linter.all false
set_option maxRecDepth 100000
set_option maxHeartbeats 400000
namespace KN
open PySem PySem.Spec PyProof.Rows L2
/-- the dict of the places' digits -/
structure PlD (K : PySem.W.Frag) (w : World) (mg : Str → Option Value) (a : Addr) : Prop where
  g : mg "PLACES" = some (.ref a)
  is : IsKD K w a
  k0 : ∃ t, PySem.W.nsIn K a (Str.ofString "0") = some (some (.int 0 t))
  k1 : ∃ t, PySem.W.nsIn K a (Str.ofString "1") = some (some (.int 1 t))
  k2 : ∃ t, PySem.W.nsIn K a (Str.ofString "2") = some (some (.int 2 t))
theorem PlD.get {K : PySem.W.Frag} {w : World} {mg : Str → Option Value} {a : Addr} (D : PlD K w mg a) {k : Int} (h0 : 0 ≤ k) (h3 : k < 3) : ∃ r, PySem.W.nsIn K a (digT k) = some r ∧ RelV (.int k) (r.getD .none) := by
  have : k = 0 ∨ k = 1 ∨ k = 2 := by omega
  rcases this with rfl | rfl | rfl
  · obtain ⟨t, h⟩ := D.k0
    exact ⟨_, by rw [show digT 0 = Str.ofString "0" by decide +kernel]; exact h, t, rfl⟩
  · obtain ⟨t, h⟩ := D.k1
    exact ⟨_, by rw [show digT 1 = Str.ofString "1" by decide +kernel]; exact h, t, rfl⟩
  · obtain ⟨t, h⟩ := D.k2
    exact ⟨_, by rw [show digT 2 = Str.ofString "2" by decide +kernel]; exact h, t, rfl⟩
/-- what a text is cut into -/
structure Pd (y z rest shown tail : Str) (ws : List (Int × Str)) (ns : List Int) : Prop where
  len : y.length ≤ 200
  p1 : (Txt.partition y (Str.ofString ": ")).1 = z
  p2 : (Txt.partition y (Str.ofString ": ")).2.2 = rest
  len2 : rest.length ≤ 200
  p3 : (Txt.partition rest (Str.ofString "; noted ")).1 = shown
  p4 : (Txt.partition rest (Str.ofString "; noted ")).2.2 = tail
  len3 : shown.length ≤ 200
  len4 : tail.length ≤ 200
  steps : (shown = Str.ofString "-" ∧ ws = []) ∨ (shown ≠ Str.ofString "-" ∧ (∀ p ∈ Txt.split shown (Str.ofString ", "), p.length ≤ 200) ∧
      (Txt.split shown (Str.ofString ", ")).map (fun p => ((Txt.partition p (Str.ofString " ")).1, (Txt.partition p (Str.ofString " ")).2.2)) = ws.map fun w => (digT w.1, w.2))
  noted : (tail.length = 0 ∧ ns = []) ∨ (tail.length ≠ 0 ∧ Txt.split tail (Str.ofString ", ") = ns.map digT)
  ok : wayB z ws ns = true
  asc : asc (ws.map (·.1)) ns = ns
  small : Small z ws ns
  text : wayT z ws ns = y
section
variable {P : Program} {w : World} {K : PySem.W.Frag} {mg : Str → Option Value} {base : Heap}
/-! ### parse_step -/
theorem scPS : FnScope ["text", "place", "_", "direction"] ["text"] (defScope sParseStep) := ⟨rfl, rfl, rfl, by decide +kernel, rfl, by decide +kernel, by decide +kernel⟩
def spPS : Sp := fun vs H Q _ => ∃ (y : Str) (k : Int) (d : Str), vs = [.str y] ∧ y.length ≤ 200 ∧ 0 ≤ k ∧ k < 3 ∧ (Txt.partition y (Str.ofString " ")).1 = digT k ∧ (Txt.partition y (Str.ofString " ")).2.2 = d ∧ ∀ H' t, Same H H' → H' t = some (.tup [.int k, .str d]) → Q (.ref t) H'
theorem ok_PS {f aP : Addr} {fd : FuncData} (F : Fun K "_parse_step" "_parse_step" sParseStep f fd) (D : PlD K w mg aP) : FnOk P w K mg base CX0 1 f fd ["text"] spPS := by
  refine F.ok scPS (fun vs H Q E h => ?_) (fun cdv A outer s H vs Q E hr h => ?_)
  · obtain ⟨y, k, d, rfl, _⟩ := h
    rfl
  obtain ⟨y, k, d, rfl, hl, h0, h3, e1, rfl, q⟩ := h
  refine ⟨_, pss_cons (ps_asg (pe_partition (pv 0) pe_str) (pg_tup (by rfl) (pgs_cons (pg_name (i := 1) scPS.nd rfl (.inl rfl)) (pgs_cons (pg_name (i := 2) scPS.nd rfl (.inl rfl)) (pgs_cons (pg_name (i := 3) scPS.nd rfl (.inl rfl)) pgs_nil)))))
    (pss_one (ps_ret (pe_tup (pa_cons (pe_kget (pe_glob (v := .ref aP) (by rfl) D.g rfl) (pv 1) ⟨by rfl, by rfl, by rfl, by rfl⟩) (pa_cons (pv 3) pa_nil))))), ?_⟩
  refine ⟨_, rfl, ⟨_, rfl⟩, y, _, rfl, rfl, by decide +kernel, Nat.le_of_lt (small1000 (by omega)), fun p np => ?_⟩
  refine ⟨p, _, rfl, SqT.of upd_same, rfl, _, _, rfl, _, _, rfl, _, [], rfl, rfl, ?_⟩
  rw [e1]
  obtain ⟨r, er, rr⟩ := D.get h0 h3
  refine ⟨aP, rfl, D.is, _, rfl, digT k, r, .int k, rfl, er, rr, _, rfl, (by show 2 ≤ sizeLine; decide), fun t nt => ?_⟩
  exact q _ t ((same_upd np).trans (same_upd nt)) upd_same
/-! ### parse_way -/
abbrev NP : List Str := ["text", "whole", "_", "rest", "shown", "tail", "steps", "noted", "read", "part"]
theorem scP : FnScope NP ["text"] (defScope sParse) := ⟨rfl, rfl, rfl, by decide +kernel, rfl, by decide +kernel, by decide +kernel⟩
def spP : Sp := fun vs H Q _ => ∃ (y z rest shown tail : Str) (ws : List (Int × Str)) (ns : List Int), vs = [.str y] ∧ Pd y z rest shown tail ws ns ∧ ∀ H' t, Same H H' → Rp H' (.ref t) (.t [.s z, .t (ws.map pD), .t (ns.map Fd.i)]) → Q (.ref t) H'
theorem ok_P {f fS fW fT aP CW : Addr} {fd fdS fdT : FuncData} (F : Fun K "parse_way" "parse_way" sParse f fd) (D : PlD K w mg aP) (FS : Fun K "_parse_step" "_parse_step" sParseStep fS fdS) (bS : Binds K fdS ["text"] []) (gS : mg "_parse_step" = some (.ref fS))
    (GW : StX.FnKw P w K mg base (L2.CX P w) 1 fW ["whole", "places", "noted"] (fun zs vs H Q E => vs = [] ∧ spWay K CW zs H Q E)) (gW : mg "way" = some (.ref fW)) (kW : PySem.W.keepIn K (.ref fW) = true)
    (FT : Fun K "way_text" "way_text" sWayText fT fdT) (bT : Binds K fdT ["way"] []) (gT : mg "way_text" = some (.ref fT)) (ms : mg "str" = none) : FnOk P w K mg base CX0 2 f fd ["text"] spP := by
  have GS : FnOk P w K mg base CX0 1 fS fdS ["text"] spPS := ok_PS FS D
  have GT : FnOk P w K mg base CX0 1 fT fdT ["way"] spT := ok_T FT ms
  refine F.ok scP (fun vs H Q E h => ?_) (fun cdv A outer s H vs Q E hr h => ?_)
  · obtain ⟨y, z, rest, shown, tail, ws, ns, rfl, _⟩ := h
    rfl
  obtain ⟨y, z, rest, shown, tail, ws, ns, rfl, pd, q⟩ := h
  have L9 : ∀ {n : Nat}, n ≤ 900 → n ≤ sizeLine := fun h => Nat.le_of_lt (small1000 (by omega))
  have hw3 := pd.small.w3
  have hn3 := pd.small.n3
  have Rb : ∃ tb, PSs (cxOf CX0 P w K mg base NP "parse_way" (defScope sParse) f cdv A outer s H E).nox (defBody sParse).tail.tail.tail.tail tb ∧ ∀ (H4 : Hp) (sA nA : Addr) (vs : List V) (m : Option V), Same H H4 → H4 sA = some (.lst vs) → RpA H4 vs (ws.map pD) → H4 nA = some (.lst (ns.map V.int)) →
      tb { nx := fun _ H' => Q .non H', rt := Q } [some (.str y), some (.str z), m, some (.str rest), some (.str shown), some (.str tail), some (.ref sA), some (.ref nA), none, none] H4 := by
    have hr1 : Room 1 _ := hr
    refine ⟨_, pss_cons (ps_set (i := 8) scP.nd rfl (.inl rfl) (StX.pe_kw0 GW hr1 (by rfl) gW kW passL (pk_cons (pv 1) (pk_cons (pv 6) (pk_cons (pv 7) pk_nil)))))
      (pss_cons (ps_if (pt_cmpR op_ne (pe_call GT hr1 (by rfl) gT FT.kp bT .nil pass0 (pa_cons (pv 8) pa_nil)) (pv 0) (nomark _)) (pss_one ps_never) pss_nil)
      (pss_one (ps_ret (pv 8)))), fun H4 sA nA vs m sm es rv en => ?_⟩
    refine ⟨_, rfl, _, rfl, _, rfl, rfl, z, sA, nA, vs, ws, ns, rfl, .inl (SqL.of es), rv, by omega, .inl (SqL.of en), by omega, fun _ H5 t sm5 rt => ?_, fun hf => by rw [pd.ok] at hf; cases hf⟩
    rw [pd.asc] at rt
    refine ⟨_, rfl, .ref t, z, ws, ns, rfl, rt, pd.small, fun H6 sm6 => ⟨_, rfl, rfl, _, rfl, ?_⟩⟩
    rw [pd.text]
    refine iteNS rfl ?_
    exact ⟨_, rfl, q H6 t ((sm.trans sm5).trans sm6) (rt.keep (.same sm6))⟩
  obtain ⟨tb, hb, qb⟩ := Rb
  have Ra : ∃ ta, PSs (cxOf CX0 P w K mg base NP "parse_way" (defScope sParse) f cdv A outer s H E).nox (defBody sParse).tail.tail.tail ta ∧ ∀ (H3 : Hp) (sA : Addr) (vs : List V) (m : Option V), Same H H3 → H3 sA = some (.lst vs) → RpA H3 vs (ws.map pD) →
      ta { nx := fun _ H' => Q .non H', rt := Q } [some (.str y), some (.str z), m, some (.str rest), some (.str shown), some (.str tail), some (.ref sA), none, none, none] H3 := by
    refine ⟨_, pss_cons (ps_set (i := 7) scP.nd rfl (.inl rfl) (pe_ifExp (pt_truth (pv 5) (by intro _; rfl))
      (pe_lc (own := [("part", 9)]) (g := gName 9) (tt := tYes) (te := tKGet K w (tC (.ref aP)) (tVar 9)) (by rfl) scP.nd (pi_list (pe_split (pv 5) pe_str)) (blkOk_by (own := [("part", 9)]) (N := NP) (sc := defScope sParse) (by decide +kernel))
        (fun _ _ _ _ _ => pg_name (i := 9) scP.nd rfl (Or.inl rfl)) (fun _ _ _ _ _ => pts_nil)
        (fun _ _ _ _ _ => pe_kget (pe_glob (v := .ref aP) (by rfl) D.g rfl) (pv 9) ⟨by rfl, by rfl, by rfl, by rfl⟩)) (pe_lst pa_nil))) hb, fun H3 sA vs m sm es rv => ?_⟩
    refine ⟨_, rfl, _, ⟨L9 (by have := pd.len4; omega), rfl⟩, ?_⟩
    rcases pd.noted with ⟨e0, en⟩ | ⟨e0, en⟩
    · rw [e0]
      refine iteF ⟨Nat.zero_le _, fun p np => ?_⟩
      refine qb _ sA p vs m (sm.trans (same_upd np)) (same_upd np _ _ es) (rv.keep (.new np)) ?_
      rw [upd_same, en]
      rfl
    · have ht : (((tail.length : Nat) : Int) != 0) = true := by
        rw [bne_iff_ne]
        omega
      rw [ht]
      refine iteT ?_
      refine ⟨_, rfl, ⟨_, rfl⟩, tail, _, rfl, rfl, by decide +kernel, L9 (by have := pd.len4; omega), fun p np => ?_⟩
      rw [en]
      have sm1 : Same H3 (upd H3 p (.lst ((ns.map digT).map V.str))) := same_upd np
      have ep : (upd H3 p (.lst ((ns.map digT).map V.str))) p = some (.lst ((ns.map digT).map V.str)) := upd_same
      generalize upd H3 p (.lst ((ns.map digT).map V.str)) = H4 at sm1 ep
      refine ⟨p, rfl, ⟨_, SqL.of ep⟩, fun D0 nD => ?_⟩
      refine lc_list (K := K) (a := p) (xs := (ns.map digT).map V.str) (fun i H' => Same H4 H' ∧ H' D0 = some (.lst ((ns.take i).map V.int)))
        ⟨same_upd nD, upd_same⟩ (fun i H' _ hW => SqL.of (hW.1 _ _ ep)) (fun i x H' hx hW => ?_) (fun H5 hW => ?_)
      · obtain ⟨sm2, eD⟩ := hW
        obtain ⟨d, hd, rfl⟩ := strs_of hx
        rw [List.getElem?_map] at hd
        cases e : ns[i]? with
        | none =>
          rw [e] at hd
          cases hd
        | some k =>
          rw [e] at hd
          have e2 : digT k = d := Option.some.inj hd
          subst e2
          have hk := pd.small.n k (List.mem_of_getElem? e)
          obtain ⟨r, er, rr⟩ := D.get hk.1 hk.2
          refine ⟨rfl, tyes ?_⟩
          refine ⟨aP, rfl, D.is, _, rfl, digT k, r, .int k, rfl, er, rr, _, eD, ?_, fun b' o e => ?_, ?_⟩
          · rw [List.length_map, List.length_take]
            exact small1000 (by omega)
          · rw [upd_ne (ne_of_none e nD)]
            exact sm2 _ _ e
          · rw [upd_same, List.take_add_one, e, List.map_append]
            rfl
      obtain ⟨sm2, eD⟩ := hW
      rw [List.length_map, List.length_map, List.take_of_length_le (Nat.le_refl _)] at eD
      exact qb _ sA D0 vs m ((sm.trans sm1).trans sm2) ((sm1.trans sm2) _ _ es) (rv.keep (.same (sm1.trans sm2))) eD
  obtain ⟨ta, ha, qa⟩ := Ra
  refine ⟨_, pss_cons (ps_asg (pe_partition (pv 0) pe_str) (pg_tup (by rfl) (pgs_cons (pg_name (i := 1) scP.nd rfl (.inl rfl)) (pgs_cons (pg_name (i := 2) scP.nd rfl (.inl rfl)) (pgs_cons (pg_name (i := 3) scP.nd rfl (.inl rfl)) pgs_nil)))))
    (pss_cons (ps_asg (pe_partition (pv 3) pe_str) (pg_tup (by rfl) (pgs_cons (pg_name (i := 4) scP.nd rfl (.inl rfl)) (pgs_cons (pg_name (i := 2) scP.nd rfl (.inl rfl)) (pgs_cons (pg_name (i := 5) scP.nd rfl (.inl rfl)) pgs_nil)))))
    (pss_cons (ps_set (i := 6) scP.nd rfl (.inl rfl) (pe_ifExp (pt_cmpR op_eq (pv 4) pe_str (nomark _)) (pe_lst pa_nil)
      (pe_lc (own := [("part", 9)]) (g := gName 9) (tt := tYes) (by rfl) scP.nd (pi_list (pe_split (pv 4) pe_str)) (blkOk_by (own := [("part", 9)]) (N := NP) (sc := defScope sParse) (by decide +kernel))
        (fun _ _ _ _ _ => pg_name (i := 9) scP.nd rfl (Or.inl rfl)) (fun _ _ _ _ _ => pts_nil)
        (fun _ _ _ _ _ => pe_call GS hr (by rfl) gS FS.kp bS .nil pass0 (pa_cons (pv 9) pa_nil))))) ha)), ?_⟩
  refine ⟨_, rfl, ⟨_, rfl⟩, y, _, rfl, rfl, by decide +kernel, L9 (by have := pd.len; omega), fun p1 np1 => ?_⟩
  refine ⟨p1, _, rfl, SqT.of upd_same, rfl, _, _, rfl, _, _, rfl, _, [], rfl, rfl, ?_⟩
  rw [pd.p1, pd.p2]
  have s1 := same_upd (o := .tup [.str z, .str (Txt.partition y (Str.ofString ": ")).2.1, .str rest]) np1
  generalize hH1 : upd H p1 (.tup [.str z, .str (Txt.partition y (Str.ofString ": ")).2.1, .str rest]) = H1 at s1
  refine ⟨_, rfl, ⟨_, rfl⟩, rest, _, rfl, rfl, by decide +kernel, L9 (by have := pd.len2; omega), fun p2 np2 => ?_⟩
  refine ⟨p2, _, rfl, SqT.of upd_same, rfl, _, _, rfl, _, _, rfl, _, [], rfl, rfl, ?_⟩
  rw [pd.p3, pd.p4]
  have s2 := s1.trans (same_upd (o := .tup [.str shown, .str (Txt.partition rest (Str.ofString "; noted ")).2.1, .str tail]) np2)
  generalize hH2 : upd H1 p2 (.tup [.str shown, .str (Txt.partition rest (Str.ofString "; noted ")).2.1, .str tail]) = H2 at s2
  refine ⟨_, rfl, rfl, _, rfl, ?_⟩
  rcases pd.steps with ⟨e0, en⟩ | ⟨e0, hpl, en⟩
  · refine ite2 (fun _ => ?_) (fun hc => absurd (decide_eq_true (by rw [e0])) hc)
    refine ⟨Nat.zero_le _, fun p np => ?_⟩
    refine qa _ p [] _ (s2.trans (same_upd np)) upd_same ?_
    rw [en]
    exact .nil
  · refine ite2 (fun hc => absurd (V.str.inj (of_decide_eq_true hc)) e0) (fun _ => ?_)
    refine ⟨_, rfl, ⟨_, rfl⟩, shown, _, rfl, rfl, by decide +kernel, L9 (by have := pd.len3; omega), fun p np => ?_⟩
    generalize hparts : Txt.split shown (Str.ofString ", ") = parts at en hpl
    have hpw : parts.length = ws.length := by
      have := congrArg List.length en
      rw [List.length_map, List.length_map] at this
      exact this
    have sm1 : Same H2 (upd H2 p (.lst (parts.map V.str))) := same_upd np
    have ep : (upd H2 p (.lst (parts.map V.str))) p = some (.lst (parts.map V.str)) := upd_same
    generalize upd H2 p (.lst (parts.map V.str)) = H4 at sm1 ep
    refine ⟨p, rfl, ⟨_, SqL.of ep⟩, fun D0 nD => ?_⟩
    refine lc_list (K := K) (a := p) (xs := parts.map V.str) (fun i H' => Same H4 H' ∧ ∃ vs, H' D0 = some (.lst vs) ∧ RpA H' vs ((ws.take i).map pD))
      ⟨same_upd nD, [], upd_same, .nil⟩ (fun i H' _ hW => SqL.of (hW.1 _ _ ep)) (fun i x H' hx hW => ?_) (fun H5 hW => ?_)
    · obtain ⟨sm2, vs, eD, rv⟩ := hW
      obtain ⟨d, hd, rfl⟩ := strs_of hx
      have hi := congrArg (fun l => l[i]?) en
      simp only [List.getElem?_map, hd, Option.map_some] at hi
      cases e : ws[i]? with
      | none =>
        rw [e] at hi
        cases hi
      | some w1 =>
        rw [e] at hi
        have hi2 := Option.some.inj hi
        have hw := pd.small.w w1 (List.mem_of_getElem? e)
        refine ⟨rfl, tyes ?_⟩
        refine ⟨_, rfl, d, w1.1, w1.2, rfl, hpl d (List.mem_of_getElem? hd), hw.1.1, hw.1.2, congrArg Prod.fst hi2, congrArg Prod.snd hi2, fun H6 t sm6 et => ⟨vs, sm6 _ _ eD, ?_, fun b' o e => ?_, vs ++ [.ref t], upd_same, ?_⟩⟩
        · rw [rv.length, List.length_map, List.length_take]
          exact small1000 (by omega)
        · rw [upd_ne (ne_of_none e nD)]
          exact sm6 _ _ (sm2 _ _ e)
        · have kp : Keep H6 (upd H6 D0 (.lst (vs ++ [.ref t]))) := .lst (sm6 _ _ eD)
          rw [List.take_add_one, e, List.map_append]
          exact ((rv.keep (.same sm6)).keep kp).snoc (.t (kp _ _ et) (.cons (.i _) (.cons (.s _) .nil)))
    · obtain ⟨sm2, vs, eD, rv⟩ := hW
      rw [List.length_map, List.take_of_length_le (by omega)] at rv
      exact qa _ D0 vs _ ((s2.trans sm1).trans sm2) eD rv
end
end KN
set_option Elab.async false
set_option linter.all false
set_option maxRecDepth 100000
set_option maxHeartbeats 400000
namespace KN
open PySem PySem.Spec PyProof.Rows L2
theorem map_erase {α β : Type} (f : α → β) : ∀ (l : List α) (r : Nat), (l.map f).eraseIdx r = (l.eraseIdx r).map f
  | [], _ => rfl
  | _ :: _, 0 => rfl
  | x :: l, r + 1 => by
    show f x :: (l.map f).eraseIdx r = f x :: (l.eraseIdx r).map f
    rw [map_erase f l r]
theorem perm_erase {α : Type} : ∀ {l : List α} {r : Nat} (h : r < l.length), (l[r] :: l.eraseIdx r).Perm l
  | [], _, h => by simp at h
  | x :: l, 0, _ => List.Perm.refl _
  | x :: l, r + 1, h => by
    have h' : r < l.length := by simpa using h
    have ih := perm_erase (l := l) (r := r) h'
    show (l[r] :: x :: l.eraseIdx r).Perm (x :: l)
    exact (List.Perm.swap x l[r] _).trans (ih.cons x)
section
variable {P : Program} {w : World} {K : PySem.W.Frag} {mg : Str → Option Value} {base : Heap}
/-! ### shuffled -/
abbrev NS : List Str := ["_law_tape_here", "_law_many", "_law_k", "_law_left", "_law_row"]
theorem scS : FnScope NS ["_law_tape_here", "_law_many"] (defScope sShuf) := ⟨rfl, rfl, rfl, by decide +kernel, rfl, by decide +kernel, by decide +kernel⟩
abbrev iV (k : Nat) : V := .int (k : Int)
def spS : Sp := fun vs H Q _ => ∃ (p : Addr) (m : Nat), vs = [.ref p, .int (m : Int)] ∧ Tp H p ∧ m ≤ 10 ∧ ∀ (H' : Hp) (l : Addr) (ns : List Nat), But p H H' → Tp H' p → l ≠ p → H' l = some (.lst (ns.map iV)) → ns.Perm (List.range m) → Q (.ref l) H'
theorem ok_S {f fT : Addr} {fd fdT : FuncData} (F : Fun K "_law_shuffled" "_law_shuffled" sShuf f fd) (FT : Fun K "_law_take" "_law_take" sTake fT fdT) (bT : Binds K fdT ["_law_tape_here", "_law_many"] []) (gT : mg "_law_take" = some (.ref fT))
    (GT : FnOk P w K mg base CX0 1 fT fdT ["_law_tape_here", "_law_many"] spTake) (ml : mg "len" = none) (mr : mg "range" = none) : FnOk P w K mg base CX0 2 f fd ["_law_tape_here", "_law_many"] spS := by
  refine F.ok scS (fun vs H Q E h => ?_) (fun cdv A outer s H vs Q E hr h => ?_)
  · obtain ⟨p, m, rfl, _⟩ := h
    rfl
  obtain ⟨p, m, rfl, hT, hm, q⟩ := h
  refine ⟨_, pss_cons (ps_setLc (i := 3) (own := [("_law_k", 2)]) (g := gName 2) (tt := tYes) (by rfl) scS.nd rfl rfl (sw_true rfl rfl rfl (by decide +kernel))
      (pi_range1 (by rfl) mr (pa_cons (pv 1) pa_nil)) (blkOk_by (own := [("_law_k", 2)]) (N := NS) (sc := defScope sShuf) (by decide +kernel))
      (fun _ _ _ _ _ => pg_name (i := 2) scS.nd rfl (Or.inl rfl)) (fun _ _ _ _ _ => pts_nil) (fun _ _ _ _ _ => pv 2))
    (pss_cons (ps_set (i := 4) scS.nd rfl (.inl rfl) (pe_lst pa_nil))
    (pss_cons (ps_for PassesOwn.never rfl (pi_range1 (by rfl) mr (pa_cons (pv 1) pa_nil)) (pg_name (i := 2) scS.nd rfl (.inl rfl))
      (pss_one (ps_expr (pe_bm PySem.F.plainAttrs_list PySem.F.slot_list_append PySem.F.type_list_append mt_append (pv 4) (pa_cons
        (pe_bm PySem.F.plainAttrs_list PySem.F.slot_list_pop PySem.F.type_list_pop mt_popAt (pv 3) (pa_cons (pe_call GT hr (by rfl) gT FT.kp bT .nil pass0 (pa_cons (pv 0) (pa_cons (pe_callB call_len_seq (by rfl) ml PySem.boot_len (pa_cons (pv 3) pa_nil)) pa_nil))) pa_nil)) pa_nil)))))
    (pss_one (ps_ret (pv 4))))), ?_⟩
  refine ⟨_, rfl, (m : Int), rfl, by omega, by omega, fun D nD => ?_⟩
  have npD : p ≠ D := hT.ne nD
  refine lc_range (lo := 0) (n := m) (fun i H' => Same H H' ∧ H' D = some (.lst ((List.range i).map iV))) ⟨same_upd nD, upd_same⟩ (fun i H' hi hW => ?_) (fun H1 hW => ?_)
  · obtain ⟨sm, eD⟩ := hW
    refine ⟨rfl, tyes ?_⟩
    refine ⟨_, rfl, _, eD, ?_, fun b o e => ?_, ?_⟩
    · rw [List.length_map, List.length_range]
      exact small1000 (by omega)
    · rw [upd_ne (ne_of_none e nD)]
      exact sm _ _ e
    · rw [upd_same, List.range_succ, List.map_append, Int.zero_add]
      rfl
  obtain ⟨sm, eD⟩ := hW
  refine ⟨Nat.zero_le _, fun l nl => ?_⟩
  have hT1 : Tp (upd H1 l (.lst [])) p := (hT.same sm).same (same_upd nl)
  have npl : p ≠ l := (hT.same sm).ne nl
  have nDl : D ≠ l := ne_of_none eD nl
  have nlH : H l = none := sm.free nl
  refine ⟨_, rfl, (m : Int), rfl, by omega, by omega, ?_⟩
  refine for_range (lo := 0) (n := m) (fun i σ H' => ∃ (y2 : Option V) (row left : List Nat), σ = [some (.ref p), some (.int (m : Int)), y2, some (.ref D), some (.ref l)] ∧ But p H H' ∧ Tp H' p ∧ H' D = some (.lst (left.map iV)) ∧ H' l = some (.lst (row.map iV)) ∧ (row ++ left).Perm (List.range m) ∧ row.length = i)
    ⟨none, [], List.range m, rfl, .of (sm.trans (same_upd nl)), hT1, same_upd nl _ _ eD, upd_same, by simp, rfl⟩ (fun i σ H' hi hW => ?_) (fun σ H' hW => ?_)
  · obtain ⟨y2, row, left, rfl, bt, tp, eD', el, pm, hrl⟩ := hW
    have hlen := pm.length_eq
    rw [List.length_append, List.length_range] at hlen
    have hleft : 1 ≤ left.length := by omega
    refine ⟨_, rfl, .inl ⟨rfl, _, SqL.of el⟩, _, rfl, .inl ⟨rfl, _, SqL.of eD'⟩, _, rfl, _, rfl, D, _, rfl, .inl (SqL.of eD'), p, (left.map iV).length, rfl, tp, by rw [List.length_map]; exact hleft, fun H2 r b2 t2 hr2 => ?_⟩
    rw [List.length_map] at hr2
    have eD2 := b2 _ _ npD.symm eD'
    have el2 := b2 _ _ npl.symm el
    have gx : (left.map iV)[r]? = some (iV left[r]) := by
      rw [List.getElem?_map, List.getElem?_eq_getElem hr2]
      rfl
    refine ⟨D, _, (r : Int), r, iV left[r], rfl, rfl, eD2, by omega, by omega, ?_, gx, ?_⟩
    · rw [seqIndex_of (by omega) (by rw [List.length_map]; omega)]
      simp
    have nlD : l ≠ D := nDl.symm
    refine ⟨l, _, _, rfl, rfl, by rw [upd_ne nlD]; exact el2, ?_, some (.int (0 + (i : Int))), row ++ [left[r]], left.eraseIdx r, rfl, fun b o nb e => ?_, ?_, ?_, ?_, ?_, ?_⟩
    · rw [List.length_map]
      exact small1000 (by omega)
    · rw [upd_ne (ne_of_none e nlH), upd_ne (ne_of_none e nD)]
      exact b2 _ _ nb (bt _ _ nb e)
    · obtain ⟨ns, e, h⟩ := t2
      exact ⟨ns, by rw [upd_ne npl, upd_ne npD]; exact e, h⟩
    · rw [upd_ne nDl, upd_same, map_erase]
    · rw [upd_same, List.map_append]
      rfl
    · refine List.Perm.trans ?_ pm
      rw [List.append_assoc]
      exact List.Perm.append_left row (perm_erase hr2)
    · rw [List.length_append, hrl]
      rfl
  · obtain ⟨y2, row, left, rfl, bt, tp, eD', el, pm, hrl⟩ := hW
    have hlen := pm.length_eq
    rw [List.length_append, List.length_range] at hlen
    have : left = [] := List.length_eq_zero_iff.mp (by omega)
    subst this
    rw [List.append_nil] at pm
    exact ⟨_, rfl, q H' l row bt tp npl.symm el pm⟩
end
end KN
set_option Elab.async false
set_option linter.all false
set_option maxRecDepth 100000
set_option maxHeartbeats 1000000
namespace KN
open PySem PySem.Spec PyProof.Rows L2 TL
/-! ### the mathematics of the texts -/
def dirW (d : Bool) : Str := if d then Str.ofString "told" else Str.ofString "found"
theorem dirW_tl (d : Bool) : tl (dirW d) = if d then [116, 111, 108, 100] else [102, 111, 117, 110, 100] := by
  cases d <;> decide +kernel
theorem dirW_len (d : Bool) : (dirW d).length ≤ 5 := by cases d <;> decide +kernel
theorem dirW_ok (d : Bool) : dirB (dirW d) = true := by cases d <;> decide +kernel
theorem dirW_mem {d : Bool} {c : Nat} (h : c ∈ tl (dirW d)) : 100 ≤ c := by
  rw [dirW_tl] at h
  cases d
  · have : c = 102 ∨ c = 111 ∨ c = 117 ∨ c = 110 ∨ c = 100 := by simpa using h
    omega
  · have : c = 116 ∨ c = 111 ∨ c = 108 ∨ c = 100 := by simpa using h
    omega
theorem dig_tl {k : Int} (h0 : 0 ≤ k) (h3 : k < 3) : tl (digT k) = [48 + k.toNat] := by
  have : k = 0 ∨ k = 1 ∨ k = 2 := by omega
  rcases this with rfl | rfl | rfl <;> decide +kernel
/-- a step of a way, its direction as a bool -/
structure Wy (ws : List (Int × Str)) (ns : List Int) : Prop where
  w3 : ws.length ≤ 3
  w : ∀ x ∈ ws, (0 ≤ x.1 ∧ x.1 < 3) ∧ ∃ d, x.2 = dirW d
  n3 : ns.length ≤ 3
  n : ∀ k ∈ ns, 0 ≤ k ∧ k < 3
theorem Wy.small {ws : List (Int × Str)} {ns : List Int} (W : Wy ws ns) (d : Bool) : Small (dirW d) ws ns :=
  ⟨dirW_len d, W.w3, fun x hx => ⟨(W.w x hx).1, by
    obtain ⟨e, h⟩ := (W.w x hx).2
    rw [h]
    exact dirW_len e⟩, W.n3, W.n⟩
theorem tl_sp : tl (Str.ofString " ") = [32] := by decide +kernel
theorem tl_co : tl (Str.ofString ": ") = [58, 32] := by decide +kernel
theorem tl_cm : tl (Str.ofString ", ") = [44, 32] := by decide +kernel
theorem tl_no : tl (Str.ofString "; noted ") = 59 :: [32, 110, 111, 116, 101, 100, 32] := by decide +kernel
theorem tl_da : tl (Str.ofString "-") = [45] := by decide +kernel
theorem tl_em : tl Str.empty = [] := rfl
theorem step_tl {w : Int × Str} (h : 0 ≤ w.1 ∧ w.1 < 3) : tl (stepT w) = [48 + w.1.toNat] ++ (32 :: [] ++ tl w.2) := by
  unfold stepT
  rw [tl_append, tl_append, tl_append, tl_em, dig_tl h.1 h.2, tl_sp]
  simp
theorem step_mem {w : Int × Str} (h : (0 ≤ w.1 ∧ w.1 < 3) ∧ ∃ d, w.2 = dirW d) {c : Nat} (hc : c ∈ tl (stepT w)) : c = 32 ∨ (48 ≤ c ∧ c ≠ 58 ∧ c ≠ 59) := by
  rw [step_tl h.1] at hc
  obtain ⟨d, hd⟩ := h.2
  rcases List.mem_append.mp hc with hc | hc
  · have : c = 48 + w.1.toNat := by simpa using hc
    omega
  · rcases List.mem_append.mp hc with hc | hc
    · left
      simpa using hc
    · rw [hd] at hc
      have := dirW_mem hc
      omega
theorem mem_joinL {S : List Nat} {c : Nat} : ∀ {ps : List (List Nat)}, c ∈ joinL S ps → c ∈ S ∨ ∃ p ∈ ps, c ∈ p
  | [], h => by cases h
  | [p], h => .inr ⟨p, List.mem_cons_self .., h⟩
  | p :: q :: r, h => by
    have h' : c ∈ p ++ (S ++ joinL S (q :: r)) := h
    rcases List.mem_append.mp h' with h' | h'
    · exact .inr ⟨p, List.mem_cons_self .., h'⟩
    · rcases List.mem_append.mp h' with h' | h'
      · exact .inl h'
      · rcases mem_joinL h' with h' | ⟨x, hx, hc⟩
        · exact .inl h'
        · exact .inr ⟨x, List.mem_cons_of_mem _ hx, hc⟩
theorem shown_tl (ws : List (Int × Str)) : tl (shownT ws) = if ws.isEmpty = true then [45] else joinL [44, 32] (ws.map fun w => tl (stepT w)) := by
  unfold shownT
  split
  · exact tl_da
  · rw [join_eq, tl_join, tl_cm, List.map_map]
    rfl
theorem shown_mem {ws : List (Int × Str)} {ns : List Int} (W : Wy ws ns) {c : Nat} (h : c ∈ tl (shownT ws)) : c ≠ 58 ∧ c ≠ 59 := by
  rw [shown_tl] at h
  split at h
  · have : c = 45 := by simpa using h
    omega
  · rcases mem_joinL h with h | ⟨p, hp, hc⟩
    · have : c = 44 ∨ c = 32 := by simpa using h
      omega
    · obtain ⟨x, hx, rfl⟩ := List.mem_map.mp hp
      have := step_mem (W.w x hx) hc
      omega
theorem part_at {y a b s : Str} {c : Nat} {S : List Nat} (es : tl s = c :: S) (e : tl y = tl a ++ (c :: S ++ tl b)) (h : c ∉ tl a) : Txt.partition y s = (a, s, b) := by
  rw [partition_par y s (by rw [es]; simp), es, e, par_part1 h]
  show ((⟨([] ++ tl a).toArray⟩ : Str), s, (⟨(tl b).toArray⟩ : Str)) = _
  rw [List.nil_append]
theorem part_no {y s : Str} {c : Nat} {S : List Nat} (es : tl s = c :: S) (h : c ∉ tl y) : Txt.partition y s = (y, Str.empty, Str.empty) := by
  rw [partition_par y s (by rw [es]; simp), es, par_none1 h]
/-- what stands behind the whole -/
def restT (ws : List (Int × Str)) (ns : List Int) : Str := if ns.isEmpty = true then shownT ws else (shownT ws ++ Str.ofString "; noted ") ++ Txt.join (Str.ofString ", ") (ns.map digT)
def tailT (ns : List Int) : Str := if ns.isEmpty = true then Str.empty else Txt.join (Str.ofString ", ") (ns.map digT)
theorem way_tl (z : Str) (ws : List (Int × Str)) (ns : List Int) : tl (wayT z ws ns) = tl z ++ (58 :: [32] ++ tl (restT ws ns)) := by
  unfold wayT restT
  cases ns with
  | nil =>
    show tl (((Str.empty ++ z) ++ Str.ofString ": ") ++ shownT ws) = _
    rw [tl_append, tl_append, tl_append, tl_em, tl_co]
    simp
  | cons k r =>
    show tl (((Str.empty ++ (((Str.empty ++ z) ++ Str.ofString ": ") ++ shownT ws)) ++ Str.ofString "; noted ") ++ _) = tl z ++ (58 :: [32] ++ tl ((shownT ws ++ Str.ofString "; noted ") ++ _))
    simp only [tl_append, tl_em, tl_co]
    simp
theorem digs_tl {ns : List Int} (h : ∀ k ∈ ns, 0 ≤ k ∧ k < 3) : ∀ p ∈ ns.map digT, 44 ∉ tl p := fun p hp hc => by
  obtain ⟨k, hk, rfl⟩ := List.mem_map.mp hp
  rw [dig_tl (h k hk).1 (h k hk).2] at hc
  have : 44 = 48 + k.toNat := by simpa using hc
  omega
theorem pd_way {ws : List (Int × Str)} {ns : List Int} (d : Bool) (W : Wy ws ns) (ok : wayB (dirW d) ws ns = true) (ea : asc (ws.map (·.1)) ns = ns) : Pd (wayT (dirW d) ws ns) (dirW d) (restT ws ns) (shownT ws) (tailT ns) ws ns := by
  have S := W.small d
  have hs := shown_len S
  have hd5 := dirW_len d
  have n3 := W.n3
  have dl : ∀ y ∈ ns.map digT, y.length ≤ 1 := fun y hy => by
    obtain ⟨k, hk, rfl⟩ := List.mem_map.mp hy
    have := W.n k hk
    exact Nat.le_of_eq (dig_len this.1 this.2).1
  have sl := sum_len dl
  have jl := join_len (Str.ofString ", ") (ns.map digT)
  rw [List.length_map] at sl
  rw [List.length_map, lcm] at jl
  have hr : (restT ws ns).length ≤ 60 := by
    unfold restT
    split
    · omega
    · rw [len_append, len_append, lno]
      omega
  have ht : (tailT ns).length ≤ 60 := by
    unfold tailT
    split
    · rw [len_empty]
      decide
    · omega
  have hy : (wayT (dirW d) ws ns).length ≤ 100 := by
    rw [len_tl, way_tl, List.length_append, List.length_append, ← len_tl, ← len_tl]
    show _ + (2 + _) ≤ 100
    omega
  have P1 : Txt.partition (wayT (dirW d) ws ns) (Str.ofString ": ") = (dirW d, Str.ofString ": ", restT ws ns) := part_at tl_co (way_tl _ _ _) fun hc => by
    have := dirW_mem hc
    omega
  have P2 : (Txt.partition (restT ws ns) (Str.ofString "; noted ")).1 = shownT ws ∧ (Txt.partition (restT ws ns) (Str.ofString "; noted ")).2.2 = tailT ns := by
    cases ns with
    | nil =>
      rw [show restT ws [] = shownT ws from rfl, part_no tl_no fun hc => (shown_mem W hc).2 rfl]
      exact ⟨rfl, rfl⟩
    | cons k r =>
      rw [part_at (a := shownT ws) (b := tailT (k :: r)) tl_no ?_ fun hc => (shown_mem W hc).2 rfl]
      · exact ⟨rfl, rfl⟩
      · show tl ((shownT ws ++ Str.ofString "; noted ") ++ _) = _
        rw [tl_append, tl_append, tl_no, List.append_assoc]
        rfl
  refine ⟨by omega, by rw [P1], by rw [P1], by omega, P2.1, P2.2, by omega, by omega, ?_, ?_, ok, ea, S, rfl⟩
  · cases hw : ws with
    | nil => exact .inl ⟨rfl, rfl⟩
    | cons w0 wr =>
      rw [← hw]
      have hne : ws ≠ [] := by
        rw [hw]
        simp
      have esh : shownT ws = Txt.join (Str.ofString ", ") (ws.map stepT) := by
        unfold shownT
        rw [hw]
        rfl
      have esp : Txt.split (shownT ws) (Str.ofString ", ") = ws.map stepT := by
        rw [esh]
        refine split_join tl_cm (by decide +kernel) (fun e => hne (List.map_eq_nil_iff.mp e)) fun p hp hc => ?_
        obtain ⟨x, hx, rfl⟩ := List.mem_map.mp hp
        have := step_mem (W.w x hx) hc
        omega
      refine .inr ⟨fun e => ?_, fun p hp => ?_, ?_⟩
      · have e2 := congrArg tl e
        rw [shown_tl, hw, tl_da] at e2
        have hm : 32 ∈ joinL [44, 32] ((w0 :: wr).map fun w => tl (stepT w)) := by
          have h0 : 32 ∈ tl (stepT w0) := by
            rw [step_tl (W.w w0 (by rw [hw]; exact List.mem_cons_self ..)).1]
            simp
          cases wr with
          | nil => exact h0
          | cons w1 wr => exact List.mem_append.mpr (.inl h0)
        have e3 : joinL [44, 32] ((w0 :: wr).map fun w => tl (stepT w)) = [45] := e2
        rw [e3] at hm
        simp at hm
      · rw [esp] at hp
        obtain ⟨x, hx, rfl⟩ := List.mem_map.mp hp
        have := step_len (S.w x hx)
        omega
      · rw [esp, List.map_map]
        refine List.map_congr_left fun x hx => ?_
        have hx' := W.w x hx
        show ((Txt.partition (stepT x) (Str.ofString " ")).1, (Txt.partition (stepT x) (Str.ofString " ")).2.2) = _
        rw [part_at (a := digT x.1) (b := x.2) tl_sp (by rw [dig_tl hx'.1.1 hx'.1.2]; exact step_tl hx'.1) ?_]
        rw [dig_tl hx'.1.1 hx'.1.2]
        intro hc
        have : 32 = 48 + x.1.toNat := by simpa using hc
        omega
  · cases hn : ns with
    | nil => exact .inl ⟨rfl, rfl⟩
    | cons k r =>
      rw [← hn]
      have et : tailT ns = Txt.join (Str.ofString ", ") (ns.map digT) := by
        unfold tailT
        rw [hn]
        rfl
      refine .inr ⟨fun e => ?_, ?_⟩
      · rw [et, len_tl, join_eq, tl_join, hn] at e
        have h0 := (W.n k (by rw [hn]; exact List.mem_cons_self ..))
        cases r with
        | nil =>
          have : (tl (digT k)).length = 0 := e
          rw [dig_tl h0.1 h0.2] at this
          cases this
        | cons k2 r2 =>
          have : (tl (digT k) ++ _).length = 0 := e
          rw [List.length_append, dig_tl h0.1 h0.2] at this
          simp at this
      · rw [et]
        refine split_join tl_cm (by decide +kernel) (fun e => ?_) (digs_tl W.n)
        rw [hn] at e
        cases e
/-! ### the places of a way -/
theorem ints_in {k : Nat} {ns : List Nat} : inV (.int (k : Int)) ((ns.map fun (j : Nat) => (j : Int)).map V.int) = ns.any fun j => j == k := by
  show (((ns.map fun (j : Nat) => (j : Int)).map V.int).any fun y => eqV y (.int (k : Int))) = _
  rw [List.any_map, List.any_map]
  refine congrArg (fun f => ns.any f) ?_
  funext j
  show ((j : Int) == (k : Int)) = (j == k)
  rw [Bool.eq_iff_iff, beq_iff_eq, beq_iff_eq]
  omega
/-- a way of the law's: the steps' places in some order, the noted ones ascending -/
theorem way_ok {m : Nat} {ps : List Nat} {ds : List Bool} {ms : List Nat} {f : Nat → Bool} (hp : ps.Perm (List.range m)) (hm : m ≤ 3) (hd : ds.length = ps.length) (hms : ms = (List.range m).filter f) (d : Bool) :
    Wy ((ps.zip ds).map fun x => ((x.1 : Int), dirW x.2)) (ms.map fun (j : Nat) => (j : Int)) ∧ wayB (dirW d) ((ps.zip ds).map fun x => ((x.1 : Int), dirW x.2)) (ms.map fun (j : Nat) => (j : Int)) = true ∧
    asc (((ps.zip ds).map fun x => ((x.1 : Int), dirW x.2)).map (·.1)) (ms.map fun (j : Nat) => (j : Int)) = ms.map fun (j : Nat) => (j : Int) := by
  have hl : ps.length = m := by
    have := hp.length_eq
    rwa [List.length_range] at this
  have e1 : ((ps.zip ds).map fun x => ((x.1 : Int), dirW x.2)).map (·.1) = ps.map fun (j : Nat) => (j : Int) := by
    rw [List.map_map]
    have : (ps.zip ds).map (fun x => x.1) = ps := List.map_fst_zip (by omega)
    conv => rhs; rw [← this]
    rw [List.map_map]
    rfl
  have hlen : ((ps.zip ds).map fun x => ((x.1 : Int), dirW x.2)).length = m := by
    rw [List.length_map, List.length_zip]
    omega
  have hml : ms.length ≤ m := by
    rw [hms]
    have := List.length_filter_le f (List.range m)
    rwa [List.length_range] at this
  have mlt : ∀ j ∈ ms, j < m := fun j hj => by
    rw [hms] at hj
    exact List.mem_range.mp (List.mem_filter.mp hj).1
  have plt : ∀ j ∈ ps, j < m := fun j hj => List.mem_range.mp (hp.mem_iff.mp hj)
  have ea : asc (ps.map fun (j : Nat) => (j : Int)) (ms.map fun (j : Nat) => (j : Int)) = ms.map fun (j : Nat) => (j : Int) := by
    unfold asc
    rw [List.length_map, hl, List.filter_map]
    refine congrArg (fun (l : List Nat) => l.map fun (j : Nat) => (j : Int)) ?_
    have : ((fun k => inV (.int k) ((ms.map fun (j : Nat) => (j : Int)).map V.int)) ∘ fun (j : Nat) => (j : Int)) = fun k => ms.any fun j => j == k := by
      funext k
      exact ints_in
    rw [this, hms]
    refine List.filter_congr fun k hk => ?_
    rw [Bool.eq_iff_iff, List.any_eq_true]
    constructor
    · rintro ⟨j, hj, e⟩
      rw [← beq_iff_eq.mp e]
      exact (List.mem_filter.mp hj).2
    · intro h
      exact ⟨k, List.mem_filter.mpr ⟨hk, h⟩, beq_self_eq_true k⟩
  have hcnt : (List.range m).all (cnt1 (ps.map fun (j : Nat) => (j : Int))) = true := by
    rw [List.all_eq_true]
    intro k hk
    refine decide_eq_true ?_
    have h1 : (ps.map fun (j : Nat) => (j : Int)).count (k : Int) = ((List.range m).map fun (j : Nat) => (j : Int)).count (k : Int) := (hp.map _).count_eq _
    rw [h1]
    have hk' := List.mem_range.mp hk
    have : ∀ m : Fin 4, ∀ k : Fin 3, k.val < m.val → ((List.range m.val).map fun (j : Nat) => (j : Int)).count (k.val : Int) = 1 := by decide +kernel
    rw [this ⟨m, by omega⟩ ⟨k, by omega⟩ hk']
    rfl
  have hw : ∀ x ∈ (ps.zip ds).map fun x => ((x.1 : Int), dirW x.2), (0 ≤ x.1 ∧ x.1 < 3) ∧ ∃ d, x.2 = dirW d := fun x hx => by
    obtain ⟨y, hy, rfl⟩ := List.mem_map.mp hx
    have := plt y.1 (List.of_mem_zip hy).1
    exact ⟨⟨by show (0 : Int) ≤ (y.1 : Int); omega, by show (y.1 : Int) < 3; omega⟩, y.2, rfl⟩
  refine ⟨⟨by omega, hw, by rw [List.length_map]; omega, fun k hk => ?_⟩, ?_, ?_⟩
  · obtain ⟨j, hj, rfl⟩ := List.mem_map.mp hk
    have := mlt j hj
    omega
  · unfold wayB
    rw [e1, hlen, ea, hcnt, decide_eq_true hm, decide_eq_true rfl, dirW_ok]
    have : (((ps.zip ds).map fun x => ((x.1 : Int), dirW x.2)).all fun w => dirB w.2) = true := by
      rw [List.all_eq_true]
      intro x hx
      obtain ⟨e, h⟩ := (hw x hx).2
      rw [h]
      exact dirW_ok e
    rw [this]
    rfl
  · rw [e1]
    exact ea
/-! ### the text as the law puts it together -/
def dueS (b : Str) (ws : List (Int × Str)) : Nat → Str
  | 0 => b
  | i + 1 => ((((if 0 < i then dueS b ws i ++ Str.ofString "," else dueS b ws i) ++ Str.ofString " ") ++ digT (ws.getD i (0, Str.empty)).1) ++ Str.ofString " ") ++ (ws.getD i (0, Str.empty)).2
def dueN (b : Str) (ns : List Int) : Nat → Str
  | 0 => b
  | i + 1 => (dueN b ns i ++ (if 0 < i then Str.ofString ", " else Str.ofString "; noted ")) ++ digT (ns.getD i 0)
def due0 (z : Str) (m : Nat) : Str := if m = 0 then (z ++ Str.ofString ":") ++ Str.ofString " -" else z ++ Str.ofString ":"
theorem tl_c1 : tl (Str.ofString ":") = [58] := by decide +kernel
theorem tl_k1 : tl (Str.ofString ",") = [44] := by decide +kernel
theorem tl_d1 : tl (Str.ofString " -") = [32, 45] := by decide +kernel
theorem due_eq {z : Str} {ws : List (Int × Str)} {ns : List Int} (W : Wy ws ns) : dueN (dueS (due0 z ws.length) ws ws.length) ns ns.length = wayT z ws ns := by
  refine ext_tl ?_
  rw [way_tl]
  have hS : tl (dueS (due0 z ws.length) ws ws.length) = tl z ++ (58 :: [32] ++ tl (shownT ws)) := by
    have hw := W.w
    match ws, W.w3, hw with
    | [], _, _ =>
      show tl ((z ++ Str.ofString ":") ++ Str.ofString " -") = _
      rw [tl_append, tl_append, tl_c1, tl_d1, shown_tl]
      simp
    | [a], _, hw =>
      have ha := (hw a (by simp)).1
      show tl (((((z ++ Str.ofString ":") ++ Str.ofString " ") ++ digT a.1) ++ Str.ofString " ") ++ a.2) = _
      rw [shown_tl]
      simp only [tl_append, tl_c1, tl_sp, dig_tl ha.1 ha.2, List.isEmpty_cons, List.map_cons, List.map_nil, joinL, step_tl ha]
      simp
    | [a, b], _, hw =>
      have ha := (hw a (by simp)).1
      have hb := (hw b (by simp)).1
      show tl (((((((((((z ++ Str.ofString ":") ++ Str.ofString " ") ++ digT a.1) ++ Str.ofString " ") ++ a.2)) ++ Str.ofString ",") ++ Str.ofString " ") ++ digT b.1) ++ Str.ofString " ") ++ b.2) = _
      rw [shown_tl]
      simp only [tl_append, tl_c1, tl_sp, tl_k1, dig_tl ha.1 ha.2, dig_tl hb.1 hb.2, List.isEmpty_cons, List.map_cons, List.map_nil, joinL, step_tl ha, step_tl hb]
      simp
    | [a, b, c], _, hw =>
      have ha := (hw a (by simp)).1
      have hb := (hw b (by simp)).1
      have hc := (hw c (by simp)).1
      show tl ((((((((((((((((z ++ Str.ofString ":") ++ Str.ofString " ") ++ digT a.1) ++ Str.ofString " ") ++ a.2)) ++ Str.ofString ",") ++ Str.ofString " ") ++ digT b.1) ++ Str.ofString " ") ++ b.2) ++ Str.ofString ",") ++ Str.ofString " ") ++ digT c.1) ++ Str.ofString " ") ++ c.2) = _
      rw [shown_tl]
      simp only [tl_append, tl_c1, tl_sp, tl_k1, dig_tl ha.1 ha.2, dig_tl hb.1 hb.2, dig_tl hc.1 hc.2, List.isEmpty_cons, List.map_cons, List.map_nil, joinL, step_tl ha, step_tl hb, step_tl hc]
      simp
  generalize dueS (due0 z ws.length) ws ws.length = b at hS
  have hn := W.n
  match ns, W.n3, hn with
  | [], _, _ =>
    show tl b = _
    rw [hS]
    rfl
  | [k], _, hn =>
    show tl ((b ++ Str.ofString "; noted ") ++ digT k) = tl z ++ (58 :: [32] ++ tl ((shownT ws ++ Str.ofString "; noted ") ++ Txt.join (Str.ofString ", ") [digT k]))
    rw [join_eq]
    simp only [tl_append, hS, tl_join, List.map_cons, List.map_nil, joinL]
    simp
  | [k, j], _, hn =>
    show tl ((((b ++ Str.ofString "; noted ") ++ digT k) ++ Str.ofString ", ") ++ digT j) = tl z ++ (58 :: [32] ++ tl ((shownT ws ++ Str.ofString "; noted ") ++ Txt.join (Str.ofString ", ") [digT k, digT j]))
    rw [join_eq]
    simp only [tl_append, hS, tl_join, List.map_cons, List.map_nil, joinL]
    simp
  | [k, j, i], _, hn =>
    show tl ((((((b ++ Str.ofString "; noted ") ++ digT k) ++ Str.ofString ", ") ++ digT j) ++ Str.ofString ", ") ++ digT i) = tl z ++ (58 :: [32] ++ tl ((shownT ws ++ Str.ofString "; noted ") ++ Txt.join (Str.ofString ", ") [digT k, digT j, digT i]))
    rw [join_eq]
    simp only [tl_append, hS, tl_join, List.map_cons, List.map_nil, joinL]
    simp
theorem dueS_len {b : Str} {ws : List (Int × Str)} {ns : List Int} (W : Wy ws ns) : ∀ i, i ≤ ws.length → (dueS b ws i).length ≤ b.length + 10 * i
  | 0, _ => Nat.le_refl _
  | i + 1, h => by
    have ih := dueS_len (b := b) W i (by omega)
    have hg : ws.getD i (0, Str.empty) ∈ ws := by
      rw [List.getD_eq_getElem?_getD, List.getElem?_eq_getElem (by omega)]
      exact List.getElem_mem _
    obtain ⟨hk, d, hd⟩ := W.w _ hg
    have h1 := (dig_len hk.1 hk.2).1
    have h2 := dirW_len d
    show ((((_ ++ Str.ofString " ") ++ digT _) ++ Str.ofString " ") ++ _).length ≤ _
    rw [len_append, len_append, len_append, len_append, hd, h1, lsp]
    have h3 : (if 0 < i then dueS b ws i ++ Str.ofString "," else dueS b ws i).length ≤ (dueS b ws i).length + 1 := by
      split
      · rw [len_append, show (Str.ofString ",").length = 1 by decide +kernel]
        exact Nat.le_refl _
      · omega
    omega
theorem dueN_len {b : Str} {ws : List (Int × Str)} {ns : List Int} (W : Wy ws ns) : ∀ i, i ≤ ns.length → (dueN b ns i).length ≤ b.length + 10 * i
  | 0, _ => Nat.le_refl _
  | i + 1, h => by
    have ih := dueN_len (b := b) W i (by omega)
    have hg : ns.getD i 0 ∈ ns := by
      rw [List.getD_eq_getElem?_getD, List.getElem?_eq_getElem (by omega)]
      exact List.getElem_mem _
    have h1 := (dig_len (W.n _ hg).1 (W.n _ hg).2).1
    show ((_ ++ _) ++ digT _).length ≤ _
    rw [len_append, len_append, h1]
    have h3 : (if 0 < i then Str.ofString ", " else Str.ofString "; noted ").length ≤ 8 := by
      split
      · rw [lcm]
        decide
      · rw [lno]
        decide
    omega
end KN
set_option Elab.async false
set_option linter.all false
set_option maxRecDepth 100000
set_option maxHeartbeats 1000000
namespace KN
open PySem PySem.Spec PyProof.Rows L2
structure Txt (P : Program) (w : World) (K : PySem.W.Frag) (mg : Str → Option Value) (base : Heap) (fTp fT fS fX fP : Addr) (fdTp fdT fdS fdX fdP : FuncData) : Prop where
  GTp : FnOk P w K mg base CX0 2 fTp fdTp ["_law_script", "_law_k", "_law_size"] (spTape K)
  gTp : mg "_law_tape" = some (.ref fTp)
  kTp : PySem.W.keepIn K (.ref fTp) = true
  bTp : Binds K fdTp ["_law_script", "_law_k", "_law_size"] []
  GT : FnOk P w K mg base CX0 1 fT fdT ["_law_tape_here", "_law_many"] spTake
  gT : mg "_law_take" = some (.ref fT)
  kT : PySem.W.keepIn K (.ref fT) = true
  bT : Binds K fdT ["_law_tape_here", "_law_many"] []
  GS : FnOk P w K mg base CX0 2 fS fdS ["_law_tape_here", "_law_many"] spS
  gS : mg "_law_shuffled" = some (.ref fS)
  kS : PySem.W.keepIn K (.ref fS) = true
  bS : Binds K fdS ["_law_tape_here", "_law_many"] []
  GX : FnOk P w K mg base CX0 1 fX fdX ["way"] spT
  gX : mg "way_text" = some (.ref fX)
  kX : PySem.W.keepIn K (.ref fX) = true
  bX : Binds K fdX ["way"] []
  GP : FnOk P w K mg base CX0 2 fP fdP ["text"] spP
  gP : mg "parse_way" = some (.ref fP)
  kP : PySem.W.keepIn K (.ref fP) = true
  bP : Binds K fdP ["text"] []
  ml : mg "len" = none
  mr : mg "range" = none
  mt : mg "tuple" = none
  mI : mg "isinstance" = none
  mi : mg "int" = none
  ms : mg "str" = none
  mb : mg "bool" = none
section
variable {P : Program} {w : World} {K : PySem.W.Frag} {mg : Str → Option Value} {base : Heap} {fTp fT fS fX fP : Addr} {fdTp fdT fdS fdX fdP : FuncData}
abbrev NL : List Str := ["_law_script", "_law_tape_here", "_law_head", "_law_many", "_law_k", "_law_steps", "_law_marked", "_law_one", "_law_due", "_law_text", "_law_back", "_law_number", "_law_step"]
theorem scL : FnScope NL ["_law_script"] (defScope sLaw) := ⟨rfl, rfl, rfl, by decide +kernel, rfl, by decide +kernel, by decide +kernel⟩
def spLaw (K : PySem.W.Frag) : Sp := fun vs H Q _ => ∃ (a : Addr) (ns : List Int), vs = [.ref a] ∧ SqL K H a (ns.map V.int) ∧ ns.length ≤ 63 ∧ ∀ H', Q (.bl true) H'
theorem dir_at {r : Nat} (h : r < 2) : [V.str (Str.ofString "told"), V.str (Str.ofString "found")][r]? = some (.str (dirW (decide (r = 0)))) := by
  match r, h with
  | 0, _ => rfl
  | 1, _ => rfl
abbrev wI (x : Nat × Bool) : Int × Str := ((x.1 : Int), dirW x.2)
theorem lay_ints : ∀ l : List Int, lays (l.map Fd.i) = true
  | [] => rfl
  | k :: l => by
    show (true && lays (l.map Fd.i)) = true
    rw [lay_ints l]
    rfl
theorem lay_steps : ∀ {l : List (Int × Str)}, (∀ x ∈ l, ∃ d, x.2 = dirW d) → lays (l.map pD) = true
  | [], _ => rfl
  | x :: l, h => by
    obtain ⟨d, hd⟩ := h x (List.mem_cons_self ..)
    show ((true && (PyData.strOk x.2 && true)) && lays (l.map pD)) = true
    rw [lay_steps (l := l) fun y hy => h y (List.mem_cons_of_mem _ hy), hd]
    cases d <;> decide +kernel
theorem dep_ints : ∀ l : List Int, deps (l.map Fd.i) = 0
  | [] => rfl
  | k :: l => by
    show max 0 (deps (l.map Fd.i)) = 0
    rw [dep_ints l]
    rfl
theorem dep_steps : ∀ l : List (Int × Str), deps (l.map pD) ≤ 1
  | [] => Nat.zero_le _
  | x :: l => by
    have := dep_steps l
    show max (1 + max 0 (max 0 0)) (deps (l.map pD)) ≤ 1
    omega
theorem way_lay {ws : List (Int × Str)} {ns : List Int} (W : Wy ws ns) (d : Bool) : lay (.t [.s (dirW d), .t (ws.map pD), .t (ns.map Fd.i)]) = true ∧ dep (.t [.s (dirW d), .t (ws.map pD), .t (ns.map Fd.i)]) ≤ 60 := by
  constructor
  · show (PyData.strOk (dirW d) && (lays (ws.map pD) && (lays (ns.map Fd.i) && true))) = true
    rw [lay_steps fun x hx => (W.w x hx).2, lay_ints]
    cases d <;> decide +kernel
  · have := dep_steps ws
    show 1 + max 0 (max (1 + deps (ws.map pD)) (max (1 + deps (ns.map Fd.i)) 0)) ≤ 60
    rw [dep_ints]
    omega
theorem ints_of {H : Hp} : ∀ {vs : List V} {ns : List Int}, RpA H vs (ns.map Fd.i) → vs = ns.map V.int
  | _, [], .nil => rfl
  | _, k :: ns, .cons (.i _) r => by
    rw [ints_of r]
    rfl
theorem two_at {a b : Str} {i : Nat} : atI [V.str a, V.str b] (if decide ((0 : Int) + (i : Int) > 0) = true then 1 else 0) = some (.str (if 0 < i then b else a)) := by
  by_cases h : 0 < i
  · rw [decide_eq_true (show (0 : Int) + (i : Int) > 0 by omega), if_pos rfl, if_pos h]
    rfl
  · rw [decide_eq_false (show ¬ (0 : Int) + (i : Int) > 0 by omega), if_neg Bool.false_ne_true, if_neg h]
    rfl
theorem law_rest {f : Addr} {cdv : Value} {A : Around} {outer : List Env} {s : Shared} {H : Hp} {E : XK} (T : Txt P w K mg base fTp fT fS fX fP fdTp fdT fdS fdX fdP) (hr : Room 2 (A.deeper (envOfC "law" (defScope sLaw) s.heap.objs.size f cdv))) :
    ∃ t, PSs (cxOf CX0 P w K mg base NL "law" (defScope sLaw) f cdv A outer s H E).nox (defBody sLaw).tail.tail.tail.tail.tail.tail.tail.tail t ∧ ∀ (Q : VK) (H8 : Hp) (v0 v1 : V) (d : Bool) (S M O : Addr) (vs : List V) (ws : List (Int × Str)) (ns : List Int),
      (∀ H', Q (.bl true) H') → H8 S = some (.lst vs) → RpA H8 vs (ws.map pD) → H8 M = some (.lst (ns.map V.int)) → Rp H8 (.ref O) (.t [.s (dirW d), .t (ws.map pD), .t (ns.map Fd.i)]) → Wy ws ns → wayB (dirW d) ws ns = true → asc (ws.map (·.1)) ns = ns →
      t { nx := fun _ H' => Q .non H', rt := Q } [some v0, some v1, some (.str (dirW d)), some (.int (ws.length : Int)), none, some (.ref S), some (.ref M), some (.ref O), some (.str (due0 (dirW d) ws.length)), none, none, none, none] H8 := by
  have hr1 : Room 1 _ := hr.mono (by decide)
  refine ⟨_, pss_cons (ps_for PassesOwn.never rfl (pi_range1 (by rfl) T.mr (pa_cons (pv 3) pa_nil)) (pg_name (i := 4) scL.nd rfl (.inl rfl))
      (pss_cons (ps_if (pt_cmpR op_gt (pv 4) pe_int (nomark _)) (pss_one (ps_set (i := 8) scL.nd rfl (.inl rfl) (pe_op op_add_str (pv 8) pe_str))) pss_nil)
      (pss_one (ps_set (i := 8) scL.nd rfl (.inl rfl) (pe_op op_add_str (pe_op op_add_str (pe_op op_add_str (pe_op op_add_str (pv 8) pe_str)
        (pe_callTy call_str_int (by rfl) T.ms (by decide +kernel) (pa_cons (pe_ix ix_tup (pe_ix ix_list (pv 5) (pv 4) (fun _ _ => rfl)) pe_int (fun _ _ => rfl)) pa_nil))) pe_str) (pe_ix ix_tup (pe_ix ix_list (pv 5) (pv 4) (fun _ _ => rfl)) pe_int (fun _ _ => rfl)))))))
    (pss_cons (ps_for PassesOwn.never rfl (pi_range1 (by rfl) T.mr (pa_cons (pe_callB call_len_seq (by rfl) T.ml PySem.boot_len (pa_cons (pv 6) pa_nil)) pa_nil)) (pg_name (i := 4) scL.nd rfl (.inl rfl))
      (pss_one (ps_set (i := 8) scL.nd rfl (.inl rfl) (pe_op op_add_str (pe_op op_add_str (pv 8) (pe_ix ix_list (pe_lst (pa_cons pe_str (pa_cons pe_str pa_nil))) (pe_callTy call_int1 (by rfl) T.mi (by decide +kernel) (pa_cons (pe_cmpR op_gt (pv 4) pe_int (nomark _)) pa_nil)) (fun _ _ => rfl)))
        (pe_callTy call_str_int (by rfl) T.ms (by decide +kernel) (pa_cons (pe_ix ix_list (pv 6) (pv 4) (fun _ _ => rfl)) pa_nil))))))
    (pss_cons (ps_set (i := 9) scL.nd rfl (.inl rfl) (pe_call T.GX hr1 (by rfl) T.gX T.kX T.bX .nil pass0 (pa_cons (pv 7) pa_nil)))
    (pss_cons (ps_if (PW.pt (pw_or (pt_not (pt_val (pe_callB call_isi (by rfl) T.mI (by decide +kernel) (pa_cons (pv 9) (pa_cons (pe_bltn (v := .ty "str") (by rfl) T.ms (by decide +kernel) rfl) pa_nil)))))
      (pw_or1 (pt_cmpR op_ne (pv 9) (pv 8) (nomark _))))) (pss_one (ps_ret pe_bl)) pss_nil)
    (pss_cons (ps_set (i := 10) scL.nd rfl (.inl rfl) (pe_call T.GP hr (by rfl) T.gP T.kP T.bP .nil pass0 (pa_cons (pv 8) pa_nil)))
    (pss_cons (ps_if (PW.pt (pw_or (pt_not (pt_val (pe_callB call_isi (by rfl) T.mI (by decide +kernel) (pa_cons (pv 10) (pa_cons (pe_bltn (v := .ty "tuple") (by rfl) T.mt (by decide +kernel) rfl) pa_nil)))))
      (pw_or (pt_cmpR op_ne (pe_callB call_len_seq (by rfl) T.ml PySem.boot_len (pa_cons (pv 10) pa_nil)) pe_int (nomark _))
        (pw_or1 (pt_not (pt_val (pe_callB call_isi (by rfl) T.mI (by decide +kernel) (pa_cons (pe_ix ix_tup (pv 10) pe_int (fun _ _ => rfl)) (pa_cons (pe_bltn (v := .ty "tuple") (by rfl) T.mt (by decide +kernel) rfl) pa_nil))))))))) (pss_one (ps_ret pe_bl)) pss_nil)
    (pss_cons (ps_for PassesOwn.never rfl (pi_list (pe_op op_cat
        (pe_lc (own := [("_law_step", 12)]) (g := gName 12) (tt := tYes) (te := tOp (rIxT K) (tVar 12) (tC (.int 0))) (by rfl) scL.nd (pi_tup (pe_ix ix_tup (pv 10) pe_int (fun _ _ => rfl))) (blkOk_by (own := [("_law_step", 12)]) (N := NL) (sc := defScope sLaw) (by decide +kernel))
          (fun _ _ _ _ _ => pg_name (i := 12) scL.nd rfl (Or.inl rfl)) (fun _ _ _ _ _ => pts_nil) (fun _ _ _ _ _ => pe_ix ix_tup (pv 12) pe_int (fun _ _ => rfl)))
        (pe_lc (own := [("_law_k", 4)]) (g := gName 4) (tt := tYes) (te := tVar 4) (by rfl) scL.nd (pi_tup (pe_ix ix_tup (pv 10) pe_int (fun _ _ => rfl))) (blkOk_by (own := [("_law_k", 4)]) (N := NL) (sc := defScope sLaw) (by decide +kernel))
          (fun _ _ _ _ _ => pg_name (i := 4) scL.nd rfl (Or.inl rfl)) (fun _ _ _ _ _ => pts_nil) (fun _ _ _ _ _ => pv 4)))) (pg_name (i := 11) scL.nd rfl (.inl rfl))
      (pss_one (ps_if (PW.pt (pw_or (pt_not (pt_val (pe_callB call_isi (by rfl) T.mI (by decide +kernel) (pa_cons (pv 11) (pa_cons (pe_bltn (v := .ty "int") (by rfl) T.mi (by decide +kernel) rfl) pa_nil)))))
        (pw_or1 (pt_val (pe_callB call_isi (by rfl) T.mI (by decide +kernel) (pa_cons (pv 11) (pa_cons (pe_bltn (v := .ty "bool") (by rfl) T.mb (by decide +kernel) rfl) pa_nil))))))) (pss_one (ps_ret pe_bl)) pss_nil)))
    (pss_one (ps_ret (pe_cmpR (op_eqD hr.units) (pv 10) (pv 7) (nomark _)))))))))), fun Q H8 v0 v1 d S M O vs ws ns q eS rS eM rO W okw ea => ?_⟩
  have L9 : ∀ {n : Nat}, n ≤ 900 → n ≤ sizeLine := fun h => Nat.le_of_lt (small1000 (by omega))
  have hvl := rS.length
  rw [List.length_map] at hvl
  have w3 := W.w3
  have n3 := W.n3
  have hb : (due0 (dirW d) ws.length).length ≤ 10 := by
    have := dirW_len d
    unfold due0
    split
    · rw [len_append, len_append, show (Str.ofString ":").length = 1 by decide +kernel, show (Str.ofString " -").length = 2 by decide +kernel]
      omega
    · rw [len_append, show (Str.ofString ":").length = 1 by decide +kernel]
      omega
  generalize hbd : due0 (dirW d) ws.length = b at hb
  refine ⟨_, rfl, (ws.length : Int), rfl, by omega, by omega, ?_⟩
  refine for_range (lo := 0) (n := ws.length) (fun i σ H' => ∃ y4 : Option V, σ = [some v0, some v1, some (.str (dirW d)), some (.int (ws.length : Int)), y4, some (.ref S), some (.ref M), some (.ref O), some (.str (dueS b ws i)), none, none, none, none] ∧ H' = H8)
    ⟨none, rfl, rfl⟩ (fun i σ H' hi hW => ?_) (fun σ H' hW => ?_)
  · obtain ⟨y4, rfl, rfl⟩ := hW
    have hx : vs[i]? = some vs[i] := List.getElem?_eq_getElem (by omega)
    obtain ⟨dd, hd, rd⟩ := rS.get? hx
    obtain ⟨w0, a0, hw0, ex, ha0⟩ := pd_of hd rd
    rw [ex] at hx
    have hwm := W.w w0 (List.mem_of_getElem? hw0)
    have hdl := dig_len hwm.1.1 hwm.1.2
    have hg : ws.getD i (0, Str.empty) = w0 := by
      rw [List.getD_eq_getElem?_getD, hw0]
      rfl
    have hw2 : w0.2.length ≤ 5 := by
      obtain ⟨e, he⟩ := hwm.2
      rw [he]
      exact dirW_len e
    have hpre := dueS_len (b := b) W i (by omega)
    have lk : (Str.ofString ",").length = 1 := by decide +kernel
    refine ⟨_, rfl, _, _, rfl, rfl, _, rfl, ite2 (fun hc => ?_) (fun hc => ?_)⟩
    · have h0 : 0 < i := by
        have : (0 : Int) + (i : Int) > 0 := of_decide_eq_true hc
        omega
      refine ⟨_, rfl, _, _, rfl, rfl, L9 (by rw [lk]; omega), ?_⟩
      have hu : (dueS b ws i ++ Str.ofString ",").length ≤ 200 := by
        rw [len_append, lk]
        omega
      refine ⟨_, rfl, _, _, rfl, rfl, L9 (by rw [lsp]; omega), _, rfl, _, rfl, S, vs, _, _, rfl, rfl, SqL.of eS, (by rw [Int.zero_add]; exact atI_nat hx), a0, _, 0, _, rfl, rfl, SqT.of ha0, atI_nat rfl, _, rfl, hdl.2, _, _, rfl, rfl, L9 (by show ((dueS b ws i ++ Str.ofString ",") ++ Str.ofString " ").length + (digT w0.1).length ≤ 900; rw [len_append, lsp, hdl.1]; omega), _, _, rfl, rfl, L9 (by show (((dueS b ws i ++ Str.ofString ",") ++ Str.ofString " ") ++ digT w0.1).length + (Str.ofString " ").length ≤ 900; rw [len_append, len_append, lsp, hdl.1]; omega), _, rfl, _, rfl, S, vs, _, _, rfl, rfl, SqL.of eS, (by rw [Int.zero_add]; exact atI_nat hx), a0, _, 1, _, rfl, rfl, SqT.of ha0, atI_nat (j := 1) rfl, _, _, rfl, rfl, L9 (by show ((((dueS b ws i ++ Str.ofString ",") ++ Str.ofString " ") ++ digT w0.1) ++ Str.ofString " ").length + w0.2.length ≤ 900; rw [len_append, len_append, len_append, lsp, hdl.1]; omega), ?_⟩
      refine ⟨some (.int (0 + (i : Int))), ?_, rfl⟩
      have eu : dueS b ws (i + 1) = ((((dueS b ws i ++ Str.ofString ",") ++ Str.ofString " ") ++ digT w0.1) ++ Str.ofString " ") ++ w0.2 := by
        show ((((if 0 < i then dueS b ws i ++ Str.ofString "," else dueS b ws i) ++ Str.ofString " ") ++ digT (ws.getD i (0, Str.empty)).1) ++ Str.ofString " ") ++ (ws.getD i (0, Str.empty)).2 = _
        rw [hg, if_pos h0]
      rw [eu]
      rfl
    · have h0 : ¬ 0 < i := fun h => hc (decide_eq_true (by
        show (0 : Int) + (i : Int) > 0
        omega))
      have hu : (dueS b ws i).length ≤ 200 := by
        omega
      refine ⟨_, rfl, _, _, rfl, rfl, L9 (by rw [lsp]; omega), _, rfl, _, rfl, S, vs, _, _, rfl, rfl, SqL.of eS, (by rw [Int.zero_add]; exact atI_nat hx), a0, _, 0, _, rfl, rfl, SqT.of ha0, atI_nat rfl, _, rfl, hdl.2, _, _, rfl, rfl, L9 (by show (dueS b ws i ++ Str.ofString " ").length + (digT w0.1).length ≤ 900; rw [len_append, lsp, hdl.1]; omega), _, _, rfl, rfl, L9 (by show ((dueS b ws i ++ Str.ofString " ") ++ digT w0.1).length + (Str.ofString " ").length ≤ 900; rw [len_append, len_append, lsp, hdl.1]; omega), _, rfl, _, rfl, S, vs, _, _, rfl, rfl, SqL.of eS, (by rw [Int.zero_add]; exact atI_nat hx), a0, _, 1, _, rfl, rfl, SqT.of ha0, atI_nat (j := 1) rfl, _, _, rfl, rfl, L9 (by show (((dueS b ws i ++ Str.ofString " ") ++ digT w0.1) ++ Str.ofString " ").length + w0.2.length ≤ 900; rw [len_append, len_append, len_append, lsp, hdl.1]; omega), ?_⟩
      refine ⟨some (.int (0 + (i : Int))), ?_, rfl⟩
      have eu : dueS b ws (i + 1) = (((dueS b ws i ++ Str.ofString " ") ++ digT w0.1) ++ Str.ofString " ") ++ w0.2 := by
        show ((((if 0 < i then dueS b ws i ++ Str.ofString "," else dueS b ws i) ++ Str.ofString " ") ++ digT (ws.getD i (0, Str.empty)).1) ++ Str.ofString " ") ++ (ws.getD i (0, Str.empty)).2 = _
        rw [hg, if_neg h0]
      rw [eu]
      rfl
  obtain ⟨y4, rfl, eH⟩ := hW
  rw [eH]
  clear eH
  have hc := dueS_len (b := b) W ws.length (Nat.le_refl _)
  generalize hcd : dueS b ws ws.length = c at hc
  have hN := dueN_len (b := c) W
  -- the noted ones
  refine ⟨_, rfl, M, _, rfl, .inl (SqL.of eM), ?_⟩
  rw [List.length_map]
  refine ⟨(ns.length : Int), rfl, by omega, by omega, ?_⟩
  refine for_range (lo := 0) (n := ns.length) (fun i σ H' => ∃ y4 : Option V, σ = [some v0, some v1, some (.str (dirW d)), some (.int (ws.length : Int)), y4, some (.ref S), some (.ref M), some (.ref O), some (.str (dueN c ns i)), none, none, none, none] ∧ Same H8 H')
    ⟨y4, rfl, Same.refl _⟩ (fun i σ H' hi hW => ?_) (fun σ H9 hW => ?_)
  · obtain ⟨y4, rfl, sm⟩ := hW
    have hk := W.n ns[i] (List.getElem_mem hi)
    have hdl := dig_len hk.1 hk.2
    have hpre := hN i (by omega)
    have hg : ns.getD i 0 = ns[i] := by
      rw [List.getD_eq_getElem?_getD, List.getElem?_eq_getElem hi]
      rfl
    have hx : (ns.map V.int)[i]? = some (.int ns[i]) := by
      rw [List.getElem?_map, List.getElem?_eq_getElem hi]
      rfl
    have l8 : (if 0 < i then Str.ofString ", " else Str.ofString "; noted ").length ≤ 8 := by
      split
      · rw [lcm]
        decide
      · rw [lno]
        decide
    refine ⟨_, rfl, (by show 2 ≤ sizeLine; decide), fun l0 nl0 => ?_⟩
    refine ⟨_, rfl, _, _, rfl, rfl, .inr ⟨_, rfl, l0, _, _, _, rfl, rfl, SqL.of upd_same, two_at, _, _, rfl, rfl, L9 (by omega), ?_⟩⟩
    refine ⟨_, rfl, _, rfl, M, _, _, _, rfl, rfl, SqL.of (same_upd nl0 _ _ (sm _ _ eM)), (by rw [Int.zero_add]; exact atI_nat hx), _, rfl, hdl.2, _, _, rfl, rfl, L9 ?_, ?_⟩
    · show (dueN c ns i ++ (if 0 < i then Str.ofString ", " else Str.ofString "; noted ")).length + (digT ns[i]).length ≤ 900
      rw [len_append, hdl.1]
      omega
    · refine ⟨some (.int (0 + (i : Int))), ?_, sm.trans (same_upd nl0)⟩
      have eu : dueN c ns (i + 1) = (dueN c ns i ++ (if 0 < i then Str.ofString ", " else Str.ofString "; noted ")) ++ digT ns[i] := by
        show (dueN c ns i ++ (if 0 < i then Str.ofString ", " else Str.ofString "; noted ")) ++ digT (ns.getD i 0) = _
        rw [hg]
      rw [eu]
      rfl
  obtain ⟨y4', rfl, sm89⟩ := hW
  rw [← hcd, ← hbd, due_eq W]
  have pd := pd_way d W okw ea
  have Sm := W.small d
  -- the text
  refine ⟨_, rfl, .ref O, dirW d, ws, ns, rfl, rO.keep (.same sm89), Sm, fun H10 sm10' => ?_⟩
  have sm10 := sm89.trans sm10'
  refine ⟨_, rfl, _, _, _, _, true, rfl, .ty "str", ty_s, kit_ty (by decide +kernel), _, rfl, iteF ?_⟩
  refine ⟨_, rfl, _, rfl, rfl, _, rfl, iteNS rfl ?_⟩
  refine ⟨_, rfl, _, _, _, _, _, ws, ns, rfl, pd, fun H11 t sm11' rt => ?_⟩
  have sm11 := sm10.trans sm11'
  obtain ⟨t1, t2, p1, et, e1, r1, e2⟩ : ∃ t1 t2 p1, H11 t = some (.tup [.str (dirW d), .ref t1, .ref t2]) ∧ H11 t1 = some (.tup p1) ∧ RpA H11 p1 (ws.map pD) ∧ H11 t2 = some (.tup (ns.map V.int)) := by
    cases rt with
    | t ha rr =>
    cases rr with
    | cons rz rr =>
    cases rz
    cases rr with
    | cons r1 rr =>
    cases rr with
    | cons r2 rr =>
    cases rr
    cases r1 with
    | t h1 ra1 =>
    cases r2 with
    | t h2 ra2 =>
    exact ⟨_, _, _, ha, h1, ra1, by rw [h2, ints_of ra2]⟩
  refine ⟨_, rfl, _, _, _, _, true, rfl, .ty "tuple", ty_t et, kit_ty (by decide +kernel), _, rfl, iteF ?_⟩
  refine ⟨_, rfl, t, _, rfl, .inr (SqT.of et), rfl, _, rfl, iteF ?_⟩
  refine ⟨_, rfl, t, _, 1, _, rfl, rfl, SqT.of et, atI_nat (j := 1) rfl, _, _, _, _, true, rfl, .ty "tuple", ty_t e1, kit_ty (by decide +kernel), _, rfl, iteF ?_⟩
  -- the numbers
  have hp1 := r1.length
  rw [List.length_map] at hp1
  refine ⟨_, rfl, t, _, 1, _, rfl, rfl, SqT.of et, atI_nat (j := 1) rfl, t1, rfl, ⟨_, SqT.of e1⟩, fun D1 nD1 => ?_⟩
  refine lc_tup (K := K) (a := t1) (xs := p1) (fun i H' => Same H11 H' ∧ H' D1 = some (.lst (((ws.take i).map (·.1)).map V.int)))
    ⟨same_upd nD1, upd_same⟩ (fun i H' _ hW => SqT.of (hW.1 _ _ e1)) (fun i x H' hx hW => ?_) (fun H12 hW => ?_)
  · obtain ⟨sm, eD⟩ := hW
    obtain ⟨dd, hd, rd⟩ := r1.get? hx
    obtain ⟨w0, a0, hw0, rfl, ha0⟩ := pd_of hd (rd.keep (.same sm))
    refine ⟨rfl, tyes ?_⟩
    refine ⟨_, rfl, a0, _, 0, _, rfl, rfl, SqT.of ha0, atI_nat (j := 0) rfl, _, eD, ?_, fun b' o e => ?_, ?_⟩
    · rw [List.length_map, List.length_map, List.length_take]
      exact small1000 (by omega)
    · rw [upd_ne (ne_of_none e nD1)]
      exact sm _ _ e
    · rw [upd_same, List.take_add_one, hw0, List.map_append, List.map_append]
      rfl
  obtain ⟨sm12, eD1⟩ := hW
  rw [List.take_of_length_le (by omega)] at eD1
  refine ⟨_, rfl, t, _, 2, _, rfl, rfl, SqT.of (sm12 _ _ et), atI_nat (j := 2) rfl, t2, rfl, ⟨_, SqT.of (sm12 _ _ e2)⟩, fun D2 nD2 => ?_⟩
  refine lc_tup (K := K) (a := t2) (xs := ns.map V.int) (fun i H' => Same H12 H' ∧ H' D2 = some (.lst ((ns.take i).map V.int)))
    ⟨same_upd nD2, upd_same⟩ (fun i H' _ hW => SqT.of (hW.1 _ _ (sm12 _ _ e2))) (fun i x H' hx hW => ?_) (fun H13 hW => ?_)
  · obtain ⟨sm, eD⟩ := hW
    refine ⟨rfl, tyes ?_⟩
    rw [List.getElem?_map] at hx
    cases e : ns[i]? with
    | none =>
      rw [e] at hx
      cases hx
    | some k =>
      rw [e] at hx
      have e3 : V.int k = x := Option.some.inj hx
      subst e3
      refine ⟨_, rfl, _, eD, ?_, fun b' o e => ?_, ?_⟩
      · rw [List.length_map, List.length_take]
        exact small1000 (by omega)
      · rw [upd_ne (ne_of_none e nD2)]
        exact sm _ _ e
      · rw [upd_same, List.take_add_one, e, List.map_append]
        rfl
  obtain ⟨sm13, eD2⟩ := hW
  rw [List.length_map, List.take_of_length_le (Nat.le_refl _)] at eD2
  refine ⟨D1, D2, _, _, rfl, rfl, sm13 _ _ eD1, eD2, ?_, fun L nL => ?_⟩
  · rw [List.length_map, List.length_map, List.length_map]
    exact L9 (by omega)
  have smL := ((sm12.trans sm13).trans (same_upd (o := .lst (((ws.map (·.1)).map V.int) ++ ns.map V.int)) nL))
  refine ⟨L, rfl, ⟨_, SqL.of upd_same⟩, for_list (K := K) (a := L) (xs := ((ws.map (·.1)).map V.int) ++ ns.map V.int) (fun i σ H' => ∃ y11 : Option V, σ = [some v0, some v1, some (.str (dirW d)), some (.int (ws.length : Int)), y4', some (.ref S), some (.ref M), some (.ref O), some (.str (wayT (dirW d) ws ns)), some (.str (wayT (dirW d) ws ns)), some (.ref t), y11, none] ∧ Same H11 H' ∧ H' L = some (.lst (((ws.map (·.1)).map V.int) ++ ns.map V.int)))
    ⟨none, rfl, smL, upd_same⟩ (fun i σ H' _ hW => ?_) (fun i x σ H' hx hW => ?_) (fun σ H14 hW => ?_)⟩
  · obtain ⟨_, _, _, el⟩ := hW
    exact SqL.of el
  · obtain ⟨y11, rfl, sm, el⟩ := hW
    obtain ⟨k, rfl⟩ : ∃ k, x = V.int k := by
      have hm := List.mem_of_getElem? hx
      rcases List.mem_append.mp hm with hm | hm
      · obtain ⟨k, _, rfl⟩ := List.mem_map.mp hm
        exact ⟨k, rfl⟩
      · obtain ⟨k, _, rfl⟩ := List.mem_map.mp hm
        exact ⟨k, rfl⟩
    refine ⟨_, rfl, _, _, _, _, true, rfl, .ty "int", .base (.int k), kit_ty (by decide +kernel), _, rfl, iteF ?_⟩
    refine ⟨_, rfl, _, _, _, _, false, rfl, .ty "bool", .base (.int k), kit_ty (by decide +kernel), _, rfl, iteF ?_⟩
    exact ⟨_, rfl, sm, el⟩
  obtain ⟨y11, rfl, sm14, _⟩ := hW
  have wl := way_lay W d
  have shp := shaped_toPy wl.1 wl.2
  refine ⟨_, rfl, _, rfl, _, _, Rp.dp (rt.keep (.same sm14)), Rp.dp (rO.keep (.same (sm11.trans sm14))), shp, shp, ?_⟩
  rw [eqv_toPy wl.1]
  exact q _
end
end KN
set_option Elab.async false
set_option linter.all false
set_option maxRecDepth 100000
set_option maxHeartbeats 1000000
namespace KN
open PySem PySem.Spec PyProof.Rows L2
section
variable {P : Program} {w : World} {K : PySem.W.Frag} {mg : Str → Option Value} {base : Heap} {fTp fT fS fX fP : Addr} {fdTp fdT fdS fdX fdP : FuncData}
theorem zip_snoc {α β : Type} {l : List α} {r : List β} {a : α} {b : β} (h : l.length = r.length) : (l ++ [a]).zip (r ++ [b]) = l.zip r ++ [(a, b)] := by
  rw [List.zip_append h]
  rfl
theorem ok_law {f : Addr} {fd : FuncData} (F : Fun K "law" "law" sLaw f fd) (T : Txt P w K mg base fTp fT fS fX fP fdTp fdT fdS fdX fdP) : FnOk P w K mg base CX0 3 f fd ["_law_script"] (spLaw K) := by
  refine F.ok scL (fun vs H Q E h => ?_) (fun cdv A outer s H vs Q E hr h => ?_)
  · obtain ⟨a, ns, rfl, _⟩ := h
    rfl
  obtain ⟨a, script, rfl, hS, hlen, q⟩ := h
  have hr1 : Room 1 _ := hr.mono (by decide)
  obtain ⟨tr, hR, qR⟩ := law_rest (f := f) (cdv := cdv) (A := A) (outer := outer) (s := s) (H := H) (E := E) T hr
  refine ⟨_, pss_cons (ps_set (i := 1) scL.nd rfl (.inr rfl) (pe_call T.GTp hr (by rfl) T.gTp T.kTp T.bTp .nil pass0 (pa_cons (pv 0) (pa_cons pe_int (pa_cons pe_int pa_nil)))))
    (pss_cons (ps_set (i := 2) scL.nd rfl (.inl rfl) (pe_ix ix_list (pe_lst (pa_cons pe_str (pa_cons pe_str pa_nil))) (pe_call T.GT hr1 (by rfl) T.gT T.kT T.bT .nil pass0 (pa_cons (pv 1) (pa_cons pe_int pa_nil))) (fun _ _ => rfl)))
    (pss_cons (ps_set (i := 3) scL.nd rfl (.inl rfl) (pe_call T.GT hr1 (by rfl) T.gT T.kT T.bT .nil pass0 (pa_cons (pv 1) (pa_cons pe_int pa_nil))))
    (pss_cons (ps_setLc (i := 5) (own := [("_law_k", 4)]) (g := gName 4) (tt := tYes) (te := tTup (tCons (tVar 4) (tCons (tOp (rIxL K) (tLst (tCons (tC (.str (Str.ofString "told"))) (tCons (tC (.str (Str.ofString "found"))) tNil))) (tCall spTake [] E0 (tCons (tVar 1) (tCons (tC (.int 2)) tNil)))) tNil)))
      (by rfl) scL.nd rfl rfl (sw_true rfl rfl rfl (by decide +kernel)) (pi_list (pe_call T.GS hr (by rfl) T.gS T.kS T.bS .nil pass0 (pa_cons (pv 1) (pa_cons (pv 3) pa_nil))))
      (blkOk_by (own := [("_law_k", 4)]) (N := NL) (sc := defScope sLaw) (by decide +kernel)) (fun _ _ _ _ _ => pg_name (i := 4) scL.nd rfl (Or.inl rfl)) (fun _ _ _ _ _ => pts_nil)
      (fun _ _ _ _ _ => pe_tup (pa_cons (pv 4) (pa_cons (pe_ix ix_list (pe_lst (pa_cons pe_str (pa_cons pe_str pa_nil))) (pe_call T.GT hr1 (by rfl) T.gT T.kT T.bT .nil pass0 (pa_cons (pv 1) (pa_cons pe_int pa_nil))) (fun _ _ => rfl)) pa_nil))))
    (pss_cons (ps_setLc (i := 6) (own := [("_law_k", 4)]) (g := gName 4) (tt := tTest (tOp rEq (tCall spTake [] E0 (tCons (tVar 1) (tCons (tC (.int 2)) tNil))) (tC (.int 1)))) (te := tVar 4)
      (by rfl) scL.nd rfl rfl (sw_true rfl rfl rfl (by decide +kernel)) (pi_range1 (by rfl) T.mr (pa_cons (pv 3) pa_nil))
      (blkOk_by (own := [("_law_k", 4)]) (N := NL) (sc := defScope sLaw) (by decide +kernel)) (fun _ _ _ _ _ => pg_name (i := 4) scL.nd rfl (Or.inl rfl))
      (fun _ _ _ _ _ => pts_one (pt_cmpR op_eq (pe_call T.GT hr1 (by rfl) T.gT T.kT T.bT .nil pass0 (pa_cons (pv 1) (pa_cons pe_int pa_nil))) pe_int (nomark _))) (fun _ _ _ _ _ => pv 4))
    (pss_cons (ps_set (i := 7) scL.nd rfl (.inl rfl) (pe_tup (pa_cons (pv 2) (pa_cons (pe_callTy call_tuple_of (by rfl) T.mt (by decide +kernel) (pa_cons (pv 5) pa_nil)) (pa_cons (pe_callTy call_tuple_of (by rfl) T.mt (by decide +kernel) (pa_cons (pv 6) pa_nil)) pa_nil)))))
    (pss_cons (ps_set (i := 8) scL.nd rfl (.inl rfl) (pe_op op_add_str (pv 2) pe_str))
    (pss_cons (ps_if (pt_cmpR op_eq (pv 3) pe_int (nomark _)) (pss_one (ps_set (i := 8) scL.nd rfl (.inl rfl) (pe_op op_add_str (pv 8) pe_str))) pss_nil) hR))))))), ?_⟩
  have L9 : ∀ {n : Nat}, n ≤ 900 → n ≤ sizeLine := fun h => Nat.le_of_lt (small1000 (by omega))
  refine ⟨_, rfl, a, script, 0, 30, rfl, hS, hlen, by decide, fun H1 p sm1 np t1 => ?_⟩
  -- head, many
  refine ⟨(by show 2 ≤ sizeLine; decide), fun l0 nl0 => ?_⟩
  refine ⟨_, rfl, p, 2, rfl, t1.same (same_upd nl0), by decide, fun H2 r2 b2 t2 hr2 => ?_⟩
  refine ⟨l0, _, _, _, rfl, rfl, SqL.of (b2 _ _ (t1.ne nl0).symm upd_same), atI_nat (dir_at hr2), ?_⟩
  generalize decide (r2 = 0) = d
  refine ⟨_, rfl, p, 4, rfl, t2, by decide, fun H3 m b3 t3 hm4 => ?_⟩
  -- steps
  refine ⟨_, rfl, _, rfl, p, m, rfl, t3, by omega, fun H4 ls ps b4 t4 nlp els hperm => ?_⟩
  have hpl : ps.length = m := by
    have := hperm.length_eq
    rwa [List.length_range] at this
  refine ⟨ls, rfl, ⟨_, SqL.of els⟩, fun D nD => ?_⟩
  have npD : p ≠ D := t4.ne nD
  refine lc_list (K := K) (a := ls) (xs := ps.map iV) (fun i H' => But p H4 H' ∧ Tp H' p ∧ ∃ (vs : List V) (ds : List Bool), H' D = some (.lst vs) ∧ RpA H' vs ((((ps.take i).zip ds).map wI).map pD) ∧ ds.length = i)
    ⟨.of (same_upd nD), t4.same (same_upd nD), [], [], upd_same, (by simpa using RpA.nil), rfl⟩ (fun i H' _ hW => SqL.of (hW.1 _ _ nlp els)) (fun i x H' hx hW => ?_) (fun H5 hW => ?_)
  · obtain ⟨b5, t5, vs, ds, eD, rv, hdl⟩ := hW
    rw [List.getElem?_map] at hx
    cases e : ps[i]? with
    | none =>
      rw [e] at hx
      cases hx
    | some k =>
      rw [e] at hx
      have e3 : iV k = x := Option.some.inj hx
      subst e3
      have hi : i < ps.length := (List.getElem?_eq_some_iff.mp e).1
      refine ⟨rfl, tyes ?_⟩
      refine ⟨_, rfl, (by show 2 ≤ sizeLine; decide), fun l1 nl1 => ?_⟩
      refine ⟨_, rfl, p, 2, rfl, t5.same (same_upd nl1), by decide, fun H6 r6 b6 t6 hr6 => ?_⟩
      refine ⟨l1, _, _, _, rfl, rfl, SqL.of (b6 _ _ (t5.ne nl1).symm upd_same), atI_nat (dir_at hr6), (by show 2 ≤ sizeLine; decide), fun t7 nt7 => ?_⟩
      have bt : But p H' H6 := (But.of (same_upd nl1)).trans b6
      have eD6 := bt _ _ npD.symm eD
      have t7p : Tp (upd H6 t7 (.tup [iV k, .str (dirW (decide (r6 = 0)))])) p := t6.same (same_upd nt7)
      refine ⟨vs, same_upd nt7 _ _ eD6, ?_, fun b' o nb e => ?_, ?_, vs ++ [.ref t7], ds ++ [decide (r6 = 0)], upd_same, ?_, ?_⟩
      · rw [rv.length, List.length_map, List.length_map, List.length_zip]
        exact small1000 (by omega)
      · rw [upd_ne (ne_of_none e nD)]
        exact same_upd nt7 _ _ (bt _ _ nb (b5 _ _ nb e))
      · obtain ⟨ns, e, h⟩ := t7p
        exact ⟨ns, by rw [upd_ne npD]; exact e, h⟩
      · have kp : Keep (upd H6 t7 (.tup [iV k, .str (dirW (decide (r6 = 0)))])) (upd (upd H6 t7 (.tup [iV k, .str (dirW (decide (r6 = 0)))])) D (.lst (vs ++ [.ref t7]))) := .lst (same_upd nt7 _ _ eD6)
        rw [List.take_add_one, e]
        show RpA _ _ (List.map pD (List.map wI ((List.take i ps ++ [k]).zip (ds ++ [decide (r6 = 0)]))))
        rw [zip_snoc (by rw [List.length_take, hdl]; omega), List.map_append, List.map_append]
        exact (((rv.keep (Keep.but bt t5)).keep (.new nt7)).keep kp).snoc (.t (kp _ _ upd_same) (.cons (.i _) (.cons (.s _) .nil)))
      · rw [List.length_append, hdl]
        rfl
  obtain ⟨b5, t5, vs, ds, eD, rv, hdl⟩ := hW
  rw [List.length_map] at rv hdl
  rw [List.take_of_length_le (Nat.le_refl _)] at rv
  -- marked
  refine ⟨_, rfl, (m : Int), rfl, by omega, by omega, fun M nM => ?_⟩
  have npM : p ≠ M := t5.ne nM
  refine lc_range (lo := 0) (n := m) (fun i H' => But p H5 H' ∧ Tp H' p ∧ ∃ f : Nat → Bool, H' M = some (.lst (((List.range i).filter f).map iV)))
    ⟨.of (same_upd nM), t5.same (same_upd nM), fun _ => false, upd_same⟩ (fun i H' hi hW => ?_) (fun H6 hW => ?_)
  · obtain ⟨b6, t6, f0, eM⟩ := hW
    refine ⟨rfl, ?_⟩
    refine ⟨_, rfl, p, 2, rfl, t6, by decide, fun H7 r7 b7 t7 hr7 => ⟨rfl, _, rfl, ?_⟩⟩
    have eM7 := b7 _ _ npM.symm eM
    have key : ∀ b : Bool, (List.range (i + 1)).filter (fun j => if j = i then b else f0 j) = (List.range i).filter f0 ++ (if b = true then [i] else []) := fun b => by
      rw [List.range_succ, List.filter_append]
      have k1 : (List.range i).filter (fun j => if j = i then b else f0 j) = (List.range i).filter f0 := List.filter_congr fun j hj => by
        have := List.mem_range.mp hj
        rw [if_neg (by omega)]
      have k2 : [i].filter (fun j => if j = i then b else f0 j) = if b = true then [i] else [] := by
        rw [List.filter_cons, if_pos rfl]
        rfl
      rw [k1, k2]
    refine ite2 (fun _ => ?_) (fun _ => ?_)
    · refine ⟨_, rfl, _, eM7, ?_, fun b' o nb e => ?_, ?_, fun j => if j = i then true else f0 j, ?_⟩
      · have h1 := List.length_filter_le f0 (List.range i)
        rw [List.length_range] at h1
        rw [List.length_map]
        exact small1000 (by omega)
      · rw [upd_ne (ne_of_none e nM)]
        exact b7 _ _ nb (b6 _ _ nb e)
      · obtain ⟨ns, e, h⟩ := t7
        exact ⟨ns, by rw [upd_ne npM]; exact e, h⟩
      · rw [upd_same, key true, List.map_append, Int.zero_add]
        rfl
    · refine ⟨b6.trans b7, t7, fun j => if j = i then false else f0 j, ?_⟩
      rw [eM7, key false, if_neg Bool.false_ne_true, List.append_nil]
  obtain ⟨b6, t6, f0, eM⟩ := hW
  have eD6 := b6 _ _ npD.symm eD
  have rv6 := rv.keep (Keep.but b6 t5)
  obtain ⟨W, okw, ea⟩ := way_ok (m := m) (ps := ps) (ds := ds) (ms := (List.range m).filter f0) (f := f0) hperm (by omega) (by omega) rfl d
  have eM6 : H6 M = some (.lst ((((List.range m).filter f0).map fun (j : Nat) => (j : Int)).map V.int)) := by
    rw [eM, List.map_map]
    rfl
  have hwl : ((ps.zip ds).map wI).length = m := by
    rw [List.length_map, List.length_zip]
    omega
  generalize hwse : (ps.zip ds).map wI = ws at rv6 hwl
  have hwse' : ((ps.zip ds).map fun x => ((x.1 : Int), dirW x.2)) = ws := hwse
  rw [hwse'] at W okw ea
  generalize (((List.range m).filter f0).map fun (j : Nat) => (j : Int)) = ns at eM6 W okw ea
  -- one
  refine ⟨_, rfl, _, rfl, D, vs, rfl, .inl ⟨SqL.of eD6, fun tS ntS => ?_⟩⟩
  refine ⟨_, rfl, M, _, rfl, .inl ⟨SqL.of (same_upd ntS _ _ eM6), fun tM ntM => ?_⟩⟩
  refine ⟨(by show 3 ≤ sizeLine; decide), fun O nO => ?_⟩
  have sm7 := ((same_upd (o := .tup vs) ntS).trans (same_upd (o := .tup (ns.map V.int)) ntM)).trans (same_upd (o := .tup [.str (dirW d), .ref tS, .ref tM]) nO)
  have eO := upd_same (H := upd (upd H6 tS (.tup vs)) tM (.tup (ns.map V.int))) (a := O) (o := .tup [.str (dirW d), .ref tS, .ref tM])
  have eS7 := same_upd (o := .tup [.str (dirW d), .ref tS, .ref tM]) nO _ _ (same_upd (o := .tup (ns.map V.int)) ntM _ _ (upd_same (H := H6) (a := tS) (o := .tup vs)))
  have eT7 := same_upd (o := .tup [.str (dirW d), .ref tS, .ref tM]) nO _ _ (upd_same (H := upd H6 tS (.tup vs)) (a := tM) (o := .tup (ns.map V.int)))
  generalize upd (upd (upd H6 tS (.tup vs)) tM (.tup (ns.map V.int))) O (.tup [.str (dirW d), .ref tS, .ref tM]) = H7 at sm7 eO eS7 eT7
  have rO : Rp H7 (.ref O) (.t [.s (dirW d), .t (ws.map pD), .t (ns.map Fd.i)]) := .t eO (.cons (.s _) (.cons (.t eS7 (rv6.keep (.same sm7))) (.cons (.t eT7 (rp_ints _ _)) .nil)))
  have dl := dirW_len d
  have lc1 : (Str.ofString ":").length = 1 := by decide +kernel
  have ld1 : (Str.ofString " -").length = 2 := by decide +kernel
  refine ⟨_, rfl, _, _, rfl, rfl, L9 (by rw [lc1]; omega), ?_⟩
  have fin := fun (b : Str) (hb : b = due0 (dirW d) ws.length) => qR Q H7 (.ref a) (.ref p) d D M O vs ws ns q (sm7 _ _ eD6) (rv6.keep (.same sm7)) (sm7 _ _ eM6) rO W okw ea
  rw [hwl] at fin
  refine ⟨_, rfl, rfl, _, rfl, ite2 (fun hc => ?_) (fun hc => ?_)⟩
  · have h0 : m = 0 := by
      have := V.int.inj (of_decide_eq_true hc)
      omega
    refine ⟨_, rfl, _, _, rfl, rfl, L9 (by show (dirW d ++ Str.ofString ":").length + _ ≤ 900; rw [len_append, lc1, ld1]; omega), ?_⟩
    have z1 := fin _ rfl
    rw [show due0 (dirW d) m = (dirW d ++ Str.ofString ":") ++ Str.ofString " -" by unfold due0; rw [if_pos h0]] at z1
    exact z1
  · have h0 : m ≠ 0 := fun e => hc (decide_eq_true (by rw [e]; rfl))
    have z1 := fin _ rfl
    rw [show due0 (dirW d) m = dirW d ++ Str.ofString ":" by unfold due0; rw [if_neg h0]] at z1
    exact z1
end
end KN
set_option Elab.async false
set_option linter.all false
set_option maxRecDepth 100000
set_option maxHeartbeats 1000000
namespace KN
open PySem PySem.Spec PyProof.Rows L2
/-! ### what the top has written -/
theorem all_mk {l : PySem.W.OpenLaw} {w : World} {K : PySem.W.Frag} {h : Heap} {mg : Str → Option Value} {fa C_BadWay C_NotesError f1 f2 f3 f4 f5 f6 f7 f8 f9 : Addr} {aP : Addr} {es : Array DictEntry} {en : Nat} {u0 u1 u2 : Tok} (X : K.In h) (G : h.Ns mainGlobals mg) (hfa : mg "law" = some (.ref fa))
    {od1 an1 od2 an2 od3 an3 od4 an4 od5 an5 od6 an6 od7 an7 od8 an8 od9 an9 : Option Addr} {sl1 sl2 sl3 sl4 sl5 sl6 sl7 sl8 sl9 : Array (Option Value)} {oc1 kV1 dc1 pm1 cd1 ct1 oc2 kV2 dc2 pm2 cd2 ct2 oc3 kV3 dc3 pm3 cd3 ct3 oc4 kV4 dc4 pm4 cd4 ct4 oc5 kV5 dc5 pm5 cd5 ct5 oc6 kV6 dc6 pm6 cd6 ct6 oc7 kV7 dc7 pm7 cd7 ct7 oc8 kV8 dc8 pm8 cd8 ct8 oc9 kV9 dc9 pm9 cd9 ct9 : Value}
    (a1 : PySem.W.nsIn K mainGlobals "way" = some (some (.ref f1))) (l1 : K.lookup f1 = some ⟨oc1, od1, .func (PySem.W.fnOf "way" "way" (defArgs sWay) (defBody sWay) (defScope sWay) .none kV1 dc1 pm1 an1 cd1 ct1), sl1⟩) (c1 : PySem.W.codeIn K cd1 "way" = true) (k1 : PySem.W.keepIn K (.ref f1) = true)
    (a2 : PySem.W.nsIn K mainGlobals "way_text" = some (some (.ref f2))) (l2 : K.lookup f2 = some ⟨oc2, od2, .func (PySem.W.fnOf "way_text" "way_text" (defArgs sWayText) (defBody sWayText) (defScope sWayText) .none kV2 dc2 pm2 an2 cd2 ct2), sl2⟩) (c2 : PySem.W.codeIn K cd2 "way_text" = true) (k2 : PySem.W.keepIn K (.ref f2) = true)
    (a3 : PySem.W.nsIn K mainGlobals "parse_way" = some (some (.ref f3))) (l3 : K.lookup f3 = some ⟨oc3, od3, .func (PySem.W.fnOf "parse_way" "parse_way" (defArgs sParse) (defBody sParse) (defScope sParse) .none kV3 dc3 pm3 an3 cd3 ct3), sl3⟩) (c3 : PySem.W.codeIn K cd3 "parse_way" = true) (k3 : PySem.W.keepIn K (.ref f3) = true)
    (a4 : PySem.W.nsIn K mainGlobals "_parse_step" = some (some (.ref f4))) (l4 : K.lookup f4 = some ⟨oc4, od4, .func (PySem.W.fnOf "_parse_step" "_parse_step" (defArgs sParseStep) (defBody sParseStep) (defScope sParseStep) .none kV4 dc4 pm4 an4 cd4 ct4), sl4⟩) (c4 : PySem.W.codeIn K cd4 "_parse_step" = true) (k4 : PySem.W.keepIn K (.ref f4) = true)
    (a5 : PySem.W.nsIn K mainGlobals "_law_cell" = some (some (.ref f5))) (l5 : K.lookup f5 = some ⟨oc5, od5, .func (PySem.W.fnOf "_law_cell" "_law_cell" (defArgs sCell) (defBody sCell) (defScope sCell) .none kV5 dc5 pm5 an5 cd5 ct5), sl5⟩) (c5 : PySem.W.codeIn K cd5 "_law_cell" = true) (k5 : PySem.W.keepIn K (.ref f5) = true)
    (a6 : PySem.W.nsIn K mainGlobals "_law_tape" = some (some (.ref f6))) (l6 : K.lookup f6 = some ⟨oc6, od6, .func (PySem.W.fnOf "_law_tape" "_law_tape" (defArgs sTape) (defBody sTape) (defScope sTape) .none kV6 dc6 pm6 an6 cd6 ct6), sl6⟩) (c6 : PySem.W.codeIn K cd6 "_law_tape" = true) (k6 : PySem.W.keepIn K (.ref f6) = true)
    (a7 : PySem.W.nsIn K mainGlobals "_law_take" = some (some (.ref f7))) (l7 : K.lookup f7 = some ⟨oc7, od7, .func (PySem.W.fnOf "_law_take" "_law_take" (defArgs sTake) (defBody sTake) (defScope sTake) .none kV7 dc7 pm7 an7 cd7 ct7), sl7⟩) (c7 : PySem.W.codeIn K cd7 "_law_take" = true) (k7 : PySem.W.keepIn K (.ref f7) = true)
    (a8 : PySem.W.nsIn K mainGlobals "_law_shuffled" = some (some (.ref f8))) (l8 : K.lookup f8 = some ⟨oc8, od8, .func (PySem.W.fnOf "_law_shuffled" "_law_shuffled" (defArgs sShuf) (defBody sShuf) (defScope sShuf) .none kV8 dc8 pm8 an8 cd8 ct8), sl8⟩) (c8 : PySem.W.codeIn K cd8 "_law_shuffled" = true) (k8 : PySem.W.keepIn K (.ref f8) = true)
    (a9 : PySem.W.nsIn K mainGlobals "law" = some (some (.ref f9))) (l9 : K.lookup f9 = some ⟨oc9, od9, .func (PySem.W.fnOf "law" "law" (defArgs sLaw) (defBody sLaw) (defScope sLaw) .none kV9 dc9 pm9 an9 cd9 ct9), sl9⟩) (c9 : PySem.W.codeIn K cd9 "law" = true) (k9 : PySem.W.keepIn K (.ref f9) = true)
    (z0 : PySem.W.nsIn K mainGlobals "len" = some none)
    (z1 : PySem.W.nsIn K mainGlobals "range" = some none)
    (z2 : PySem.W.nsIn K mainGlobals "int" = some none)
    (z3 : PySem.W.nsIn K mainGlobals "tuple" = some none)
    (z4 : PySem.W.nsIn K mainGlobals "isinstance" = some none)
    (z5 : PySem.W.nsIn K mainGlobals "str" = some none)
    (z6 : PySem.W.nsIn K mainGlobals "all" = some none)
    (z7 : PySem.W.nsIn K mainGlobals "bool" = some none)
    (x_BadWay : PySem.W.nsIn K mainGlobals "BadWay" = some (some (.ref C_BadWay)))
    (x_NotesError : PySem.W.nsIn K mainGlobals "NotesError" = some (some (.ref C_NotesError)))
    (e1 : PySem.W.keepIn K (.ref C_BadWay) = true)
    (e2 : PySem.W.excIn K C_BadWay [.type "ValueError", .type "Exception", .type "BaseException", .type "object"] "ValueError.__new__" = true)
    (e3 : PySem.W.subIn K (.ref C_BadWay) (.type "BaseException") = some true)
    (e4 : PySem.W.typeIn K (.ref C_BadWay) = some (.type "type"))
    (e5 : PySem.W.hasDictIn K C_BadWay = true)
    (e6 : PySem.W.findIn K (.ref C_BadWay) "__getattribute__" = some (some (.builtin "BaseException.__getattribute__")))
    (e7 : PySem.W.findIn K (.ref C_BadWay) "__getattr__" = some none)
    (e8 : PySem.W.findIn K (.ref C_BadWay) "__class__" = some (some (.builtin "object.__class__")))
    (e9 : PySem.W.specialIn K (.builtin "object.__class__") "__get__" = some (some (.builtin "getset_descriptor.__get__")))
    (e10 : PySem.W.takesIn K (.builtin "object.__class__") = some true)
    (e11 : PySem.W.mroIn K C_BadWay (.type "object") = some true)
    (e12 : PySem.W.subIn K (.ref C_BadWay) (.ref C_BadWay) = some true)
    (e13 : PySem.W.subIn K (.ref C_BadWay) (.type "ValueError") = some true)
    (n1 : PySem.W.subIn K (.ref C_NotesError) (.type "BaseException") = some true)
    (n2 : PySem.W.hasDictIn K C_NotesError = true)
    (n3 : PySem.W.typeIn K (.ref C_NotesError) = some (.type "type"))
    (n4 : PySem.W.subIn K (.ref C_BadWay) (.ref C_NotesError) = some true)
    (xP : PySem.W.nsIn K mainGlobals "PLACES" = some (some (.ref aP)))
    (lP : K.lookup aP = some ⟨.type "dict", none, .dict es en, #[]⟩)
    (kP : PySem.W.KeysLit w.params es.toList)
    (nP : (aP == sysModules) = false)
    (p0 : PySem.W.nsIn K aP "0" = some (some (.int 0 u0)))
    (p1 : PySem.W.nsIn K aP "1" = some (some (.int 1 u1)))
    (p2 : PySem.W.nsIn K aP "2" = some (some (.int 2 u2))) :
    ∃ fd : FuncData, (∀ (s : Shared) (v : Value), BindsTo s fd ⟨[v], []⟩ [("_law_script", v)]) ∧ ∀ base : Heap, K.In base → base.Ns mainGlobals mg → FnOk l.prog w K mg base CX0 3 fa fd ["_law_script"] (spLaw K) := by
  have e := hfa.symm.trans (PySem.W.mg_of X G a9)
  cases e
  have F1 := fun_mk (st := sWay) l1 c1 k1
  have g1 := PySem.W.mg_of X G a1
  have F2 := fun_mk (st := sWayText) l2 c2 k2
  have b2 := F2.binds (ps := ["way"]) fun _ _ _ _ _ _ us hl => match us, hl with | [_], _ => rfl
  have g2 := PySem.W.mg_of X G a2
  have F3 := fun_mk (st := sParse) l3 c3 k3
  have b3 := F3.binds (ps := ["text"]) fun _ _ _ _ _ _ us hl => match us, hl with | [_], _ => rfl
  have g3 := PySem.W.mg_of X G a3
  have F4 := fun_mk (st := sParseStep) l4 c4 k4
  have b4 := F4.binds (ps := ["text"]) fun _ _ _ _ _ _ us hl => match us, hl with | [_], _ => rfl
  have g4 := PySem.W.mg_of X G a4
  have F5 := fun_mk (st := sCell) l5 c5 k5
  have b5 := F5.binds (ps := ["_law_script", "_law_k"]) fun _ _ _ _ _ _ us hl => match us, hl with | [_, _], _ => rfl
  have g5 := PySem.W.mg_of X G a5
  have F6 := fun_mk (st := sTape) l6 c6 k6
  have b6 := F6.binds (ps := ["_law_script", "_law_k", "_law_size"]) fun _ _ _ _ _ _ us hl => match us, hl with | [_, _, _], _ => rfl
  have g6 := PySem.W.mg_of X G a6
  have F7 := fun_mk (st := sTake) l7 c7 k7
  have b7 := F7.binds (ps := ["_law_tape_here", "_law_many"]) fun _ _ _ _ _ _ us hl => match us, hl with | [_, _], _ => rfl
  have g7 := PySem.W.mg_of X G a7
  have F8 := fun_mk (st := sShuf) l8 c8 k8
  have b8 := F8.binds (ps := ["_law_tape_here", "_law_many"]) fun _ _ _ _ _ _ us hl => match us, hl with | [_, _], _ => rfl
  have g8 := PySem.W.mg_of X G a8
  have F9 := fun_mk (st := sLaw) l9 c9 k9
  have m0 := PySem.W.mg_none_of X G z0
  have m1 := PySem.W.mg_none_of X G z1
  have m2 := PySem.W.mg_none_of X G z2
  have m3 := PySem.W.mg_none_of X G z3
  have m4 := PySem.W.mg_none_of X G z4
  have m5 := PySem.W.mg_none_of X G z5
  have m6 := PySem.W.mg_none_of X G z6
  have m7 := PySem.W.mg_none_of X G z7
  have g_BadWay := PySem.W.mg_of X G x_BadWay
  have g_NotesError := PySem.W.mg_of X G x_NotesError
  have eX : ErrC K mg "BadWay" C_BadWay := ⟨g_BadWay, e1, e2, e3, e4, e5, ⟨e6, e7, e3, e5, e8, e9, e10, e11⟩⟩
  refine ⟨PySem.W.fnOf "law" "law" (defArgs sLaw) (defBody sLaw) (defScope sLaw) .none kV9 dc9 pm9 an9 cd9 ct9, fun s v => .of_eq rfl, fun base _ _ => ?_⟩
  have PD : PlD K w mg aP := ⟨PySem.W.mg_of X G xP, ⟨⟨es, en, lP, kP⟩, nP⟩, ⟨_, p0⟩, ⟨_, p1⟩, ⟨_, p2⟩⟩
  have GT : FnOk l.prog w K mg base CX0 1 f7 _ ["_law_tape_here", "_law_many"] spTake := ok_take F7 m0 m2
  have GTp : FnOk l.prog w K mg base CX0 2 f6 _ ["_law_script", "_law_k", "_law_size"] (spTape K) := ok_tape F6 F5 b5 g5 m0 m1 m2
  have GS : FnOk l.prog w K mg base CX0 2 f8 _ ["_law_tape_here", "_law_many"] spS := ok_S F8 F7 b7 g7 GT m0 m1
  have GW := ok_way (P := l.prog) (w := w) (base := base) F1 m0 m6 m1 m3 eX
  have GWk := StX.kw_of (ks := ["whole", "places", "noted"]) GW (fun s ws hl => match ws, hl with | [a, b, c], _ => .of_eq (by with_unfolding_all rfl))
  have GX := ok_T (P := l.prog) (w := w) (base := base) F2 m5
  have GP := ok_P F3 PD F4 b4 g4 GWk g1 k1 F2 b2 g2 m5
  exact ok_law F9 ⟨GTp, g6, k6, b6, GT, g7, k7, b7, GS, g8, k8, b8, GX, g2, k2, b2, GP, g3, k3, b3, m0, m1, m3, m4, m2, m5, m7⟩
end KN
open PySem PySem.W PyProof.Rows
set_option Elab.async false
set_option maxRecDepth 100000 in
set_option maxHeartbeats 0 in
theorem PySem.Challenge.cw_kindnotes_k10_text_of_a_way_holds : PySem.Challenge.rw_kindnotes_k10_text_of_a_way.Holds := by
  w_on; o_law; k_head; (case hw => w_witness2)
  k_fill
  refine L2.walk_of (l := PySem.Challenge.rw_kindnotes_k10_text_of_a_way) (n := 63) (k := 3) (x := "_law_script") (CX := fun _ => L2.CX0) (sp := fun w => KN.spLaw _) rfl (by decide) rfl ⟨rfl, by decide, by decide⟩ (fun w h Y => PySem.W.kIn_of Y) ?F (fun _ _ a ns hl _ hS => ⟨a, ns, rfl, hS, hl, fun _ => rfl⟩) (fun _ _ _ _ _ h => h)
  case F =>
    intro w mg fa h KX G hmg
    refine' KN.all_mk KX G hmg ?a1 ?l1 ?c1 ?k1 ?a2 ?l2 ?c2 ?k2 ?a3 ?l3 ?c3 ?k3 ?a4 ?l4 ?c4 ?k4 ?a5 ?l5 ?c5 ?k5 ?a6 ?l6 ?c6 ?k6 ?a7 ?l7 ?c7 ?k7 ?a8 ?l8 ?c8 ?k8 ?a9 ?l9 ?c9 ?k9 ?z0 ?z1 ?z2 ?z3 ?z4 ?z5 ?z6 ?z7 ?x_BadWay ?x_NotesError ?e1 ?e2 ?e3 ?e4 ?e5 ?e6 ?e7 ?e8 ?e9 ?e10 ?e11 ?e12 ?e13 ?n1 ?n2 ?n3 ?n4 ?xP ?lP ?kP ?nP ?p0 ?p1 ?p2
    (case a1 => k_is)
    (case l1 => k_is)
    (case c1 => k_is)
    (case k1 => k_is)
    (case a2 => k_is)
    (case l2 => k_is)
    (case c2 => k_is)
    (case k2 => k_is)
    (case a3 => k_is)
    (case l3 => k_is)
    (case c3 => k_is)
    (case k3 => k_is)
    (case a4 => k_is)
    (case l4 => k_is)
    (case c4 => k_is)
    (case k4 => k_is)
    (case a5 => k_is)
    (case l5 => k_is)
    (case c5 => k_is)
    (case k5 => k_is)
    (case a6 => k_is)
    (case l6 => k_is)
    (case c6 => k_is)
    (case k6 => k_is)
    (case a7 => k_is)
    (case l7 => k_is)
    (case c7 => k_is)
    (case k7 => k_is)
    (case a8 => k_is)
    (case l8 => k_is)
    (case c8 => k_is)
    (case k8 => k_is)
    (case a9 => k_is)
    (case l9 => k_is)
    (case c9 => k_is)
    (case k9 => k_is)
    (case z0 => k_is)
    (case z1 => k_is)
    (case z2 => k_is)
    (case z3 => k_is)
    (case z4 => k_is)
    (case z5 => k_is)
    (case z6 => k_is)
    (case z7 => k_is)
    (case x_BadWay => k_is)
    (case x_NotesError => k_is)
    (case e1 => k_is)
    (case e2 => k_exc)
    (case e3 => k_is)
    (case e4 => k_is)
    (case e5 => k_is)
    (case e6 => k_is)
    (case e7 => k_is)
    (case e8 => k_is)
    (case e9 => k_is)
    (case e10 => k_is)
    (case e11 => k_is)
    (case e12 => k_is)
    (case e13 => k_is)
    (case n1 => k_is)
    (case n2 => k_is)
    (case n3 => k_is)
    (case n4 => k_is)
    (case xP => k_is)
    (case lP => k_is)
    (case kP => k_keys)
    (case nP => first | rfl | decide | k_is)
    (case p0 => k_is)
    (case p1 => k_is)
    (case p2 => k_is)
