import PyProof.Rows.All
import Wide.All
import OpenK.AllK
import Wide.FinOn
import HandS.ForMost
import HandS.Exc
import HandS.ExcOwn
import HandS.ExcIs
import HandS.TryOnly
import HandS.WordsExc
import HandS.IsInst
import HandS.Star
import HandS.Walk
import PySem.Challenge.RW_kindnotes_k07_rules_are_made
set_option Elab.async false
set_option linter.all false
set_option maxRecDepth 100000
set_option maxHeartbeats 2000000
namespace KN
open PySem PySem.Spec PyProof.Rows L2
/-! ### the text -/
def topS (i : Nat) : Stmt := PySem.Challenge.pw_kindnotes_k07_rules_are_made.main.body.getD i (.Pass ⟨0, 0, 0, 0⟩)
abbrev sIsWord : Stmt := topS 7
abbrev sIsLetter : Stmt := topS 8
abbrev sIsForm : Stmt := topS 9
abbrev sCell : Stmt := topS 14
abbrev sTape : Stmt := topS 15
abbrev sTake : Stmt := topS 16
abbrev sWord : Stmt := topS 17
abbrev sPattern : Stmt := topS 18
abbrev sRule : Stmt := topS 11
abbrev sIsPlace : Stmt := topS 12
abbrev sRuleOf : Stmt := topS 19
abbrev sRefused : Stmt := topS 20
abbrev sPlace : Stmt := topS 21
abbrev sLaw : Stmt := topS 22
/-! ### heaps -/
theorem same_upd {H : Hp} {p : Addr} {o : HO} (h : H p = none) : Same H (upd H p o) := fun b x e => by
  rw [upd_ne (ne_of_none e h)]
  exact e
section
variable {P : Program} {w : World} {K : PySem.W.Frag} {mg : Str → Option Value} {base : Heap}
/-! ### a cell of the script -/
theorem scCell : FnScope ["_law_script", "_law_k"] ["_law_script", "_law_k"] (defScope sCell) := ⟨rfl, rfl, rfl, by decide +kernel, rfl, by decide +kernel, by decide +kernel⟩
def spCell (K : PySem.W.Frag) : Sp := fun vs H Q _ => ∃ (a : Addr) (ns : List Int) (k : Nat), vs = [.ref a, .int (k : Int)] ∧ SqL K H a (ns.map V.int) ∧ ns.length ≤ 63 ∧ ∀ v : Int, Q (.int v) H
theorem ok_cell {f : Addr} {fd : FuncData} (F : Fun K "_law_cell" "_law_cell" sCell f fd) (ml : mg "len" = none) : FnOk P w K mg base CX0 1 f fd ["_law_script", "_law_k"] (spCell K) := by
  refine F.ok scCell (fun vs H Q E h => ?_) (fun cdv A outer s H vs Q E hr h => ?_)
  · obtain ⟨a, ns, k, rfl, _⟩ := h
    rfl
  obtain ⟨a, ns, k, rfl, hS, hlen, q⟩ := h
  refine ⟨_, pss_cons (ps_if (pt_cmpR op_lt (pv 1) (pe_callB call_len_seq (by rfl) ml PySem.boot_len (pa_cons (pv 0) pa_nil)) (nomark _)) (pss_one (ps_ret (pe_ix ix_list (pv 0) (pv 1) (fun _ _ => rfl)))) pss_nil)
    (pss_one (ps_ret pe_int)), ?_⟩
  refine ⟨_, rfl, _, rfl, a, _, rfl, .inl hS, _, _, rfl, rfl, _, rfl, ?_⟩
  refine ite2 (fun c => ?_) (fun c => ?_)
  · have c' : (k : Int) < (((ns.map V.int).length : Nat) : Int) := of_decide_eq_true c
    rw [List.length_map] at c'
    have hk : k < ns.length := by omega
    have g : (ns.map V.int)[k]? = some (.int ns[k]) := by
      rw [List.getElem?_map, List.getElem?_eq_getElem hk]
      rfl
    exact ⟨_, rfl, _, rfl, a, _, _, _, rfl, rfl, hS, atI_nat g, q _⟩
  · exact q 0
/-! ### the tape -/
theorem scTape : FnScope ["_law_script", "_law_k", "_law_size", "_law_cell_here", "_law_left", "_law_tape_here", "_law_j", "_law_mixed"] ["_law_script", "_law_k", "_law_size"] (defScope sTape) := ⟨rfl, rfl, rfl, by decide +kernel, rfl, by decide +kernel, by decide +kernel⟩
/-- a tape stands at p -/
def Tp (H : Hp) (p : Addr) : Prop := ∃ ns : List Int, H p = some (.lst (ns.map V.int)) ∧ ns.length ≤ 1000
def spTape (K : PySem.W.Frag) : Sp := fun vs H Q _ => ∃ (a : Addr) (ns : List Int) (k m : Nat), vs = [.ref a, .int (k : Int), .int (m : Int)] ∧ SqL K H a (ns.map V.int) ∧ ns.length ≤ 63 ∧ m ≤ 1000 ∧ ∀ H' p, Same H H' → H p = none → Tp H' p → Q (.ref p) H'
theorem fmod_small (c : Int) : -(2 ^ 64) < c.fmod 9973 ∧ c.fmod 9973 < 2 ^ 64 := by
  have h : c.fmod 9973 = c % 9973 := Int.fmod_eq_emod_of_nonneg c (by decide)
  rw [h]
  have h1 := Int.emod_nonneg c (show (9973 : Int) ≠ 0 by decide)
  have h2 := Int.emod_lt_of_pos c (show (0 : Int) < 9973 by decide)
  constructor <;> omega
theorem ok_tape {f fC : Addr} {fd fdC : FuncData} (F : Fun K "_law_tape" "_law_tape" sTape f fd) (FC : Fun K "_law_cell" "_law_cell" sCell fC fdC) (bC : Binds K fdC ["_law_script", "_law_k"] []) (gC : mg "_law_cell" = some (.ref fC))
    (ml : mg "len" = none) (mr : mg "range" = none) (mi : mg "int" = none) : FnOk P w K mg base CX0 2 f fd ["_law_script", "_law_k", "_law_size"] (spTape K) := by
  have GC : FnOk P w K mg base CX0 1 fC fdC ["_law_script", "_law_k"] (spCell K) := ok_cell FC ml
  refine F.ok scTape (fun vs H Q E h => ?_) (fun cdv A outer s H vs Q E hr h => ?_)
  · obtain ⟨a, ns, k, m, rfl, _⟩ := h
    rfl
  obtain ⟨a, ns, k, m, rfl, hS, hlen, hm, q⟩ := h
  refine ⟨_, pss_cons (ps_set (i := 3) scTape.nd rfl (.inl rfl) (pe_call GC hr (by rfl) gC FC.kp bC .nil pass0 (pa_cons (pv 0) (pa_cons (pv 1) pa_nil))))
    (pss_cons (ps_set (i := 4) scTape.nd rfl (.inl rfl) (pv 3))
    (pss_cons (ps_set (i := 5) scTape.nd rfl (.inl rfl) (pe_lst pa_nil))
    (pss_cons (ps_for PassesOwn.never rfl (pi_range1 (by rfl) mr (pa_cons (pv 2) pa_nil)) (pg_name (i := 6) scTape.nd rfl (.inl rfl))
      (pss_one (ps_if (PW.pt (pw_and (pt_cmpR op_ge (pv 3) (pe_op op_pow pe_int pe_int) (nomark _)) (pw_and1 (pt_cmpR op_gt (pv 4) pe_int (nomark _)))))
        (pss_cons (ps_expr (pe_bm PySem.F.plainAttrs_list PySem.F.slot_list_append PySem.F.type_list_append mt_append (pv 5) (pa_cons (pe_op op_modN (pe_callTy call_int1 (by rfl) mi (by decide +kernel) (pa_cons (pv 4) pa_nil)) pe_int) pa_nil)))
          (pss_one (ps_set (i := 4) scTape.nd rfl (.inl rfl) (pe_op op_fdivN (pv 4) pe_int))))
        (pss_cons (ps_set (i := 7) scTape.nd rfl (.inl rfl) (pe_op op_modN (pe_callTy call_int1 (by rfl) mi (by decide +kernel) (pa_cons
            (pe_op op_add (pe_op op_mul (pe_op op_modN (pe_callTy call_int1 (by rfl) mi (by decide +kernel) (pa_cons (pv 3) pa_nil)) pe_int) (pe_op op_add pe_int (pe_op op_mul pe_int (pv 6)))) (pe_op op_mul pe_int (pv 6))) pa_nil)) pe_int))
          (pss_one (ps_expr (pe_bm PySem.F.plainAttrs_list PySem.F.slot_list_append PySem.F.type_list_append mt_append (pv 5) (pa_cons (pe_op op_add (pv 7) (pe_op op_fdivN (pv 7) pe_int)) pa_nil))))))))
    (pss_one (ps_ret (pv 5)))))), ?_⟩
  refine ⟨_, rfl, _, rfl, a, ns, k, rfl, hS, hlen, fun c => ?_⟩
  refine ⟨_, rfl, Nat.zero_le _, fun p np => ?_⟩
  refine ⟨_, rfl, (m : Int), rfl, by omega, by omega, ?_⟩
  refine for_range (lo := 0) (n := m) (fun i σ H' => ∃ (l : Int) (y6 y7 : Option V) (ts : List Int), σ = [some (.ref a), some (.int (k : Int)), some (.int (m : Int)), some (.int c), some (.int l), some (.ref p), y6, y7] ∧ Same H H' ∧ H' p = some (.lst (ts.map V.int)) ∧ ts.length = i)
    ⟨c, none, none, [], rfl, same_upd np, upd_same, rfl⟩ (fun i σ H' hi hW => ?_) (fun σ H' hW => ?_)
  · obtain ⟨l, y6, y7, ts, rfl, sm, ep, hl⟩ := hW
    have small : (ts.map V.int).length < sizeLine := by
      rw [List.length_map]
      exact small1000 (by omega)
    have smU : ∀ o, Same H (upd H' p o) := fun o b x e => by
      rw [upd_ne (ne_of_none e np)]
      exact sm _ _ e
    refine ⟨_, rfl, 10, 18, rfl, rfl, ⟨by decide, by decide, by decide⟩, _, _, rfl, rfl, _, rfl, ?_⟩
    refine ite2 (fun _ => ⟨_, rfl, _, _, rfl, rfl, _, rfl, ite2 (fun _ => ?t) (fun _ => ?e1)⟩) (fun _ => ?e2)
    case t =>
      refine ⟨_, rfl, .inl ⟨rfl, _, SqL.of ep⟩, _, rfl, .inl ⟨_, rfl, _, _, rfl, rfl, (by show (5040 : Int) ≠ 0; decide), p, _, _, rfl, rfl, ep, small, ?_⟩⟩
      refine ⟨_, rfl, _, _, rfl, rfl, ⟨by decide, by decide⟩, ?_⟩
      exact ⟨_, _, _, ts ++ [_], rfl, smU _, by rw [upd_same, List.map_append]; rfl, by rw [List.length_append, hl]; rfl⟩
    all_goals
      refine ⟨_, rfl, .inl ⟨_, rfl, _, _, rfl, rfl, (by show (9973 : Int) ≠ 0; decide), _, rfl, _, _, rfl, rfl, .inl ⟨by decide, by decide⟩, _, _, rfl, rfl, _, _, rfl, rfl, .inl (fmod_small c), _, rfl, _, _, rfl, rfl, .inl ⟨by decide, by decide⟩, _, _, rfl, rfl, .inl ⟨_, rfl, _, _, rfl, rfl, (by show (1009 : Int) ≠ 0; decide), ?_⟩⟩⟩
      refine ⟨_, rfl, .inl ⟨rfl, _, SqL.of ep⟩, _, rfl, _, rfl, _, _, rfl, rfl, ⟨by decide, by decide⟩, _, _, rfl, rfl, p, _, _, rfl, rfl, ep, small, ?_⟩
      exact ⟨_, _, _, ts ++ [_], rfl, smU _, by rw [upd_same, List.map_append]; rfl, by rw [List.length_append, hl]; rfl⟩
  · obtain ⟨l, y6, y7, ts, rfl, sm, ep, hl⟩ := hW
    exact ⟨_, rfl, q H' p sm np ⟨ts, ep, by omega⟩⟩
end
end KN
set_option Elab.async false
set_option linter.all false
set_option maxRecDepth 100000
set_option maxHeartbeats 2000000
namespace KN
open PySem PySem.Spec PyProof.Rows L2
/-- all but the object at p stands as it stood -/
def But (p : Addr) (H H' : Hp) : Prop := ∀ b o, b ≠ p → H b = some o → H' b = some o
theorem But.refl (p : Addr) (H : Hp) : But p H H := fun _ _ _ h => h
theorem But.trans {p : Addr} {H H1 H2 : Hp} (a : But p H H1) (b : But p H1 H2) : But p H H2 := fun c o n h => b c o n (a c o n h)
theorem But.of {p : Addr} {H H' : Hp} (s : Same H H') : But p H H' := fun b o _ h => s b o h
theorem But.upd (p : Addr) (H : Hp) (o : HO) : But p H (upd H p o) := fun b u n h => by
  rw [upd_ne n]
  exact h
theorem Tp.same {H H' : Hp} {p : Addr} (t : Tp H p) (s : Same H H') : Tp H' p := by
  obtain ⟨ns, e, h⟩ := t
  exact ⟨ns, s _ _ e, h⟩
theorem Tp.ne {H : Hp} {p q : Addr} (t : Tp H p) (h : H q = none) : p ≠ q := by
  obtain ⟨ns, e, _⟩ := t
  exact ne_of_none e h
theorem tyes {σ : L2.St} {H : Hp} {A B : Hp → Prop} (h : A H) : tYes σ H (fun b H3 => if b = true then A H3 else B H3) := by
  show if true = true then A H else B H
  rw [if_pos rfl]
  exact h
/-- a word -/
def Wd (z : Str) : Prop := 1 ≤ z.length ∧ z.length ≤ 12 ∧ ∀ c ∈ z.cps.toList, 97 ≤ c ∧ c ≤ 122
section
variable {P : Program} {w : World} {K : PySem.W.Frag} {mg : Str → Option Value} {base : Heap}
/-! ### take -/
theorem scTake : FnScope ["_law_tape_here", "_law_many"] ["_law_tape_here", "_law_many"] (defScope sTake) := ⟨rfl, rfl, rfl, by decide +kernel, rfl, by decide +kernel, by decide +kernel⟩
def spTake : Sp := fun vs H Q _ => ∃ (p : Addr) (m : Nat), vs = [.ref p, .int (m : Int)] ∧ Tp H p ∧ 1 ≤ m ∧ ∀ (H' : Hp) (r : Nat), But p H H' → Tp H' p → r < m → Q (.int (r : Int)) H'
theorem ok_take {f : Addr} {fd : FuncData} (F : Fun K "_law_take" "_law_take" sTake f fd) (ml : mg "len" = none) (mi : mg "int" = none) : FnOk P w K mg base CX0 1 f fd ["_law_tape_here", "_law_many"] spTake := by
  refine F.ok scTake (fun vs H Q E h => ?_) (fun cdv A outer s H vs Q E hr h => ?_)
  · obtain ⟨p, m, rfl, _⟩ := h
    rfl
  obtain ⟨p, m, rfl, ⟨ns, ep, hl⟩, hm, q⟩ := h
  refine ⟨_, pss_cons (ps_if (pt_cmpR op_eq (pe_callB call_len_seq (by rfl) ml PySem.boot_len (pa_cons (pv 0) pa_nil)) pe_int (nomark _)) (pss_one (ps_ret pe_int)) pss_nil)
    (pss_one (ps_ret (pe_op op_modN (pe_callTy call_int1 (by rfl) mi (by decide +kernel) (pa_cons (pe_bm PySem.F.plainAttrs_list PySem.F.slot_list_pop PySem.F.type_list_pop mt_popAt (pv 0) (pa_cons pe_int pa_nil)) pa_nil)) (pv 1)))), ?_⟩
  refine ⟨_, rfl, p, _, rfl, .inl (SqL.of ep), rfl, _, rfl, ite2 (fun c => ?_) (fun c => ?_)⟩
  · exact q H 0 (But.refl _ _) ⟨ns, ep, hl⟩ (by omega)
  · cases ns with
    | nil => exact absurd (decide_eq_true rfl) c
    | cons x r =>
      refine ⟨_, rfl, .inl ⟨rfl, _, SqL.of ep⟩, p, _, 0, 0, .int x, rfl, rfl, ep, by decide, by decide, ?_, rfl, .inl ⟨_, rfl, _, rfl, _, _, rfl, rfl, ?_, ?_⟩⟩
      · exact seqIndex_of (by decide) (by rw [List.length_map, List.length_cons]; omega)
      · show (m : Int) ≠ 0
        omega
      · have e1 : x.fmod (m : Int) = x % (m : Int) := Int.fmod_eq_emod_of_nonneg x (by omega)
        have h1 := Int.emod_nonneg x (show (m : Int) ≠ 0 by omega)
        have h2 := Int.emod_lt_of_pos x (show (0 : Int) < (m : Int) by omega)
        have z := q (upd H p (.lst (r.map V.int))) (x % (m : Int)).toNat (But.upd _ _ _) ⟨r, upd_same, by rw [List.length_cons] at hl; omega⟩ (by omega)
        rw [Int.toNat_of_nonneg h1] at z
        show Q (.int (x.fmod (m : Int))) _
        rw [e1]
        exact z
/-! ### a word -/
theorem scWord : FnScope ["_law_tape_here", "_law_alphabet", "_law_k"] ["_law_tape_here"] (defScope sWord) := ⟨rfl, rfl, rfl, by decide +kernel, rfl, by decide +kernel, by decide +kernel⟩
def spWord : Sp := fun vs H Q _ => ∃ (p : Addr), vs = [.ref p] ∧ Tp H p ∧ ∀ (H' : Hp) (z : Str), But p H H' → Tp H' p → Wd z → Q (.str z) H'
/-- a sign of the alphabet -/
def Sg (y : Str) : Prop := ∃ c, y = ⟨#[c]⟩ ∧ 97 ≤ c ∧ c ≤ 122
theorem sum_ones : ∀ {ys : List Str}, (∀ y ∈ ys, Sg y) → (ys.map (·.length)).sum = ys.length
  | [], _ => rfl
  | y :: r, h => by
    obtain ⟨c, e, _⟩ := h y (List.mem_cons_self ..)
    have ih := sum_ones (ys := r) fun z hz => h z (List.mem_cons_of_mem _ hz)
    rw [List.map_cons, List.sum_cons, ih, e, List.length_cons]
    show 1 + r.length = r.length + 1
    omega
theorem joinL_nil : ∀ xs : List (List Nat), TL.joinL [] xs = xs.flatten
  | [] => rfl
  | [x] => by simp [TL.joinL]
  | x :: y :: r => by
    show x ++ ([] ++ TL.joinL [] (y :: r)) = _
    rw [joinL_nil (y :: r)]
    rfl
theorem word_join {ys : List Str} (h : ∀ y ∈ ys, Sg y) (h1 : 1 ≤ ys.length) (h2 : ys.length ≤ 12) : Wd (Txt.join (Str.ofString "") ys) := by
  have e : (Txt.join (Str.ofString "") ys).cps.toList = (ys.map (fun y => y.cps.toList)).flatten := by
    have a := TL.tl_join (Str.ofString "") ys
    rw [← TL.join_eq] at a
    have b : (Str.ofString "").cps.toList = [] := by decide +kernel
    rw [show TL.tl (Str.ofString "") = [] from b, joinL_nil] at a
    exact a
  have hlen : ∀ l : List Str, (∀ y ∈ l, Sg y) → (l.map (fun y => y.cps.toList)).flatten.length = l.length := by
    intro l
    induction l with
    | nil => intro _; rfl
    | cons x r ih =>
      intro hx
      obtain ⟨c, rfl, _⟩ := hx x (List.mem_cons_self ..)
      have := ih fun y hy => hx y (List.mem_cons_of_mem _ hy)
      simp only [List.map_cons, List.flatten_cons, List.length_append, this, List.length_cons]
      simp
      omega
  have hl : (Txt.join (Str.ofString "") ys).length = ys.length := by
    show (Txt.join (Str.ofString "") ys).cps.size = _
    rw [← Array.length_toList, e]
    exact hlen ys h
  refine ⟨by omega, by omega, fun c hc => ?_⟩
  rw [e, List.mem_flatten] at hc
  obtain ⟨l, hl, hc⟩ := hc
  obtain ⟨y, hy, rfl⟩ := List.mem_map.mp hl
  obtain ⟨d, rfl, h3, h4⟩ := h y hy
  have : c = d := by simpa using hc
  omega
def alphabet : Str := Str.ofString "abcdefghijklmnopqrstuvwxyz"
theorem alpha_at {r : Nat} (h : r < 26) : ∃ c, alphabet.cps.toList[r]? = some c ∧ 97 ≤ c ∧ c ≤ 122 := by
  have key : ∀ i : Fin 26, ∃ c : Fin 123, alphabet.cps.toList[i.val]? = some c.val ∧ 97 ≤ c.val ∧ c.val ≤ 122 := by decide +kernel
  obtain ⟨c, a, b, d⟩ := key ⟨r, h⟩
  exact ⟨c.val, a, b, d⟩
theorem ok_word {f fT : Addr} {fd fdT : FuncData} (F : Fun K "_law_word" "_law_word" sWord f fd) (FT : Fun K "_law_take" "_law_take" sTake fT fdT) (bT : Binds K fdT ["_law_tape_here", "_law_many"] []) (gT : mg "_law_take" = some (.ref fT))
    (ml : mg "len" = none) (mi : mg "int" = none) (mr : mg "range" = none) : FnOk P w K mg base CX0 2 f fd ["_law_tape_here"] spWord := by
  have GT : FnOk P w K mg base CX0 1 fT fdT ["_law_tape_here", "_law_many"] spTake := ok_take FT ml mi
  refine F.ok scWord (fun vs H Q E h => ?_) (fun cdv A outer s H vs Q E hr h => ?_)
  · obtain ⟨p, rfl, _⟩ := h
    rfl
  obtain ⟨p, rfl, hT, q⟩ := h
  refine ⟨_, pss_cons (ps_set (i := 1) scWord.nd rfl (.inr rfl) pe_str)
    (pss_one (ps_ret (pe_join pe_str (pe_lc (own := [("_law_k", 2)]) (g := gName 2) (tt := tYes) (by rfl) scWord.nd
      (pi_range1 (by rfl) mr (pa_cons (pe_op op_add pe_int (pe_call GT hr (by rfl) gT FT.kp bT .nil pass0 (pa_cons (pv 0) (pa_cons pe_int pa_nil)))) pa_nil))
      (blkOk_by (own := [("_law_k", 2)]) (N := ["_law_tape_here", "_law_alphabet", "_law_k"]) (sc := defScope sWord) (by decide +kernel))
      (fun _ _ _ _ _ => pg_name (i := 2) scWord.nd rfl (Or.inl rfl)) (fun _ _ _ _ _ => pts_nil)
      (fun _ _ _ _ _ => pe_ix ix_str (pv 1) (pe_call GT hr (by rfl) gT FT.kp bT .nil pass0 (pa_cons (pv 0) (pa_cons pe_int pa_nil))) (fun _ _ => rfl)))))), ?_⟩
  refine ⟨⟨_, rfl⟩, _, rfl, p, 12, rfl, hT, by decide, fun H1 r b1 t1 hr12 => ⟨_, _, rfl, rfl, ?_⟩⟩
  refine ⟨1 + (r : Int), rfl, by omega, by omega, fun D nD => ?_⟩
  have npD : p ≠ D := t1.ne nD
  refine lc_range (lo := 0) (n := (1 + (r : Int)).toNat) (fun i H' => But p H1 H' ∧ Tp H' p ∧ ∃ ys : List Str, H' D = some (.lst (ys.map V.str)) ∧ ys.length = i ∧ ∀ y ∈ ys, Sg y)
    ⟨.of (same_upd nD), t1.same (same_upd nD), [], upd_same, rfl, by simp⟩ (fun i H' hi hW => ?_) (fun H' hW => ?_)
  · obtain ⟨b2, t2, ys, eD, hl, hy⟩ := hW
    refine ⟨rfl, ?_⟩
    refine tyes ?_
    refine ⟨_, rfl, _, rfl, p, 26, rfl, t2, by decide, fun H2 r2 b3 t3 h26 => ?_⟩
    obtain ⟨c, ec, h1, h2⟩ := alpha_at h26
    have eD2 := b3 D _ npD.symm eD
    refine ⟨alphabet, _, c, rfl, rfl, by decide +kernel, atI_nat ec, _, eD2, ?_, fun b o nb e => ?_, ?_, ys ++ [⟨#[c]⟩], ?_, ?_, fun y hm => ?_⟩
    · rw [List.length_map]
      exact small1000 (by omega)
    · rw [upd_ne (ne_of_none e nD)]
      exact b3 _ _ nb (b2 _ _ nb e)
    · obtain ⟨ns, e, h⟩ := t3
      exact ⟨ns, by rw [upd_ne npD]; exact e, h⟩
    · rw [upd_same, List.map_append]
      rfl
    · rw [List.length_append, hl]
      rfl
    · rcases List.mem_append.mp hm with hm | hm
      · exact hy y hm
      · exact ⟨c, by simpa using hm, h1, h2⟩
  · obtain ⟨b2, t2, ys, eD, hl, hy⟩ := hW
    refine ⟨_, D, ys, rfl, rfl, .inl (SqL.of eD), ?_, q H' _ (b1.trans b2) t2 (word_join hy (by omega) (by omega))⟩
    rw [sum_ones hy, show (Str.ofString "").length = 0 by decide +kernel]
    omega
end
end KN
set_option Elab.async false
set_option linter.all false
set_option maxRecDepth 100000
set_option maxHeartbeats 2000000
namespace KN
open PySem PySem.Spec PyProof.Rows L2
/-! ### data of texts and tuples -/
inductive Fd where
  | s (z : Str)
  | t (ds : List Fd)
  | n
def letB (z : Str) : Bool := decide (z.length = 1) && z.cps.toList.all fun c => decide (65 ≤ c) && decide (c ≤ 90)
def wdB (z : Str) : Bool := decide (1 ≤ z.length) && decide (z.length ≤ 12) && z.cps.toList.all fun c => decide (97 ≤ c) && decide (c ≤ 122)
def hdB : Fd → Bool
  | .s z => wdB z
  | .t _ => false
  | .n => false
mutual
/-- a form -/
def fok : Fd → Bool
  | .s z => letB z
  | .t ds => tok ds
  | .n => false
def tok : List Fd → Bool
  | [] => false
  | h :: ds => hdB h && (decide (ds.length ≤ 3) && aok ds)
def aok : List Fd → Bool
  | [] => true
  | d :: ds => fok d && aok ds
end
mutual
def dep : Fd → Nat
  | .s _ => 0
  | .t ds => 1 + deps ds
  | .n => 0
def deps : List Fd → Nat
  | [] => 0
  | d :: ds => max (dep d) (deps ds)
end
mutual
def toPy : Fd → PyData
  | .s z => .str z
  | .t ds => .tuple (toPys ds)
  | .n => .none
def toPys : List Fd → List PyData
  | [] => []
  | d :: ds => toPy d :: toPys ds
end
theorem strOk_of {z : Str} (h : ∀ c ∈ z.cps.toList, c ≤ 122) : PyData.strOk z = true := by
  unfold PyData.strOk
  rw [← Array.all_toList, List.all_eq_true]
  intro c hc
  have := h c hc
  exact decide_eq_true (by omega)
theorem letB_small {z : Str} (h : letB z = true) : ∀ c ∈ z.cps.toList, c ≤ 122 := fun c hc => by
  unfold letB at h
  simp only [Bool.and_eq_true, List.all_eq_true, decide_eq_true_eq] at h
  have := h.2 c hc
  omega
theorem wdB_small {z : Str} (h : wdB z = true) : ∀ c ∈ z.cps.toList, c ≤ 122 := fun c hc => by
  unfold wdB at h
  simp only [Bool.and_eq_true, List.all_eq_true, decide_eq_true_eq] at h
  have := h.2 c hc
  omega
mutual
/-- its texts are texts of Python's -/
def lay : Fd → Bool
  | .s z => PyData.strOk z
  | .t ds => lays ds
  | .n => true
def lays : List Fd → Bool
  | [] => true
  | d :: ds => lay d && lays ds
end
mutual
theorem canLay_toPy : ∀ d : Fd, lay d = true → (toPy d).canLay0 = true
  | .s z, h => by
    simp only [toPy, PyData.canLay0]
    exact h
  | .t ds, h => by
    simp only [toPy, PyData.canLay0]
    exact canLay_toPys ds h
  | .n, _ => rfl
theorem canLay_toPys : ∀ ds : List Fd, lays ds = true → PyData.canLayAll0 (toPys ds) = true
  | [], _ => rfl
  | d :: ds, h => by
    simp only [lays, Bool.and_eq_true] at h
    simp only [toPys, PyData.canLayAll0, Bool.and_eq_true]
    exact ⟨canLay_toPy d h.1, canLay_toPys ds h.2⟩
end
theorem lay_hd : ∀ d : Fd, hdB d = true → lay d = true
  | .s z, h => strOk_of (wdB_small h)
  | .t ds, h => by cases h
  | .n, h => by cases h
mutual
theorem lay_of : ∀ d : Fd, fok d = true → lay d = true
  | .s z, h => strOk_of (letB_small (by simpa [fok] using h))
  | .t ds, h => lay_tok ds (by simpa [fok] using h)
  | .n, h => rfl
theorem lay_tok : ∀ ds : List Fd, tok ds = true → lays ds = true
  | [], h => rfl
  | d :: ds, h => by
    simp only [tok, Bool.and_eq_true] at h
    simp only [lays, Bool.and_eq_true]
    exact ⟨lay_hd d h.1, lay_aok ds h.2.2⟩
theorem lay_aok : ∀ ds : List Fd, aok ds = true → lays ds = true
  | [], _ => rfl
  | d :: ds, h => by
    simp only [aok, Bool.and_eq_true] at h
    simp only [lays, Bool.and_eq_true]
    exact ⟨lay_of d h.1, lay_aok ds h.2⟩
end
mutual
theorem depth_toPy : ∀ d : Fd, (toPy d).depth ≤ dep d
  | .s z => by simp [toPy, PyData.depth, dep]
  | .t ds => by
    have h := depth_toPys ds
    simp [toPy, PyData.depth, dep]
    omega
  | .n => by simp [toPy, PyData.depth, dep]
theorem depth_toPys : ∀ ds : List Fd, PyData.depthAll (toPys ds) ≤ deps ds
  | [] => by simp [toPys, PyData.depthAll]
  | d :: ds => by
    have h1 := depth_toPy d
    have h2 := depth_toPys ds
    simp [toPys, PyData.depthAll, deps]
    omega
end
theorem shaped_toPy {d : Fd} (hf : lay d = true) (h : dep d ≤ 60) : SeqAt.shaped (toPy d) = true := by
  have h1 := depth_toPy d
  show ((toPy d).canLay0 && decide ((toPy d).depth ≤ 64)) = true
  rw [canLay_toPy d hf, decide_eq_true (by omega)]
  rfl
theorem eqv_toPy {d : Fd} (h : lay d = true) : PyData.eqv (toPy d) (toPy d) = true := SeqAt.eqv_refl _ (canLay_toPy d h)
mutual
/-- the value v is, in the heap H, the data d -/
inductive Rp (H : Hp) : V → Fd → Prop
  | n : Rp H .non .n
  | s (z : Str) : Rp H (.str z) (.s z)
  | t {a : Addr} {vs : List V} {ds : List Fd} : H a = some (.tup vs) → RpA H vs ds → Rp H (.ref a) (.t ds)
inductive RpA (H : Hp) : List V → List Fd → Prop
  | nil : RpA H [] []
  | cons {v : V} {vs : List V} {d : Fd} {ds : List Fd} : Rp H v d → RpA H vs ds → RpA H (v :: vs) (d :: ds)
end
/-- the tuples stand as they stood -/
def Keep (H H' : Hp) : Prop := ∀ b xs, H b = some (.tup xs) → H' b = some (.tup xs)
theorem Keep.refl (H : Hp) : Keep H H := fun _ _ h => h
theorem Keep.trans {H H1 H2 : Hp} (a : Keep H H1) (b : Keep H1 H2) : Keep H H2 := fun c xs h => b c xs (a c xs h)
theorem Keep.same {H H' : Hp} (s : Same H H') : Keep H H' := fun b xs h => s b _ h
theorem Keep.but {H H' : Hp} {p : Addr} (s : But p H H') (t : Tp H p) : Keep H H' := fun b xs h => by
  refine s b _ (fun e => ?_) h
  obtain ⟨ns, e2, _⟩ := t
  rw [e, e2] at h
  cases h
theorem Keep.lst {H : Hp} {D : Addr} {ys : List V} {o : HO} (h : H D = some (.lst ys)) : Keep H (upd H D o) := fun b xs e => by
  rw [upd_ne (fun z => by rw [z, h] at e; cases e)]
  exact e
theorem Keep.new {H : Hp} {D : Addr} {o : HO} (h : H D = none) : Keep H (upd H D o) := .same (same_upd h)
mutual
theorem Rp.keep {H H' : Hp} (k : Keep H H') : ∀ {v : V} {d : Fd}, Rp H v d → Rp H' v d
  | _, .s z, .s _ => .s z
  | _, .n, .n => .n
  | _, .t ds, .t h a => .t (k _ _ h) (RpA.keep k a)
theorem RpA.keep {H H' : Hp} (k : Keep H H') : ∀ {vs : List V} {ds : List Fd}, RpA H vs ds → RpA H' vs ds
  | _, [], .nil => .nil
  | _, d :: ds, .cons h a => .cons (Rp.keep k h) (RpA.keep k a)
end
mutual
theorem Rp.dp {K : PySem.W.Frag} {H : Hp} : ∀ {v : V} {d : Fd}, Rp H v d → Dp K H v (toPy d)
  | _, .s z, .s _ => .str z
  | _, .n, .n => .non
  | _, .t ds, .t h a => .tup (SqT.of h) (RpA.dp a)
theorem RpA.dp {K : PySem.W.Frag} {H : Hp} : ∀ {vs : List V} {ds : List Fd}, RpA H vs ds → DpAll K H vs (toPys ds)
  | _, [], .nil => .nil
  | _, d :: ds, .cons h a => .cons (Rp.dp h) (RpA.dp a)
end
theorem RpA.length {H : Hp} : ∀ {vs : List V} {ds : List Fd}, RpA H vs ds → vs.length = ds.length
  | _, [], .nil => rfl
  | _, d :: ds, .cons h a => by rw [List.length_cons, List.length_cons, RpA.length a]
theorem RpA.snoc {H : Hp} : ∀ {vs : List V} {ds : List Fd} {v : V} {d : Fd}, RpA H vs ds → Rp H v d → RpA H (vs ++ [v]) (ds ++ [d])
  | _, [], _, _, .nil, h => .cons h .nil
  | _, _ :: _, _, _, .cons h a, h2 => .cons h (RpA.snoc a h2)
theorem aok_snoc : ∀ {ds : List Fd} {d : Fd}, aok (ds ++ [d]) = (aok ds && fok d)
  | [], d => by simp [aok]
  | e :: ds, d => by
    show (fok e && aok (ds ++ [d])) = ((fok e && aok ds) && fok d)
    rw [aok_snoc, Bool.and_assoc]
theorem deps_snoc : ∀ {ds : List Fd} {d : Fd}, deps (ds ++ [d]) = max (deps ds) (dep d)
  | [], d => by simp [deps]
  | e :: ds, d => by
    show max (dep e) (deps (ds ++ [d])) = max (max (dep e) (deps ds)) (dep d)
    rw [deps_snoc]
    omega
theorem wdB_of {z : Str} (h : Wd z) : wdB z = true := by
  obtain ⟨h1, h2, h3⟩ := h
  unfold wdB
  rw [decide_eq_true h1, decide_eq_true h2]
  simp only [Bool.true_and, List.all_eq_true, Bool.and_eq_true, decide_eq_true_eq]
  exact h3
theorem upper_at {r : Nat} (h : r < 26) : ∃ c, (Str.ofString "ABCDEFGHIJKLMNOPQRSTUVWXYZ").cps.toList[r]? = some c ∧ letB ⟨#[c]⟩ = true := by
  have key : ∀ i : Fin 26, ∃ c : Fin 123, (Str.ofString "ABCDEFGHIJKLMNOPQRSTUVWXYZ").cps.toList[i.val]? = some c.val ∧ letB ⟨#[c.val]⟩ = true := by decide +kernel
  obtain ⟨c, a, b⟩ := key ⟨r, h⟩
  exact ⟨c.val, a, b⟩
section
variable {P : Program} {w : World} {K : PySem.W.Frag} {mg : Str → Option Value} {base : Heap}
/-! ### a pattern -/
theorem scPat : FnScope ["_law_tape_here", "_law_depth", "_law_word_here", "_law_k"] ["_law_tape_here", "_law_depth"] (defScope sPattern) := ⟨rfl, rfl, rfl, by decide +kernel, rfl, by decide +kernel, by decide +kernel⟩
/-- n calls are allowed -/
def spPat (n : Nat) : Sp := fun vs H Q _ => ∃ (p : Addr) (k : Nat), vs = [.ref p, .int (k : Int)] ∧ Tp H p ∧ k < n ∧ ∀ (H' : Hp) (v : V) (d : Fd), But p H H' → Tp H' p → Rp H' v d → fok d = true → dep d ≤ k → Q v H'
theorem pat_none {f : Addr} {fd : FuncData} : FnOk P w K mg base CX0 2 f fd ["_law_tape_here", "_law_depth"] (spPat 0) := by
  have no : ∀ vs H Q E, ¬ spPat 0 vs H Q E := fun vs H Q E h => by
    obtain ⟨p, k, _, _, h2, _⟩ := h
    omega
  exact ⟨fun vs H Q E h => absurd h (no vs H Q E), fun A outer s H args us vs Q E _ _ _ _ h => absurd h (no vs H Q E)⟩
theorem ok_pat {n : Nat} {f fT fW : Addr} {fd fdT fdW : FuncData} (F : Fun K "_law_pattern" "_law_pattern" sPattern f fd) (bF : Binds K fd ["_law_tape_here", "_law_depth"] []) (gF : mg "_law_pattern" = some (.ref f))
    (GF : FnOk P w K mg base CX0 (n + 2) f fd ["_law_tape_here", "_law_depth"] (spPat n))
    (FT : Fun K "_law_take" "_law_take" sTake fT fdT) (bT : Binds K fdT ["_law_tape_here", "_law_many"] []) (gT : mg "_law_take" = some (.ref fT))
    (FW : Fun K "_law_word" "_law_word" sWord fW fdW) (bW : Binds K fdW ["_law_tape_here"] []) (gW : mg "_law_word" = some (.ref fW))
    (ml : mg "len" = none) (mi : mg "int" = none) (mr : mg "range" = none) (mt : mg "tuple" = none) : FnOk P w K mg base CX0 (n + 3) f fd ["_law_tape_here", "_law_depth"] (spPat (n + 1)) := by
  have GT : FnOk P w K mg base CX0 1 fT fdT ["_law_tape_here", "_law_many"] spTake := ok_take FT ml mi
  have GW : FnOk P w K mg base CX0 2 fW fdW ["_law_tape_here"] spWord := ok_word FW FT bT gT ml mi mr
  refine F.ok scPat (fun vs H Q E h => ?_) (fun cdv A outer s H vs Q E hr h => ?_)
  · obtain ⟨p, k, rfl, _⟩ := h
    rfl
  obtain ⟨p, k, rfl, hT, hk, q⟩ := h
  have hr1 : Room 1 _ := hr.mono (by omega)
  have hr2 : Room 2 _ := hr.mono (by omega)
  refine ⟨_, pss_cons (ps_if (PW.pt (pw_or (pt_cmpR op_eq (pv 1) pe_int (nomark _)) (pw_or1 (pt_cmpR op_eq (pe_call GT hr1 (by rfl) gT FT.kp bT .nil pass0 (pa_cons (pv 0) (pa_cons pe_int pa_nil))) pe_int (nomark _)))))
      (pss_one (ps_ret (pe_ix ix_str pe_str (pe_call GT hr1 (by rfl) gT FT.kp bT .nil pass0 (pa_cons (pv 0) (pa_cons pe_int pa_nil))) (fun _ _ => rfl)))) pss_nil)
    (pss_cons (ps_set (i := 2) scPat.nd rfl (.inl rfl) (pe_call GW hr2 (by rfl) gW FW.kp bW .nil pass0 (pa_cons (pv 0) pa_nil)))
    (pss_one (ps_ret (pe_op op_catT (pe_tup (pa_cons (pv 2) pa_nil)) (pe_callTy call_tuple_of (by rfl) mt (by decide +kernel) (pa_cons
      (pe_lc (own := [("_law_k", 3)]) (g := gName 3) (tt := tYes) (by rfl) scPat.nd
        (pi_range1 (by rfl) mr (pa_cons (pe_call GT hr1 (by rfl) gT FT.kp bT .nil pass0 (pa_cons (pv 0) (pa_cons pe_int pa_nil))) pa_nil))
        (blkOk_by (own := [("_law_k", 3)]) (N := ["_law_tape_here", "_law_depth", "_law_word_here", "_law_k"]) (sc := defScope sPattern) (by decide +kernel))
        (fun _ _ _ _ _ => pg_name (i := 3) scPat.nd rfl (Or.inl rfl)) (fun _ _ _ _ _ => pts_nil)
        (fun _ _ _ _ _ => pe_call GF hr (by rfl) gF F.kp bF .nil pass0 (pa_cons (pv 0) (pa_cons (pe_op op_sub (pv 1) pe_int) pa_nil))))
      pa_nil)))))), ?_⟩
  have letter : ∀ (H1 : Hp), But p H H1 → Tp H1 p → tRet (tOp rIxS (tC (V.str (Str.ofString "ABCDEFGHIJKLMNOPQRSTUVWXYZ"))) (tCall spTake [] E0 (tCons (tVar 0) (tCons (tC (V.int 26)) tNil)))) { nx := fun _ H' => Q .non H', rt := Q } [some (.ref p), some (.int (k : Int)), none, none] H1 := fun H1 b1 t1 => by
    refine ⟨_, rfl, p, 26, rfl, t1, by decide, fun H2 r b2 t2 h26 => ?_⟩
    obtain ⟨c, ec, hc⟩ := upper_at h26
    exact ⟨_, _, c, rfl, rfl, by decide +kernel, atI_nat ec, q H2 _ _ (b1.trans b2) t2 (.s _) (by simpa [fok] using hc) (Nat.zero_le _)⟩
  refine ⟨_, rfl, rfl, _, rfl, ?_⟩
  refine ite2 (fun c => ?_) (fun c => ?_)
  · exact letter H (But.refl _ _) hT
  · have hk0 : k ≠ 0 := fun e => by
      subst e
      exact c (decide_eq_true rfl)
    refine ⟨_, rfl, p, 2, rfl, hT, by decide, fun H1 r b1 t1 _ => ⟨rfl, _, rfl, ?_⟩⟩
    refine ite2 (fun _ => ?_) (fun _ => ?_)
    · exact letter H1 b1 t1
    · refine ⟨_, rfl, p, rfl, t1, fun H2 z b2 t2 hz => ?_⟩
      refine ⟨_, rfl, (by show 1 ≤ sizeLine; decide), fun t nt => ?_⟩
      have t2t : Tp (upd H2 t (.tup [.str z])) p := t2.same (same_upd nt)
      have npt : p ≠ t := t2.ne nt
      refine ⟨_, rfl, p, 4, rfl, t2t, by decide, fun H3 r3 b3 t3 h4 => ?_⟩
      refine ⟨(r3 : Int), rfl, by omega, by omega, fun D nD => ?_⟩
      have npD : p ≠ D := t3.ne nD
      have fin : ∀ (l : Addr) (H5 : Hp) (ds : List Fd) (vs : List V), But p H3 H5 → Tp H5 p → H5 l = some (.tup (.str z :: vs)) → RpA H5 vs ds → aok ds = true → deps ds ≤ k - 1 → ds.length ≤ 3 → Q (.ref l) H5 := fun l H5 ds vs b5 t5 el ra ok dd hl => by
        refine q H5 (.ref l) (.t (.s z :: ds)) ((((b1.trans b2).trans (.of (same_upd nt))).trans b3).trans b5) t5 (.t el (.cons (.s z) ra)) ?_ ?_
        · show (hdB (.s z) && (decide (ds.length ≤ 3) && aok ds)) = true
          rw [show hdB (.s z) = true from wdB_of hz, decide_eq_true hl, ok]
          rfl
        · show 1 + max 0 (deps ds) ≤ k
          omega
      refine lc_range (lo := 0) (n := r3) (fun i H' => But p H3 H' ∧ Tp H' p ∧ ∃ (vs : List V) (ds : List Fd), H' D = some (.lst vs) ∧ RpA H' vs ds ∧ aok ds = true ∧ deps ds ≤ k - 1 ∧ ds.length = i)
        ⟨.of (same_upd nD), t3.same (same_upd nD), [], [], upd_same, .nil, rfl, Nat.zero_le _, rfl⟩ (fun i H' hi hW => ?_) (fun H' hW => ?_)
      · obtain ⟨b4, t4, vs, ds, eD, ra, ok, dd, hl⟩ := hW
        refine ⟨rfl, tyes ?_⟩
        refine ⟨_, rfl, _, rfl, _, _, rfl, rfl, p, k - 1, ?_, t4, by omega, fun H5 v d b5 t5 rp okd dpd => ?_⟩
        · have e : (k : Int) - 1 = ((k - 1 : Nat) : Int) := by omega
          show [V.ref p, V.int ((k : Int) - 1)] = _
          rw [e]
        · have eD5 := b5 D _ npD.symm eD
          have kp : Keep H' (upd H5 D (.lst (vs ++ [v]))) := (Keep.but b5 t4).trans (.lst eD5)
          refine ⟨vs, eD5, ?_, fun b o nb e => ?_, ?_, vs ++ [v], ds ++ [d], upd_same, (ra.keep kp).snoc (rp.keep (.lst eD5)), ?_, ?_, ?_⟩
          · rw [ra.length]
            exact small1000 (by omega)
          · rw [upd_ne (ne_of_none e nD)]
            exact b5 _ _ nb (b4 _ _ nb e)
          · obtain ⟨ns, e, h⟩ := t5
            exact ⟨ns, by rw [upd_ne npD]; exact e, h⟩
          · rw [aok_snoc, ok, okd]
            rfl
          · rw [deps_snoc]
            omega
          · rw [List.length_append, hl]
            rfl
      · obtain ⟨b4, t4, vs, ds, eD, ra, ok, dd, hl⟩ := hW
        refine ⟨D, vs, rfl, .inl ⟨SqL.of eD, fun l nl => ?_⟩⟩
        have et : (upd H' l (.tup vs)) t = some (.tup [.str z]) := (same_upd nl) _ _ (b4 _ _ npt.symm (b3 _ _ npt.symm upd_same))
        have hv : vs.length = r3 := by rw [ra.length, hl]
        refine ⟨t, l, [.str z], vs, rfl, rfl, SqT.of et, SqT.of upd_same, by simp, ?_, fun e0 => ?_, fun _ c nc => ?_⟩
        · exact Nat.le_of_lt (small1000 (by rw [hv]; show 1 + r3 ≤ 1000; omega))
        · subst e0
          exact fin t _ ds [] (b4.trans (.of (same_upd nl))) (t4.same (same_upd nl)) et (ra.keep (.new nl)) ok dd (by omega)
        · have sm : Same H' (upd (upd H' l (.tup vs)) c (.tup ([.str z] ++ vs))) := (same_upd nl).trans (same_upd nc)
          exact fin c _ ds vs (b4.trans (.of sm)) (t4.same sm) upd_same (ra.keep (.same sm)) ok dd (by omega)
end
end KN
set_option Elab.async false
set_option linter.all false
set_option maxRecDepth 100000
set_option maxHeartbeats 2000000
/-! ### list.extend of a tuple -/
namespace KN
open PySem PySem.Spec PyProof.Rows
theorem extend_tup (l : Addr) (items : Array Value) (n : Nat) (b : Addr) (dd : Option Addr) (sl : Array (Option Value)) (items2 : Array Value) (n2 : Nat) (hs0 : ¬(!items.isEmpty && Builtin.List.listTooLong (items.size + items2.size)) = true) (hs1 : items.size ≤ sizeLine) (hs2 : items.size + items2.size ≤ sizeLine + 1) :
    Meets (Builtin.«list.extend» ⟨[.ref l, .ref b], []⟩) (fun _ R s => s.heap.get? l = some { cls := .type "list", dict := none, data := .seq items n, slots := #[] } ∧ s.heap.get? b = some { cls := .type "tuple", dict := dd, data := .seq items2 n2, slots := sl } ∧ R (.ok (.ret Value.none)) { s with heap := s.heap.update l (Obj.mapSeq fun x => x ++ items2), toks := s.toks }) :=
  .of_wp fun prog w A R s h => by
    obtain ⟨hp, g, d, tk, os⟩ := s; obtain ⟨hl, hb, h⟩ := h; have f1 := AutoSeq1.idx_int; have f2 := AutoSeq1.sub_tuple_tuple; have f3 := AutoSeq1.sub_list_list; have f4 := AutoSeq1.sub_tuple_list; have f5 := AutoSeq1.sub_list_tuple
    have hz' : (items ++ items2).size ≤ sizeLine + 1 := by rw [Array.size_append]; exact hs2
    wp_walk using (wpAny_updateSeq hl rfl (hz := hs1) (_hz' := hz')), AutoSeq1.wpAny_loadPart' hl, AutoSeq1.wpAny_loadPart' hb; exact ⟨_, rfl, h⟩
end KN
namespace L2
open PySem PySem.Spec PyProof.Rows
section
variable {X : Cx}
def rExtendT : V → List V → Hp → VK → Prop := fun x vs H Q => ∃ l b xs zs, x = .ref l ∧ vs = [.ref b] ∧ H l = some (.lst xs) ∧ H b = some (.tup zs) ∧ xs.length + zs.length ≤ sizeLine ∧ Q .non (upd H l (.lst (xs ++ zs)))
theorem mt_extendT : MtM X "list.extend" rExtendT := by
  intro pins s σ H x vs v us Q I rx rv h
  obtain ⟨l, b, xs, zs, rfl, rfl, hH, hB, hz, q⟩ := h
  cases rx
  obtain ⟨u, rfl, ru⟩ := rv.one
  cases ru
  obtain ⟨z, its, n, r, hl, e⟩ := I.lstM hH
  obtain ⟨its2, r2, ⟨o2, ho2, hc2, n2, hd2⟩, hl2⟩ := I.tuple (SqT.of hB)
  obtain ⟨oc, od, oda, osl⟩ := o2
  dsimp only at hc2 hd2
  subst hc2 hd2
  have e1 := r.length
  have e2 := r2.length
  have hsz : its.toArray.size + its2.toArray.size ≤ sizeLine := by rw [List.size_toArray, List.size_toArray]; omega
  have hlong : ¬ (!its.toArray.isEmpty && Builtin.List.listTooLong (its.toArray.size + its2.toArray.size)) = true := by
    rw [notLongL hsz, Bool.and_false]
    exact Bool.false_ne_true
  refine call_meets F.slot_list_extend ⟨_, e, rfl⟩ F.entry_list_extend (F.args_list_extend_2 _ _)
    (KN.extend_tup l its.toArray n b od osl its2.toArray n2 hlong (by rw [List.size_toArray]; omega) (by omega)) ⟨e, ho2, ?_⟩
  refine ⟨.non, _, I.lset (its' := its ++ its2) hH e (by simp) (r.append r2) ?_, rfl, q⟩
  rw [List.length_append]
  omega
end
end L2
namespace KN
open PySem PySem.Spec PyProof.Rows L2
section
variable {P : Program} {w : World} {K : PySem.W.Frag} {mg : Str → Option Value} {base : Heap}
def SMALLs : Str := Str.ofString "abcdefghijklmnopqrstuvwxyz"
def CAPs : Str := Str.ofString "ABCDEFGHIJKLMNOPQRSTUVWXYZ"
theorem small_mem {c : Nat} : c ∈ SMALLs.cps.toList ↔ 97 ≤ c ∧ c ≤ 122 := by
  have e : SMALLs.cps.toList = (List.range 26).map (97 + ·) := by decide +kernel
  rw [e, List.mem_map]
  constructor
  · rintro ⟨i, hi, rfl⟩
    have := List.mem_range.mp hi
    omega
  · intro h
    exact ⟨c - 97, List.mem_range.mpr (by omega), by omega⟩
theorem caps_mem {c : Nat} : c ∈ CAPs.cps.toList ↔ 65 ≤ c ∧ c ≤ 90 := by
  have e : CAPs.cps.toList = (List.range 26).map (65 + ·) := by decide +kernel
  rw [e, List.mem_map]
  constructor
  · rintro ⟨i, hi, rfl⟩
    have := List.mem_range.mp hi
    omega
  · intro h
    exact ⟨c - 65, List.mem_range.mpr (by omega), by omega⟩
/-- the type of data -/
theorem ty_s {H : Hp} {z : Str} : TyX K H (.str z) (.type "str") := .base (.str z)
theorem ty_n {H : Hp} : TyX K H .non (.type "NoneType") := .base .non
theorem ty_t {H : Hp} {a : Addr} {vs : List V} (h : H a = some (.tup vs)) : TyX K H (.ref a) (.type "tuple") := .base (.tup h)
/-! ### is_letter -/
def isLet : Fd → Bool
  | .s z => letB z
  | .t _ => false
  | .n => false
theorem scLet : FnScope ["text"] ["text"] (defScope sIsLetter) := ⟨rfl, rfl, rfl, by decide +kernel, rfl, by decide +kernel, by decide +kernel⟩
def spLet : Sp := fun vs H Q _ => ∃ (v : V) (d : Fd), vs = [v] ∧ Rp H v d ∧ (∀ z, d = .s z → z.length ≤ sizeLine) ∧ Q (.bl (isLet d)) H
theorem one_sign {z : Str} (h : z.length = 1) : ∃ c, z = ⟨#[c]⟩ := by
  obtain ⟨⟨l⟩⟩ := z
  match l, h with
  | [c], _ => exact ⟨c, rfl⟩
theorem ok_let {f : Addr} {fd : FuncData} (F : Fun K "is_letter" "is_letter" sIsLetter f fd) (mI : mg "isinstance" = none) (mS : mg "str" = none) (ml : mg "len" = none) (mC : ∃ t, mg "CAPITAL" = some (.str CAPs t)) : FnOk P w K mg base CX0 1 f fd ["text"] spLet := by
  refine F.ok scLet (fun vs H Q E h => ?_) (fun cdv A outer s H vs Q E hr h => ?_)
  · obtain ⟨v, d, rfl, _⟩ := h
    rfl
  obtain ⟨v, d, rfl, rp, hz, q⟩ := h
  obtain ⟨tC, mC⟩ := mC
  refine ⟨_, pss_one (ps_ret (pe_and (pe_callB call_isi (by rfl) mI (by decide +kernel) (pa_cons (pv 0) (pa_cons (pe_bltn (v := .ty "str") (by rfl) mS (by decide +kernel) rfl) pa_nil)))
    (pe_and (pe_cmpR op_eq (pe_callB call_len_str (by rfl) ml PySem.boot_len (pa_cons (pv 0) pa_nil)) pe_int (nomark _)) (pe_one (pe_cmpR op_in_sign (pv 0) (pe_glob (v := .str CAPs) (by rfl) mC ⟨_, rfl⟩) (by rfl)))))), ?_⟩
  cases rp with
  | s z =>
    refine ⟨_, rfl, _, _, _, _, true, rfl, .ty "str", ty_s, kit_ty (by decide +kernel), _, rfl, iteT ?_⟩
    refine ⟨_, rfl, _, rfl, hz z rfl, rfl, _, rfl, ?_⟩
    refine ite2 (fun c => ?_) (fun c => ?_)
    · have h1 : z.length = 1 := by
        have := V.int.inj (of_decide_eq_true c)
        omega
      obtain ⟨c0, rfl⟩ := one_sign h1
      refine ⟨_, rfl, c0, CAPs, rfl, rfl, ?_⟩
      have e : isLet (.s ⟨#[c0]⟩) = decide (c0 ∈ CAPs.cps.toList) := by
        show letB _ = _
        rw [Bool.eq_iff_iff, decide_eq_true_eq, caps_mem]
        simp [letB, Str.length]
      rw [e] at q
      exact q
    · have e : isLet (.s z) = false := by
        show letB z = false
        unfold letB
        rw [decide_eq_false (fun e => c (decide_eq_true (by rw [e]; rfl)))]
        rfl
      rw [e] at q
      exact q
  | n =>
    refine ⟨_, rfl, _, _, _, _, false, rfl, .ty "str", ty_n, kit_ty (by decide +kernel), _, rfl, iteF ?_⟩
    exact q
  | t h ra =>
    refine ⟨_, rfl, _, _, _, _, false, rfl, .ty "str", ty_t h, kit_ty (by decide +kernel), _, rfl, iteF ?_⟩
    exact q
/-! ### is_word -/
theorem scWd : FnScope ["text", "mark"] ["text"] (defScope sIsWord) := ⟨rfl, rfl, rfl, by decide +kernel, rfl, by decide +kernel, by decide +kernel⟩
def spWd : Sp := fun vs H Q _ => ∃ (v : V) (d : Fd), vs = [v] ∧ Rp H v d ∧ (∀ z, d = .s z → z.length ≤ sizeLine) ∧ ∀ H', Same H H' → Q (.bl (hdB d)) H'
theorem ok_wd {f : Addr} {fd : FuncData} (F : Fun K "is_word" "is_word" sIsWord f fd) (mI : mg "isinstance" = none) (mS : mg "str" = none) (ml : mg "len" = none) (ma : mg "all" = none) (mC : ∃ t, mg "SMALL" = some (.str SMALLs t)) : FnOk P w K mg base CX0 1 f fd ["text"] spWd := by
  refine F.ok scWd (fun vs H Q E h => ?_) (fun cdv A outer s H vs Q E hr h => ?_)
  · obtain ⟨v, d, rfl, _⟩ := h
    rfl
  obtain ⟨v, d, rfl, rp, hz, q⟩ := h
  obtain ⟨tC, mC⟩ := mC
  refine ⟨_, pss_one (ps_ret (pe_and (pe_callB call_isi (by rfl) mI (by decide +kernel) (pa_cons (pv 0) (pa_cons (pe_bltn (v := .ty "str") (by rfl) mS (by decide +kernel) rfl) pa_nil)))
    (pe_and (pe_chain op_le op_le pe_int (pe_callB call_len_str (by rfl) ml PySem.boot_len (pa_cons (pv 0) pa_nil)) pe_int)
      (pe_one (pe_callB (cr_all (by rfl)) (by rfl) ma (by decide +kernel) (pa_cons
        (pe_lc (own := [("mark", 1)]) (g := gName 1) (tt := tYes) (by rfl) scWd.nd (pi_str (pv 0))
          (blkOk_by (own := [("mark", 1)]) (N := ["text", "mark"]) (sc := defScope sIsWord) (by decide +kernel))
          (fun _ _ _ _ _ => pg_name (i := 1) scWd.nd rfl (Or.inl rfl)) (fun _ _ _ _ _ => pts_nil)
          (fun _ _ _ _ _ => pe_cmpR op_in_sign (pv 1) (pe_glob (v := .str SMALLs) (by rfl) mC ⟨_, rfl⟩) (by rfl))) pa_nil)))))), ?_⟩
  cases rp with
  | s z =>
    refine ⟨_, rfl, _, _, _, _, true, rfl, .ty "str", ty_s, kit_ty (by decide +kernel), _, rfl, iteT ?_⟩
    refine ⟨_, rfl, _, rfl, hz z rfl, _, _, rfl, rfl, _, rfl, ?_⟩
    have noW : ¬ (1 ≤ z.length ∧ z.length ≤ 12) → hdB (.s z) = false := fun hn => by
      show wdB z = false
      unfold wdB
      rw [← Bool.decide_and, decide_eq_false hn]
      rfl
    refine ite2 (fun c1 => ?_) (fun c1 => ?_)
    · have h1 : (1 : Int) ≤ (z.length : Int) := of_decide_eq_true c1
      refine ⟨_, _, rfl, rfl, _, rfl, ite2 (fun c2 => ?_) (fun c2 => ?_)⟩
      · have h2 : (z.length : Int) ≤ 12 := of_decide_eq_true c2
        refine ⟨_, rfl, _, rfl, fun D nD => ?_⟩
        have hsz : z.cps.toList.length = z.length := Array.length_toList
        refine lc_it (walk_str (z := z)) (fun i H' => Same H H' ∧ H' D = some (.lst (((z.cps.toList.take i).map fun c => decide (c ∈ SMALLs.cps.toList)).map V.bl)))
          ⟨same_upd nD, upd_same⟩ (fun _ _ _ _ => trivial) (fun i x H' H'' hi hW hy => ?_) (fun H' hW => ?_)
        · obtain ⟨sm, eD⟩ := hW
          obtain ⟨rfl, c, hc, rfl⟩ := hy
          have hc' : z.cps.toList[i]? = some c := by rw [Array.getElem?_toList]; exact hc
          refine ⟨rfl, tyes ?_⟩
          refine ⟨_, rfl, c, SMALLs, rfl, rfl, _, eD, ?_, fun b o e => ?_, ?_⟩
          · rw [List.length_map, List.length_map, List.length_take]
            exact small1000 (by omega)
          · rw [upd_ne (ne_of_none e nD)]
            exact sm _ _ e
          · rw [upd_same, List.take_add_one, hc', List.map_append, List.map_append]
            rfl
        · obtain ⟨sm, eD⟩ := hW
          rw [List.take_of_length_le (by rw [hsz]; exact Nat.le_refl _)] at eD
          refine ⟨D, _, rfl, SqL.of eD, ?_⟩
          have e : hdB (.s z) = (z.cps.toList.map fun c => decide (c ∈ SMALLs.cps.toList)).all id := by
            show wdB z = _
            unfold wdB
            rw [decide_eq_true (show 1 ≤ z.length by omega), decide_eq_true (show z.length ≤ 12 by omega), List.all_map]
            refine congrArg (fun f => (true && true && List.all z.cps.toList f)) ?_
            funext c
            rw [← Bool.decide_and]
            exact decide_eq_decide.mpr small_mem.symm
          have z1 := q H' sm
          rw [e] at z1
          exact z1
      · have z1 := q H (Same.refl H)
        rw [noW fun hn => c2 (decide_eq_true (by omega))] at z1
        exact z1
    · refine ⟨_, rfl, iteF ?_⟩
      have z1 := q H (Same.refl H)
      rw [noW fun hn => c1 (decide_eq_true (by omega))] at z1
      exact z1
  | n =>
    refine ⟨_, rfl, _, _, _, _, false, rfl, .ty "str", ty_n, kit_ty (by decide +kernel), _, rfl, iteF ?_⟩
    exact q H (Same.refl H)
  | t h ra =>
    refine ⟨_, rfl, _, _, _, _, false, rfl, .ty "str", ty_t h, kit_ty (by decide +kernel), _, rfl, iteF ?_⟩
    exact q H (Same.refl H)
end
end KN
set_option Elab.async false
set_option linter.all false
set_option maxRecDepth 100000
set_option maxHeartbeats 2000000
namespace KN
open PySem PySem.Spec PyProof.Rows L2
mutual
/-- its texts fit, and how many nodes it has -/
def szk : Fd → Prop
  | .s z => z.length ≤ sizeLine
  | .t ds => szka ds
  | .n => True
def szka : List Fd → Prop
  | [] => True
  | d :: ds => szk d ∧ szka ds
end
mutual
def nod : Fd → Nat
  | .s _ => 1
  | .t ds => 1 + noda ds
  | .n => 1
def noda : List Fd → Nat
  | [] => 0
  | d :: ds => nod d + noda ds
end
theorem szka_append : ∀ {xs ys : List Fd}, szka xs → szka ys → szka (xs ++ ys)
  | [], ys, _, h => h
  | x :: xs, ys, h1, h2 => ⟨h1.1, szka_append h1.2 h2⟩
theorem noda_append : ∀ {xs ys : List Fd}, noda (xs ++ ys) = noda xs + noda ys
  | [], ys => by simp [noda]
  | x :: xs, ys => by
    show nod x + noda (xs ++ ys) = nod x + noda xs + noda ys
    rw [noda_append]
    omega
theorem aok_append : ∀ {xs ys : List Fd}, aok (xs ++ ys) = (aok xs && aok ys)
  | [], ys => by simp [aok]
  | x :: xs, ys => by
    show (fok x && aok (xs ++ ys)) = ((fok x && aok xs) && aok ys)
    rw [aok_append, Bool.and_assoc]
theorem nod_pos : ∀ d : Fd, 1 ≤ nod d
  | .s _ => Nat.le_refl _
  | .t ds => Nat.le_add_right _ _
  | .n => Nat.le_refl _
theorem len_noda : ∀ ds : List Fd, ds.length ≤ noda ds
  | [] => Nat.le_refl _
  | d :: ds => by
    have h1 := nod_pos d
    have h2 := len_noda ds
    show ds.length + 1 ≤ nod d + noda ds
    omega
theorem szka_last : ∀ {xs : List Fd} {d : Fd}, szka (xs ++ [d]) → szka xs ∧ szk d
  | [], d, h => ⟨trivial, h.1⟩
  | x :: xs, d, h => by
    have := szka_last (xs := xs) h.2
    exact ⟨⟨h.1, this.1⟩, this.2⟩
theorem RpA.append {H : Hp} : ∀ {vs us : List V} {ds es : List Fd}, RpA H vs ds → RpA H us es → RpA H (vs ++ us) (ds ++ es)
  | _, _, [], _, .nil, h => h
  | _, _, _ :: _, _, .cons h a, h2 => .cons h (RpA.append a h2)
/-- the last of a list of data -/
theorem RpA.last {H : Hp} : ∀ {vs : List V} {ds : List Fd}, RpA H vs ds → vs ≠ [] → ∃ vs' v ds' d, vs = vs' ++ [v] ∧ ds = ds' ++ [d] ∧ RpA H vs' ds' ∧ Rp H v d
  | _, [], .nil, h => absurd rfl h
  | _, [d], .cons h .nil, _ => ⟨[], _, [], d, rfl, rfl, .nil, h⟩
  | _, d :: e :: ds, .cons (v := v) h (.cons (v := v2) (vs := vs2) h2 a), _ => by
    obtain ⟨vs', u, ds', d', e1, e2, a', h'⟩ := RpA.last (ds := e :: ds) (.cons h2 a) (by simp)
    exact ⟨v :: vs', u, d :: ds', d', by rw [e1]; rfl, by rw [e2]; rfl, .cons h a', h'⟩
theorem cut1 (xs : List V) : cutV xs (some 1) none = xs.drop 1 := by
  unfold cutV
  rw [show HT.sIx xs.length 0 (some 1) = min 1 xs.length from HT.sIx_nat xs.length 0 1, HT.sIx_none]
  cases xs with
  | nil => rfl
  | cons x r =>
    rw [show min 1 (x :: r).length = 1 by
      rw [List.length_cons]
      omega]
    show (List.take ((x :: r).length - 1) r) = r
    rw [List.length_cons, Nat.add_sub_cancel]
    exact List.take_length
section
variable {P : Program} {w : World} {K : PySem.W.Frag} {mg : Str → Option Value} {base : Heap}
/-! ### is_form -/
theorem scForm0 : FnScope ["row", "todo", "part"] ["row"] (defScope sIsForm) := ⟨rfl, rfl, rfl, by decide +kernel, rfl, by decide +kernel, by decide +kernel⟩
def spIsForm : Sp := fun vs H Q _ => ∃ (v : V) (d : Fd), vs = [v] ∧ Rp H v d ∧ szk d ∧ nod d ≤ 900 ∧ ∀ H', Same H H' → Q (.bl (fok d)) H'
theorem ok_isForm {f fL fW : Addr} {fd fdL fdW : FuncData} (F : Fun K "is_form" "is_form" sIsForm f fd)
    (FL : Fun K "is_letter" "is_letter" sIsLetter fL fdL) (bL : Binds K fdL ["text"] []) (gL : mg "is_letter" = some (.ref fL))
    (FW : Fun K "is_word" "is_word" sIsWord fW fdW) (bW : Binds K fdW ["text"] []) (gW : mg "is_word" = some (.ref fW))
    (mI : mg "isinstance" = none) (mS : mg "str" = none) (mT : mg "tuple" = none) (ml : mg "len" = none) (ma : mg "all" = none) (mC : ∃ t, mg "CAPITAL" = some (.str CAPs t)) (mW : ∃ t, mg "SMALL" = some (.str SMALLs t)) :
    FnOk P w K mg base CX0 2 f fd ["row"] spIsForm := by
  have GL : FnOk P w K mg base CX0 1 fL fdL ["text"] spLet := ok_let FL mI mS ml mC
  have GW : FnOk P w K mg base CX0 1 fW fdW ["text"] spWd := ok_wd FW mI mS ml ma mW
  refine F.ok scForm0 (fun vs H Q E h => ?_) (fun cdv A outer s H vs Q E hr h => ?_)
  · obtain ⟨v, d, rfl, _⟩ := h
    rfl
  obtain ⟨v, d, rfl, rp, hz, hn, q⟩ := h
  refine ⟨_, pss_cons (ps_set (i := 1) scForm0.nd rfl (.inl rfl) (pe_lst (pa_cons (pv 0) pa_nil)))
    (pss_cons (ps_while PassesOwn.never (pt_truth (pv 1) (by intro _; rfl))
      (pss_cons (ps_set (i := 2) scForm0.nd rfl (.inl rfl) (pe_bm0 PySem.F.plainAttrs_list PySem.F.slot_list_pop PySem.F.type_list_pop mt_pop (pv 1)))
      (pss_cons (ps_if (pt_val (pe_call GL hr (by rfl) gL FL.kp bL .nil pass0 (pa_cons (pv 2) pa_nil))) (pss_one ps_continue) pss_nil)
      (pss_cons (ps_if (PW.pt (pw_or (pt_not (pt_val (pe_callB call_isi (by rfl) mI (by decide +kernel) (pa_cons (pv 2) (pa_cons (pe_bltn (v := .ty "tuple") (by rfl) mT (by decide +kernel) rfl) pa_nil)))))
          (pw_or (pt_not (pt_chain op_le op_le pe_int (pe_callB call_len_seq (by rfl) ml PySem.boot_len (pa_cons (pv 2) pa_nil)) pe_int))
            (pw_or1 (pt_not (pt_val (pe_call GW hr (by rfl) gW FW.kp bW .nil pass0 (pa_cons (pe_ix ix_tup (pv 2) pe_int (fun _ _ => rfl)) pa_nil))))))))
        (pss_one (ps_ret pe_bl)) pss_nil)
      (pss_one (ps_expr (pe_bm PySem.F.plainAttrs_list PySem.F.slot_list_extend PySem.F.type_list_extend mt_extendT (pv 1) (pa_cons (pe_slice sl_tup (pv 2) (po_some pe_int) po_none) pa_nil))))))))
    (pss_one (ps_ret pe_bl))), ?_⟩
  refine ⟨_, rfl, (by show 1 ≤ sizeLine; decide), fun L nL => ?_⟩
  refine ⟨fun m σ H' => ∃ (y2 : Option V) (vs : List V) (ds : List Fd), σ = [some v, some (.ref L), y2] ∧ Same H H' ∧ H' L = some (.lst vs) ∧ RpA H' vs ds ∧ szka ds ∧ noda ds ≤ 900 ∧ aok ds = fok d ∧ m = noda ds,
    ⟨_, none, [v], [d], rfl, same_upd nL, upd_same, .cons (rp.keep (.new nL)) .nil, ⟨hz, trivial⟩, by show nod d + 0 ≤ 900; omega, by simp [aok], rfl⟩, fun m σ H' hW => ?_⟩
  obtain ⟨y2, vs, ds, rfl, sm, eL, ra, sz, nn, ok, rfl⟩ := hW
  refine ⟨_, rfl, !vs.isEmpty, .inl ⟨vs, SqL.of eL, rfl⟩, ?_⟩
  cases hv : vs.isEmpty with
  | true =>
    have e0 : vs = [] := List.isEmpty_iff.mp hv
    subst e0
    cases ra
    refine iteF ?_
    have z := q H' sm
    rw [← ok] at z
    exact z
  | false =>
    refine iteT ?_
    have hne : vs ≠ [] := fun e => by
      subst e
      cases hv
    obtain ⟨vs', u, ds', e, rfl, rfl, ra', rpu⟩ := ra.last hne
    obtain ⟨sz', sze⟩ := szka_last sz
    have n1 : noda (ds' ++ [e]) = noda ds' + nod e := by
      rw [noda_append]
      show noda ds' + (nod e + 0) = _
      omega
    have hl' := ra'.length
    have hll := len_noda ds'
    have npe := nod_pos e
    refine ⟨fun σ' H2 => ∃ (y2 : Option V) (vs : List V) (ds : List Fd), σ' = [some v, some (.ref L), y2] ∧ Same H H2 ∧ H2 L = some (.lst vs) ∧ RpA H2 vs ds ∧ szka ds ∧ noda ds < noda (ds' ++ [e]) ∧ aok ds = fok d, fun σ' H2 hN => ?_, ?_⟩
    · obtain ⟨y2, vs2, ds2, rfl, sm2, eL2, ra2, sz2, nn2, ok2⟩ := hN
      exact ⟨_, nn2, y2, vs2, ds2, rfl, sm2, eL2, ra2, sz2, by omega, ok2, rfl⟩
    · have okd : (aok ds' && fok e) = fok d := by rw [← ok, aok_snoc]
      -- part = todo.pop()
      refine ⟨_, rfl, .inl ⟨rfl, _, SqL.of eL⟩, L, vs' ++ [u], u, rfl, rfl, eL, by simp, ?_⟩
      rw [List.dropLast_concat]
      have kp1 : Keep H' (upd H' L (.lst vs')) := .lst eL
      have sm1 : Same H (upd H' L (.lst vs')) := fun b o h => by
        rw [upd_ne (ne_of_none h nL)]
        exact sm _ _ h
      have rpu1 := rpu.keep kp1
      have ra1 := ra'.keep kp1
      have eL1 : (upd H' L (.lst vs')) L = some (.lst vs') := upd_same
      generalize hH1 : upd H' L (.lst vs') = H1 at kp1 sm1 rpu1 ra1 eL1
      -- is_letter(part)
      refine ⟨_, rfl, u, e, rfl, rpu1, ?_, _, rfl, ?_⟩
      · intro z he
        subst he
        exact sze
      cases rpu1 with
      | s z =>
        refine ite2 (fun c => ?_) (fun c => ?_)
        · have hz1 : fok (.s z) = true := c
          exact ⟨_, vs', ds', rfl, sm1, eL1, ra1, sz', by omega, by rw [← okd, hz1, Bool.and_true]⟩
        · have hz1 : fok (.s z) = false := Bool.eq_false_iff.mpr c
          refine ⟨_, rfl, _, _, _, _, false, rfl, .ty "tuple", ty_s, kit_ty (by decide +kernel), _, rfl, ?_⟩
          have z1 := q H1 sm1
          rw [← okd, hz1, Bool.and_false] at z1
          exact iteT (iteT z1)
      | n =>
        refine iteF ?_
        refine ⟨_, rfl, _, _, _, _, false, rfl, .ty "tuple", ty_n, kit_ty (by decide +kernel), _, rfl, ?_⟩
        have z1 := q H1 sm1
        rw [← okd, show fok .n = false from rfl, Bool.and_false] at z1
        exact iteT (iteT z1)
      | @t a vs2 ds2 ha rda =>
        refine iteF ?_
        refine ⟨_, rfl, _, _, _, _, true, rfl, .ty "tuple", ty_t ha, kit_ty (by decide +kernel), _, rfl, iteF ?_⟩
        refine ⟨_, rfl, a, _, rfl, .inr (SqT.of ha), _, _, rfl, rfl, _, rfl, ?_⟩
        have bad : fok (.t ds2) = false → Q (.bl false) H1 := fun hf => by
          have z1 := q H1 sm1
          rw [← okd, hf, Bool.and_false] at z1
          exact z1
        cases rda with
        | nil => exact ⟨_, rfl, iteT (iteT (bad rfl))⟩
        | @cons x r h ds3 rx rr =>
          have hlen := rr.length
          have e1 : decide ((1 : Int) ≤ (((x :: r).length : Nat) : Int)) = true := decide_eq_true (by rw [List.length_cons]; omega)
          rw [e1]
          refine iteT ⟨_, _, rfl, rfl, _, rfl, ?_⟩
          by_cases h4 : ds3.length ≤ 3
          · have e2 : decide ((((x :: r).length : Nat) : Int) ≤ (4 : Int)) = true := decide_eq_true (by rw [List.length_cons]; omega)
            rw [e2]
            refine iteF ?_
            refine ⟨_, rfl, a, _, 0, x, rfl, rfl, SqT.of ha, atI_nat rfl, x, h, rfl, rx, ?_, fun H2 sm2 => ⟨_, rfl, ?_⟩⟩
            · intro z he
              subst he
              exact sze.1
            · have sm12 : Same H H2 := sm1.trans sm2
              have fe : fok (.t (h :: ds3)) = (hdB h && aok ds3) := by
                show (hdB h && (decide (ds3.length ≤ 3) && aok ds3)) = _
                rw [decide_eq_true h4, Bool.true_and]
              cases hd : hdB h with
              | false =>
                rw [hd, Bool.false_and] at fe
                refine iteT ?_
                have z1 := q H2 sm12
                rw [← okd, fe, Bool.and_false] at z1
                exact z1
              | true =>
                rw [hd, Bool.true_and] at fe
                refine iteF ?_
                have eL2 := sm2 _ _ eL1
                have ha2 := sm2 _ _ ha
                refine ⟨_, rfl, .inl ⟨rfl, _, SqL.of eL2⟩, _, rfl, 1, rfl, a, x :: r, rfl, SqT.of ha2, ?_, fun p np => ⟨L, p, vs', _, rfl, rfl, ?_, upd_same, ?_, ?_⟩⟩
                · rintro ⟨z1, _⟩
                  rw [show HT.sIx (x :: r).length 0 (some 1) = min 1 (x :: r).length from HT.sIx_nat _ 0 1, List.length_cons] at z1
                  omega
                · rw [upd_ne (ne_of_none eL2 np)]
                  exact eL2
                · rw [cut1]
                  show vs'.length + r.length ≤ sizeLine
                  have := len_noda ds3
                  have hnod : nod (.t (h :: ds3)) = 1 + (nod h + noda ds3) := rfl
                  exact Nat.le_of_lt (small1000 (by omega))
                · rw [cut1]
                  have kp3 : Keep H2 (upd (upd H2 p (.tup ((x :: r).drop 1))) L (.lst (vs' ++ (x :: r).drop 1))) := (Keep.new np).trans (.lst (by rw [upd_ne (ne_of_none eL2 np)]; exact eL2))
                  refine ⟨_, vs' ++ r, ds' ++ ds3, rfl, fun b o e => ?_, upd_same, ((ra1.keep (.same sm2)).keep kp3).append ((rr.keep (.same sm2)).keep kp3), szka_append sz' sze.2, ?_, ?_⟩
                  · rw [upd_ne (ne_of_none e nL)]
                    exact same_upd np _ _ (sm12 _ _ e)
                  · have hnod : nod (.t (h :: ds3)) = 1 + (nod h + noda ds3) := rfl
                    rw [noda_append, noda_append]
                    show noda ds' + noda ds3 < noda ds' + (nod (.t (h :: ds3)) + 0)
                    omega
                  · rw [aok_append, ← okd, fe]
          · have e2 : decide ((((x :: r).length : Nat) : Int) ≤ (4 : Int)) = false := decide_eq_false (by rw [List.length_cons]; omega)
            rw [e2]
            refine iteT (iteT (bad ?_))
            show (hdB h && (decide (ds3.length ≤ 3) && aok ds3)) = false
            rw [decide_eq_false h4]
            simp
end
end KN
set_option Elab.async false
set_option linter.all false
set_option maxRecDepth 100000
set_option maxHeartbeats 400000
namespace KN
open PySem PySem.Spec PyProof.Rows L2
/-! ### written data -/
section
variable {X : Cx}
def tLit (d : Fd) : TE := fun _ H Q => ∀ H' v, Same H H' → Rp H' v d → Q v H'
def tLits (ds : List Fd) : TA := fun _ H Q => ∀ H' vs, Same H H' → RpA H' vs ds → Q vs H'
theorem pe_imp {e : Expr} {t t' : TE} (h : PE X e t) (i : ∀ σ H Q, t' σ H Q → t σ H Q) : PE X e t' := ⟨fun pins s σ H Q I hq => h.run pins s σ H Q I (i σ H Q hq)⟩
theorem pa_imp {es : List Expr} {t t' : TA} (h : PA X es t) (i : ∀ σ H Q, t' σ H Q → t σ H Q) : PA X es t' := ⟨fun pos pins s σ H Q I hq => h.run pos pins s σ H Q I (i σ H Q hq)⟩
theorem lit_s {z : Str} {j : Nat} {pos : Pos} : PE X (.Constant (.str z) j pos) (tLit (.s z)) := pe_imp pe_str fun σ H Q h => h H _ (Same.refl H) (.s z)
theorem lits_nil : PA X [] (tLits []) := pa_imp pa_nil fun σ H Q h => h H _ (Same.refl H) .nil
theorem lits_cons {e : Expr} {es : List Expr} {d : Fd} {ds : List Fd} (h : PE X e (tLit d)) (r : PA X es (tLits ds)) (hs : starEach (e :: es) X.env = (false, eval e X.env) :: starEach es X.env := by rfl) : PA X (e :: es) (tLits (d :: ds)) :=
  pa_imp (pa_cons h r hs) fun σ H Q q H1 v s1 r1 H2 vs s2 r2 => q H2 _ (s1.trans s2) (.cons (r1.keep (.same s2)) r2)
theorem lit_t {es : List Expr} {k : Nat} {pos : Pos} {ds : List Fd} (h : PA X es (tLits ds)) (hl : ds.length ≤ 1000) : PE X (.Tuple es k pos) (tLit (.t ds)) :=
  pe_imp (pe_tup h) fun σ H Q q H1 vs s1 r1 => ⟨Nat.le_of_lt (small1000 (by rw [r1.length]; exact hl)), fun p np => q _ _ (s1.trans (same_upd np)) (.t upd_same (r1.keep (.new np)))⟩
end
/-- t + u of tuples, the answer told by what stands there -/
def rCatS (K : PySem.W.Frag) : R2 := fun x y H Q => ∃ a b xs ys, x = .ref a ∧ y = .ref b ∧ H a = some (.tup xs) ∧ H b = some (.tup ys) ∧ xs ≠ [] ∧ xs.length + ys.length ≤ 1000 ∧ ∀ p H', Same H H' → H' p = some (.tup (xs ++ ys)) → Q (.ref p) H'
theorem op_catS {X : Cx} : OpR X (binaryOp .Add) (rCatS X.K) := fun pins s σ H x y v u Q I rx ry h => op_catT pins s σ H x y v u Q I rx ry (by
  obtain ⟨a, b, xs, ys, e1, e2, h1, h2, hne, hl, q⟩ := h
  refine ⟨a, b, xs, ys, e1, e2, SqT.of h1, SqT.of h2, hne, Nat.le_of_lt (small1000 hl), fun e => ?_, fun _ p np => q p _ (same_upd np) upd_same⟩
  subst e
  exact q a H (Same.refl H) (by rw [List.append_nil]; exact h1))
/-! ### sizes of forms -/
theorem word_len {z : Str} (h : wdB z = true) : z.length ≤ 12 := by
  unfold wdB at h
  simp only [Bool.and_eq_true, decide_eq_true_eq] at h
  exact h.1.2
theorem let_len {z : Str} (h : letB z = true) : z.length ≤ 12 := by
  unfold letB at h
  simp only [Bool.and_eq_true, decide_eq_true_eq] at h
  omega
theorem szk_hd : ∀ d : Fd, hdB d = true → szk d ∧ nod d = 1
  | .s z, h => ⟨Nat.le_of_lt (small1000 (Nat.le_trans (word_len h) (by decide))), rfl⟩
  | .t _, h => by cases h
  | .n, h => by cases h
mutual
theorem szk_of : ∀ d : Fd, fok d = true → szk d
  | .s z, h => Nat.le_of_lt (small1000 (Nat.le_trans (let_len (by simpa [fok] using h)) (by decide)))
  | .t ds, h => szk_tok ds (by simpa [fok] using h)
  | .n, _ => trivial
theorem szk_tok : ∀ ds : List Fd, tok ds = true → szka ds
  | [], _ => trivial
  | d :: ds, h => by
    simp only [tok, Bool.and_eq_true] at h
    exact ⟨(szk_hd d h.1).1, szk_aok ds h.2.2⟩
theorem szk_aok : ∀ ds : List Fd, aok ds = true → szka ds
  | [], _ => trivial
  | d :: ds, h => by
    simp only [aok, Bool.and_eq_true] at h
    exact ⟨szk_of d h.1, szk_aok ds h.2⟩
end
mutual
theorem nod_le : ∀ (d : Fd) (k : Nat), fok d = true → dep d ≤ k → nod d + 1 ≤ 2 * 3 ^ k
  | .s z, k, _, _ => by
    have : 1 ≤ 3 ^ k := Nat.one_le_pow _ _ (by decide)
    show 1 + 1 ≤ _
    omega
  | .t ds, k, h, hd => by
    have hd' : 1 + deps ds ≤ k := hd
    obtain ⟨j, rfl⟩ : ∃ j, k = j + 1 := ⟨k - 1, by omega⟩
    have := nod_tok ds j (by simpa [fok] using h) (by omega)
    show (1 + noda ds) + 1 ≤ 2 * 3 ^ (j + 1)
    rw [Nat.pow_succ]
    omega
  | .n, k, h, _ => by simp [fok] at h
theorem nod_tok : ∀ (ds : List Fd) (k : Nat), tok ds = true → deps ds ≤ k → noda ds + 2 ≤ 3 * (2 * 3 ^ k)
  | [], k, h, _ => by simp [tok] at h
  | d :: ds, k, h, hd => by
    simp only [tok, Bool.and_eq_true, decide_eq_true_eq] at h
    have hd' : max (dep d) (deps ds) ≤ k := hd
    have h1 := (szk_hd d h.1).2
    have h2 := nod_aok ds k h.2.2 (by omega)
    have h3 : ds.length * (2 * 3 ^ k) ≤ 3 * (2 * 3 ^ k) := Nat.mul_le_mul_right _ h.2.1
    have h4 : 1 ≤ 3 ^ k := Nat.one_le_pow _ _ (by decide)
    show (nod d + noda ds) + 2 ≤ _
    have h5 : ds.length ≤ 3 := h.2.1
    match hl : ds.length with
    | 0 =>
      rw [hl] at h2
      omega
    | 1 =>
      rw [hl] at h2
      omega
    | 2 =>
      rw [hl] at h2
      omega
    | 3 =>
      rw [hl] at h2
      omega
    | n + 4 => omega
theorem nod_aok : ∀ (ds : List Fd) (k : Nat), aok ds = true → deps ds ≤ k → noda ds + ds.length ≤ ds.length * (2 * 3 ^ k)
  | [], k, _, _ => by simp [noda]
  | d :: ds, k, h, hd => by
    simp only [aok, Bool.and_eq_true] at h
    have hd' : max (dep d) (deps ds) ≤ k := hd
    have h1 := nod_le d k h.1 (by omega)
    have h2 := nod_aok ds k h.2 (by omega)
    show (nod d + noda ds) + (ds.length + 1) ≤ (ds.length + 1) * _
    rw [Nat.succ_mul]
    omega
end
theorem wdB_low {z : Str} {c : Nat} (h : c ∈ z.cps.toList) (hc : c < 97) : wdB z = false := by
  refine Bool.eq_false_iff.mpr fun e => ?_
  unfold wdB at e
  simp only [Bool.and_eq_true, List.all_eq_true, decide_eq_true_eq] at e
  have := e.2 c h
  omega
theorem wdB_long {z : Str} (h : 12 < z.length) : wdB z = false := by
  refine Bool.eq_false_iff.mpr fun e => ?_
  have := word_len e
  omega
theorem len_append (x y : Str) : (x ++ y).length = x.length + y.length := by
  show (x.cps ++ y.cps).size = _
  rw [Array.size_append]
  rfl
theorem cps_append (x y : Str) : (x ++ y).cps.toList = x.cps.toList ++ y.cps.toList := TL.tl_append x y
theorem cutS_len (z : Str) (lo hi : Option Int) : (cutS z lo hi).length ≤ z.length := by
  show (((z.cps.toList.drop (HT.sIx z.length 0 lo)).take (HT.sIx z.length z.length hi - HT.sIx z.length 0 lo)).toArray).size ≤ z.cps.size
  rw [List.size_toArray, List.length_take, List.length_drop, Array.length_toList]
  omega
theorem RpA.set {H : Hp} : ∀ {vs : List V} {ds : List Fd} {j : Nat} {v : V} {d : Fd}, RpA H vs ds → Rp H v d → RpA H (vs.set j v) (ds.set j d)
  | _, [], _, _, _, .nil, _ => .nil
  | _, _ :: _, 0, _, _, .cons _ a, h => .cons h a
  | _, _ :: _, j + 1, _, _, .cons h0 a, h => .cons h0 (RpA.set a h)
theorem RpA.get {H : Hp} : ∀ {vs : List V} {ds : List Fd} {j : Nat} {d : Fd}, RpA H vs ds → ds[j]? = some d → ∃ v, vs[j]? = some v ∧ Rp H v d
  | _, [], _, _, .nil, h => by simp at h
  | _, _ :: _, 0, _, .cons h0 a, h => ⟨_, rfl, by
    have := Option.some.inj h
    rw [← this]
    exact h0⟩
  | _, _ :: _, j + 1, _, .cons h0 a, h => RpA.get (j := j) a h
theorem aok_set : ∀ {ds : List Fd} {j : Nat} {d : Fd}, j < ds.length → fok d = false → aok (ds.set j d) = false
  | [], _, _, h, _ => by simp at h
  | e :: ds, 0, d, _, h => by
    show (fok d && aok ds) = false
    rw [h]
    rfl
  | e :: ds, j + 1, d, hj, h => by
    show (fok e && aok (ds.set j d)) = false
    rw [aok_set (by simpa using hj) h]
    simp
theorem szka_set : ∀ {ds : List Fd} {j : Nat} {d : Fd}, szka ds → szk d → szka (ds.set j d)
  | [], _, _, _, _ => trivial
  | _ :: _, 0, _, h, h2 => ⟨h2, h.2⟩
  | _ :: _, j + 1, _, h, h2 => ⟨h.1, szka_set h.2 h2⟩
theorem noda_set : ∀ {ds : List Fd} {j : Nat} {d : Fd}, noda (ds.set j d) ≤ noda ds + nod d
  | [], _, _ => by simp [noda]
  | e :: ds, 0, d => by
    show nod d + noda ds ≤ (nod e + noda ds) + nod d
    omega
  | e :: ds, j + 1, d => by
    have := noda_set (ds := ds) (j := j) (d := d)
    show nod e + noda (ds.set j d) ≤ (nod e + noda ds) + nod d
    omega
theorem lits_none {X : Cx} {j : Nat} {pos : Pos} : PE X (.Constant .none j pos) (tLit .n) := pe_imp pe_non fun σ H Q h => h H _ (Same.refl H) .n
end KN
set_option Elab.async false
set_option linter.all false
set_option maxRecDepth 100000
set_option maxHeartbeats 400000
/-! ### a def with a star parameter and keyword-only ones: called with keywords -/
namespace StX
open PySem PySem.Spec PyProof.Rows L2
def FnKw (P : Program) (w : World) (K : PySem.W.Frag) (mg : Str → Option Value) (base : Heap) (CX : CXT) (k : Nat) (f : Addr) (ks : List Str) (sp : List V → Sp) : Prop :=
  ∀ (A : Around) (outer : List Env) (s : Shared) (H : Hp) (us ws : List Value) (vs zs : List V) (Q : VK) (E : XK), Room k A → Env0 P w K mg base A outer s H → Vals vs us → Vals zs ws → sp zs vs H Q E →
    codeAny (model P w) A (.call (.ref f) ⟨us, ks.zip ws⟩) (CR CX outer P w H s Q E) s
section
variable {CX : CXT} {P : Program} {w : World} {K : PySem.W.Frag} {mg : Str → Option Value} {base : Heap} {k : Nat} {f : Addr} {name qual : Str} {params : Arguments} {body : List Stmt} {scope : Scope} {dV kV doc pm cdv ct oc : Value} {an od : Option Addr}
  {osl : Array (Option Value)} {N ks : List Str} {sp : Sp}
theorem FnKw.imp {sp sp' : List V → Sp} (F : FnKw P w K mg base CX k f ks sp) (h : ∀ zs vs H Q E, sp' zs vs H Q E → sp zs vs H Q E) : FnKw P w K mg base CX k f ks sp' := fun A outer s H us ws vs zs Q E hr e0 r rz hs => F A outer s H us ws vs zs Q E hr e0 r rz (h _ _ _ _ _ hs)
/-- def f(*v, k): the star parameter is a new tuple, bound behind the keyword -/
theorem fn_starK {kn pv : Str} (lk : K.lookup f = some ⟨oc, od, .func (PySem.W.fnOf name qual params body scope dV kV doc pm an cdv ct), osl⟩) (hcd : PySem.W.codeIn K cdv qual = true) (S : FnScope N ([kn] ++ [pv]) scope) (hCX : CXUp CX)
    (hb : ∀ (us : List Value) (u : Value), bindArgs (PySem.W.fnOf name qual params body scope dV kV doc pm an cdv ct) ⟨us, [(kn, u)]⟩ = (newTuple us >>= fun t => pure [(kn, u), (pv, t)]))
    (hbody : ∀ (A : Around) (outer : List Env) (s : Shared) (H : Hp) (vs : List V) (Q : VK) (E : XK), Room k (A.deeper (envOfC qual scope s.heap.objs.size f cdv)) → sp vs H Q E →
      ∃ t, PSs (cxOf CX P w K mg base N qual scope f cdv A outer s H E) body t ∧ t { nx := fun _ H' => Q .non H', rt := Q } (start N vs) H) :
    FnKw P w K mg base CX (k + 1) f [kn] (fun zs vs H Q E => ∃ v, zs = [v] ∧ vs.length ≤ sizeLine ∧ ∀ p, H p = Option.none → sp [v, V.ref p] (upd H p (.tup vs)) Q E) := by
  intro A outer s H us ws vs zs Q E hr e0 r rz hsp
  obtain ⟨v, rfl, hz, hq⟩ := hsp
  obtain ⟨u, rfl, ru⟩ := rz.one
  have hn : H s.heap.objs.size = Option.none := e0.hok.fresh (Nat.le_refl _)
  have hl2 : us.length ≤ sizeLine := by rw [← r.length]; exact hz
  refine run_bnd (args := ⟨us, [(kn, u)]⟩) lk hcd S hr e0 (G := fun xs H2 => ∃ p, H p = Option.none ∧ xs = [v, V.ref p] ∧ H2 = upd H p (.tup vs)) (fun A' Ex Q' h => ?_) fun s2 H2 xs ⟨p, hp, ex, eH⟩ hr' => ?_
  · rw [hb us u]
    refine wpAny_bind (wpAny_newTuple (wpAny_pure ?_) hl2)
    have new : ObjOk P w (upd H s.heap.objs.size (.tup vs)) (s.heap.push ({ cls := .type "tuple", data := .seq us.toArray } : Obj)) s.heap.objs.size (.tup vs) := ⟨hz, us, r, ⟨_, Heap.get?_push_size _ rfl, rfl, _, rfl⟩⟩
    have un := un_laid (fs := frs outer) (s := s) (o := ({ cls := .type "tuple", data := .seq us.toArray } : Obj)) (u := .tup vs) hn
    exact h _ _ [v, V.ref s.heap.objs.size] [u, Value.ref s.heap.objs.size] (env0_laid e0 new) un rfl (fun e s' => hCX outer s H _ _ E e s' un (fun b o q => Heap.get?_push_of_some _ q) rfl) (.cons ru (.cons rfl .nil)) rfl ⟨_, hn, rfl, rfl⟩
  · subst ex eH
    exact hbody A outer s2 _ _ Q E hr' (hq p hp)
end
section
variable {X : Cx} {CX : CXT} {k : Nat} {f : Addr} {ks : List Str} {sp : List V → Sp} {E : XK} {x : Str} {p pos : Pos} {e : Expr} {es : List Expr} {kws : List Keyword} {t tk : TA}
theorem run_kw {pins : List (Addr × Obj)} {σ : L2.St} {H : Hp} {s : Shared} {Q : VK} {us ws : List Value} {vs zs : List V} (F : FnKw X.prog X.w X.K X.mg X.base CX k f ks sp) (hr : Room k X.A) (hx : Passes CX X E) (I : Inv X pins σ H s) (r : Vals vs us) (rz : Vals zs ws) (h : sp zs vs H Q E) :
    wpAny (model X.prog X.w) X.A (call (.ref f) us (ks.zip ws)) (EP X pins σ Q) X.xe s := by
  refine wpAny_call (codeAny_mono (F X.A X.stack s H us ws vs zs Q E hr I.env0 r rz h) fun r s' hq => ?_)
  cases r with
  | error e => exact hx pins σ H s e s' I hq
  | ok fl =>
    cases fl with
    | ret u => exact I.after hq
    | next => exact False.elim hq
    | brk => exact False.elim hq
    | cont => exact False.elim hq
def tKw (sp : List V → Sp) (E : XK) (t tk : TA) : TE := fun σ H Q => t σ H fun vs H1 => tk σ H1 fun zs H2 => sp zs vs H2 Q E
/-- f(e, .., k = v) -/
theorem pe_kw (F : FnKw X.prog X.w X.K X.mg X.base CX k f ks sp) (hr : Room k X.A) (hg : Gl X x) (hm : X.mg x = some (.ref f)) (hk : PySem.W.keepIn X.K (.ref f) = true) (hx : Passes CX X E)
    (ha : PA X (e :: es) t) (hkw : PK X kws tk) (hall : (backToKw pos (keywordEach kws X.env)).all (·.1.isSome) = true := by rfl) (hks : (backToKw pos (keywordEach kws X.env)).filterMap (·.1) = ks := by rfl)
    (hdb : (x == ("__debug__" : Str)) = false := by decide) (he : starEach (e :: es) X.env = (false, eval e X.env) :: starEach es X.env := by rfl)
    (hpl : ((backTo pos (starEach (e :: es) X.env)).any (·.1) || (backToKw pos (keywordEach kws X.env)).any (·.1.isNone)) = false := by rfl) :
    PE X (.Call (.Name x p) (e :: es) kws pos) (tKw sp E t tk) := by
  refine ⟨fun pins s σ H Q I h => ?_⟩
  refine wpAny_Call_Name_kw (ld_glob I hg hm ?_ hdb)
  refine PySem.W.callWith_KW (h₀ := X.base) I.ok.mod.kin hk hall (thn (ha.run pos pins s σ H _ I h) fun us s1 ⟨vs, H1, I1, r, q⟩ => ?_) hpl he
  refine thn (hkw.run pos pins s1 σ H1 _ I1 q) fun ws s2 ⟨zs, H2, I2, rz, q2⟩ => ⟨I2.kIn, ?_⟩
  rw [hks]
  exact run_kw F hr hx I2 r rz q2
/-- f(k = v) -/
theorem pe_kw0 (F : FnKw X.prog X.w X.K X.mg X.base CX k f ks sp) (hr : Room k X.A) (hg : Gl X x) (hm : X.mg x = some (.ref f)) (hk : PySem.W.keepIn X.K (.ref f) = true) (hx : Passes CX X E)
    (hkw : PK X kws tk) (hall : (backToKw pos (keywordEach kws X.env)).all (·.1.isSome) = true := by rfl) (hks : (backToKw pos (keywordEach kws X.env)).filterMap (·.1) = ks := by rfl)
    (hdb : (x == ("__debug__" : Str)) = false := by decide)
    (hpl : ((backTo pos (starEach [] X.env)).any (·.1) || (backToKw pos (keywordEach kws X.env)).any (·.1.isNone)) = false := by rfl) :
    PE X (.Call (.Name x p) [] kws pos) (tKw sp E tNil tk) := by
  refine ⟨fun pins s σ H Q I h => ?_⟩
  refine wpAny_Call_Name_kw (ld_glob I hg hm ?_ hdb)
  refine PySem.W.callWith_KW0 (h₀ := X.base) I.ok.mod.kin hk hall ?_ hpl
  refine thn (hkw.run pos pins s σ H _ I h) fun ws s2 ⟨zs, H2, I2, rz, q2⟩ => ⟨I2.kIn, ?_⟩
  rw [hks]
  exact run_kw F hr hx I2 .nil rz q2
end
end StX
namespace KN
open PySem PySem.Spec PyProof.Rows L2
/-- what the written part says of an error class of the program's own -/
structure ErrC (K : PySem.W.Frag) (mg : Str → Option Value) (x : Str) (C : Addr) : Prop where
  g : mg x = some (.ref C)
  kp : PySem.W.keepIn K (.ref C) = true
  ex : PySem.W.excIn K C [.type "ValueError", .type "Exception", .type "BaseException", .type "object"] "ValueError.__new__" = true
  sb : PySem.W.subIn K (.ref C) (.type "BaseException") = some true
  ty : PySem.W.typeIn K (.ref C) = some (.type "type")
  hd : PySem.W.hasDictIn K C = true
  ec : ExcC K C
def isN : Fd → Bool
  | .n => true
  | _ => false
/-- a place -/
def plB : Fd → Bool
  | .t [b, f] => (isN b || fok b) && fok f
  | _ => false
/-- a pair -/
def Pr : Fd → Prop
  | .t [_, _] => True
  | _ => False
section
variable {P : Program} {w : World} {K : PySem.W.Frag} {mg : Str → Option Value} {base : Heap}
/-! ### is_place -/
theorem scPl : FnScope ["place", "bound", "form"] ["place"] (defScope sIsPlace) := ⟨rfl, rfl, rfl, by decide +kernel, rfl, by decide +kernel, by decide +kernel⟩
def spPl : Sp := fun vs H Q _ => ∃ (v : V) (d : Fd), vs = [v] ∧ Rp H v d ∧ Pr d ∧ szk d ∧ nod d ≤ 900 ∧ ∀ H', Same H H' → Q (.bl (plB d)) H'
theorem ok_pl {f fI : Addr} {fd fdI : FuncData} (F : Fun K "_is_place" "_is_place" sIsPlace f fd) (FI : Fun K "is_form" "is_form" sIsForm fI fdI) (bI : Binds K fdI ["row"] []) (gI : mg "is_form" = some (.ref fI))
    (GI : FnOk P w K mg base CX0 2 fI fdI ["row"] spIsForm) (mI : mg "isinstance" = none) (mT : mg "tuple" = none) (ml : mg "len" = none) : FnOk P w K mg base CX0 3 f fd ["place"] spPl := by
  refine F.ok scPl (fun vs H Q E h => ?_) (fun cdv A outer s H vs Q E hr h => ?_)
  · obtain ⟨v, d, rfl, _⟩ := h
    rfl
  obtain ⟨v, d, rfl, rp, hp, hz, hn, q⟩ := h
  refine ⟨_, pss_cons (ps_if (PW.pt (pw_or (pt_not (pt_val (pe_callB call_isi (by rfl) mI (by decide +kernel) (pa_cons (pv 0) (pa_cons (pe_bltn (v := .ty "tuple") (by rfl) mT (by decide +kernel) rfl) pa_nil)))))
      (pw_or1 (pt_cmpR op_ne (pe_callB call_len_seq (by rfl) ml PySem.boot_len (pa_cons (pv 0) pa_nil)) pe_int (nomark _))))) (pss_one (ps_ret pe_bl)) pss_nil)
    (pss_cons (ps_asg (pv 0) (pg_tup (by rfl) (pgs_cons (pg_name (i := 1) scPl.nd rfl (.inl rfl)) (pgs_cons (pg_name (i := 2) scPl.nd rfl (.inl rfl)) pgs_nil))))
    (pss_one (ps_ret (pe_and (pe_or (pe_cmp (pc_isN (pv 1)) rfl) (pe_one (pe_call GI hr (by rfl) gI FI.kp bI .nil pass0 (pa_cons (pv 1) pa_nil)))) (pe_one (pe_call GI hr (by rfl) gI FI.kp bI .nil pass0 (pa_cons (pv 2) pa_nil))))))), ?_⟩
  cases rp with
  | n => cases hp
  | s z => cases hp
  | @t a vs ds ha rda =>
    match ds, vs, rda, hp with
    | [b, g], [vb, vg], .cons rb (.cons rg .nil), _ =>
      refine ⟨_, rfl, _, _, _, _, true, rfl, .ty "tuple", ty_t ha, kit_ty (by decide +kernel), _, rfl, iteF ?_⟩
      refine ⟨_, rfl, a, _, rfl, .inr (SqT.of ha), rfl, _, rfl, iteF ?_⟩
      refine ⟨_, rfl, a, [vb, vg], rfl, SqT.of ha, rfl, vb, [vg], rfl, vg, [], rfl, rfl, ?_⟩
      have hn' : nod (.t [b, g]) = 1 + (nod b + (nod g + 0)) := rfl
      have last : ∀ H', Same H H' → ∀ c : Bool, (isN b || fok b) = c → tAndV (fun _ H Q => Q (.bl c) H) (tCall spIsForm [] E0 (tCons (tVar 2) tNil)) [some (.ref a), some vb, some vg] H' Q := fun H' sm c hc => by
        refine ⟨c, rfl, ?_⟩
        cases c with
        | true =>
          refine iteT ⟨_, rfl, vg, g, rfl, rg.keep (.same sm), hz.2.1, by omega, fun H2 sm2 => ?_⟩
          have z := q H2 (sm.trans sm2)
          have e : plB (.t [b, g]) = fok g := by
            show ((isN b || fok b) && fok g) = _
            rw [hc, Bool.true_and]
          rw [e] at z
          exact z
        | false =>
          refine iteF ?_
          have z := q H' sm
          have e : plB (.t [b, g]) = false := by
            show ((isN b || fok b) && fok g) = _
            rw [hc, Bool.false_and]
          rw [e] at z
          exact z
      refine ⟨_, rfl, _, rfl, ?_⟩
      cases rb with
      | n => exact iteT (last H (Same.refl H) true rfl)
      | s z => exact iteF ⟨_, rfl, .str z, .s z, rfl, .s z, hz.1, by omega, fun H2 sm2 => last H2 sm2 _ rfl⟩
      | t hb rab => exact iteF ⟨_, rfl, _, _, rfl, .t hb rab, hz.1, by omega, fun H2 sm2 => last H2 sm2 _ rfl⟩
/-! ### rule -/
theorem scRule : FnScope ["whole", "places", "place"] ((["whole"] : List Str) ++ (["places"] : List Str)) (defScope sRule) := ⟨rfl, rfl, rfl, by decide +kernel, rfl, by decide +kernel, by decide +kernel⟩
def ruleB (ps : List Fd) (h : Fd) : Bool := (decide (ps.length ≤ 3) && ps.all plB) && fok h
/-- what rule promises, of its arguments -/
def RuleP (CR : Addr) (rest : List V) (vh : V) (H : Hp) (Q : VK) (E : XK) : Prop := ∃ (ps : List Fd) (h : Fd), RpA H rest ps ∧ (∀ d ∈ ps, Pr d) ∧ Rp H vh h ∧ szka ps ∧ noda ps ≤ 800 ∧ szk h ∧ nod h ≤ 900 ∧
  (ruleB ps h = true → ∀ H' t tp, Same H H' → H' tp = some (.tup rest) → H' t = some (.tup [.ref tp, vh]) → Q (.ref t) H') ∧ (ruleB ps h = false → ∀ H', Same H H' → E (.ref CR) none H')
def spRule (CR : Addr) : List V → Sp := fun zs vs H Q E => ∃ vh, zs = [vh] ∧ RuleP CR vs vh H Q E
theorem szk_mem : ∀ {ds : List Fd} {d : Fd}, szka ds → d ∈ ds → szk d
  | e :: ds, d, h, hm => by
    rcases List.mem_cons.mp hm with rfl | hm
    · exact h.1
    · exact szk_mem h.2 hm
theorem nod_mem : ∀ {ds : List Fd} {d : Fd}, d ∈ ds → nod d ≤ noda ds
  | e :: ds, d, hm => by
    show nod d ≤ nod e + noda ds
    rcases List.mem_cons.mp hm with rfl | hm
    · omega
    · have := nod_mem hm
      omega
theorem RpA.get? {H : Hp} : ∀ {vs : List V} {ds : List Fd} {j : Nat} {v : V}, RpA H vs ds → vs[j]? = some v → ∃ d, ds[j]? = some d ∧ Rp H v d
  | _, [], _, _, .nil, h => by simp at h
  | _, _ :: _, 0, _, .cons h0 a, h => ⟨_, rfl, by
    have := Option.some.inj h
    rw [← this]
    exact h0⟩
  | _, _ :: _, j + 1, _, .cons h0 a, h => RpA.get? (j := j) a h
theorem ok_rule {f fP fI CR : Addr} {fd fdP fdI : FuncData} (F : Fun K "rule" "rule" sRule f fd) (FP : Fun K "_is_place" "_is_place" sIsPlace fP fdP) (bP : Binds K fdP ["place"] []) (gP : mg "_is_place" = some (.ref fP)) (GP : FnOk P w K mg base CX0 3 fP fdP ["place"] spPl)
    (FI : Fun K "is_form" "is_form" sIsForm fI fdI) (bI : Binds K fdI ["row"] []) (gI : mg "is_form" = some (.ref fI)) (GI : FnOk P w K mg base CX0 2 fI fdI ["row"] spIsForm) (ml : mg "len" = none) (ma : mg "all" = none) (eR : ErrC K mg "BadRule" CR) :
    StX.FnKw P w K mg base (L2.CX P w) 4 f ["whole"] (spRule CR) := by
  obtain ⟨oc, od, kV, doc, pm, an, cdv, ct, osl, rfl, lk, hcd⟩ := F.ex
  refine StX.FnKw.imp (StX.fn_starK (kn := "whole") (pv := "places") (k := 3) (sp := fun vs H Q E => ∃ (vh : V) (p : Addr) (rest : List V), vs = [vh, .ref p] ∧ H p = some (.tup rest) ∧ RuleP CR rest vh H Q E) lk hcd scRule StX.cxUp
    (fun us u => match us with | [] => (by with_unfolding_all rfl) | a :: r => (by with_unfolding_all rfl)) fun A outer s H vs Q E hr h => ?_) ?_
  · obtain ⟨vh, p, rest, rfl, hp, ps, h, ra, pr, rh, sz, nn, szh, nnh, good, bad⟩ := h
    have hr2 : Room 2 _ := hr.mono (by decide)
    refine ⟨_, pss_cons (ps_if (PW.pt (pw_or (pt_cmpR op_gt (pe_callB call_len_seq (by rfl) ml PySem.boot_len (pa_cons (pv 1) pa_nil)) pe_int (nomark _))
        (pw_or1 (pt_not (pt_val (pe_callB (cr_all (by rfl)) (by rfl) ma (by decide +kernel) (pa_cons
          (pe_lc (own := [("place", 2)]) (g := gName 2) (tt := tYes) (by rfl) scRule.nd (pi_tup (pv 1))
            (blkOk_by (own := [("place", 2)]) (N := ["whole", "places", "place"]) (sc := defScope sRule) (by decide +kernel))
            (fun _ _ _ _ _ => pg_name (i := 2) scRule.nd rfl (Or.inl rfl)) (fun _ _ _ _ _ => pts_nil)
            (fun _ _ _ _ _ => pe_call GP hr (by rfl) gP FP.kp bP .nil pass0 (pa_cons (pv 2) pa_nil))) pa_nil)))))))
        (pss_one (ps_raise rfl (takes_of rfl rfl rfl rfl) (pmk_own PySem.F.excBase_ValueError eR.ex eR.g eR.kp (raises_own eR.sb eR.ty) rfl))) pss_nil)
      (pss_cons (ps_if (pt_not (pt_val (pe_call GI hr2 (by rfl) gI FI.kp bI .nil pass0 (pa_cons (pv 0) pa_nil))))
        (pss_one (ps_raise rfl (takes_of rfl rfl rfl rfl) (pmk_own PySem.F.excBase_ValueError eR.ex eR.g eR.kp (raises_own eR.sb eR.ty) rfl))) pss_nil)
      (pss_one (ps_ret (pe_tup (pa_cons (pv 1) (pa_cons (pv 0) pa_nil)))))), ?_⟩
    have hl := ra.length
    have hln := len_noda ps
    refine ⟨_, rfl, p, rest, rfl, .inr (SqT.of hp), _, _, rfl, rfl, _, rfl, ite2 (fun c => ?_) (fun c => ?_)⟩
    · have c3 : (((rest.length : Nat) : Int)) > 3 := of_decide_eq_true c
      refine iteT (bad ?_ H (Same.refl H))
      unfold ruleB
      rw [decide_eq_false (show ¬ ps.length ≤ 3 by omega)]
      simp
    · have c3 : ¬ (((rest.length : Nat) : Int)) > 3 := of_decide_eq_false (Bool.eq_false_iff.mpr c)
      have h3 : ps.length ≤ 3 := by omega
      have rb : ruleB ps h = (ps.all plB && fok h) := by
        unfold ruleB
        rw [decide_eq_true h3, Bool.true_and]
      refine ⟨_, rfl, p, rfl, ⟨_, SqT.of hp⟩, fun D nD => ?_⟩
      refine lc_tup (K := K) (a := p) (xs := rest) (fun i H' => Same H H' ∧ H' D = some (.lst (((ps.take i).map plB).map V.bl)))
        ⟨same_upd nD, upd_same⟩ (fun i H' _ hW => SqT.of (hW.1 _ _ hp)) (fun i x H' hx hW => ?_) (fun H' hW => ?_)
      · obtain ⟨sm, eD⟩ := hW
        obtain ⟨d, hd, rd⟩ := ra.get? hx
        have hm : d ∈ ps := List.mem_of_getElem? hd
        have := nod_mem hm
        refine ⟨rfl, tyes ?_⟩
        refine ⟨_, rfl, x, d, rfl, rd.keep (.same sm), pr d hm, szk_mem sz hm, by omega, fun H2 sm2 => ⟨_, sm2 _ _ eD, ?_, fun b o e => ?_, ?_⟩⟩
        · rw [List.length_map, List.length_map, List.length_take]
          exact small1000 (by omega)
        · rw [upd_ne (ne_of_none e nD)]
          exact sm2 _ _ (sm _ _ e)
        · rw [upd_same, List.take_add_one, hd, List.map_append, List.map_append]
          rfl
      · obtain ⟨sm, eD⟩ := hW
        rw [List.take_of_length_le (by omega)] at eD
        refine ⟨D, _, rfl, SqL.of eD, _, rfl, ?_⟩
        have ea : (ps.map plB).all id = ps.all plB := by rw [List.all_map]; rfl
        rw [ea]
        cases hall : ps.all plB with
        | false =>
          rw [hall, Bool.false_and] at rb
          exact iteT (bad rb H' sm)
        | true =>
          rw [hall, Bool.true_and] at rb
          refine iteF ⟨_, rfl, vh, h, rfl, rh.keep (.same sm), szh, nnh, fun H2 sm2 => ⟨_, rfl, ?_⟩⟩
          cases hf : fok h with
          | false =>
            rw [hf] at rb
            exact iteT (bad rb H2 (sm.trans sm2))
          | true =>
            rw [hf] at rb
            refine iteF ⟨_, rfl, _, rfl, (by show 2 ≤ sizeLine; decide), fun t nt => ?_⟩
            exact good rb _ t p ((sm.trans sm2).trans (same_upd nt)) (same_upd nt _ _ (sm2 _ _ (sm _ _ hp))) upd_same
  · rintro zs vs H Q E ⟨vh, rfl, ps, h, ra, pr, rh, sz, nn, szh, nnh, good, bad⟩
    have hl := ra.length
    have hln := len_noda ps
    refine ⟨vh, rfl, Nat.le_of_lt (small1000 (by omega)), fun p np => ⟨vh, p, vs, rfl, upd_same, ps, h, ra.keep (.new np), pr, rh.keep (.new np), sz, nn, szh, nnh, fun hf H' t tp sm e1 e2 => good hf H' t tp ((same_upd np).trans sm) e1 e2, fun hf H' sm => bad hf H' ((same_upd np).trans sm)⟩⟩
end
end KN
set_option Elab.async false
set_option linter.all false
set_option maxRecDepth 100000
set_option maxHeartbeats 400000
namespace KN
open PySem PySem.Spec PyProof.Rows L2
section
variable {P : Program} {w : World} {K : PySem.W.Frag} {mg : Str → Option Value} {base : Heap}
/-! ### rule_of -/
theorem scRO : FnScope ["_law_row", "_law_head"] ["_law_row", "_law_head"] (defScope sRuleOf) := ⟨rfl, rfl, rfl, by decide +kernel, rfl, by decide +kernel, by decide +kernel⟩
def spRO (CR : Addr) : Sp := fun vs H Q E => ∃ (b : Addr) (rest : List V) (vh : V), vs = [.ref b, vh] ∧ H b = some (.lst rest) ∧ rest.length ≤ 4 ∧ RuleP CR rest vh H Q E
theorem ok_RO {f fR CR : Addr} {fd fdR : FuncData} (F : Fun K "_law_rule_of" "_law_rule_of" sRuleOf f fd) (FR : Fun K "rule" "rule" sRule fR fdR) (gR : mg "rule" = some (.ref fR))
    (GR : StX.FnKw P w K mg base (L2.CX P w) 4 fR ["whole"] (spRule CR)) (ml : mg "len" = none) : FnOk P w K mg base (L2.CX P w) 5 f fd ["_law_row", "_law_head"] (spRO CR) := by
  refine F.okX scRO (fun vs H Q E h => ?_) (fun cdv A outer s H vs Q E hr h => ?_)
  · obtain ⟨b, rest, vh, rfl, _⟩ := h
    rfl
  obtain ⟨b, rest, vh, rfl, hb, h4, hp⟩ := h
  refine ⟨_, pss_cons (ps_if (pt_cmpR op_eq (pe_callB call_len_seq (by rfl) ml PySem.boot_len (pa_cons (pv 0) pa_nil)) pe_int (nomark _))
      (pss_one (ps_ret (StX.pe_kw0 GR hr (by rfl) gR FR.kp (passes_call (takes_of rfl rfl rfl rfl) (fun _ _ _ _ h => h)) (pk_cons (pv 1) pk_nil)))) pss_nil)
    (pss_cons (ps_if (pt_cmpR op_eq (pe_callB call_len_seq (by rfl) ml PySem.boot_len (pa_cons (pv 0) pa_nil)) pe_int (nomark _))
      (pss_one (ps_ret (StX.pe_kw GR hr (by rfl) gR FR.kp (passes_call (takes_of rfl rfl rfl rfl) (fun _ _ _ _ h => h)) (pa_cons (pe_ix ix_list (pv 0) pe_int (fun _ _ => rfl)) pa_nil) (pk_cons (pv 1) pk_nil)))) pss_nil)
    (pss_cons (ps_if (pt_cmpR op_eq (pe_callB call_len_seq (by rfl) ml PySem.boot_len (pa_cons (pv 0) pa_nil)) pe_int (nomark _))
      (pss_one (ps_ret (StX.pe_kw GR hr (by rfl) gR FR.kp (passes_call (takes_of rfl rfl rfl rfl) (fun _ _ _ _ h => h)) (pa_cons (pe_ix ix_list (pv 0) pe_int (fun _ _ => rfl)) (pa_cons (pe_ix ix_list (pv 0) pe_int (fun _ _ => rfl)) pa_nil)) (pk_cons (pv 1) pk_nil)))) pss_nil)
    (pss_cons (ps_if (pt_cmpR op_eq (pe_callB call_len_seq (by rfl) ml PySem.boot_len (pa_cons (pv 0) pa_nil)) pe_int (nomark _))
      (pss_one (ps_ret (StX.pe_kw GR hr (by rfl) gR FR.kp (passes_call (takes_of rfl rfl rfl rfl) (fun _ _ _ _ h => h)) (pa_cons (pe_ix ix_list (pv 0) pe_int (fun _ _ => rfl)) (pa_cons (pe_ix ix_list (pv 0) pe_int (fun _ _ => rfl)) (pa_cons (pe_ix ix_list (pv 0) pe_int (fun _ _ => rfl)) pa_nil))) (pk_cons (pv 1) pk_nil)))) pss_nil)
    (pss_one (ps_ret (StX.pe_kw GR hr (by rfl) gR FR.kp (passes_call (takes_of rfl rfl rfl rfl) (fun _ _ _ _ h => h)) (pa_cons (pe_ix ix_list (pv 0) pe_int (fun _ _ => rfl)) (pa_cons (pe_ix ix_list (pv 0) pe_int (fun _ _ => rfl)) (pa_cons (pe_ix ix_list (pv 0) pe_int (fun _ _ => rfl)) (pa_cons (pe_ix ix_list (pv 0) pe_int (fun _ _ => rfl)) pa_nil)))) (pk_cons (pv 1) pk_nil))))))), ?_⟩
  have hs : SqL K H b rest := SqL.of hb
  have len_of : ∀ {n : Nat}, decide (V.int ((rest.length : Nat) : Int) = V.int ((n : Nat) : Int)) = true → rest.length = n := fun {n} c => by
    have := V.int.inj (of_decide_eq_true c)
    omega
  have ne_of' : ∀ {n : Nat}, ¬ decide (V.int ((rest.length : Nat) : Int) = V.int ((n : Nat) : Int)) = true → rest.length ≠ n := fun {n} c e => c (decide_eq_true (by rw [e]))
  refine ⟨_, rfl, b, _, rfl, .inl hs, rfl, _, rfl, ite2 (fun c => ?_) (fun c0 => ?_)⟩
  · have e := len_of (n := 0) c
    obtain rfl : rest = [] := List.length_eq_zero_iff.mp e
    exact ⟨_, rfl, vh, rfl, hp⟩
  refine ⟨_, rfl, b, _, rfl, .inl hs, rfl, _, rfl, ite2 (fun c => ?_) (fun c1 => ?_)⟩
  · have e := len_of (n := 1) c
    obtain ⟨a1, rfl⟩ := List.length_eq_one_iff.mp e
    exact ⟨_, rfl, b, _, 0, _, rfl, rfl, hs, atI_nat rfl, _, rfl, vh, rfl, hp⟩
  refine ⟨_, rfl, b, _, rfl, .inl hs, rfl, _, rfl, ite2 (fun c => ?_) (fun c2 => ?_)⟩
  · have e := len_of (n := 2) c
    match rest, e, hs, hp with
    | [a1, a2], _, hs, hp => exact ⟨_, rfl, b, _, 0, _, rfl, rfl, hs, atI_nat rfl, _, rfl, b, _, 1, _, rfl, rfl, hs, atI_nat (j := 1) rfl, _, rfl, vh, rfl, hp⟩
  refine ⟨_, rfl, b, _, rfl, .inl hs, rfl, _, rfl, ite2 (fun c => ?_) (fun c3 => ?_)⟩
  · have e := len_of (n := 3) c
    match rest, e, hs, hp with
    | [a1, a2, a3], _, hs, hp => exact ⟨_, rfl, b, _, 0, _, rfl, rfl, hs, atI_nat rfl, _, rfl, b, _, 1, _, rfl, rfl, hs, atI_nat (j := 1) rfl, _, rfl, b, _, 2, _, rfl, rfl, hs, atI_nat (j := 2) rfl, _, rfl, vh, rfl, hp⟩
  have e : rest.length = 4 := by
    have := ne_of' (n := 0) c0
    have := ne_of' (n := 1) c1
    have := ne_of' (n := 2) c2
    have := ne_of' (n := 3) c3
    omega
  clear c0 c1 c2 c3 ne_of' len_of
  match rest, e, hs, hp with
  | [a1, a2, a3, a4], _, hs, hp => exact ⟨_, rfl, b, _, 0, _, rfl, rfl, hs, atI_nat rfl, _, rfl, b, _, 1, _, rfl, rfl, hs, atI_nat (j := 1) rfl, _, rfl, b, _, 2, _, rfl, rfl, hs, atI_nat (j := 2) rfl, _, rfl, b, _, 3, _, rfl, rfl, hs, atI_nat (j := 3) rfl, _, rfl, vh, rfl, hp⟩
/-! ### refused -/
theorem scRef : FnScope ["_law_row", "_law_head", "e"] ["_law_row", "_law_head"] (defScope sRefused) := ⟨rfl, rfl, rfl, by decide +kernel, rfl, by decide +kernel, by decide +kernel⟩
def spRef : Sp := fun vs H Q _ => ∃ (b : Addr) (rest : List V) (vh : V) (ps : List Fd) (h : Fd), vs = [.ref b, vh] ∧ H b = some (.lst rest) ∧ rest.length ≤ 4 ∧ RpA H rest ps ∧ (∀ d ∈ ps, Pr d) ∧ Rp H vh h ∧ szka ps ∧ noda ps ≤ 800 ∧ szk h ∧ nod h ≤ 900 ∧ ruleB ps h = false ∧
  ∀ H', Same H H' → Q (.bl true) H'
theorem ok_ref {f fO CR CN CB : Addr} {fd fdO : FuncData} (F : Fun K "_law_refused" "_law_refused" sRefused f fd) (FO : Fun K "_law_rule_of" "_law_rule_of" sRuleOf fO fdO) (bO : Binds K fdO ["_law_row", "_law_head"] []) (gO : mg "_law_rule_of" = some (.ref fO))
    (GO : FnOk P w K mg base (L2.CX P w) 5 fO fdO ["_law_row", "_law_head"] (spRO CR)) (mI : mg "isinstance" = none) (eR : ErrC K mg "BadRule" CR) (gN : mg "NotesError" = some (.ref CN)) (gB : mg "BadKind" = some (.ref CB))
    (eN : PySem.W.exmOne K (.ref CR) (.ref CN) = some true) (k1 : PySem.W.kitOne K (.ref CR) (.ref CR) = some true) (k3 : PySem.W.kitOne K (.ref CR) (.ref CB) = some false) :
    FnOk P w K mg base CX0 6 f fd ["_law_row", "_law_head"] spRef := by
  refine F.ok scRef (fun vs H Q E h => ?_) (fun cdv A outer s H vs Q E hr h => ?_)
  · obtain ⟨b, rest, vh, ps, h, rfl, _⟩ := h
    rfl
  obtain ⟨b, rest, vh, ps, h, rfl, hb, h4, ra, pr, rh, sz, nn, szh, nnh, bad, q⟩ := h
  refine ⟨_, pss_cons (ps_try_as (i := 2) (ts := fun a cls d D σ H => (cls = .ref CR ∧ d = none) ∧ σ[2]? = some (some (.ref a)) ∧ D.rt (.bl true) H) (Wout := fun _ _ _ _ => False) rfl rfl scRef.nd rfl rfl ⟨rfl, by decide, .inl gN⟩ takes0
      (fun W pn xe tk _ => pss_one (ps_expr (pe_callS GO hr (by rfl) gO FO.kp bO (fun σ => passAt tk σ) (pa_cons (pv 0) (pa_cons (pv 1) pa_nil)))))
      (fun a oe cls d pn hz hf => ⟨fun pins s' σ H D I hx => ?_⟩))
    (pss_one (ps_ret pe_bl)), ?_⟩
  · obtain ⟨⟨rfl, rfl⟩, hσ, hq⟩ := hx
    refine (pss_one (ps_ret (pe_and (pe_callB (call_isE eR.ec hz hf) (by rfl) mI (by decide +kernel) (pa_cons (pv 2) (pa_cons (pe_glob (v := .ref CR) (by rfl) eR.g rfl) pa_nil)))
      (pe_one (pe_not (pe_callB (call_isE eR.ec hz hf) (by rfl) mI (by decide +kernel) (pa_cons (pv 2) (pa_cons (pe_glob (v := .ref CB) (by rfl) gB rfl) pa_nil))))))) : PSs _ _ _).run pins s' σ H D I ?_
    refine ⟨_, hσ, .ref CR, .ref CR, true, rfl, fun u r => r, k1, _, rfl, iteT ?_⟩
    exact ⟨_, hσ, .ref CB, .ref CB, false, rfl, fun u r => r, k3, _, rfl, hq⟩
  · refine ⟨_, rfl, _, rfl, b, rest, vh, rfl, hb, h4, ps, h, ra, pr, rh, sz, nn, szh, nnh, fun hf => ?_, fun _ H' sm => ?_⟩
    · rw [bad] at hf
      cases hf
    · exact ⟨true, eN, fun _ a ha => ⟨⟨rfl, rfl⟩, rfl, q H' sm⟩, fun z => nomatch z⟩
/-! ### place -/
theorem scPlace : FnScope ["_law_tape_here", "_law_bound"] ["_law_tape_here"] (defScope sPlace) := ⟨rfl, rfl, rfl, by decide +kernel, rfl, by decide +kernel, by decide +kernel⟩
def spPlace : Sp := fun vs H Q _ => ∃ (p : Addr), vs = [.ref p] ∧ Tp H p ∧ ∀ (H' : Hp) (v : V) (d : Fd), But p H H' → Tp H' p → Rp H' v d → plB d = true → Pr d → szk d → nod d ≤ 30 → lay d = true → dep d ≤ 3 → Q v H'
theorem ok_place {f fT fP : Addr} {fd fdT fdP : FuncData} (F : Fun K "_law_place" "_law_place" sPlace f fd) (FT : Fun K "_law_take" "_law_take" sTake fT fdT) (bT : Binds K fdT ["_law_tape_here", "_law_many"] []) (gT : mg "_law_take" = some (.ref fT)) (GT : FnOk P w K mg base CX0 1 fT fdT ["_law_tape_here", "_law_many"] spTake)
    (FP : Fun K "_law_pattern" "_law_pattern" sPattern fP fdP) (bP : Binds K fdP ["_law_tape_here", "_law_depth"] []) (gP : mg "_law_pattern" = some (.ref fP)) (GP : FnOk P w K mg base CX0 5 fP fdP ["_law_tape_here", "_law_depth"] (spPat 3)) :
    FnOk P w K mg base CX0 6 f fd ["_law_tape_here"] spPlace := by
  refine F.ok scPlace (fun vs H Q E h => ?_) (fun cdv A outer s H vs Q E hr h => ?_)
  · obtain ⟨p, rfl, _⟩ := h
    rfl
  obtain ⟨p, rfl, hT, q⟩ := h
  have hr1 : Room 1 _ := hr.mono (by decide)
  refine ⟨_, pss_cons (ps_set (i := 1) scPlace.nd rfl (.inl rfl) pe_non)
    (pss_cons (ps_if (pt_cmpR op_eq (pe_call GT hr1 (by rfl) gT FT.kp bT .nil pass0 (pa_cons (pv 0) (pa_cons pe_int pa_nil))) pe_int (nomark _))
      (pss_one (ps_set (i := 1) scPlace.nd rfl (.inl rfl) (pe_call GP hr (by rfl) gP FP.kp bP .nil pass0 (pa_cons (pv 0) (pa_cons pe_int pa_nil))))) pss_nil)
    (pss_one (ps_ret (pe_tup (pa_cons (pv 1) (pa_cons (pe_call GP hr (by rfl) gP FP.kp bP .nil pass0 (pa_cons (pv 0) (pa_cons pe_int pa_nil))) pa_nil)))))), ?_⟩
  have fin : ∀ (H1 : Hp) (vb : V) (b : Fd), But p H H1 → Tp H1 p → Rp H1 vb b → (isN b || fok b) = true → szk b → nod b ≤ 5 → lay b = true → dep b ≤ 2 →
      tRet (tTup (tCons (tVar 1) (tCons (tCall (spPat 3) [] E0 (tCons (tVar 0) (tCons (tC (V.int 2)) tNil))) tNil))) { nx := fun _ H' => Q .non H', rt := Q } [some (.ref p), some vb] H1 := fun H1 vb b b1 t1 rb okb szb nb lb db => by
    refine ⟨_, rfl, _, rfl, p, 2, rfl, t1, by decide, fun H2 v d b2 t2 rd okd dd => ⟨(by show 2 ≤ sizeLine; decide), fun t nt => ?_⟩⟩
    have nd := nod_le d 2 okd dd
    refine q _ (.ref t) (.t [b, d]) ((b1.trans b2).trans (.of (same_upd nt))) (t2.same (same_upd nt)) (.t upd_same (.cons ((rb.keep (Keep.but b2 t1)).keep (.new nt)) (.cons (rd.keep (.new nt)) .nil))) ?_ trivial ⟨szb, szk_of d okd, trivial⟩ ?_ ?_ ?_
    · show ((isN b || fok b) && fok d) = true
      rw [okb, okd]
      rfl
    · show 1 + (nod b + (nod d + 0)) ≤ 30
      omega
    · show (lay b && (lay d && true)) = true
      rw [lb, lay_of d okd]
      rfl
    · show 1 + max (dep b) (max (dep d) 0) ≤ 3
      omega
  refine ⟨_, rfl, p, 2, rfl, hT, by decide, fun H1 r b1 t1 hr2 => ⟨rfl, _, rfl, ite2 (fun _ => ?_) (fun _ => ?_)⟩⟩
  · refine ⟨_, rfl, p, 1, rfl, t1, by decide, fun H2 v d b2 t2 rd okd dd => ?_⟩
    have nd := nod_le d 1 okd dd
    exact fin H2 v d (b1.trans b2) t2 rd (by rw [okd, Bool.or_true]) (szk_of d okd) (by omega) (lay_of d okd) (by omega)
  · exact fin H1 .non .n b1 t1 .n rfl trivial (by decide) rfl (by decide)
end
end KN
set_option Elab.async false
set_option linter.all false
set_option maxRecDepth 100000
set_option maxHeartbeats 1000000
namespace KN
open PySem PySem.Spec PyProof.Rows L2
structure Txt (P : Program) (w : World) (K : PySem.W.Frag) (mg : Str → Option Value) (base : Heap) (fTp fT fL fP fO fR CR : Addr) (fdTp fdT fdL fdP fdO fdR : FuncData) : Prop where
  GTp : FnOk P w K mg base CX0 2 fTp fdTp ["_law_script", "_law_k", "_law_size"] (spTape K)
  gTp : mg "_law_tape" = some (.ref fTp)
  kTp : PySem.W.keepIn K (.ref fTp) = true
  bTp : Binds K fdTp ["_law_script", "_law_k", "_law_size"] []
  GT : FnOk P w K mg base CX0 1 fT fdT ["_law_tape_here", "_law_many"] spTake
  gT : mg "_law_take" = some (.ref fT)
  kT : PySem.W.keepIn K (.ref fT) = true
  bT : Binds K fdT ["_law_tape_here", "_law_many"] []
  GL : FnOk P w K mg base CX0 6 fL fdL ["_law_tape_here"] spPlace
  gL : mg "_law_place" = some (.ref fL)
  kL : PySem.W.keepIn K (.ref fL) = true
  bL : Binds K fdL ["_law_tape_here"] []
  GP : FnOk P w K mg base CX0 5 fP fdP ["_law_tape_here", "_law_depth"] (spPat 3)
  gP : mg "_law_pattern" = some (.ref fP)
  kP : PySem.W.keepIn K (.ref fP) = true
  bP : Binds K fdP ["_law_tape_here", "_law_depth"] []
  GO : FnOk P w K mg base (L2.CX P w) 5 fO fdO ["_law_row", "_law_head"] (spRO CR)
  gO : mg "_law_rule_of" = some (.ref fO)
  kO : PySem.W.keepIn K (.ref fO) = true
  bO : Binds K fdO ["_law_row", "_law_head"] []
  GR : FnOk P w K mg base CX0 6 fR fdR ["_law_row", "_law_head"] spRef
  gR : mg "_law_refused" = some (.ref fR)
  kR : PySem.W.keepIn K (.ref fR) = true
  bR : Binds K fdR ["_law_row", "_law_head"] []
  ml : mg "len" = none
  mr : mg "range" = none
  mt : mg "tuple" = none
  mL : mg "list" = none
  mI : mg "isinstance" = none
/-! ### the law's own data -/
abbrev sz' (s : String) : Fd := .s (Str.ofString s)
def oddD : List Fd := [sz' "", sz' "ab", sz' "a", sz' "QR", .t [], .t [sz' ""], .t [sz' "ab", sz' "q"], .t [sz' "ab", sz' "A", sz' "B", sz' "C", sz' "D"], .t [sz' "ab", .t []], .t [sz' "ab", .t [sz' "cd", .t [sz' "E"]]]]
def threeD : List Fd := [.t [.n, sz' "A"], .t [.t [sz' "ab", sz' "B"], .t [sz' "cd"]], .t [sz' "C", .t [sz' "ab", sz' "A"]]]
theorem small_s (s : String) (h : (Str.ofString s).length ≤ 12) : (Str.ofString s).length ≤ sizeLine := Nat.le_of_lt (small1000 (by omega))
theorem szka_get : ∀ {l : List Fd} {i : Nat} {d : Fd}, szka l → l[i]? = some d → szk d
  | [], _, _, _, h => by simp at h
  | x :: r, 0, d, hs, h => by
    have := Option.some.inj h
    rw [← this]
    exact hs.1
  | x :: r, i + 1, d, hs, h => szka_get (l := r) (i := i) hs.2 h
theorem odd_at {j : Nat} (h : j < 10) : ∃ d, oddD[j]? = some d ∧ fok d = false ∧ isN d = false ∧ nod d ≤ 20 ∧ szk d := by
  have sz : szka oddD := by
    simp only [oddD, szka, szk]
    refine ⟨small_s _ ?_, small_s _ ?_, small_s _ ?_, small_s _ ?_, trivial, ⟨small_s _ ?_, trivial⟩, ⟨small_s _ ?_, small_s _ ?_, trivial⟩, ⟨small_s _ ?_, small_s _ ?_, small_s _ ?_, small_s _ ?_, small_s _ ?_, trivial⟩, ⟨small_s _ ?_, trivial, trivial⟩, ⟨small_s _ ?_, ⟨small_s _ ?_, ⟨small_s _ ?_, trivial⟩, trivial⟩, trivial⟩, trivial⟩ <;> decide +kernel
  have key : ∀ i : Fin 10, (oddD[i.val]?.map fun d => (fok d, isN d, decide (nod d ≤ 20))) = some (false, false, true) := by decide +kernel
  have k := key ⟨j, h⟩
  simp only at k
  cases e : oddD[j]? with
  | none =>
    rw [e] at k
    cases k
  | some d =>
    rw [e] at k
    have k1 := Option.some.inj k
    exact ⟨d, rfl, congrArg (fun x => x.1) k1, congrArg (fun x => x.2.1) k1, of_decide_eq_true (congrArg (fun x => x.2.2) k1), szka_get sz e⟩
theorem three_sz : szka threeD := by
  simp only [threeD, szka, szk]
  refine ⟨⟨trivial, small_s _ ?_, trivial⟩, ⟨⟨small_s _ ?_, small_s _ ?_, trivial⟩, ⟨small_s _ ?_, trivial⟩, trivial⟩, ⟨small_s _ ?_, ⟨small_s _ ?_, small_s _ ?_, trivial⟩, trivial⟩, trivial⟩ <;> decide +kernel
theorem three_ok : threeD.all plB = true ∧ lays threeD = true ∧ deps threeD ≤ 3 ∧ noda threeD ≤ 20 := ⟨by decide +kernel, by decide +kernel, by decide +kernel, by decide +kernel⟩
theorem three_pr : ∀ d ∈ threeD, Pr d := by
  intro d hd
  simp only [threeD, List.mem_cons, List.not_mem_nil, or_false] at hd
  rcases hd with rfl | rfl | rfl <;> trivial
theorem all_set : ∀ {ds : List Fd} {j : Nat} {d : Fd}, j < ds.length → plB d = false → (ds.set j d).all plB = false
  | [], _, _, h, _ => by simp at h
  | e :: ds, 0, d, _, h => by
    show (plB d && ds.all plB) = false
    rw [h]
    rfl
  | e :: ds, j + 1, d, hj, h => by
    show (plB e && (ds.set j d).all plB) = false
    rw [all_set (by simpa using hj) h]
    simp
theorem pr_set {ds : List Fd} {j : Nat} {d : Fd} (h : ∀ x ∈ ds, Pr x) (hd : Pr d) : ∀ x ∈ ds.set j d, Pr x := fun x hx => by
  rcases List.mem_or_eq_of_mem_set hx with hx | rfl
  · exact h x hx
  · exact hd
theorem cut_set {a b c x : V} {r : Nat} (h : r < 3) : cutV [a, b, c] none (some (r : Int)) ++ [x] ++ cutV [a, b, c] (some ((r : Int) + 1)) none = [a, b, c].set r x := by
  match r, h with
  | 0, _ => rfl
  | 1, _ => rfl
  | 2, _ => rfl
theorem lays_snoc : ∀ {ds : List Fd} {d : Fd}, lays (ds ++ [d]) = (lays ds && lay d)
  | [], d => by simp [lays]
  | e :: ds, d => by
    show (lay e && lays (ds ++ [d])) = ((lay e && lays ds) && lay d)
    rw [lays_snoc, Bool.and_assoc]
section
variable {P : Program} {w : World} {K : PySem.W.Frag} {mg : Str → Option Value} {base : Heap} {fTp fT fL fP fO fR CR : Addr} {fdTp fdT fdL fdP fdO fdR : FuncData}
abbrev NL : List Str := ["_law_script", "_law_tape_here", "_law_row", "_law_head", "_law_made", "_law_odd", "_law_other", "_law_bad", "_law_at", "_law_three", "_law_bound_bad", "_law_form_bad", "_law_k"]
theorem scL : FnScope NL ["_law_script"] (defScope sLaw) := ⟨rfl, rfl, rfl, by decide +kernel, rfl, by decide +kernel, by decide +kernel⟩
def spLaw (K : PySem.W.Frag) : Sp := fun vs H Q _ => ∃ (a : Addr) (ns : List Int), vs = [.ref a] ∧ SqL K H a (ns.map V.int) ∧ ns.length ≤ 63 ∧ ∀ H', Q (.bl true) H'
theorem ok_law {f : Addr} {fd : FuncData} (F : Fun K "law" "law" sLaw f fd) (T : Txt P w K mg base fTp fT fL fP fO fR CR fdTp fdT fdL fdP fdO fdR) : FnOk P w K mg base CX0 7 f fd ["_law_script"] (spLaw K) := by
  refine F.ok scL (fun vs H Q E h => ?_) (fun cdv A outer s H vs Q E hr h => ?_)
  · obtain ⟨a, ns, rfl, _⟩ := h
    rfl
  obtain ⟨a, ns, rfl, hS, hlen, q⟩ := h
  have hr1 : Room 1 _ := hr.mono (by decide)
  have hr2 : Room 2 _ := hr.mono (by decide)
  have hr5 : Room 5 _ := hr.mono (by decide)
  refine ⟨_, pss_cons (ps_set (i := 1) scL.nd rfl (.inr rfl) (pe_call T.GTp hr2 (by rfl) T.gTp T.kTp T.bTp .nil pass0 (pa_cons (pv 0) (pa_cons pe_int (pa_cons pe_int pa_nil)))))
    (pss_cons (ps_setLc (i := 2) (own := [("_law_k", 12)]) (g := gName 12) (tt := tYes) (by rfl) scL.nd rfl rfl (sw_true rfl rfl rfl (by decide +kernel))
      (pi_range1 (by rfl) T.mr (pa_cons (pe_call T.GT hr1 (by rfl) T.gT T.kT T.bT .nil pass0 (pa_cons (pv 1) (pa_cons pe_int pa_nil))) pa_nil))
      (blkOk_by (own := [("_law_k", 12)]) (N := NL) (sc := defScope sLaw) (by decide +kernel))
      (fun _ _ _ _ _ => pg_name (i := 12) scL.nd rfl (Or.inl rfl)) (fun _ _ _ _ _ => pts_nil)
      (fun _ _ _ _ _ => pe_call T.GL hr (by rfl) T.gL T.kL T.bL .nil pass0 (pa_cons (pv 1) pa_nil)))
    (pss_cons (ps_set (i := 3) scL.nd rfl (.inl rfl) (pe_call T.GP hr5 (by rfl) T.gP T.kP T.bP .nil pass0 (pa_cons (pe_call T.GTp hr2 (by rfl) T.gTp T.kTp T.bTp .nil pass0 (pa_cons (pv 0) (pa_cons pe_int (pa_cons pe_int pa_nil)))) (pa_cons pe_int pa_nil))))
    (pss_cons (ps_set (i := 4) scL.nd rfl (.inl rfl) (pe_call T.GO hr5 (by rfl) T.gO T.kO T.bO .nil passL (pa_cons (pe_callTy call_list_of (by rfl) T.mL (by decide +kernel) (pa_cons (pv 2) pa_nil)) (pa_cons (pv 3) pa_nil))))
    (pss_cons (ps_if (PW.pt (pw_or (pt_not (pt_val (pe_callB call_isi (by rfl) T.mI (by decide +kernel) (pa_cons (pv 4) (pa_cons (pe_bltn (v := .ty "tuple") (by rfl) T.mt (by decide +kernel) rfl) pa_nil)))))
        (pw_or (pt_cmpR op_ne (pe_callB call_len_seq (by rfl) T.ml PySem.boot_len (pa_cons (pv 4) pa_nil)) pe_int (nomark _))
          (pw_or1 (pt_not (pt_val (pe_callB call_isi (by rfl) T.mI (by decide +kernel) (pa_cons (pe_ix ix_tup (pv 4) pe_int (fun _ _ => rfl)) (pa_cons (pe_bltn (v := .ty "tuple") (by rfl) T.mt (by decide +kernel) rfl) pa_nil))))))))) (pss_one (ps_ret pe_bl)) pss_nil)
    (pss_cons (ps_if (PW.pt (pw_or (pt_cmpR (op_neD hr.units) (pe_ix ix_tup (pv 4) pe_int (fun _ _ => rfl)) (pe_callTy call_tuple_of (by rfl) T.mt (by decide +kernel) (pa_cons (pv 2) pa_nil)) (nomark _))
        (pw_or1 (pt_cmpR (op_neD hr.units) (pe_ix ix_tup (pv 4) pe_int (fun _ _ => rfl)) (pv 3) (nomark _))))) (pss_one (ps_ret pe_bl)) pss_nil)
    (pss_cons (ps_set (i := 5) scL.nd rfl (.inl rfl) (pe_lst (t := tLits oddD) (lits_cons lit_s (lits_cons lit_s (lits_cons lit_s (lits_cons lit_s (lits_cons (lit_t lits_nil (by decide)) (lits_cons (lit_t (lits_cons lit_s lits_nil) (by decide)) (lits_cons (lit_t (lits_cons lit_s (lits_cons lit_s lits_nil)) (by decide))
        (lits_cons (lit_t (lits_cons lit_s (lits_cons lit_s (lits_cons lit_s (lits_cons lit_s (lits_cons lit_s lits_nil))))) (by decide)) (lits_cons (lit_t (lits_cons lit_s (lits_cons (lit_t lits_nil (by decide)) lits_nil)) (by decide))
        (lits_cons (lit_t (lits_cons lit_s (lits_cons (lit_t (lits_cons lit_s (lits_cons (lit_t (lits_cons lit_s lits_nil) (by decide)) lits_nil)) (by decide)) lits_nil)) (by decide)) lits_nil))))))))))))
    (pss_cons (ps_set (i := 6) scL.nd rfl (.inl rfl) (pe_call T.GTp hr2 (by rfl) T.gTp T.kTp T.bTp .nil pass0 (pa_cons (pv 0) (pa_cons pe_int (pa_cons pe_int pa_nil)))))
    (pss_cons (ps_set (i := 7) scL.nd rfl (.inl rfl) (pe_ix ix_list (pv 5) (pe_call T.GT hr1 (by rfl) T.gT T.kT T.bT .nil pass0 (pa_cons (pv 6) (pa_cons (pe_callB call_len_seq (by rfl) T.ml PySem.boot_len (pa_cons (pv 5) pa_nil)) pa_nil))) (fun _ _ => rfl)))
    (pss_cons (ps_set (i := 8) scL.nd rfl (.inl rfl) (pe_call T.GT hr1 (by rfl) T.gT T.kT T.bT .nil pass0 (pa_cons (pv 6) (pa_cons pe_int pa_nil))))
    (pss_cons (ps_set (i := 9) scL.nd rfl (.inl rfl) (pe_lst (t := tLits threeD) (lits_cons (lit_t (lits_cons lits_none (lits_cons lit_s lits_nil)) (by decide)) (lits_cons (lit_t (lits_cons (lit_t (lits_cons lit_s (lits_cons lit_s lits_nil)) (by decide)) (lits_cons (lit_t (lits_cons lit_s lits_nil) (by decide)) lits_nil)) (by decide))
        (lits_cons (lit_t (lits_cons lit_s (lits_cons (lit_t (lits_cons lit_s (lits_cons lit_s lits_nil)) (by decide)) lits_nil)) (by decide)) lits_nil)))))
    (pss_cons (ps_if (pt_cmpR (op_neD hr.units) (pe_call T.GO hr5 (by rfl) T.gO T.kO T.bO .nil passL (pa_cons (pe_callTy call_list_of (by rfl) T.mL (by decide +kernel) (pa_cons (pv 9) pa_nil)) (pa_cons (pv 3) pa_nil)))
        (pe_tup (pa_cons (pe_callTy call_tuple_of (by rfl) T.mt (by decide +kernel) (pa_cons (pv 9) pa_nil)) (pa_cons (pv 3) pa_nil))) (nomark _)) (pss_one (ps_ret pe_bl)) pss_nil)
    (pss_cons (ps_set (i := 10) scL.nd rfl (.inl rfl) (pe_op op_cat (pe_op op_cat (pe_slice sl_list (pv 9) po_none (po_some (pv 8))) (pe_lst (pa_cons (pe_tup (pa_cons (pv 7) (pa_cons pe_str pa_nil))) pa_nil))) (pe_slice sl_list (pv 9) (po_some (pe_op op_add (pv 8) pe_int)) po_none)))
    (pss_cons (ps_set (i := 11) scL.nd rfl (.inl rfl) (pe_op op_cat (pe_op op_cat (pe_slice sl_list (pv 9) po_none (po_some (pv 8))) (pe_lst (pa_cons (pe_tup (pa_cons pe_non (pa_cons (pv 7) pa_nil))) pa_nil))) (pe_slice sl_list (pv 9) (po_some (pe_op op_add (pv 8) pe_int)) po_none)))
    (pss_cons (ps_if (PW.pt (pw_or (pt_not (pt_val (pe_call T.GR hr (by rfl) T.gR T.kR T.bR .nil pass0 (pa_cons (pv 10) (pa_cons (pv 3) pa_nil)))))
        (pw_or (pt_not (pt_val (pe_call T.GR hr (by rfl) T.gR T.kR T.bR .nil pass0 (pa_cons (pv 11) (pa_cons (pv 3) pa_nil)))))
          (pw_or1 (pt_not (pt_val (pe_call T.GR hr (by rfl) T.gR T.kR T.bR .nil pass0 (pa_cons (pv 9) (pa_cons (pv 7) pa_nil))))))))) (pss_one (ps_ret pe_bl)) pss_nil)
    (pss_one (ps_ret (pe_and (pe_call T.GR hr (by rfl) T.gR T.kR T.bR .nil pass0 (pa_cons (pe_op op_cat (pv 9) (pe_lst (pa_cons (pe_tup (pa_cons pe_non (pa_cons pe_str pa_nil))) pa_nil))) (pa_cons (pv 3) pa_nil)))
        (pe_one (pe_call T.GR hr (by rfl) T.gR T.kR T.bR .nil pass0 (pa_cons (pv 2) (pa_cons (pv 7) pa_nil))))))))))))))))))))), ?_⟩
  refine ⟨_, rfl, a, ns, 0, 90, rfl, hS, hlen, by decide, fun H1 p sm1 np t1 => ?_⟩
  refine ⟨_, rfl, p, 4, rfl, t1, by decide, fun H3 r3 b3 t3 h4 => ?_⟩
  have sm3 : Same H H3 := fun b o e => b3 b o (ne_of_none e np) (sm1 _ _ e)
  refine ⟨(r3 : Int), rfl, by omega, by omega, fun D nD => ?_⟩
  have npD : p ≠ D := t3.ne nD
  refine lc_range (lo := 0) (n := r3) (fun i H' => But p H3 H' ∧ Tp H' p ∧ ∃ (vs : List V) (ds : List Fd), H' D = some (.lst vs) ∧ RpA H' vs ds ∧ ds.all plB = true ∧ (∀ d ∈ ds, Pr d) ∧ szka ds ∧ noda ds ≤ 30 * i ∧ lays ds = true ∧ deps ds ≤ 3 ∧ ds.length = i)
    ⟨.of (same_upd nD), t3.same (same_upd nD), [], [], upd_same, .nil, rfl, by simp, trivial, by simp [noda], rfl, Nat.zero_le _, rfl⟩ (fun i H' hi hW => ?_) (fun H4 hW => ?_)
  · obtain ⟨b4, t4, vs, ds, eD, ra, ok, pr, sz, nn, la, dd, hl⟩ := hW
    refine ⟨rfl, tyes ?_⟩
    refine ⟨_, rfl, p, rfl, t4, fun H5 v d b5 t5 rp okd prd szd nnd lad ddd => ?_⟩
    have eD5 := b5 D _ npD.symm eD
    have kp : Keep H' (upd H5 D (.lst (vs ++ [v]))) := (Keep.but b5 t4).trans (.lst eD5)
    refine ⟨vs, eD5, ?_, fun b o nb e => ?_, ?_, vs ++ [v], ds ++ [d], upd_same, (ra.keep kp).snoc (rp.keep (.lst eD5)), ?_, ?_, szka_append sz ⟨szd, trivial⟩, ?_, ?_, ?_, ?_⟩
    · rw [ra.length]
      exact small1000 (by omega)
    · rw [upd_ne (ne_of_none e nD)]
      exact b5 _ _ nb (b4 _ _ nb e)
    · obtain ⟨ns, e, h⟩ := t5
      exact ⟨ns, by rw [upd_ne npD]; exact e, h⟩
    · rw [List.all_append, ok]
      show (true && (plB d && true)) = true
      rw [okd]
      rfl
    · intro x hx
      rcases List.mem_append.mp hx with hx | hx
      · exact pr x hx
      · rw [List.mem_singleton.mp hx]
        exact prd
    · rw [noda_append]
      show noda ds + (nod d + 0) ≤ 30 * (i + 1)
      omega
    · rw [lays_snoc, la, lad]
      rfl
    · rw [deps_snoc]
      omega
    · rw [List.length_append, hl]
      rfl
  obtain ⟨b4, t4, vs, ps, eD, ra, okp, pr, sz, nn, la, dd, hl⟩ := hW
  have sm4 : Same H H4 := fun b o e => b4 b o (ne_of_none e np) (sm3 _ _ e)
  have hvl := ra.length
  -- head
  refine ⟨_, rfl, a, ns, 1, 40, rfl, sm4.seq hS, hlen, by decide, fun H5 p5 sm5 np5 t5 => ?_⟩
  refine ⟨p5, 2, rfl, t5, by decide, fun H6 vh hd b6 t6 rh okh dh => ?_⟩
  have sm46 : Same H4 H6 := fun b o e => b6 b o (ne_of_none e np5) (sm5 _ _ e)
  have sm6 := sm4.trans sm46
  have eD6 := sm46 _ _ eD
  have ra6 := ra.keep (.same sm46)
  have szh := szk_of hd okh
  have lah := lay_of hd okh
  have nnh : nod hd ≤ 900 := by
    have := nod_le hd 2 okh dh
    omega
  have rbt : ruleB ps hd = true := by
    unfold ruleB
    rw [decide_eq_true (show ps.length ≤ 3 by omega), okp, okh]
    rfl
  -- made
  refine ⟨_, rfl, D, vs, rfl, .inl (SqL.of eD6), fun l nl => ?_⟩
  refine ⟨_, rfl, l, vs, vh, rfl, upd_same, by omega, ps, hd, ra6.keep (.new nl), pr, rh.keep (.new nl), sz, by omega, szh, nnh, fun _ H7 t tp sm7' etp et => ?_, fun hf => by rw [rbt] at hf; cases hf⟩
  have sm67 : Same H6 H7 := (same_upd nl).trans sm7'
  have eD7 := sm67 _ _ eD6
  refine ⟨_, rfl, _, _, _, _, true, rfl, .ty "tuple", ty_t et, kit_ty (by decide +kernel), _, rfl, iteF ?_⟩
  refine ⟨_, rfl, t, _, rfl, .inr (SqT.of et), rfl, _, rfl, iteF ?_⟩
  refine ⟨_, rfl, t, _, 0, _, rfl, rfl, SqT.of et, atI_nat rfl, _, _, _, _, true, rfl, .ty "tuple", ty_t etp, kit_ty (by decide +kernel), _, rfl, iteF ?_⟩
  refine ⟨_, rfl, t, _, 0, _, rfl, rfl, SqT.of et, atI_nat rfl, _, rfl, D, vs, rfl, .inl ⟨SqL.of eD7, fun l2 nl2 => ?_⟩⟩
  have sm78 : Same H7 (upd H7 l2 (.tup vs)) := same_upd nl2
  have sm68 := sm67.trans sm78
  have ra8 := ra6.keep (.same sm68)
  have shp : SeqAt.shaped (toPy (.t ps)) = true := shaped_toPy (d := .t ps) la (by show 1 + deps ps ≤ 60; omega)
  refine ⟨_, _, Rp.dp (d := .t ps) (.t (sm78 _ _ etp) ra8), Rp.dp (d := .t ps) (.t upd_same ra8), shp, shp, _, rfl, ?_⟩
  rw [eqv_toPy (d := .t ps) la]
  refine iteF ?_
  have shh := shaped_toPy lah (show dep hd ≤ 60 by omega)
  refine ⟨_, rfl, t, _, 1, _, rfl, rfl, SqT.of (sm78 _ _ et), atI_nat (j := 1) rfl, _, rfl, _, _, Rp.dp (rh.keep (.same sm68)), Rp.dp (rh.keep (.same sm68)), shh, shh, _, rfl, ?_⟩
  rw [eqv_toPy lah]
  refine iteF ?_
  have rh8 := rh.keep (.same sm68)
  have sm8 := sm6.trans sm68
  have eD8 := sm78 _ _ eD7
  generalize upd H7 l2 (.tup vs) = H8 at sm78 sm68 ra8 rh8 sm8 eD8
  -- odd, other, bad, at
  refine fun H9 vo sm9 ro => ⟨by rw [ro.length]; exact Nat.le_of_lt (small1000 (by decide)), fun lo nlo => ?_⟩
  have hol : vo.length = 10 := ro.length
  have sm89 : Same H8 (upd H9 lo (.lst vo)) := sm9.trans (same_upd nlo)
  refine ⟨_, rfl, a, ns, 2, 9, rfl, (sm8.trans sm89).seq hS, hlen, by decide, fun H10 p2 sm10 np2 t10 => ?_⟩
  have elo : H10 lo = some (.lst vo) := sm10 _ _ upd_same
  have nlp : lo ≠ p2 := fun e => by
    rw [← e, upd_same] at np2
    cases np2
  refine ⟨_, rfl, _, rfl, _, rfl, lo, _, rfl, .inl (SqL.of elo), p2, vo.length, rfl, t10, by omega, fun H11 j b11 t11 hj => ?_⟩
  obtain ⟨dj, ej, fj, nj, nnj, sj⟩ := odd_at (j := j) (by omega)
  have rox := (ro.keep (.new nlo)).keep (.same sm10)
  obtain ⟨vj, evj, rj⟩ := (rox.keep (Keep.but b11 t10)).get ej
  refine ⟨lo, _, _, vj, rfl, rfl, SqL.of (b11 _ _ nlp elo), atI_nat evj, ?_⟩
  refine ⟨_, rfl, p2, 3, rfl, t11, by decide, fun H12 at12 b12 t12 hat => ?_⟩
  have sm8_10 : Same H8 H10 := sm89.trans sm10
  have np2' : H8 p2 = none := sm89.free np2
  have sm812 : Same H8 H12 := fun b o e => b12 b o (ne_of_none e np2') (b11 b o (ne_of_none e np2') (sm8_10 _ _ e))
  have rj12 := rj.keep (Keep.but b12 t11)
  -- three
  refine fun H13 v3 sm13 rt => ⟨by rw [rt.length]; exact Nat.le_of_lt (small1000 (by decide)), fun l3 nl3 => ?_⟩
  have h3l : v3.length = 3 := rt.length
  have sm8a : Same H8 (upd H13 l3 (.lst v3)) := (sm812.trans sm13).trans (same_upd nl3)
  have eD14 := sm8a _ _ eD8
  have ra14 := ra8.keep (.same sm8a)
  have rh14 := rh8.keep (.same sm8a)
  have rj14 := (rj12.keep (.same sm13)).keep (.new nl3 (o := .lst v3))
  have rt14 := rt.keep (.new nl3 (o := .lst v3))
  have e3_14 : (upd H13 l3 (.lst v3)) l3 = some (.lst v3) := upd_same
  generalize upd H13 l3 (.lst v3) = H14 at sm8a eD14 ra14 rh14 rj14 rt14 e3_14
  -- rule_of(list(three), head)
  have rb3 : ruleB threeD hd = true := by
    unfold ruleB
    rw [three_ok.1, okh]
    rfl
  refine ⟨_, rfl, l3, v3, rfl, .inl (SqL.of e3_14), fun l4 nl4 => ?_⟩
  refine ⟨_, rfl, l4, v3, vh, rfl, upd_same, by omega, threeD, hd, rt14.keep (.new nl4), three_pr, rh14.keep (.new nl4), three_sz, by have := three_ok.2.2.2; omega, szh, nnh, fun _ H15 t2 tp2 sm15 etp2 et2 => ?_, fun hf => by rw [rb3] at hf; cases hf⟩
  have sm1415 : Same H14 H15 := (same_upd nl4).trans sm15
  refine ⟨_, rfl, l3, v3, rfl, .inl ⟨SqL.of (sm1415 _ _ e3_14), fun l5 nl5 => ⟨_, rfl, (by show 2 ≤ sizeLine; decide), fun t6 nt6 => ?_⟩⟩⟩
  have smx : Same H15 (upd (upd H15 l5 (.tup v3)) t6 (.tup [.ref l5, vh])) := (same_upd nl5).trans (same_upd nt6)
  have sm1416 := sm1415.trans smx
  have la3 : lay (.t [.t threeD, hd]) = true := by
    show (lays threeD && (lay hd && true)) = true
    rw [three_ok.2.1, lah]
    rfl
  have sh3 := shaped_toPy la3 (by
    have := three_ok.2.2.1
    show 1 + max (1 + deps threeD) (max (dep hd) 0) ≤ 60
    omega)
  have rt16 := rt14.keep (.same sm1416)
  have rh16 := rh14.keep (.same sm1416)
  refine ⟨_, _, Rp.dp (d := .t [.t threeD, hd]) (.t (smx _ _ et2) (.cons (.t (smx _ _ etp2) rt16) (.cons rh16 .nil))), Rp.dp (d := .t [.t threeD, hd]) (.t upd_same (.cons (.t (same_upd nt6 _ _ upd_same) rt16) (.cons rh16 .nil))), sh3, sh3, _, rfl, ?_⟩
  rw [eqv_toPy la3]
  refine iteF ?_
  have eD16 := sm1416 _ _ eD14
  have ra16 := ra14.keep (.same sm1416)
  have rj16 := rj14.keep (.same sm1416)
  have e3_16 := sm1416 _ _ e3_14
  generalize upd (upd H15 l5 (.tup v3)) t6 (.tup [.ref l5, vh]) = H16 at smx sm1416 eD16 ra16 rj16 e3_16 rt16 rh16
  obtain ⟨x0, x1, x2, rfl⟩ : ∃ x0 x1 x2, v3 = [x0, x1, x2] := match v3, h3l with | [x0, x1, x2], _ => ⟨x0, x1, x2, rfl⟩
  have L9 : ∀ {n : Nat}, n ≤ 900 → n ≤ sizeLine := fun h => Nat.le_of_lt (small1000 (by omega))
  have cutl : ∀ lo hi, (cutV [x0, x1, x2] lo hi).length ≤ 3 := fun lo hi => by
    unfold cutV
    rw [List.length_take, List.length_drop]
    show min _ (3 - _) ≤ 3
    omega
  have szA : szk (sz' "A") := small_s _ (by decide +kernel)
  have rbad : ∀ d : Fd, plB d = false → ruleB (threeD.set at12 d) hd = false := fun d hd' => by
    unfold ruleB
    rw [all_set (show at12 < 3 from hat) hd']
    simp
  have n3 := three_ok.2.2.2
  have pb1 : plB (.t [dj, sz' "A"]) = false := by
    show ((isN dj || fok dj) && fok (sz' "A")) = false
    rw [nj, fj]
    rfl
  have pb2 : plB (.t [.n, dj]) = false := by
    show ((isN .n || fok .n) && fok dj) = false
    rw [fj, Bool.and_false]
  refine ⟨_, rfl, _, rfl, _, rfl, l3, _, rfl, SqL.of e3_16, fun s1 ns1 => ?_⟩
  refine ⟨_, rfl, (by show 2 ≤ sizeLine; decide), fun t7 nt7 => ⟨(by show 1 ≤ sizeLine; decide), fun l7 nl7 => ?_⟩⟩
  refine ⟨s1, l7, _, _, rfl, rfl, same_upd nl7 _ _ (same_upd nt7 _ _ upd_same), upd_same, ?_, fun c1 nc1 => ?_⟩
  · have := cutl none (some (at12 : Int))
    exact L9 (by show _ + 1 ≤ 900; omega)
  refine ⟨_, rfl, _, rfl, _, _, rfl, rfl, _, rfl, l3, _, rfl, SqL.of (same_upd nc1 _ _ (same_upd nl7 _ _ (same_upd nt7 _ _ (same_upd ns1 _ _ e3_16)))), fun s2 ns2 => ?_⟩
  refine ⟨c1, s2, _, _, rfl, rfl, same_upd ns2 _ _ upd_same, upd_same, ?_, fun c2 nc2 => ?_⟩
  · have h1 := cutl none (some (at12 : Int))
    have h2 := cutl (some ((at12 : Int) + 1)) none
    rw [List.length_append]
    exact L9 (by show _ + 1 + _ ≤ 900; omega)
  rw [cut_set hat]
  obtain ⟨H17, eqH17⟩ : ∃ X, X = upd (upd (upd (upd (upd (upd H16 s1 (.lst (cutV [x0, x1, x2] none (some (at12 : Int))))) t7 (.tup [vj, .str (Str.ofString "A")])) l7 (.lst [.ref t7])) c1 (.lst (cutV [x0, x1, x2] none (some (at12 : Int)) ++ [.ref t7]))) s2 (.lst (cutV [x0, x1, x2] (some ((at12 : Int) + 1)) none))) c2 (.lst ([x0, x1, x2].set at12 (.ref t7))) := ⟨_, rfl⟩
  have sm1617 : Same H16 H17 := by
    rw [eqH17]
    exact ((((same_upd ns1).trans (same_upd nt7)).trans (same_upd nl7)).trans (same_upd nc1)).trans ((same_upd ns2).trans (same_upd nc2))
  have et17 : H17 t7 = some (.tup [vj, .str (Str.ofString "A")]) := by
    rw [eqH17]
    exact same_upd nc2 _ _ (same_upd ns2 _ _ (same_upd nc1 _ _ (same_upd nl7 _ _ upd_same)))
  have ec17 : H17 c2 = some (.lst ([x0, x1, x2].set at12 (.ref t7))) := by
    rw [eqH17]
    exact upd_same
  rw [← eqH17]
  clear eqH17
  have rc17 : RpA H17 ([x0, x1, x2].set at12 (.ref t7)) (threeD.set at12 (.t [dj, sz' "A"])) := (rt16.keep (.same sm1617)).set (.t et17 (.cons (rj16.keep (.same sm1617)) (.cons (.s _) .nil)))
  have e3_17 := sm1617 _ _ e3_16
  have rt17 := rt16.keep (.same sm1617)
  have rj17 := rj16.keep (.same sm1617)
  refine ⟨_, rfl, _, rfl, _, rfl, l3, _, rfl, SqL.of e3_17, fun s1 ns1 => ?_⟩
  refine ⟨_, rfl, (by show 2 ≤ sizeLine; decide), fun t7 nt7 => ⟨(by show 1 ≤ sizeLine; decide), fun l7 nl7 => ?_⟩⟩
  refine ⟨s1, l7, _, _, rfl, rfl, same_upd nl7 _ _ (same_upd nt7 _ _ upd_same), upd_same, ?_, fun c1 nc1 => ?_⟩
  · have := cutl none (some (at12 : Int))
    exact L9 (by show _ + 1 ≤ 900; omega)
  refine ⟨_, rfl, _, rfl, _, _, rfl, rfl, _, rfl, l3, _, rfl, SqL.of (same_upd nc1 _ _ (same_upd nl7 _ _ (same_upd nt7 _ _ (same_upd ns1 _ _ e3_17)))), fun s2 ns2 => ?_⟩
  refine ⟨c1, s2, _, _, rfl, rfl, same_upd ns2 _ _ upd_same, upd_same, ?_, fun c3 nc2 => ?_⟩
  · have h1 := cutl none (some (at12 : Int))
    have h2 := cutl (some ((at12 : Int) + 1)) none
    rw [List.length_append]
    exact L9 (by show _ + 1 + _ ≤ 900; omega)
  rw [cut_set hat]
  obtain ⟨H18, eqH18⟩ : ∃ X, X = upd (upd (upd (upd (upd (upd H17 s1 (.lst (cutV [x0, x1, x2] none (some (at12 : Int))))) t7 (.tup [.non, vj])) l7 (.lst [.ref t7])) c1 (.lst (cutV [x0, x1, x2] none (some (at12 : Int)) ++ [.ref t7]))) s2 (.lst (cutV [x0, x1, x2] (some ((at12 : Int) + 1)) none))) c3 (.lst ([x0, x1, x2].set at12 (.ref t7))) := ⟨_, rfl⟩
  have sm1718 : Same H17 H18 := by
    rw [eqH18]
    exact ((((same_upd ns1).trans (same_upd nt7)).trans (same_upd nl7)).trans (same_upd nc1)).trans ((same_upd ns2).trans (same_upd nc2))
  have et18 : H18 t7 = some (.tup [.non, vj]) := by
    rw [eqH18]
    exact same_upd nc2 _ _ (same_upd ns2 _ _ (same_upd nc1 _ _ (same_upd nl7 _ _ upd_same)))
  have ec18 : H18 c3 = some (.lst ([x0, x1, x2].set at12 (.ref t7))) := by
    rw [eqH18]
    exact upd_same
  rw [← eqH18]
  clear eqH18
  have rc18 : RpA H18 ([x0, x1, x2].set at12 (.ref t7)) (threeD.set at12 (.t [.n, dj])) := (rt17.keep (.same sm1718)).set (.t et18 (.cons .n (.cons (rj17.keep (.same sm1718)) .nil)))
  have e3_18 := sm1718 _ _ e3_17
  have rt18 := rt17.keep (.same sm1718)
  have rj18 := rj17.keep (.same sm1718)
  have sm1618 := sm1617.trans sm1718
  have rh18 := rh16.keep (.same sm1618)
  have ec18b := sm1718 _ _ ec17
  have rc18b := rc17.keep (.same sm1718)
  have nset := fun d => noda_set (ds := threeD) (j := at12) (d := d)
  -- the four refusals
  refine ⟨_, rfl, _, rfl, c2, _, vh, threeD.set at12 (.t [dj, sz' "A"]), hd, rfl, ec18b, by rw [List.length_set]; exact (by decide : 3 ≤ 4), rc18b, pr_set three_pr trivial, rh18, szka_set three_sz ⟨sj, szA, trivial⟩, ?_, szh, nnh, rbad _ pb1, fun H19 sm19 => ⟨_, rfl, iteF ?_⟩⟩
  · have h1 := nset (.t [dj, sz' "A"])
    have h2 : nod (.t [dj, sz' "A"]) = 1 + (nod dj + (1 + 0)) := rfl
    omega
  refine ⟨_, rfl, _, rfl, c3, _, vh, threeD.set at12 (.t [.n, dj]), hd, rfl, sm19 _ _ ec18, by rw [List.length_set]; exact (by decide : 3 ≤ 4), rc18.keep (.same sm19), pr_set three_pr trivial, rh18.keep (.same sm19), szka_set three_sz ⟨trivial, sj, trivial⟩, ?_, szh, nnh, rbad _ pb2, fun H20 sm20 => ⟨_, rfl, iteF ?_⟩⟩
  · have h1 := nset (.t [.n, dj])
    have h2 : nod (.t [.n, dj]) = 1 + (1 + (nod dj + 0)) := rfl
    omega
  have sm1820 := sm19.trans sm20
  refine ⟨_, rfl, _, rfl, l3, _, vj, threeD, dj, rfl, sm1820 _ _ e3_18, (by decide : 3 ≤ 4), rt18.keep (.same sm1820), three_pr, rj18.keep (.same sm1820), three_sz, by omega, sj, by omega, ?_, fun H21 sm21 => ⟨_, rfl, iteF ?_⟩⟩
  · unfold ruleB
    rw [fj, Bool.and_false]
  have sm1821 := sm1820.trans sm21
  refine ⟨_, rfl, (by show 2 ≤ sizeLine; decide), fun t8 nt8 => ⟨(by show 1 ≤ sizeLine; decide), fun l8 nl8 => ?_⟩⟩
  refine ⟨l3, l8, _, _, rfl, rfl, same_upd nl8 _ _ (same_upd nt8 _ _ (sm1821 _ _ e3_18)), upd_same, L9 (by decide : 3 + 1 ≤ 900), fun c8 nc8 => ?_⟩
  have smz := ((same_upd (o := .tup [.non, .str (Str.ofString "A")]) nt8).trans (same_upd (o := .lst [.ref t8]) nl8)).trans (same_upd (o := .lst ([x0, x1, x2] ++ [.ref t8])) nc8)
  have et8 := same_upd (o := .lst ([x0, x1, x2] ++ [.ref t8])) nc8 _ _ (same_upd (o := .lst [.ref t8]) nl8 _ _ (upd_same (o := .tup [.non, .str (Str.ofString "A")])))
  refine ⟨_, rfl, c8, _, vh, threeD ++ [.t [.n, sz' "A"]], hd, rfl, upd_same, (by decide : 4 ≤ 4), ((rt18.keep (.same sm1821)).keep (.same smz)).append (.cons (.t et8 (.cons .n (.cons (.s _) .nil))) .nil), ?_, (rh18.keep (.same sm1821)).keep (.same smz), szka_append (ys := [.t [.n, sz' "A"]]) three_sz ⟨⟨trivial, szA, trivial⟩, trivial⟩, ?_, szh, nnh, ?_, fun H22 sm22 => ⟨_, rfl, iteT ?_⟩⟩
  · intro x hx
    rcases List.mem_append.mp hx with hx | hx
    · exact three_pr x hx
    · rw [List.mem_singleton.mp hx]
      trivial
  · rw [noda_append]
    have h2 : noda [.t [.n, sz' "A"]] = 1 + (1 + (1 + 0)) + 0 := rfl
    omega
  · unfold ruleB
    rfl
  have sm1622 : Same H16 H22 := (sm1618.trans sm1821).trans (smz.trans sm22)
  refine ⟨_, rfl, _, rfl, D, vs, vj, ps, dj, rfl, sm1622 _ _ eD16, by omega, ra16.keep (.same sm1622), pr, rj16.keep (.same sm1622), sz, by omega, sj, by omega, ?_, fun H23 _ => q H23⟩
  unfold ruleB
  rw [fj, Bool.and_false]
end
end KN
set_option Elab.async false
set_option linter.all false
set_option maxRecDepth 100000
set_option maxHeartbeats 1000000
namespace KN
open PySem PySem.Spec PyProof.Rows L2
/-! ### isinstance of a caught error -/
theorem kit_self {K : PySem.W.Frag} {C : Addr} : PySem.W.kitOne K (.ref C) (.ref C) = some true := by
  unfold PySem.W.kitOne
  rw [if_pos (beq_self_eq_true _)]
theorem kit_builtin {K : PySem.W.Frag} {C : Addr} {T : String} {b : Bool} (m : PySem.W.kitMeta T = true) (h : PySem.W.subIn K (.ref C) (.type T) = some b) : PySem.W.kitOne K (.ref C) (.type T) = some b := by
  have hne : ¬ ((Value.ref C == Value.type T) = true) := fun e => by
    have e2 := beq_iff_eq.mp e
    cases e2
  unfold PySem.W.kitOne
  rw [if_neg hne]
  show (if PySem.W.kitMeta T = true then _ else none) = _
  rw [if_pos m]
  exact h
theorem kit_other {K : PySem.W.Frag} {C D : Addr} (h1 : PySem.W.subIn K (.ref C) (.ref C) = some true) (h2 : PySem.W.subIn K (.ref C) (.ref D) = some false) (hd : PySem.W.hasDictIn K D = true) (ht : PySem.W.typeIn K (.ref D) = some (.type "type")) : PySem.W.kitOne K (.ref C) (.ref D) = some false := by
  have hne : ¬ ((Value.ref C == Value.ref D) = true) := fun e => by
    have e2 : C = D := Value.ref.inj (beq_iff_eq.mp e)
    subst e2
    rw [h1] at h2
    cases h2
  obtain ⟨cd, hc, _⟩ := PySem.W.any_some hd
  unfold PySem.W.kitOne
  rw [if_neg hne]
  show (if ((PySem.W.clsIn K D).isSome && PySem.W.typeIn K (.ref D) == some (.type "type")) = true then _ else none) = _
  rw [if_pos (by rw [hc, ht]; rfl)]
  exact h2
/-! ### what the top has written -/
theorem all_mk {l : PySem.W.OpenLaw} {w : World} {K : PySem.W.Frag} {h : Heap} {mg : Str → Option Value} {fa C_BadRule C_NotesError C_BadKind f1 f2 f3 f4 f5 f6 f7 f8 f9 f10 f11 f12 f13 f14 : Addr} {tk0 tk1 : Tok} (X : K.In h) (G : h.Ns mainGlobals mg) (hfa : mg "law" = some (.ref fa))
    {od1 an1 od2 an2 od3 an3 od4 an4 od5 an5 od6 an6 od7 an7 od8 an8 od9 an9 od10 an10 od11 an11 od12 an12 od13 an13 od14 an14 : Option Addr} {sl1 sl2 sl3 sl4 sl5 sl6 sl7 sl8 sl9 sl10 sl11 sl12 sl13 sl14 : Array (Option Value)} {oc1 kV1 dc1 pm1 cd1 ct1 oc2 kV2 dc2 pm2 cd2 ct2 oc3 kV3 dc3 pm3 cd3 ct3 oc4 kV4 dc4 pm4 cd4 ct4 oc5 kV5 dc5 pm5 cd5 ct5 oc6 kV6 dc6 pm6 cd6 ct6 oc7 kV7 dc7 pm7 cd7 ct7 oc8 kV8 dc8 pm8 cd8 ct8 oc9 kV9 dc9 pm9 cd9 ct9 oc10 kV10 dc10 pm10 cd10 ct10 oc11 kV11 dc11 pm11 cd11 ct11 oc12 kV12 dc12 pm12 cd12 ct12 oc13 kV13 dc13 pm13 cd13 ct13 oc14 kV14 dc14 pm14 cd14 ct14 : Value}
    (a1 : PySem.W.nsIn K mainGlobals "is_word" = some (some (.ref f1))) (l1 : K.lookup f1 = some ⟨oc1, od1, .func (PySem.W.fnOf "is_word" "is_word" (defArgs sIsWord) (defBody sIsWord) (defScope sIsWord) .none kV1 dc1 pm1 an1 cd1 ct1), sl1⟩) (c1 : PySem.W.codeIn K cd1 "is_word" = true) (k1 : PySem.W.keepIn K (.ref f1) = true)
    (a2 : PySem.W.nsIn K mainGlobals "is_letter" = some (some (.ref f2))) (l2 : K.lookup f2 = some ⟨oc2, od2, .func (PySem.W.fnOf "is_letter" "is_letter" (defArgs sIsLetter) (defBody sIsLetter) (defScope sIsLetter) .none kV2 dc2 pm2 an2 cd2 ct2), sl2⟩) (c2 : PySem.W.codeIn K cd2 "is_letter" = true) (k2 : PySem.W.keepIn K (.ref f2) = true)
    (a3 : PySem.W.nsIn K mainGlobals "is_form" = some (some (.ref f3))) (l3 : K.lookup f3 = some ⟨oc3, od3, .func (PySem.W.fnOf "is_form" "is_form" (defArgs sIsForm) (defBody sIsForm) (defScope sIsForm) .none kV3 dc3 pm3 an3 cd3 ct3), sl3⟩) (c3 : PySem.W.codeIn K cd3 "is_form" = true) (k3 : PySem.W.keepIn K (.ref f3) = true)
    (a4 : PySem.W.nsIn K mainGlobals "rule" = some (some (.ref f4))) (l4 : K.lookup f4 = some ⟨oc4, od4, .func (PySem.W.fnOf "rule" "rule" (defArgs sRule) (defBody sRule) (defScope sRule) .none kV4 dc4 pm4 an4 cd4 ct4), sl4⟩) (c4 : PySem.W.codeIn K cd4 "rule" = true) (k4 : PySem.W.keepIn K (.ref f4) = true)
    (a5 : PySem.W.nsIn K mainGlobals "_is_place" = some (some (.ref f5))) (l5 : K.lookup f5 = some ⟨oc5, od5, .func (PySem.W.fnOf "_is_place" "_is_place" (defArgs sIsPlace) (defBody sIsPlace) (defScope sIsPlace) .none kV5 dc5 pm5 an5 cd5 ct5), sl5⟩) (c5 : PySem.W.codeIn K cd5 "_is_place" = true) (k5 : PySem.W.keepIn K (.ref f5) = true)
    (a6 : PySem.W.nsIn K mainGlobals "_law_cell" = some (some (.ref f6))) (l6 : K.lookup f6 = some ⟨oc6, od6, .func (PySem.W.fnOf "_law_cell" "_law_cell" (defArgs sCell) (defBody sCell) (defScope sCell) .none kV6 dc6 pm6 an6 cd6 ct6), sl6⟩) (c6 : PySem.W.codeIn K cd6 "_law_cell" = true) (k6 : PySem.W.keepIn K (.ref f6) = true)
    (a7 : PySem.W.nsIn K mainGlobals "_law_tape" = some (some (.ref f7))) (l7 : K.lookup f7 = some ⟨oc7, od7, .func (PySem.W.fnOf "_law_tape" "_law_tape" (defArgs sTape) (defBody sTape) (defScope sTape) .none kV7 dc7 pm7 an7 cd7 ct7), sl7⟩) (c7 : PySem.W.codeIn K cd7 "_law_tape" = true) (k7 : PySem.W.keepIn K (.ref f7) = true)
    (a8 : PySem.W.nsIn K mainGlobals "_law_take" = some (some (.ref f8))) (l8 : K.lookup f8 = some ⟨oc8, od8, .func (PySem.W.fnOf "_law_take" "_law_take" (defArgs sTake) (defBody sTake) (defScope sTake) .none kV8 dc8 pm8 an8 cd8 ct8), sl8⟩) (c8 : PySem.W.codeIn K cd8 "_law_take" = true) (k8 : PySem.W.keepIn K (.ref f8) = true)
    (a9 : PySem.W.nsIn K mainGlobals "_law_word" = some (some (.ref f9))) (l9 : K.lookup f9 = some ⟨oc9, od9, .func (PySem.W.fnOf "_law_word" "_law_word" (defArgs sWord) (defBody sWord) (defScope sWord) .none kV9 dc9 pm9 an9 cd9 ct9), sl9⟩) (c9 : PySem.W.codeIn K cd9 "_law_word" = true) (k9 : PySem.W.keepIn K (.ref f9) = true)
    (a10 : PySem.W.nsIn K mainGlobals "_law_pattern" = some (some (.ref f10))) (l10 : K.lookup f10 = some ⟨oc10, od10, .func (PySem.W.fnOf "_law_pattern" "_law_pattern" (defArgs sPattern) (defBody sPattern) (defScope sPattern) .none kV10 dc10 pm10 an10 cd10 ct10), sl10⟩) (c10 : PySem.W.codeIn K cd10 "_law_pattern" = true) (k10 : PySem.W.keepIn K (.ref f10) = true)
    (a11 : PySem.W.nsIn K mainGlobals "_law_rule_of" = some (some (.ref f11))) (l11 : K.lookup f11 = some ⟨oc11, od11, .func (PySem.W.fnOf "_law_rule_of" "_law_rule_of" (defArgs sRuleOf) (defBody sRuleOf) (defScope sRuleOf) .none kV11 dc11 pm11 an11 cd11 ct11), sl11⟩) (c11 : PySem.W.codeIn K cd11 "_law_rule_of" = true) (k11 : PySem.W.keepIn K (.ref f11) = true)
    (a12 : PySem.W.nsIn K mainGlobals "_law_refused" = some (some (.ref f12))) (l12 : K.lookup f12 = some ⟨oc12, od12, .func (PySem.W.fnOf "_law_refused" "_law_refused" (defArgs sRefused) (defBody sRefused) (defScope sRefused) .none kV12 dc12 pm12 an12 cd12 ct12), sl12⟩) (c12 : PySem.W.codeIn K cd12 "_law_refused" = true) (k12 : PySem.W.keepIn K (.ref f12) = true)
    (a13 : PySem.W.nsIn K mainGlobals "_law_place" = some (some (.ref f13))) (l13 : K.lookup f13 = some ⟨oc13, od13, .func (PySem.W.fnOf "_law_place" "_law_place" (defArgs sPlace) (defBody sPlace) (defScope sPlace) .none kV13 dc13 pm13 an13 cd13 ct13), sl13⟩) (c13 : PySem.W.codeIn K cd13 "_law_place" = true) (k13 : PySem.W.keepIn K (.ref f13) = true)
    (a14 : PySem.W.nsIn K mainGlobals "law" = some (some (.ref f14))) (l14 : K.lookup f14 = some ⟨oc14, od14, .func (PySem.W.fnOf "law" "law" (defArgs sLaw) (defBody sLaw) (defScope sLaw) .none kV14 dc14 pm14 an14 cd14 ct14), sl14⟩) (c14 : PySem.W.codeIn K cd14 "law" = true) (k14 : PySem.W.keepIn K (.ref f14) = true)
    (z0 : PySem.W.nsIn K mainGlobals "len" = some none)
    (z1 : PySem.W.nsIn K mainGlobals "range" = some none)
    (z2 : PySem.W.nsIn K mainGlobals "int" = some none)
    (z3 : PySem.W.nsIn K mainGlobals "tuple" = some none)
    (z4 : PySem.W.nsIn K mainGlobals "list" = some none)
    (z5 : PySem.W.nsIn K mainGlobals "isinstance" = some none)
    (z6 : PySem.W.nsIn K mainGlobals "str" = some none)
    (z7 : PySem.W.nsIn K mainGlobals "all" = some none)
    (s0 : PySem.W.nsIn K mainGlobals "SMALL" = some (some (.str (Str.ofString "abcdefghijklmnopqrstuvwxyz") tk0)))
    (s1 : PySem.W.nsIn K mainGlobals "CAPITAL" = some (some (.str (Str.ofString "ABCDEFGHIJKLMNOPQRSTUVWXYZ") tk1)))
    (x_BadRule : PySem.W.nsIn K mainGlobals "BadRule" = some (some (.ref C_BadRule)))
    (x_NotesError : PySem.W.nsIn K mainGlobals "NotesError" = some (some (.ref C_NotesError)))
    (x_BadKind : PySem.W.nsIn K mainGlobals "BadKind" = some (some (.ref C_BadKind)))
    (e1 : PySem.W.keepIn K (.ref C_BadRule) = true)
    (e2 : PySem.W.excIn K C_BadRule [.type "ValueError", .type "Exception", .type "BaseException", .type "object"] "ValueError.__new__" = true)
    (e3 : PySem.W.subIn K (.ref C_BadRule) (.type "BaseException") = some true)
    (e4 : PySem.W.typeIn K (.ref C_BadRule) = some (.type "type"))
    (e5 : PySem.W.hasDictIn K C_BadRule = true)
    (e6 : PySem.W.findIn K (.ref C_BadRule) "__getattribute__" = some (some (.builtin "BaseException.__getattribute__")))
    (e7 : PySem.W.findIn K (.ref C_BadRule) "__getattr__" = some none)
    (e8 : PySem.W.findIn K (.ref C_BadRule) "__class__" = some (some (.builtin "object.__class__")))
    (e9 : PySem.W.specialIn K (.builtin "object.__class__") "__get__" = some (some (.builtin "getset_descriptor.__get__")))
    (e10 : PySem.W.takesIn K (.builtin "object.__class__") = some true)
    (e11 : PySem.W.mroIn K C_BadRule (.type "object") = some true)
    (e12 : PySem.W.subIn K (.ref C_BadRule) (.ref C_BadRule) = some true)
    (e13 : PySem.W.subIn K (.ref C_BadRule) (.type "ValueError") = some true)
    (n1 : PySem.W.subIn K (.ref C_NotesError) (.type "BaseException") = some true)
    (n2 : PySem.W.hasDictIn K C_NotesError = true)
    (n3 : PySem.W.typeIn K (.ref C_NotesError) = some (.type "type"))
    (n4 : PySem.W.subIn K (.ref C_BadRule) (.ref C_NotesError) = some true)
    (y1_BadKind : PySem.W.subIn K (.ref C_BadRule) (.ref C_BadKind) = some false)
    (y2_BadKind : PySem.W.hasDictIn K C_BadKind = true)
    (y3_BadKind : PySem.W.typeIn K (.ref C_BadKind) = some (.type "type")) :
    ∃ fd : FuncData, (∀ (s : Shared) (v : Value), BindsTo s fd ⟨[v], []⟩ [("_law_script", v)]) ∧ ∀ base : Heap, K.In base → base.Ns mainGlobals mg → FnOk l.prog w K mg base CX0 7 fa fd ["_law_script"] (spLaw K) := by
  have e := hfa.symm.trans (PySem.W.mg_of X G a14)
  cases e
  have F1 := fun_mk (st := sIsWord) l1 c1 k1
  have b1 := F1.binds (ps := ["text"]) fun _ _ _ _ _ _ us hl => match us, hl with | [_], _ => rfl
  have g1 := PySem.W.mg_of X G a1
  have F2 := fun_mk (st := sIsLetter) l2 c2 k2
  have b2 := F2.binds (ps := ["text"]) fun _ _ _ _ _ _ us hl => match us, hl with | [_], _ => rfl
  have g2 := PySem.W.mg_of X G a2
  have F3 := fun_mk (st := sIsForm) l3 c3 k3
  have b3 := F3.binds (ps := ["row"]) fun _ _ _ _ _ _ us hl => match us, hl with | [_], _ => rfl
  have g3 := PySem.W.mg_of X G a3
  have F4 := fun_mk (st := sRule) l4 c4 k4
  have g4 := PySem.W.mg_of X G a4
  have F5 := fun_mk (st := sIsPlace) l5 c5 k5
  have b5 := F5.binds (ps := ["place"]) fun _ _ _ _ _ _ us hl => match us, hl with | [_], _ => rfl
  have g5 := PySem.W.mg_of X G a5
  have F6 := fun_mk (st := sCell) l6 c6 k6
  have b6 := F6.binds (ps := ["_law_script", "_law_k"]) fun _ _ _ _ _ _ us hl => match us, hl with | [_, _], _ => rfl
  have g6 := PySem.W.mg_of X G a6
  have F7 := fun_mk (st := sTape) l7 c7 k7
  have b7 := F7.binds (ps := ["_law_script", "_law_k", "_law_size"]) fun _ _ _ _ _ _ us hl => match us, hl with | [_, _, _], _ => rfl
  have g7 := PySem.W.mg_of X G a7
  have F8 := fun_mk (st := sTake) l8 c8 k8
  have b8 := F8.binds (ps := ["_law_tape_here", "_law_many"]) fun _ _ _ _ _ _ us hl => match us, hl with | [_, _], _ => rfl
  have g8 := PySem.W.mg_of X G a8
  have F9 := fun_mk (st := sWord) l9 c9 k9
  have b9 := F9.binds (ps := ["_law_tape_here"]) fun _ _ _ _ _ _ us hl => match us, hl with | [_], _ => rfl
  have g9 := PySem.W.mg_of X G a9
  have F10 := fun_mk (st := sPattern) l10 c10 k10
  have b10 := F10.binds (ps := ["_law_tape_here", "_law_depth"]) fun _ _ _ _ _ _ us hl => match us, hl with | [_, _], _ => rfl
  have g10 := PySem.W.mg_of X G a10
  have F11 := fun_mk (st := sRuleOf) l11 c11 k11
  have b11 := F11.binds (ps := ["_law_row", "_law_head"]) fun _ _ _ _ _ _ us hl => match us, hl with | [_, _], _ => rfl
  have g11 := PySem.W.mg_of X G a11
  have F12 := fun_mk (st := sRefused) l12 c12 k12
  have b12 := F12.binds (ps := ["_law_row", "_law_head"]) fun _ _ _ _ _ _ us hl => match us, hl with | [_, _], _ => rfl
  have g12 := PySem.W.mg_of X G a12
  have F13 := fun_mk (st := sPlace) l13 c13 k13
  have b13 := F13.binds (ps := ["_law_tape_here"]) fun _ _ _ _ _ _ us hl => match us, hl with | [_], _ => rfl
  have g13 := PySem.W.mg_of X G a13
  have F14 := fun_mk (st := sLaw) l14 c14 k14
  have m0 := PySem.W.mg_none_of X G z0
  have m1 := PySem.W.mg_none_of X G z1
  have m2 := PySem.W.mg_none_of X G z2
  have m3 := PySem.W.mg_none_of X G z3
  have m4 := PySem.W.mg_none_of X G z4
  have m5 := PySem.W.mg_none_of X G z5
  have m6 := PySem.W.mg_none_of X G z6
  have m7 := PySem.W.mg_none_of X G z7
  have v0 := PySem.W.mg_of X G s0
  have v1 := PySem.W.mg_of X G s1
  have g_BadRule := PySem.W.mg_of X G x_BadRule
  have g_NotesError := PySem.W.mg_of X G x_NotesError
  have g_BadKind := PySem.W.mg_of X G x_BadKind
  have eX : ErrC K mg "BadRule" C_BadRule := ⟨g_BadRule, e1, e2, e3, e4, e5, ⟨e6, e7, e3, e5, e8, e9, e10, e11⟩⟩
  refine ⟨PySem.W.fnOf "law" "law" (defArgs sLaw) (defBody sLaw) (defScope sLaw) .none kV14 dc14 pm14 an14 cd14 ct14, fun s v => .of_eq rfl, fun base _ _ => ?_⟩
  have mS : ∃ t, mg "SMALL" = some (.str SMALLs t) := ⟨tk0, v0⟩
  have mC : ∃ t, mg "CAPITAL" = some (.str CAPs t) := ⟨tk1, v1⟩
  have GT : FnOk l.prog w K mg base CX0 1 f8 _ ["_law_tape_here", "_law_many"] spTake := ok_take F8 m0 m2
  have GTp : FnOk l.prog w K mg base CX0 2 f7 _ ["_law_script", "_law_k", "_law_size"] (spTape K) := ok_tape F7 F6 b6 g6 m0 m1 m2
  have P1 := ok_pat (P := l.prog) (w := w) (base := base) (n := 0) F10 b10 g10 pat_none F8 b8 g8 F9 b9 g9 m0 m2 m1 m3
  have P2 := ok_pat (P := l.prog) (w := w) (base := base) (n := 1) F10 b10 g10 P1 F8 b8 g8 F9 b9 g9 m0 m2 m1 m3
  have P3 := ok_pat (P := l.prog) (w := w) (base := base) (n := 2) F10 b10 g10 P2 F8 b8 g8 F9 b9 g9 m0 m2 m1 m3
  have GI : FnOk l.prog w K mg base CX0 2 f3 _ ["row"] spIsForm := ok_isForm F3 F2 b2 g2 F1 b1 g1 m5 m6 m3 m0 m7 mC mS
  have GPl : FnOk l.prog w K mg base CX0 3 f5 _ ["place"] spPl := ok_pl F5 F3 b3 g3 GI m5 m3 m0
  have GRu := ok_rule F4 F5 b5 g5 GPl F3 b3 g3 GI m0 m7 eX
  have GO := ok_RO F11 F4 g4 GRu m0
  have GR := ok_ref F12 F11 b11 g11 GO m5 eX g_NotesError g_BadKind (PySem.W.exm_ref n1 n2 n3 n4) kit_self (kit_other e12 y1_BadKind y2_BadKind y3_BadKind)
  have GL := ok_place F13 F8 b8 g8 GT F10 b10 g10 P3
  exact ok_law F14 ⟨GTp, g7, k7, b7, GT, g8, k8, b8, GL, g13, k13, b13, P3, g10, k10, b10, GO, g11, k11, b11, GR, g12, k12, b12, m0, m1, m3, m4, m5⟩
end KN
open PySem PySem.W PyProof.Rows
set_option Elab.async false
set_option maxRecDepth 100000 in
set_option maxHeartbeats 0 in
theorem PySem.Challenge.cw_kindnotes_k07_rules_are_made_holds : PySem.Challenge.rw_kindnotes_k07_rules_are_made.Holds := by
  w_on; o_law; k_head; (case hw => w_witness2)
  k_fill
  refine L2.walk_of (l := PySem.Challenge.rw_kindnotes_k07_rules_are_made) (n := 63) (k := 7) (x := "_law_script") (CX := fun _ => L2.CX0) (sp := fun w => KN.spLaw _) rfl (by decide) rfl ⟨rfl, by decide, by decide⟩ (fun w h Y => PySem.W.kIn_of Y) ?F (fun _ _ a ns hl _ hS => ⟨a, ns, rfl, hS, hl, fun _ => rfl⟩) (fun _ _ _ _ _ h => h)
  case F =>
    intro w mg fa h KX G hmg
    refine' KN.all_mk KX G hmg ?a1 ?l1 ?c1 ?k1 ?a2 ?l2 ?c2 ?k2 ?a3 ?l3 ?c3 ?k3 ?a4 ?l4 ?c4 ?k4 ?a5 ?l5 ?c5 ?k5 ?a6 ?l6 ?c6 ?k6 ?a7 ?l7 ?c7 ?k7 ?a8 ?l8 ?c8 ?k8 ?a9 ?l9 ?c9 ?k9 ?a10 ?l10 ?c10 ?k10 ?a11 ?l11 ?c11 ?k11 ?a12 ?l12 ?c12 ?k12 ?a13 ?l13 ?c13 ?k13 ?a14 ?l14 ?c14 ?k14 ?z0 ?z1 ?z2 ?z3 ?z4 ?z5 ?z6 ?z7 ?s0 ?s1 ?x_BadRule ?x_NotesError ?x_BadKind ?e1 ?e2 ?e3 ?e4 ?e5 ?e6 ?e7 ?e8 ?e9 ?e10 ?e11 ?e12 ?e13 ?n1 ?n2 ?n3 ?n4 ?y1_BadKind ?y2_BadKind ?y3_BadKind
    (case a1 => k_is)
    (case l1 => k_is)
    (case c1 => k_is)
    (case k1 => k_is)
    (case a2 => k_is)
    (case l2 => k_is)
    (case c2 => k_is)
    (case k2 => k_is)
    (case a3 => k_is)
    (case l3 => k_is)
    (case c3 => k_is)
    (case k3 => k_is)
    (case a4 => k_is)
    (case l4 => k_is)
    (case c4 => k_is)
    (case k4 => k_is)
    (case a5 => k_is)
    (case l5 => k_is)
    (case c5 => k_is)
    (case k5 => k_is)
    (case a6 => k_is)
    (case l6 => k_is)
    (case c6 => k_is)
    (case k6 => k_is)
    (case a7 => k_is)
    (case l7 => k_is)
    (case c7 => k_is)
    (case k7 => k_is)
    (case a8 => k_is)
    (case l8 => k_is)
    (case c8 => k_is)
    (case k8 => k_is)
    (case a9 => k_is)
    (case l9 => k_is)
    (case c9 => k_is)
    (case k9 => k_is)
    (case a10 => k_is)
    (case l10 => k_is)
    (case c10 => k_is)
    (case k10 => k_is)
    (case a11 => k_is)
    (case l11 => k_is)
    (case c11 => k_is)
    (case k11 => k_is)
    (case a12 => k_is)
    (case l12 => k_is)
    (case c12 => k_is)
    (case k12 => k_is)
    (case a13 => k_is)
    (case l13 => k_is)
    (case c13 => k_is)
    (case k13 => k_is)
    (case a14 => k_is)
    (case l14 => k_is)
    (case c14 => k_is)
    (case k14 => k_is)
    (case z0 => k_is)
    (case z1 => k_is)
    (case z2 => k_is)
    (case z3 => k_is)
    (case z4 => k_is)
    (case z5 => k_is)
    (case z6 => k_is)
    (case z7 => k_is)
    (case s0 => k_is)
    (case s1 => k_is)
    (case x_BadRule => k_is)
    (case x_NotesError => k_is)
    (case x_BadKind => k_is)
    (case e1 => k_is)
    (case e2 => k_exc)
    (case e3 => k_is)
    (case e4 => k_is)
    (case e5 => k_is)
    (case e6 => k_is)
    (case e7 => k_is)
    (case e8 => k_is)
    (case e9 => k_is)
    (case e10 => k_is)
    (case e11 => k_is)
    (case e12 => k_is)
    (case e13 => k_is)
    (case n1 => k_is)
    (case n2 => k_is)
    (case n3 => k_is)
    (case n4 => k_is)
    (case y1_BadKind => k_is)
    (case y2_BadKind => k_is)
    (case y3_BadKind => k_is)
