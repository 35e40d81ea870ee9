import PyProof.Rows.All
import Wide.All
import OpenK.AllK
import Wide.FinOn
import HandS.ForMost
import HandS.Exc
import HandS.ExcOwn
import HandS.ExcIs
import HandS.TryOnly
import HandS.WordsExc
import HandS.IsInst
import HandS.Star
import HandS.Walk
import PySem.Challenge.RW_kindnotes_k01_forms_are_made
set_option Elab.async false
set_option linter.all false
set_option maxRecDepth 100000
set_option maxHeartbeats 2000000
namespace KN
open PySem PySem.Spec PyProof.Rows L2
/-! ### the text -/
def topS (i : Nat) : Stmt := PySem.Challenge.pw_kindnotes_k01_forms_are_made.main.body.getD i (.Pass ⟨0, 0, 0, 0⟩)
abbrev sIsWord : Stmt := topS 7
abbrev sIsLetter : Stmt := topS 8
abbrev sIsForm : Stmt := topS 9
abbrev sForm : Stmt := topS 10
abbrev sCell : Stmt := topS 12
abbrev sTape : Stmt := topS 13
abbrev sTake : Stmt := topS 14
abbrev sWord : Stmt := topS 15
abbrev sPattern : Stmt := topS 16
abbrev sFormOf : Stmt := topS 17
abbrev sRefused : Stmt := topS 18
abbrev sLaw : Stmt := topS 19
/-! ### heaps -/
theorem same_upd {H : Hp} {p : Addr} {o : HO} (h : H p = none) : Same H (upd H p o) := fun b x e => by
  rw [upd_ne (ne_of_none e h)]
  exact e
section
variable {P : Program} {w : World} {K : PySem.W.Frag} {mg : Str → Option Value} {base : Heap}
/-! ### a cell of the script -/
theorem scCell : FnScope ["_law_script", "_law_k"] ["_law_script", "_law_k"] (defScope sCell) := ⟨rfl, rfl, rfl, by decide +kernel, rfl, by decide +kernel, by decide +kernel⟩
def spCell (K : PySem.W.Frag) : Sp := fun vs H Q _ => ∃ (a : Addr) (ns : List Int) (k : Nat), vs = [.ref a, .int (k : Int)] ∧ SqL K H a (ns.map V.int) ∧ ns.length ≤ 63 ∧ ∀ v : Int, Q (.int v) H
theorem ok_cell {f : Addr} {fd : FuncData} (F : Fun K "_law_cell" "_law_cell" sCell f fd) (ml : mg "len" = none) : FnOk P w K mg base CX0 1 f fd ["_law_script", "_law_k"] (spCell K) := by
  refine F.ok scCell (fun vs H Q E h => ?_) (fun cdv A outer s H vs Q E hr h => ?_)
  · obtain ⟨a, ns, k, rfl, _⟩ := h
    rfl
  obtain ⟨a, ns, k, rfl, hS, hlen, q⟩ := h
  refine ⟨_, pss_cons (ps_if (pt_cmpR op_lt (pv 1) (pe_callB call_len_seq (by rfl) ml PySem.boot_len (pa_cons (pv 0) pa_nil)) (nomark _)) (pss_one (ps_ret (pe_ix ix_list (pv 0) (pv 1) (fun _ _ => rfl)))) pss_nil)
    (pss_one (ps_ret pe_int)), ?_⟩
  refine ⟨_, rfl, _, rfl, a, _, rfl, .inl hS, _, _, rfl, rfl, _, rfl, ?_⟩
  refine ite2 (fun c => ?_) (fun c => ?_)
  · have c' : (k : Int) < (((ns.map V.int).length : Nat) : Int) := of_decide_eq_true c
    rw [List.length_map] at c'
    have hk : k < ns.length := by omega
    have g : (ns.map V.int)[k]? = some (.int ns[k]) := by
      rw [List.getElem?_map, List.getElem?_eq_getElem hk]
      rfl
    exact ⟨_, rfl, _, rfl, a, _, _, _, rfl, rfl, hS, atI_nat g, q _⟩
  · exact q 0
/-! ### the tape -/
theorem scTape : FnScope ["_law_script", "_law_k", "_law_size", "_law_cell_here", "_law_left", "_law_tape_here", "_law_j", "_law_mixed"] ["_law_script", "_law_k", "_law_size"] (defScope sTape) := ⟨rfl, rfl, rfl, by decide +kernel, rfl, by decide +kernel, by decide +kernel⟩
/-- a tape stands at p -/
def Tp (H : Hp) (p : Addr) : Prop := ∃ ns : List Int, H p = some (.lst (ns.map V.int)) ∧ ns.length ≤ 1000
def spTape (K : PySem.W.Frag) : Sp := fun vs H Q _ => ∃ (a : Addr) (ns : List Int) (k m : Nat), vs = [.ref a, .int (k : Int), .int (m : Int)] ∧ SqL K H a (ns.map V.int) ∧ ns.length ≤ 63 ∧ m ≤ 1000 ∧ ∀ H' p, Same H H' → H p = none → Tp H' p → Q (.ref p) H'
theorem fmod_small (c : Int) : -(2 ^ 64) < c.fmod 9973 ∧ c.fmod 9973 < 2 ^ 64 := by
  have h : c.fmod 9973 = c % 9973 := Int.fmod_eq_emod_of_nonneg c (by decide)
  rw [h]
  have h1 := Int.emod_nonneg c (show (9973 : Int) ≠ 0 by decide)
  have h2 := Int.emod_lt_of_pos c (show (0 : Int) < 9973 by decide)
  constructor <;> omega
theorem ok_tape {f fC : Addr} {fd fdC : FuncData} (F : Fun K "_law_tape" "_law_tape" sTape f fd) (FC : Fun K "_law_cell" "_law_cell" sCell fC fdC) (bC : Binds K fdC ["_law_script", "_law_k"] []) (gC : mg "_law_cell" = some (.ref fC))
    (ml : mg "len" = none) (mr : mg "range" = none) (mi : mg "int" = none) : FnOk P w K mg base CX0 2 f fd ["_law_script", "_law_k", "_law_size"] (spTape K) := by
  have GC : FnOk P w K mg base CX0 1 fC fdC ["_law_script", "_law_k"] (spCell K) := ok_cell FC ml
  refine F.ok scTape (fun vs H Q E h => ?_) (fun cdv A outer s H vs Q E hr h => ?_)
  · obtain ⟨a, ns, k, m, rfl, _⟩ := h
    rfl
  obtain ⟨a, ns, k, m, rfl, hS, hlen, hm, q⟩ := h
  refine ⟨_, pss_cons (ps_set (i := 3) scTape.nd rfl (.inl rfl) (pe_call GC hr (by rfl) gC FC.kp bC .nil pass0 (pa_cons (pv 0) (pa_cons (pv 1) pa_nil))))
    (pss_cons (ps_set (i := 4) scTape.nd rfl (.inl rfl) (pv 3))
    (pss_cons (ps_set (i := 5) scTape.nd rfl (.inl rfl) (pe_lst pa_nil))
    (pss_cons (ps_for PassesOwn.never rfl (pi_range1 (by rfl) mr (pa_cons (pv 2) pa_nil)) (pg_name (i := 6) scTape.nd rfl (.inl rfl))
      (pss_one (ps_if (PW.pt (pw_and (pt_cmpR op_ge (pv 3) (pe_op op_pow pe_int pe_int) (nomark _)) (pw_and1 (pt_cmpR op_gt (pv 4) pe_int (nomark _)))))
        (pss_cons (ps_expr (pe_bm PySem.F.plainAttrs_list PySem.F.slot_list_append PySem.F.type_list_append mt_append (pv 5) (pa_cons (pe_op op_modN (pe_callTy call_int1 (by rfl) mi (by decide +kernel) (pa_cons (pv 4) pa_nil)) pe_int) pa_nil)))
          (pss_one (ps_set (i := 4) scTape.nd rfl (.inl rfl) (pe_op op_fdivN (pv 4) pe_int))))
        (pss_cons (ps_set (i := 7) scTape.nd rfl (.inl rfl) (pe_op op_modN (pe_callTy call_int1 (by rfl) mi (by decide +kernel) (pa_cons
            (pe_op op_add (pe_op op_mul (pe_op op_modN (pe_callTy call_int1 (by rfl) mi (by decide +kernel) (pa_cons (pv 3) pa_nil)) pe_int) (pe_op op_add pe_int (pe_op op_mul pe_int (pv 6)))) (pe_op op_mul pe_int (pv 6))) pa_nil)) pe_int))
          (pss_one (ps_expr (pe_bm PySem.F.plainAttrs_list PySem.F.slot_list_append PySem.F.type_list_append mt_append (pv 5) (pa_cons (pe_op op_add (pv 7) (pe_op op_fdivN (pv 7) pe_int)) pa_nil))))))))
    (pss_one (ps_ret (pv 5)))))), ?_⟩
  refine ⟨_, rfl, _, rfl, a, ns, k, rfl, hS, hlen, fun c => ?_⟩
  refine ⟨_, rfl, Nat.zero_le _, fun p np => ?_⟩
  refine ⟨_, rfl, (m : Int), rfl, by omega, by omega, ?_⟩
  refine for_range (lo := 0) (n := m) (fun i σ H' => ∃ (l : Int) (y6 y7 : Option V) (ts : List Int), σ = [some (.ref a), some (.int (k : Int)), some (.int (m : Int)), some (.int c), some (.int l), some (.ref p), y6, y7] ∧ Same H H' ∧ H' p = some (.lst (ts.map V.int)) ∧ ts.length = i)
    ⟨c, none, none, [], rfl, same_upd np, upd_same, rfl⟩ (fun i σ H' hi hW => ?_) (fun σ H' hW => ?_)
  · obtain ⟨l, y6, y7, ts, rfl, sm, ep, hl⟩ := hW
    have small : (ts.map V.int).length < sizeLine := by
      rw [List.length_map]
      exact small1000 (by omega)
    have smU : ∀ o, Same H (upd H' p o) := fun o b x e => by
      rw [upd_ne (ne_of_none e np)]
      exact sm _ _ e
    refine ⟨_, rfl, 10, 18, rfl, rfl, ⟨by decide, by decide, by decide⟩, _, _, rfl, rfl, _, rfl, ?_⟩
    refine ite2 (fun _ => ⟨_, rfl, _, _, rfl, rfl, _, rfl, ite2 (fun _ => ?t) (fun _ => ?e1)⟩) (fun _ => ?e2)
    case t =>
      refine ⟨_, rfl, .inl ⟨rfl, _, SqL.of ep⟩, _, rfl, .inl ⟨_, rfl, _, _, rfl, rfl, (by show (5040 : Int) ≠ 0; decide), p, _, _, rfl, rfl, ep, small, ?_⟩⟩
      refine ⟨_, rfl, _, _, rfl, rfl, ⟨by decide, by decide⟩, ?_⟩
      exact ⟨_, _, _, ts ++ [_], rfl, smU _, by rw [upd_same, List.map_append]; rfl, by rw [List.length_append, hl]; rfl⟩
    all_goals
      refine ⟨_, rfl, .inl ⟨_, rfl, _, _, rfl, rfl, (by show (9973 : Int) ≠ 0; decide), _, rfl, _, _, rfl, rfl, .inl ⟨by decide, by decide⟩, _, _, rfl, rfl, _, _, rfl, rfl, .inl (fmod_small c), _, rfl, _, _, rfl, rfl, .inl ⟨by decide, by decide⟩, _, _, rfl, rfl, .inl ⟨_, rfl, _, _, rfl, rfl, (by show (1009 : Int) ≠ 0; decide), ?_⟩⟩⟩
      refine ⟨_, rfl, .inl ⟨rfl, _, SqL.of ep⟩, _, rfl, _, rfl, _, _, rfl, rfl, ⟨by decide, by decide⟩, _, _, rfl, rfl, p, _, _, rfl, rfl, ep, small, ?_⟩
      exact ⟨_, _, _, ts ++ [_], rfl, smU _, by rw [upd_same, List.map_append]; rfl, by rw [List.length_append, hl]; rfl⟩
  · obtain ⟨l, y6, y7, ts, rfl, sm, ep, hl⟩ := hW
    exact ⟨_, rfl, q H' p sm np ⟨ts, ep, by omega⟩⟩
end
end KN
set_option Elab.async false
set_option linter.all false
set_option maxRecDepth 100000
set_option maxHeartbeats 2000000
namespace KN
open PySem PySem.Spec PyProof.Rows L2
/-- all but the object at p stands as it stood -/
def But (p : Addr) (H H' : Hp) : Prop := ∀ b o, b ≠ p → H b = some o → H' b = some o
theorem But.refl (p : Addr) (H : Hp) : But p H H := fun _ _ _ h => h
theorem But.trans {p : Addr} {H H1 H2 : Hp} (a : But p H H1) (b : But p H1 H2) : But p H H2 := fun c o n h => b c o n (a c o n h)
theorem But.of {p : Addr} {H H' : Hp} (s : Same H H') : But p H H' := fun b o _ h => s b o h
theorem But.upd (p : Addr) (H : Hp) (o : HO) : But p H (upd H p o) := fun b u n h => by
  rw [upd_ne n]
  exact h
theorem Tp.same {H H' : Hp} {p : Addr} (t : Tp H p) (s : Same H H') : Tp H' p := by
  obtain ⟨ns, e, h⟩ := t
  exact ⟨ns, s _ _ e, h⟩
theorem Tp.ne {H : Hp} {p q : Addr} (t : Tp H p) (h : H q = none) : p ≠ q := by
  obtain ⟨ns, e, _⟩ := t
  exact ne_of_none e h
theorem tyes {σ : L2.St} {H : Hp} {A B : Hp → Prop} (h : A H) : tYes σ H (fun b H3 => if b = true then A H3 else B H3) := by
  show if true = true then A H else B H
  rw [if_pos rfl]
  exact h
/-- a word -/
def Wd (z : Str) : Prop := 1 ≤ z.length ∧ z.length ≤ 12 ∧ ∀ c ∈ z.cps.toList, 97 ≤ c ∧ c ≤ 122
section
variable {P : Program} {w : World} {K : PySem.W.Frag} {mg : Str → Option Value} {base : Heap}
/-! ### take -/
theorem scTake : FnScope ["_law_tape_here", "_law_many"] ["_law_tape_here", "_law_many"] (defScope sTake) := ⟨rfl, rfl, rfl, by decide +kernel, rfl, by decide +kernel, by decide +kernel⟩
def spTake : Sp := fun vs H Q _ => ∃ (p : Addr) (m : Nat), vs = [.ref p, .int (m : Int)] ∧ Tp H p ∧ 1 ≤ m ∧ ∀ (H' : Hp) (r : Nat), But p H H' → Tp H' p → r < m → Q (.int (r : Int)) H'
theorem ok_take {f : Addr} {fd : FuncData} (F : Fun K "_law_take" "_law_take" sTake f fd) (ml : mg "len" = none) (mi : mg "int" = none) : FnOk P w K mg base CX0 1 f fd ["_law_tape_here", "_law_many"] spTake := by
  refine F.ok scTake (fun vs H Q E h => ?_) (fun cdv A outer s H vs Q E hr h => ?_)
  · obtain ⟨p, m, rfl, _⟩ := h
    rfl
  obtain ⟨p, m, rfl, ⟨ns, ep, hl⟩, hm, q⟩ := h
  refine ⟨_, pss_cons (ps_if (pt_cmpR op_eq (pe_callB call_len_seq (by rfl) ml PySem.boot_len (pa_cons (pv 0) pa_nil)) pe_int (nomark _)) (pss_one (ps_ret pe_int)) pss_nil)
    (pss_one (ps_ret (pe_op op_modN (pe_callTy call_int1 (by rfl) mi (by decide +kernel) (pa_cons (pe_bm PySem.F.plainAttrs_list PySem.F.slot_list_pop PySem.F.type_list_pop mt_popAt (pv 0) (pa_cons pe_int pa_nil)) pa_nil)) (pv 1)))), ?_⟩
  refine ⟨_, rfl, p, _, rfl, .inl (SqL.of ep), rfl, _, rfl, ite2 (fun c => ?_) (fun c => ?_)⟩
  · exact q H 0 (But.refl _ _) ⟨ns, ep, hl⟩ (by omega)
  · cases ns with
    | nil => exact absurd (decide_eq_true rfl) c
    | cons x r =>
      refine ⟨_, rfl, .inl ⟨rfl, _, SqL.of ep⟩, p, _, 0, 0, .int x, rfl, rfl, ep, by decide, by decide, ?_, rfl, .inl ⟨_, rfl, _, rfl, _, _, rfl, rfl, ?_, ?_⟩⟩
      · exact seqIndex_of (by decide) (by rw [List.length_map, List.length_cons]; omega)
      · show (m : Int) ≠ 0
        omega
      · have e1 : x.fmod (m : Int) = x % (m : Int) := Int.fmod_eq_emod_of_nonneg x (by omega)
        have h1 := Int.emod_nonneg x (show (m : Int) ≠ 0 by omega)
        have h2 := Int.emod_lt_of_pos x (show (0 : Int) < (m : Int) by omega)
        have z := q (upd H p (.lst (r.map V.int))) (x % (m : Int)).toNat (But.upd _ _ _) ⟨r, upd_same, by rw [List.length_cons] at hl; omega⟩ (by omega)
        rw [Int.toNat_of_nonneg h1] at z
        show Q (.int (x.fmod (m : Int))) _
        rw [e1]
        exact z
/-! ### a word -/
theorem scWord : FnScope ["_law_tape_here", "_law_alphabet", "_law_k"] ["_law_tape_here"] (defScope sWord) := ⟨rfl, rfl, rfl, by decide +kernel, rfl, by decide +kernel, by decide +kernel⟩
def spWord : Sp := fun vs H Q _ => ∃ (p : Addr), vs = [.ref p] ∧ Tp H p ∧ ∀ (H' : Hp) (z : Str), But p H H' → Tp H' p → Wd z → Q (.str z) H'
/-- a sign of the alphabet -/
def Sg (y : Str) : Prop := ∃ c, y = ⟨#[c]⟩ ∧ 97 ≤ c ∧ c ≤ 122
theorem sum_ones : ∀ {ys : List Str}, (∀ y ∈ ys, Sg y) → (ys.map (·.length)).sum = ys.length
  | [], _ => rfl
  | y :: r, h => by
    obtain ⟨c, e, _⟩ := h y (List.mem_cons_self ..)
    have ih := sum_ones (ys := r) fun z hz => h z (List.mem_cons_of_mem _ hz)
    rw [List.map_cons, List.sum_cons, ih, e, List.length_cons]
    show 1 + r.length = r.length + 1
    omega
theorem joinL_nil : ∀ xs : List (List Nat), TL.joinL [] xs = xs.flatten
  | [] => rfl
  | [x] => by simp [TL.joinL]
  | x :: y :: r => by
    show x ++ ([] ++ TL.joinL [] (y :: r)) = _
    rw [joinL_nil (y :: r)]
    rfl
theorem word_join {ys : List Str} (h : ∀ y ∈ ys, Sg y) (h1 : 1 ≤ ys.length) (h2 : ys.length ≤ 12) : Wd (Txt.join (Str.ofString "") ys) := by
  have e : (Txt.join (Str.ofString "") ys).cps.toList = (ys.map (fun y => y.cps.toList)).flatten := by
    have a := TL.tl_join (Str.ofString "") ys
    rw [← TL.join_eq] at a
    have b : (Str.ofString "").cps.toList = [] := by decide +kernel
    rw [show TL.tl (Str.ofString "") = [] from b, joinL_nil] at a
    exact a
  have hlen : ∀ l : List Str, (∀ y ∈ l, Sg y) → (l.map (fun y => y.cps.toList)).flatten.length = l.length := by
    intro l
    induction l with
    | nil => intro _; rfl
    | cons x r ih =>
      intro hx
      obtain ⟨c, rfl, _⟩ := hx x (List.mem_cons_self ..)
      have := ih fun y hy => hx y (List.mem_cons_of_mem _ hy)
      simp only [List.map_cons, List.flatten_cons, List.length_append, this, List.length_cons]
      simp
      omega
  have hl : (Txt.join (Str.ofString "") ys).length = ys.length := by
    show (Txt.join (Str.ofString "") ys).cps.size = _
    rw [← Array.length_toList, e]
    exact hlen ys h
  refine ⟨by omega, by omega, fun c hc => ?_⟩
  rw [e, List.mem_flatten] at hc
  obtain ⟨l, hl, hc⟩ := hc
  obtain ⟨y, hy, rfl⟩ := List.mem_map.mp hl
  obtain ⟨d, rfl, h3, h4⟩ := h y hy
  have : c = d := by simpa using hc
  omega
def alphabet : Str := Str.ofString "abcdefghijklmnopqrstuvwxyz"
theorem alpha_at {r : Nat} (h : r < 26) : ∃ c, alphabet.cps.toList[r]? = some c ∧ 97 ≤ c ∧ c ≤ 122 := by
  have key : ∀ i : Fin 26, ∃ c : Fin 123, alphabet.cps.toList[i.val]? = some c.val ∧ 97 ≤ c.val ∧ c.val ≤ 122 := by decide +kernel
  obtain ⟨c, a, b, d⟩ := key ⟨r, h⟩
  exact ⟨c.val, a, b, d⟩
theorem ok_word {f fT : Addr} {fd fdT : FuncData} (F : Fun K "_law_word" "_law_word" sWord f fd) (FT : Fun K "_law_take" "_law_take" sTake fT fdT) (bT : Binds K fdT ["_law_tape_here", "_law_many"] []) (gT : mg "_law_take" = some (.ref fT))
    (ml : mg "len" = none) (mi : mg "int" = none) (mr : mg "range" = none) : FnOk P w K mg base CX0 2 f fd ["_law_tape_here"] spWord := by
  have GT : FnOk P w K mg base CX0 1 fT fdT ["_law_tape_here", "_law_many"] spTake := ok_take FT ml mi
  refine F.ok scWord (fun vs H Q E h => ?_) (fun cdv A outer s H vs Q E hr h => ?_)
  · obtain ⟨p, rfl, _⟩ := h
    rfl
  obtain ⟨p, rfl, hT, q⟩ := h
  refine ⟨_, pss_cons (ps_set (i := 1) scWord.nd rfl (.inr rfl) pe_str)
    (pss_one (ps_ret (pe_join pe_str (pe_lc (own := [("_law_k", 2)]) (g := gName 2) (tt := tYes) (by rfl) scWord.nd
      (pi_range1 (by rfl) mr (pa_cons (pe_op op_add pe_int (pe_call GT hr (by rfl) gT FT.kp bT .nil pass0 (pa_cons (pv 0) (pa_cons pe_int pa_nil)))) pa_nil))
      (blkOk_by (own := [("_law_k", 2)]) (N := ["_law_tape_here", "_law_alphabet", "_law_k"]) (sc := defScope sWord) (by decide +kernel))
      (fun _ _ _ _ _ => pg_name (i := 2) scWord.nd rfl (Or.inl rfl)) (fun _ _ _ _ _ => pts_nil)
      (fun _ _ _ _ _ => pe_ix ix_str (pv 1) (pe_call GT hr (by rfl) gT FT.kp bT .nil pass0 (pa_cons (pv 0) (pa_cons pe_int pa_nil))) (fun _ _ => rfl)))))), ?_⟩
  refine ⟨⟨_, rfl⟩, _, rfl, p, 12, rfl, hT, by decide, fun H1 r b1 t1 hr12 => ⟨_, _, rfl, rfl, ?_⟩⟩
  refine ⟨1 + (r : Int), rfl, by omega, by omega, fun D nD => ?_⟩
  have npD : p ≠ D := t1.ne nD
  refine lc_range (lo := 0) (n := (1 + (r : Int)).toNat) (fun i H' => But p H1 H' ∧ Tp H' p ∧ ∃ ys : List Str, H' D = some (.lst (ys.map V.str)) ∧ ys.length = i ∧ ∀ y ∈ ys, Sg y)
    ⟨.of (same_upd nD), t1.same (same_upd nD), [], upd_same, rfl, by simp⟩ (fun i H' hi hW => ?_) (fun H' hW => ?_)
  · obtain ⟨b2, t2, ys, eD, hl, hy⟩ := hW
    refine ⟨rfl, ?_⟩
    refine tyes ?_
    refine ⟨_, rfl, _, rfl, p, 26, rfl, t2, by decide, fun H2 r2 b3 t3 h26 => ?_⟩
    obtain ⟨c, ec, h1, h2⟩ := alpha_at h26
    have eD2 := b3 D _ npD.symm eD
    refine ⟨alphabet, _, c, rfl, rfl, by decide +kernel, atI_nat ec, _, eD2, ?_, fun b o nb e => ?_, ?_, ys ++ [⟨#[c]⟩], ?_, ?_, fun y hm => ?_⟩
    · rw [List.length_map]
      exact small1000 (by omega)
    · rw [upd_ne (ne_of_none e nD)]
      exact b3 _ _ nb (b2 _ _ nb e)
    · obtain ⟨ns, e, h⟩ := t3
      exact ⟨ns, by rw [upd_ne npD]; exact e, h⟩
    · rw [upd_same, List.map_append]
      rfl
    · rw [List.length_append, hl]
      rfl
    · rcases List.mem_append.mp hm with hm | hm
      · exact hy y hm
      · exact ⟨c, by simpa using hm, h1, h2⟩
  · obtain ⟨b2, t2, ys, eD, hl, hy⟩ := hW
    refine ⟨_, D, ys, rfl, rfl, .inl (SqL.of eD), ?_, q H' _ (b1.trans b2) t2 (word_join hy (by omega) (by omega))⟩
    rw [sum_ones hy, show (Str.ofString "").length = 0 by decide +kernel]
    omega
end
end KN
set_option Elab.async false
set_option linter.all false
set_option maxRecDepth 100000
set_option maxHeartbeats 2000000
namespace KN
open PySem PySem.Spec PyProof.Rows L2
/-! ### data of texts and tuples -/
inductive Fd where
  | s (z : Str)
  | t (ds : List Fd)
def letB (z : Str) : Bool := decide (z.length = 1) && z.cps.toList.all fun c => decide (65 ≤ c) && decide (c ≤ 90)
def wdB (z : Str) : Bool := decide (1 ≤ z.length) && decide (z.length ≤ 12) && z.cps.toList.all fun c => decide (97 ≤ c) && decide (c ≤ 122)
def hdB : Fd → Bool
  | .s z => wdB z
  | .t _ => false
mutual
/-- a form -/
def fok : Fd → Bool
  | .s z => letB z
  | .t ds => tok ds
def tok : List Fd → Bool
  | [] => false
  | h :: ds => hdB h && (decide (ds.length ≤ 3) && aok ds)
def aok : List Fd → Bool
  | [] => true
  | d :: ds => fok d && aok ds
end
mutual
def dep : Fd → Nat
  | .s _ => 0
  | .t ds => 1 + deps ds
def deps : List Fd → Nat
  | [] => 0
  | d :: ds => max (dep d) (deps ds)
end
mutual
def toPy : Fd → PyData
  | .s z => .str z
  | .t ds => .tuple (toPys ds)
def toPys : List Fd → List PyData
  | [] => []
  | d :: ds => toPy d :: toPys ds
end
theorem strOk_of {z : Str} (h : ∀ c ∈ z.cps.toList, c ≤ 122) : PyData.strOk z = true := by
  unfold PyData.strOk
  rw [← Array.all_toList, List.all_eq_true]
  intro c hc
  have := h c hc
  exact decide_eq_true (by omega)
theorem letB_small {z : Str} (h : letB z = true) : ∀ c ∈ z.cps.toList, c ≤ 122 := fun c hc => by
  unfold letB at h
  simp only [Bool.and_eq_true, List.all_eq_true, decide_eq_true_eq] at h
  have := h.2 c hc
  omega
theorem wdB_small {z : Str} (h : wdB z = true) : ∀ c ∈ z.cps.toList, c ≤ 122 := fun c hc => by
  unfold wdB at h
  simp only [Bool.and_eq_true, List.all_eq_true, decide_eq_true_eq] at h
  have := h.2 c hc
  omega
theorem canLay_hd : ∀ d : Fd, hdB d = true → (toPy d).canLay0 = true
  | .s z, h => by
    simp only [toPy, PyData.canLay0]
    exact strOk_of (wdB_small h)
  | .t ds, h => by cases h
mutual
theorem canLay_toPy : ∀ d : Fd, fok d = true → (toPy d).canLay0 = true
  | .s z, h => by
    simp only [toPy, PyData.canLay0]
    exact strOk_of (letB_small (by simpa [fok] using h))
  | .t ds, h => by
    simp only [toPy, PyData.canLay0]
    exact canLay_tok ds (by simpa [fok] using h)
theorem canLay_tok : ∀ ds : List Fd, tok ds = true → PyData.canLayAll0 (toPys ds) = true
  | [], h => by simp [tok] at h
  | d :: ds, h => by
    simp only [tok, Bool.and_eq_true] at h
    simp only [toPys, PyData.canLayAll0, Bool.and_eq_true]
    exact ⟨canLay_hd d h.1, canLay_aok ds h.2.2⟩
theorem canLay_aok : ∀ ds : List Fd, aok ds = true → PyData.canLayAll0 (toPys ds) = true
  | [], _ => rfl
  | d :: ds, h => by
    simp only [aok, Bool.and_eq_true] at h
    simp only [toPys, PyData.canLayAll0, Bool.and_eq_true]
    exact ⟨canLay_toPy d h.1, canLay_aok ds h.2⟩
end
mutual
theorem depth_toPy : ∀ d : Fd, (toPy d).depth ≤ dep d
  | .s z => by simp [toPy, PyData.depth, dep]
  | .t ds => by
    have h := depth_toPys ds
    simp [toPy, PyData.depth, dep]
    omega
theorem depth_toPys : ∀ ds : List Fd, PyData.depthAll (toPys ds) ≤ deps ds
  | [] => by simp [toPys, PyData.depthAll]
  | d :: ds => by
    have h1 := depth_toPy d
    have h2 := depth_toPys ds
    simp [toPys, PyData.depthAll, deps]
    omega
end
theorem shaped_toPy {d : Fd} (hf : fok d = true) (h : dep d ≤ 60) : SeqAt.shaped (toPy d) = true := by
  have h1 := depth_toPy d
  show ((toPy d).canLay0 && decide ((toPy d).depth ≤ 64)) = true
  rw [canLay_toPy d hf, decide_eq_true (by omega)]
  rfl
theorem eqv_toPy {d : Fd} (h : fok d = true) : PyData.eqv (toPy d) (toPy d) = true := SeqAt.eqv_refl _ (canLay_toPy d h)
mutual
/-- the value v is, in the heap H, the data d -/
inductive Rp (H : Hp) : V → Fd → Prop
  | s (z : Str) : Rp H (.str z) (.s z)
  | t {a : Addr} {vs : List V} {ds : List Fd} : H a = some (.tup vs) → RpA H vs ds → Rp H (.ref a) (.t ds)
inductive RpA (H : Hp) : List V → List Fd → Prop
  | nil : RpA H [] []
  | cons {v : V} {vs : List V} {d : Fd} {ds : List Fd} : Rp H v d → RpA H vs ds → RpA H (v :: vs) (d :: ds)
end
/-- the tuples stand as they stood -/
def Keep (H H' : Hp) : Prop := ∀ b xs, H b = some (.tup xs) → H' b = some (.tup xs)
theorem Keep.refl (H : Hp) : Keep H H := fun _ _ h => h
theorem Keep.trans {H H1 H2 : Hp} (a : Keep H H1) (b : Keep H1 H2) : Keep H H2 := fun c xs h => b c xs (a c xs h)
theorem Keep.same {H H' : Hp} (s : Same H H') : Keep H H' := fun b xs h => s b _ h
theorem Keep.but {H H' : Hp} {p : Addr} (s : But p H H') (t : Tp H p) : Keep H H' := fun b xs h => by
  refine s b _ (fun e => ?_) h
  obtain ⟨ns, e2, _⟩ := t
  rw [e, e2] at h
  cases h
theorem Keep.lst {H : Hp} {D : Addr} {ys : List V} {o : HO} (h : H D = some (.lst ys)) : Keep H (upd H D o) := fun b xs e => by
  rw [upd_ne (fun z => by rw [z, h] at e; cases e)]
  exact e
theorem Keep.new {H : Hp} {D : Addr} {o : HO} (h : H D = none) : Keep H (upd H D o) := .same (same_upd h)
mutual
theorem Rp.keep {H H' : Hp} (k : Keep H H') : ∀ {v : V} {d : Fd}, Rp H v d → Rp H' v d
  | _, .s z, .s _ => .s z
  | _, .t ds, .t h a => .t (k _ _ h) (RpA.keep k a)
theorem RpA.keep {H H' : Hp} (k : Keep H H') : ∀ {vs : List V} {ds : List Fd}, RpA H vs ds → RpA H' vs ds
  | _, [], .nil => .nil
  | _, d :: ds, .cons h a => .cons (Rp.keep k h) (RpA.keep k a)
end
mutual
theorem Rp.dp {K : PySem.W.Frag} {H : Hp} : ∀ {v : V} {d : Fd}, Rp H v d → Dp K H v (toPy d)
  | _, .s z, .s _ => .str z
  | _, .t ds, .t h a => .tup (SqT.of h) (RpA.dp a)
theorem RpA.dp {K : PySem.W.Frag} {H : Hp} : ∀ {vs : List V} {ds : List Fd}, RpA H vs ds → DpAll K H vs (toPys ds)
  | _, [], .nil => .nil
  | _, d :: ds, .cons h a => .cons (Rp.dp h) (RpA.dp a)
end
theorem RpA.length {H : Hp} : ∀ {vs : List V} {ds : List Fd}, RpA H vs ds → vs.length = ds.length
  | _, [], .nil => rfl
  | _, d :: ds, .cons h a => by rw [List.length_cons, List.length_cons, RpA.length a]
theorem RpA.snoc {H : Hp} : ∀ {vs : List V} {ds : List Fd} {v : V} {d : Fd}, RpA H vs ds → Rp H v d → RpA H (vs ++ [v]) (ds ++ [d])
  | _, [], _, _, .nil, h => .cons h .nil
  | _, _ :: _, _, _, .cons h a, h2 => .cons h (RpA.snoc a h2)
theorem aok_snoc : ∀ {ds : List Fd} {d : Fd}, aok (ds ++ [d]) = (aok ds && fok d)
  | [], d => by simp [aok]
  | e :: ds, d => by
    show (fok e && aok (ds ++ [d])) = ((fok e && aok ds) && fok d)
    rw [aok_snoc, Bool.and_assoc]
theorem deps_snoc : ∀ {ds : List Fd} {d : Fd}, deps (ds ++ [d]) = max (deps ds) (dep d)
  | [], d => by simp [deps]
  | e :: ds, d => by
    show max (dep e) (deps (ds ++ [d])) = max (max (dep e) (deps ds)) (dep d)
    rw [deps_snoc]
    omega
theorem wdB_of {z : Str} (h : Wd z) : wdB z = true := by
  obtain ⟨h1, h2, h3⟩ := h
  unfold wdB
  rw [decide_eq_true h1, decide_eq_true h2]
  simp only [Bool.true_and, List.all_eq_true, Bool.and_eq_true, decide_eq_true_eq]
  exact h3
theorem upper_at {r : Nat} (h : r < 26) : ∃ c, (Str.ofString "ABCDEFGHIJKLMNOPQRSTUVWXYZ").cps.toList[r]? = some c ∧ letB ⟨#[c]⟩ = true := by
  have key : ∀ i : Fin 26, ∃ c : Fin 123, (Str.ofString "ABCDEFGHIJKLMNOPQRSTUVWXYZ").cps.toList[i.val]? = some c.val ∧ letB ⟨#[c.val]⟩ = true := by decide +kernel
  obtain ⟨c, a, b⟩ := key ⟨r, h⟩
  exact ⟨c.val, a, b⟩
section
variable {P : Program} {w : World} {K : PySem.W.Frag} {mg : Str → Option Value} {base : Heap}
/-! ### a pattern -/
theorem scPat : FnScope ["_law_tape_here", "_law_depth", "_law_word_here", "_law_k"] ["_law_tape_here", "_law_depth"] (defScope sPattern) := ⟨rfl, rfl, rfl, by decide +kernel, rfl, by decide +kernel, by decide +kernel⟩
/-- n calls are allowed -/
def spPat (n : Nat) : Sp := fun vs H Q _ => ∃ (p : Addr) (k : Nat), vs = [.ref p, .int (k : Int)] ∧ Tp H p ∧ k < n ∧ ∀ (H' : Hp) (v : V) (d : Fd), But p H H' → Tp H' p → Rp H' v d → fok d = true → dep d ≤ k → Q v H'
theorem pat_none {f : Addr} {fd : FuncData} : FnOk P w K mg base CX0 2 f fd ["_law_tape_here", "_law_depth"] (spPat 0) := by
  have no : ∀ vs H Q E, ¬ spPat 0 vs H Q E := fun vs H Q E h => by
    obtain ⟨p, k, _, _, h2, _⟩ := h
    omega
  exact ⟨fun vs H Q E h => absurd h (no vs H Q E), fun A outer s H args us vs Q E _ _ _ _ h => absurd h (no vs H Q E)⟩
theorem ok_pat {n : Nat} {f fT fW : Addr} {fd fdT fdW : FuncData} (F : Fun K "_law_pattern" "_law_pattern" sPattern f fd) (bF : Binds K fd ["_law_tape_here", "_law_depth"] []) (gF : mg "_law_pattern" = some (.ref f))
    (GF : FnOk P w K mg base CX0 (n + 2) f fd ["_law_tape_here", "_law_depth"] (spPat n))
    (FT : Fun K "_law_take" "_law_take" sTake fT fdT) (bT : Binds K fdT ["_law_tape_here", "_law_many"] []) (gT : mg "_law_take" = some (.ref fT))
    (FW : Fun K "_law_word" "_law_word" sWord fW fdW) (bW : Binds K fdW ["_law_tape_here"] []) (gW : mg "_law_word" = some (.ref fW))
    (ml : mg "len" = none) (mi : mg "int" = none) (mr : mg "range" = none) (mt : mg "tuple" = none) : FnOk P w K mg base CX0 (n + 3) f fd ["_law_tape_here", "_law_depth"] (spPat (n + 1)) := by
  have GT : FnOk P w K mg base CX0 1 fT fdT ["_law_tape_here", "_law_many"] spTake := ok_take FT ml mi
  have GW : FnOk P w K mg base CX0 2 fW fdW ["_law_tape_here"] spWord := ok_word FW FT bT gT ml mi mr
  refine F.ok scPat (fun vs H Q E h => ?_) (fun cdv A outer s H vs Q E hr h => ?_)
  · obtain ⟨p, k, rfl, _⟩ := h
    rfl
  obtain ⟨p, k, rfl, hT, hk, q⟩ := h
  have hr1 : Room 1 _ := hr.mono (by omega)
  have hr2 : Room 2 _ := hr.mono (by omega)
  refine ⟨_, pss_cons (ps_if (PW.pt (pw_or (pt_cmpR op_eq (pv 1) pe_int (nomark _)) (pw_or1 (pt_cmpR op_eq (pe_call GT hr1 (by rfl) gT FT.kp bT .nil pass0 (pa_cons (pv 0) (pa_cons pe_int pa_nil))) pe_int (nomark _)))))
      (pss_one (ps_ret (pe_ix ix_str pe_str (pe_call GT hr1 (by rfl) gT FT.kp bT .nil pass0 (pa_cons (pv 0) (pa_cons pe_int pa_nil))) (fun _ _ => rfl)))) pss_nil)
    (pss_cons (ps_set (i := 2) scPat.nd rfl (.inl rfl) (pe_call GW hr2 (by rfl) gW FW.kp bW .nil pass0 (pa_cons (pv 0) pa_nil)))
    (pss_one (ps_ret (pe_op op_catT (pe_tup (pa_cons (pv 2) pa_nil)) (pe_callTy call_tuple_of (by rfl) mt (by decide +kernel) (pa_cons
      (pe_lc (own := [("_law_k", 3)]) (g := gName 3) (tt := tYes) (by rfl) scPat.nd
        (pi_range1 (by rfl) mr (pa_cons (pe_call GT hr1 (by rfl) gT FT.kp bT .nil pass0 (pa_cons (pv 0) (pa_cons pe_int pa_nil))) pa_nil))
        (blkOk_by (own := [("_law_k", 3)]) (N := ["_law_tape_here", "_law_depth", "_law_word_here", "_law_k"]) (sc := defScope sPattern) (by decide +kernel))
        (fun _ _ _ _ _ => pg_name (i := 3) scPat.nd rfl (Or.inl rfl)) (fun _ _ _ _ _ => pts_nil)
        (fun _ _ _ _ _ => pe_call GF hr (by rfl) gF F.kp bF .nil pass0 (pa_cons (pv 0) (pa_cons (pe_op op_sub (pv 1) pe_int) pa_nil))))
      pa_nil)))))), ?_⟩
  have letter : ∀ (H1 : Hp), But p H H1 → Tp H1 p → tRet (tOp rIxS (tC (V.str (Str.ofString "ABCDEFGHIJKLMNOPQRSTUVWXYZ"))) (tCall spTake [] E0 (tCons (tVar 0) (tCons (tC (V.int 26)) tNil)))) { nx := fun _ H' => Q .non H', rt := Q } [some (.ref p), some (.int (k : Int)), none, none] H1 := fun H1 b1 t1 => by
    refine ⟨_, rfl, p, 26, rfl, t1, by decide, fun H2 r b2 t2 h26 => ?_⟩
    obtain ⟨c, ec, hc⟩ := upper_at h26
    exact ⟨_, _, c, rfl, rfl, by decide +kernel, atI_nat ec, q H2 _ _ (b1.trans b2) t2 (.s _) (by simpa [fok] using hc) (Nat.zero_le _)⟩
  refine ⟨_, rfl, rfl, _, rfl, ?_⟩
  refine ite2 (fun c => ?_) (fun c => ?_)
  · exact letter H (But.refl _ _) hT
  · have hk0 : k ≠ 0 := fun e => by
      subst e
      exact c (decide_eq_true rfl)
    refine ⟨_, rfl, p, 2, rfl, hT, by decide, fun H1 r b1 t1 _ => ⟨rfl, _, rfl, ?_⟩⟩
    refine ite2 (fun _ => ?_) (fun _ => ?_)
    · exact letter H1 b1 t1
    · refine ⟨_, rfl, p, rfl, t1, fun H2 z b2 t2 hz => ?_⟩
      refine ⟨_, rfl, (by show 1 ≤ sizeLine; decide), fun t nt => ?_⟩
      have t2t : Tp (upd H2 t (.tup [.str z])) p := t2.same (same_upd nt)
      have npt : p ≠ t := t2.ne nt
      refine ⟨_, rfl, p, 4, rfl, t2t, by decide, fun H3 r3 b3 t3 h4 => ?_⟩
      refine ⟨(r3 : Int), rfl, by omega, by omega, fun D nD => ?_⟩
      have npD : p ≠ D := t3.ne nD
      have fin : ∀ (l : Addr) (H5 : Hp) (ds : List Fd) (vs : List V), But p H3 H5 → Tp H5 p → H5 l = some (.tup (.str z :: vs)) → RpA H5 vs ds → aok ds = true → deps ds ≤ k - 1 → ds.length ≤ 3 → Q (.ref l) H5 := fun l H5 ds vs b5 t5 el ra ok dd hl => by
        refine q H5 (.ref l) (.t (.s z :: ds)) ((((b1.trans b2).trans (.of (same_upd nt))).trans b3).trans b5) t5 (.t el (.cons (.s z) ra)) ?_ ?_
        · show (hdB (.s z) && (decide (ds.length ≤ 3) && aok ds)) = true
          rw [show hdB (.s z) = true from wdB_of hz, decide_eq_true hl, ok]
          rfl
        · show 1 + max 0 (deps ds) ≤ k
          omega
      refine lc_range (lo := 0) (n := r3) (fun i H' => But p H3 H' ∧ Tp H' p ∧ ∃ (vs : List V) (ds : List Fd), H' D = some (.lst vs) ∧ RpA H' vs ds ∧ aok ds = true ∧ deps ds ≤ k - 1 ∧ ds.length = i)
        ⟨.of (same_upd nD), t3.same (same_upd nD), [], [], upd_same, .nil, rfl, Nat.zero_le _, rfl⟩ (fun i H' hi hW => ?_) (fun H' hW => ?_)
      · obtain ⟨b4, t4, vs, ds, eD, ra, ok, dd, hl⟩ := hW
        refine ⟨rfl, tyes ?_⟩
        refine ⟨_, rfl, _, rfl, _, _, rfl, rfl, p, k - 1, ?_, t4, by omega, fun H5 v d b5 t5 rp okd dpd => ?_⟩
        · have e : (k : Int) - 1 = ((k - 1 : Nat) : Int) := by omega
          show [V.ref p, V.int ((k : Int) - 1)] = _
          rw [e]
        · have eD5 := b5 D _ npD.symm eD
          have kp : Keep H' (upd H5 D (.lst (vs ++ [v]))) := (Keep.but b5 t4).trans (.lst eD5)
          refine ⟨vs, eD5, ?_, fun b o nb e => ?_, ?_, vs ++ [v], ds ++ [d], upd_same, (ra.keep kp).snoc (rp.keep (.lst eD5)), ?_, ?_, ?_⟩
          · rw [ra.length]
            exact small1000 (by omega)
          · rw [upd_ne (ne_of_none e nD)]
            exact b5 _ _ nb (b4 _ _ nb e)
          · obtain ⟨ns, e, h⟩ := t5
            exact ⟨ns, by rw [upd_ne npD]; exact e, h⟩
          · rw [aok_snoc, ok, okd]
            rfl
          · rw [deps_snoc]
            omega
          · rw [List.length_append, hl]
            rfl
      · obtain ⟨b4, t4, vs, ds, eD, ra, ok, dd, hl⟩ := hW
        refine ⟨D, vs, rfl, .inl ⟨SqL.of eD, fun l nl => ?_⟩⟩
        have et : (upd H' l (.tup vs)) t = some (.tup [.str z]) := (same_upd nl) _ _ (b4 _ _ npt.symm (b3 _ _ npt.symm upd_same))
        have hv : vs.length = r3 := by rw [ra.length, hl]
        refine ⟨t, l, [.str z], vs, rfl, rfl, SqT.of et, SqT.of upd_same, by simp, ?_, fun e0 => ?_, fun _ c nc => ?_⟩
        · exact Nat.le_of_lt (small1000 (by rw [hv]; show 1 + r3 ≤ 1000; omega))
        · subst e0
          exact fin t _ ds [] (b4.trans (.of (same_upd nl))) (t4.same (same_upd nl)) et (ra.keep (.new nl)) ok dd (by omega)
        · have sm : Same H' (upd (upd H' l (.tup vs)) c (.tup ([.str z] ++ vs))) := (same_upd nl).trans (same_upd nc)
          exact fin c _ ds vs (b4.trans (.of sm)) (t4.same sm) upd_same (ra.keep (.same sm)) ok dd (by omega)
end
end KN
set_option Elab.async false
set_option linter.all false
set_option maxRecDepth 100000
set_option maxHeartbeats 2000000
/-! ### list.extend of a tuple -/
namespace KN
open PySem PySem.Spec PyProof.Rows
theorem extend_tup (l : Addr) (items : Array Value) (n : Nat) (b : Addr) (dd : Option Addr) (sl : Array (Option Value)) (items2 : Array Value) (n2 : Nat) (hs0 : ¬(!items.isEmpty && Builtin.List.listTooLong (items.size + items2.size)) = true) (hs1 : items.size ≤ sizeLine) (hs2 : items.size + items2.size ≤ sizeLine + 1) :
    Meets (Builtin.«list.extend» ⟨[.ref l, .ref b], []⟩) (fun _ R s => s.heap.get? l = some { cls := .type "list", dict := none, data := .seq items n, slots := #[] } ∧ s.heap.get? b = some { cls := .type "tuple", dict := dd, data := .seq items2 n2, slots := sl } ∧ R (.ok (.ret Value.none)) { s with heap := s.heap.update l (Obj.mapSeq fun x => x ++ items2), toks := s.toks }) :=
  .of_wp fun prog w A R s h => by
    obtain ⟨hp, g, d, tk, os⟩ := s; obtain ⟨hl, hb, h⟩ := h; have f1 := AutoSeq1.idx_int; have f2 := AutoSeq1.sub_tuple_tuple; have f3 := AutoSeq1.sub_list_list; have f4 := AutoSeq1.sub_tuple_list; have f5 := AutoSeq1.sub_list_tuple
    have hz' : (items ++ items2).size ≤ sizeLine + 1 := by rw [Array.size_append]; exact hs2
    wp_walk using (wpAny_updateSeq hl rfl (hz := hs1) (_hz' := hz')), AutoSeq1.wpAny_loadPart' hl, AutoSeq1.wpAny_loadPart' hb; exact ⟨_, rfl, h⟩
end KN
namespace L2
open PySem PySem.Spec PyProof.Rows
section
variable {X : Cx}
def rExtendT : V → List V → Hp → VK → Prop := fun x vs H Q => ∃ l b xs zs, x = .ref l ∧ vs = [.ref b] ∧ H l = some (.lst xs) ∧ H b = some (.tup zs) ∧ xs.length + zs.length ≤ sizeLine ∧ Q .non (upd H l (.lst (xs ++ zs)))
theorem mt_extendT : MtM X "list.extend" rExtendT := by
  intro pins s σ H x vs v us Q I rx rv h
  obtain ⟨l, b, xs, zs, rfl, rfl, hH, hB, hz, q⟩ := h
  cases rx
  obtain ⟨u, rfl, ru⟩ := rv.one
  cases ru
  obtain ⟨z, its, n, r, hl, e⟩ := I.lstM hH
  obtain ⟨its2, r2, ⟨o2, ho2, hc2, n2, hd2⟩, hl2⟩ := I.tuple (SqT.of hB)
  obtain ⟨oc, od, oda, osl⟩ := o2
  dsimp only at hc2 hd2
  subst hc2 hd2
  have e1 := r.length
  have e2 := r2.length
  have hsz : its.toArray.size + its2.toArray.size ≤ sizeLine := by rw [List.size_toArray, List.size_toArray]; omega
  have hlong : ¬ (!its.toArray.isEmpty && Builtin.List.listTooLong (its.toArray.size + its2.toArray.size)) = true := by
    rw [notLongL hsz, Bool.and_false]
    exact Bool.false_ne_true
  refine call_meets F.slot_list_extend ⟨_, e, rfl⟩ F.entry_list_extend (F.args_list_extend_2 _ _)
    (KN.extend_tup l its.toArray n b od osl its2.toArray n2 hlong (by rw [List.size_toArray]; omega) (by omega)) ⟨e, ho2, ?_⟩
  refine ⟨.non, _, I.lset (its' := its ++ its2) hH e (by simp) (r.append r2) ?_, rfl, q⟩
  rw [List.length_append]
  omega
end
end L2
namespace KN
open PySem PySem.Spec PyProof.Rows L2
section
variable {P : Program} {w : World} {K : PySem.W.Frag} {mg : Str → Option Value} {base : Heap}
def SMALLs : Str := Str.ofString "abcdefghijklmnopqrstuvwxyz"
def CAPs : Str := Str.ofString "ABCDEFGHIJKLMNOPQRSTUVWXYZ"
theorem small_mem {c : Nat} : c ∈ SMALLs.cps.toList ↔ 97 ≤ c ∧ c ≤ 122 := by
  have e : SMALLs.cps.toList = (List.range 26).map (97 + ·) := by decide +kernel
  rw [e, List.mem_map]
  constructor
  · rintro ⟨i, hi, rfl⟩
    have := List.mem_range.mp hi
    omega
  · intro h
    exact ⟨c - 97, List.mem_range.mpr (by omega), by omega⟩
theorem caps_mem {c : Nat} : c ∈ CAPs.cps.toList ↔ 65 ≤ c ∧ c ≤ 90 := by
  have e : CAPs.cps.toList = (List.range 26).map (65 + ·) := by decide +kernel
  rw [e, List.mem_map]
  constructor
  · rintro ⟨i, hi, rfl⟩
    have := List.mem_range.mp hi
    omega
  · intro h
    exact ⟨c - 65, List.mem_range.mpr (by omega), by omega⟩
/-- the type of data -/
theorem ty_s {H : Hp} {z : Str} : TyX K H (.str z) (.type "str") := .base (.str z)
theorem ty_t {H : Hp} {a : Addr} {vs : List V} (h : H a = some (.tup vs)) : TyX K H (.ref a) (.type "tuple") := .base (.tup h)
/-! ### is_letter -/
def isLet : Fd → Bool
  | .s z => letB z
  | .t _ => false
theorem scLet : FnScope ["text"] ["text"] (defScope sIsLetter) := ⟨rfl, rfl, rfl, by decide +kernel, rfl, by decide +kernel, by decide +kernel⟩
def spLet : Sp := fun vs H Q _ => ∃ (v : V) (d : Fd), vs = [v] ∧ Rp H v d ∧ (∀ z, d = .s z → z.length ≤ sizeLine) ∧ Q (.bl (isLet d)) H
theorem one_sign {z : Str} (h : z.length = 1) : ∃ c, z = ⟨#[c]⟩ := by
  obtain ⟨⟨l⟩⟩ := z
  match l, h with
  | [c], _ => exact ⟨c, rfl⟩
theorem ok_let {f : Addr} {fd : FuncData} (F : Fun K "is_letter" "is_letter" sIsLetter f fd) (mI : mg "isinstance" = none) (mS : mg "str" = none) (ml : mg "len" = none) (mC : ∃ t, mg "CAPITAL" = some (.str CAPs t)) : FnOk P w K mg base CX0 1 f fd ["text"] spLet := by
  refine F.ok scLet (fun vs H Q E h => ?_) (fun cdv A outer s H vs Q E hr h => ?_)
  · obtain ⟨v, d, rfl, _⟩ := h
    rfl
  obtain ⟨v, d, rfl, rp, hz, q⟩ := h
  obtain ⟨tC, mC⟩ := mC
  refine ⟨_, pss_one (ps_ret (pe_and (pe_callB call_isi (by rfl) mI (by decide +kernel) (pa_cons (pv 0) (pa_cons (pe_bltn (v := .ty "str") (by rfl) mS (by decide +kernel) rfl) pa_nil)))
    (pe_and (pe_cmpR op_eq (pe_callB call_len_str (by rfl) ml PySem.boot_len (pa_cons (pv 0) pa_nil)) pe_int (nomark _)) (pe_one (pe_cmpR op_in_sign (pv 0) (pe_glob (v := .str CAPs) (by rfl) mC ⟨_, rfl⟩) (by rfl)))))), ?_⟩
  cases rp with
  | s z =>
    refine ⟨_, rfl, _, _, _, _, true, rfl, .ty "str", ty_s, kit_ty (by decide +kernel), _, rfl, iteT ?_⟩
    refine ⟨_, rfl, _, rfl, hz z rfl, rfl, _, rfl, ?_⟩
    refine ite2 (fun c => ?_) (fun c => ?_)
    · have h1 : z.length = 1 := by
        have := V.int.inj (of_decide_eq_true c)
        omega
      obtain ⟨c0, rfl⟩ := one_sign h1
      refine ⟨_, rfl, c0, CAPs, rfl, rfl, ?_⟩
      have e : isLet (.s ⟨#[c0]⟩) = decide (c0 ∈ CAPs.cps.toList) := by
        show letB _ = _
        rw [Bool.eq_iff_iff, decide_eq_true_eq, caps_mem]
        simp [letB, Str.length]
      rw [e] at q
      exact q
    · have e : isLet (.s z) = false := by
        show letB z = false
        unfold letB
        rw [decide_eq_false (fun e => c (decide_eq_true (by rw [e]; rfl)))]
        rfl
      rw [e] at q
      exact q
  | t h ra =>
    refine ⟨_, rfl, _, _, _, _, false, rfl, .ty "str", ty_t h, kit_ty (by decide +kernel), _, rfl, iteF ?_⟩
    exact q
/-! ### is_word -/
theorem scWd : FnScope ["text", "mark"] ["text"] (defScope sIsWord) := ⟨rfl, rfl, rfl, by decide +kernel, rfl, by decide +kernel, by decide +kernel⟩
def spWd : Sp := fun vs H Q _ => ∃ (v : V) (d : Fd), vs = [v] ∧ Rp H v d ∧ (∀ z, d = .s z → z.length ≤ sizeLine) ∧ ∀ H', Same H H' → Q (.bl (hdB d)) H'
theorem ok_wd {f : Addr} {fd : FuncData} (F : Fun K "is_word" "is_word" sIsWord f fd) (mI : mg "isinstance" = none) (mS : mg "str" = none) (ml : mg "len" = none) (ma : mg "all" = none) (mC : ∃ t, mg "SMALL" = some (.str SMALLs t)) : FnOk P w K mg base CX0 1 f fd ["text"] spWd := by
  refine F.ok scWd (fun vs H Q E h => ?_) (fun cdv A outer s H vs Q E hr h => ?_)
  · obtain ⟨v, d, rfl, _⟩ := h
    rfl
  obtain ⟨v, d, rfl, rp, hz, q⟩ := h
  obtain ⟨tC, mC⟩ := mC
  refine ⟨_, pss_one (ps_ret (pe_and (pe_callB call_isi (by rfl) mI (by decide +kernel) (pa_cons (pv 0) (pa_cons (pe_bltn (v := .ty "str") (by rfl) mS (by decide +kernel) rfl) pa_nil)))
    (pe_and (pe_chain op_le op_le pe_int (pe_callB call_len_str (by rfl) ml PySem.boot_len (pa_cons (pv 0) pa_nil)) pe_int)
      (pe_one (pe_callB (cr_all (by rfl)) (by rfl) ma (by decide +kernel) (pa_cons
        (pe_lc (own := [("mark", 1)]) (g := gName 1) (tt := tYes) (by rfl) scWd.nd (pi_str (pv 0))
          (blkOk_by (own := [("mark", 1)]) (N := ["text", "mark"]) (sc := defScope sIsWord) (by decide +kernel))
          (fun _ _ _ _ _ => pg_name (i := 1) scWd.nd rfl (Or.inl rfl)) (fun _ _ _ _ _ => pts_nil)
          (fun _ _ _ _ _ => pe_cmpR op_in_sign (pv 1) (pe_glob (v := .str SMALLs) (by rfl) mC ⟨_, rfl⟩) (by rfl))) pa_nil)))))), ?_⟩
  cases rp with
  | s z =>
    refine ⟨_, rfl, _, _, _, _, true, rfl, .ty "str", ty_s, kit_ty (by decide +kernel), _, rfl, iteT ?_⟩
    refine ⟨_, rfl, _, rfl, hz z rfl, _, _, rfl, rfl, _, rfl, ?_⟩
    have noW : ¬ (1 ≤ z.length ∧ z.length ≤ 12) → hdB (.s z) = false := fun hn => by
      show wdB z = false
      unfold wdB
      rw [← Bool.decide_and, decide_eq_false hn]
      rfl
    refine ite2 (fun c1 => ?_) (fun c1 => ?_)
    · have h1 : (1 : Int) ≤ (z.length : Int) := of_decide_eq_true c1
      refine ⟨_, _, rfl, rfl, _, rfl, ite2 (fun c2 => ?_) (fun c2 => ?_)⟩
      · have h2 : (z.length : Int) ≤ 12 := of_decide_eq_true c2
        refine ⟨_, rfl, _, rfl, fun D nD => ?_⟩
        have hsz : z.cps.toList.length = z.length := Array.length_toList
        refine lc_it (walk_str (z := z)) (fun i H' => Same H H' ∧ H' D = some (.lst (((z.cps.toList.take i).map fun c => decide (c ∈ SMALLs.cps.toList)).map V.bl)))
          ⟨same_upd nD, upd_same⟩ (fun _ _ _ _ => trivial) (fun i x H' H'' hi hW hy => ?_) (fun H' hW => ?_)
        · obtain ⟨sm, eD⟩ := hW
          obtain ⟨rfl, c, hc, rfl⟩ := hy
          have hc' : z.cps.toList[i]? = some c := by rw [Array.getElem?_toList]; exact hc
          refine ⟨rfl, tyes ?_⟩
          refine ⟨_, rfl, c, SMALLs, rfl, rfl, _, eD, ?_, fun b o e => ?_, ?_⟩
          · rw [List.length_map, List.length_map, List.length_take]
            exact small1000 (by omega)
          · rw [upd_ne (ne_of_none e nD)]
            exact sm _ _ e
          · rw [upd_same, List.take_add_one, hc', List.map_append, List.map_append]
            rfl
        · obtain ⟨sm, eD⟩ := hW
          rw [List.take_of_length_le (by rw [hsz]; exact Nat.le_refl _)] at eD
          refine ⟨D, _, rfl, SqL.of eD, ?_⟩
          have e : hdB (.s z) = (z.cps.toList.map fun c => decide (c ∈ SMALLs.cps.toList)).all id := by
            show wdB z = _
            unfold wdB
            rw [decide_eq_true (show 1 ≤ z.length by omega), decide_eq_true (show z.length ≤ 12 by omega), List.all_map]
            refine congrArg (fun f => (true && true && List.all z.cps.toList f)) ?_
            funext c
            rw [← Bool.decide_and]
            exact decide_eq_decide.mpr small_mem.symm
          have z1 := q H' sm
          rw [e] at z1
          exact z1
      · have z1 := q H (Same.refl H)
        rw [noW fun hn => c2 (decide_eq_true (by omega))] at z1
        exact z1
    · refine ⟨_, rfl, iteF ?_⟩
      have z1 := q H (Same.refl H)
      rw [noW fun hn => c1 (decide_eq_true (by omega))] at z1
      exact z1
  | t h ra =>
    refine ⟨_, rfl, _, _, _, _, false, rfl, .ty "str", ty_t h, kit_ty (by decide +kernel), _, rfl, iteF ?_⟩
    exact q H (Same.refl H)
end
end KN
set_option Elab.async false
set_option linter.all false
set_option maxRecDepth 100000
set_option maxHeartbeats 2000000
namespace KN
open PySem PySem.Spec PyProof.Rows L2
mutual
/-- its texts fit, and how many nodes it has -/
def szk : Fd → Prop
  | .s z => z.length ≤ sizeLine
  | .t ds => szka ds
def szka : List Fd → Prop
  | [] => True
  | d :: ds => szk d ∧ szka ds
end
mutual
def nod : Fd → Nat
  | .s _ => 1
  | .t ds => 1 + noda ds
def noda : List Fd → Nat
  | [] => 0
  | d :: ds => nod d + noda ds
end
theorem szka_append : ∀ {xs ys : List Fd}, szka xs → szka ys → szka (xs ++ ys)
  | [], ys, _, h => h
  | x :: xs, ys, h1, h2 => ⟨h1.1, szka_append h1.2 h2⟩
theorem noda_append : ∀ {xs ys : List Fd}, noda (xs ++ ys) = noda xs + noda ys
  | [], ys => by simp [noda]
  | x :: xs, ys => by
    show nod x + noda (xs ++ ys) = nod x + noda xs + noda ys
    rw [noda_append]
    omega
theorem aok_append : ∀ {xs ys : List Fd}, aok (xs ++ ys) = (aok xs && aok ys)
  | [], ys => by simp [aok]
  | x :: xs, ys => by
    show (fok x && aok (xs ++ ys)) = ((fok x && aok xs) && aok ys)
    rw [aok_append, Bool.and_assoc]
theorem nod_pos : ∀ d : Fd, 1 ≤ nod d
  | .s _ => Nat.le_refl _
  | .t ds => Nat.le_add_right _ _
theorem len_noda : ∀ ds : List Fd, ds.length ≤ noda ds
  | [] => Nat.le_refl _
  | d :: ds => by
    have h1 := nod_pos d
    have h2 := len_noda ds
    show ds.length + 1 ≤ nod d + noda ds
    omega
theorem szka_last : ∀ {xs : List Fd} {d : Fd}, szka (xs ++ [d]) → szka xs ∧ szk d
  | [], d, h => ⟨trivial, h.1⟩
  | x :: xs, d, h => by
    have := szka_last (xs := xs) h.2
    exact ⟨⟨h.1, this.1⟩, this.2⟩
theorem RpA.append {H : Hp} : ∀ {vs us : List V} {ds es : List Fd}, RpA H vs ds → RpA H us es → RpA H (vs ++ us) (ds ++ es)
  | _, _, [], _, .nil, h => h
  | _, _, _ :: _, _, .cons h a, h2 => .cons h (RpA.append a h2)
/-- the last of a list of data -/
theorem RpA.last {H : Hp} : ∀ {vs : List V} {ds : List Fd}, RpA H vs ds → vs ≠ [] → ∃ vs' v ds' d, vs = vs' ++ [v] ∧ ds = ds' ++ [d] ∧ RpA H vs' ds' ∧ Rp H v d
  | _, [], .nil, h => absurd rfl h
  | _, [d], .cons h .nil, _ => ⟨[], _, [], d, rfl, rfl, .nil, h⟩
  | _, d :: e :: ds, .cons (v := v) h (.cons (v := v2) (vs := vs2) h2 a), _ => by
    obtain ⟨vs', u, ds', d', e1, e2, a', h'⟩ := RpA.last (ds := e :: ds) (.cons h2 a) (by simp)
    exact ⟨v :: vs', u, d :: ds', d', by rw [e1]; rfl, by rw [e2]; rfl, .cons h a', h'⟩
theorem cut1 (xs : List V) : cutV xs (some 1) none = xs.drop 1 := by
  unfold cutV
  rw [show HT.sIx xs.length 0 (some 1) = min 1 xs.length from HT.sIx_nat xs.length 0 1, HT.sIx_none]
  cases xs with
  | nil => rfl
  | cons x r =>
    rw [show min 1 (x :: r).length = 1 by
      rw [List.length_cons]
      omega]
    show (List.take ((x :: r).length - 1) r) = r
    rw [List.length_cons, Nat.add_sub_cancel]
    exact List.take_length
section
variable {P : Program} {w : World} {K : PySem.W.Frag} {mg : Str → Option Value} {base : Heap}
/-! ### is_form -/
theorem scForm0 : FnScope ["row", "todo", "part"] ["row"] (defScope sIsForm) := ⟨rfl, rfl, rfl, by decide +kernel, rfl, by decide +kernel, by decide +kernel⟩
def spIsForm : Sp := fun vs H Q _ => ∃ (v : V) (d : Fd), vs = [v] ∧ Rp H v d ∧ szk d ∧ nod d ≤ 900 ∧ ∀ H', Same H H' → Q (.bl (fok d)) H'
theorem ok_isForm {f fL fW : Addr} {fd fdL fdW : FuncData} (F : Fun K "is_form" "is_form" sIsForm f fd)
    (FL : Fun K "is_letter" "is_letter" sIsLetter fL fdL) (bL : Binds K fdL ["text"] []) (gL : mg "is_letter" = some (.ref fL))
    (FW : Fun K "is_word" "is_word" sIsWord fW fdW) (bW : Binds K fdW ["text"] []) (gW : mg "is_word" = some (.ref fW))
    (mI : mg "isinstance" = none) (mS : mg "str" = none) (mT : mg "tuple" = none) (ml : mg "len" = none) (ma : mg "all" = none) (mC : ∃ t, mg "CAPITAL" = some (.str CAPs t)) (mW : ∃ t, mg "SMALL" = some (.str SMALLs t)) :
    FnOk P w K mg base CX0 2 f fd ["row"] spIsForm := by
  have GL : FnOk P w K mg base CX0 1 fL fdL ["text"] spLet := ok_let FL mI mS ml mC
  have GW : FnOk P w K mg base CX0 1 fW fdW ["text"] spWd := ok_wd FW mI mS ml ma mW
  refine F.ok scForm0 (fun vs H Q E h => ?_) (fun cdv A outer s H vs Q E hr h => ?_)
  · obtain ⟨v, d, rfl, _⟩ := h
    rfl
  obtain ⟨v, d, rfl, rp, hz, hn, q⟩ := h
  refine ⟨_, pss_cons (ps_set (i := 1) scForm0.nd rfl (.inl rfl) (pe_lst (pa_cons (pv 0) pa_nil)))
    (pss_cons (ps_while PassesOwn.never (pt_truth (pv 1) (by intro _; rfl))
      (pss_cons (ps_set (i := 2) scForm0.nd rfl (.inl rfl) (pe_bm0 PySem.F.plainAttrs_list PySem.F.slot_list_pop PySem.F.type_list_pop mt_pop (pv 1)))
      (pss_cons (ps_if (pt_val (pe_call GL hr (by rfl) gL FL.kp bL .nil pass0 (pa_cons (pv 2) pa_nil))) (pss_one ps_continue) pss_nil)
      (pss_cons (ps_if (PW.pt (pw_or (pt_not (pt_val (pe_callB call_isi (by rfl) mI (by decide +kernel) (pa_cons (pv 2) (pa_cons (pe_bltn (v := .ty "tuple") (by rfl) mT (by decide +kernel) rfl) pa_nil)))))
          (pw_or (pt_not (pt_chain op_le op_le pe_int (pe_callB call_len_seq (by rfl) ml PySem.boot_len (pa_cons (pv 2) pa_nil)) pe_int))
            (pw_or1 (pt_not (pt_val (pe_call GW hr (by rfl) gW FW.kp bW .nil pass0 (pa_cons (pe_ix ix_tup (pv 2) pe_int (fun _ _ => rfl)) pa_nil))))))))
        (pss_one (ps_ret pe_bl)) pss_nil)
      (pss_one (ps_expr (pe_bm PySem.F.plainAttrs_list PySem.F.slot_list_extend PySem.F.type_list_extend mt_extendT (pv 1) (pa_cons (pe_slice sl_tup (pv 2) (po_some pe_int) po_none) pa_nil))))))))
    (pss_one (ps_ret pe_bl))), ?_⟩
  refine ⟨_, rfl, (by show 1 ≤ sizeLine; decide), fun L nL => ?_⟩
  refine ⟨fun m σ H' => ∃ (y2 : Option V) (vs : List V) (ds : List Fd), σ = [some v, some (.ref L), y2] ∧ Same H H' ∧ H' L = some (.lst vs) ∧ RpA H' vs ds ∧ szka ds ∧ noda ds ≤ 900 ∧ aok ds = fok d ∧ m = noda ds,
    ⟨_, none, [v], [d], rfl, same_upd nL, upd_same, .cons (rp.keep (.new nL)) .nil, ⟨hz, trivial⟩, by show nod d + 0 ≤ 900; omega, by simp [aok], rfl⟩, fun m σ H' hW => ?_⟩
  obtain ⟨y2, vs, ds, rfl, sm, eL, ra, sz, nn, ok, rfl⟩ := hW
  refine ⟨_, rfl, !vs.isEmpty, .inl ⟨vs, SqL.of eL, rfl⟩, ?_⟩
  cases hv : vs.isEmpty with
  | true =>
    have e0 : vs = [] := List.isEmpty_iff.mp hv
    subst e0
    cases ra
    refine iteF ?_
    have z := q H' sm
    rw [← ok] at z
    exact z
  | false =>
    refine iteT ?_
    have hne : vs ≠ [] := fun e => by
      subst e
      cases hv
    obtain ⟨vs', u, ds', e, rfl, rfl, ra', rpu⟩ := ra.last hne
    obtain ⟨sz', sze⟩ := szka_last sz
    have n1 : noda (ds' ++ [e]) = noda ds' + nod e := by
      rw [noda_append]
      show noda ds' + (nod e + 0) = _
      omega
    have hl' := ra'.length
    have hll := len_noda ds'
    have npe := nod_pos e
    refine ⟨fun σ' H2 => ∃ (y2 : Option V) (vs : List V) (ds : List Fd), σ' = [some v, some (.ref L), y2] ∧ Same H H2 ∧ H2 L = some (.lst vs) ∧ RpA H2 vs ds ∧ szka ds ∧ noda ds < noda (ds' ++ [e]) ∧ aok ds = fok d, fun σ' H2 hN => ?_, ?_⟩
    · obtain ⟨y2, vs2, ds2, rfl, sm2, eL2, ra2, sz2, nn2, ok2⟩ := hN
      exact ⟨_, nn2, y2, vs2, ds2, rfl, sm2, eL2, ra2, sz2, by omega, ok2, rfl⟩
    · have okd : (aok ds' && fok e) = fok d := by rw [← ok, aok_snoc]
      -- part = todo.pop()
      refine ⟨_, rfl, .inl ⟨rfl, _, SqL.of eL⟩, L, vs' ++ [u], u, rfl, rfl, eL, by simp, ?_⟩
      rw [List.dropLast_concat]
      have kp1 : Keep H' (upd H' L (.lst vs')) := .lst eL
      have sm1 : Same H (upd H' L (.lst vs')) := fun b o h => by
        rw [upd_ne (ne_of_none h nL)]
        exact sm _ _ h
      have rpu1 := rpu.keep kp1
      have ra1 := ra'.keep kp1
      have eL1 : (upd H' L (.lst vs')) L = some (.lst vs') := upd_same
      generalize hH1 : upd H' L (.lst vs') = H1 at kp1 sm1 rpu1 ra1 eL1
      -- is_letter(part)
      refine ⟨_, rfl, u, e, rfl, rpu1, ?_, _, rfl, ?_⟩
      · intro z he
        subst he
        exact sze
      cases rpu1 with
      | s z =>
        refine ite2 (fun c => ?_) (fun c => ?_)
        · have hz1 : fok (.s z) = true := c
          exact ⟨_, vs', ds', rfl, sm1, eL1, ra1, sz', by omega, by rw [← okd, hz1, Bool.and_true]⟩
        · have hz1 : fok (.s z) = false := Bool.eq_false_iff.mpr c
          refine ⟨_, rfl, _, _, _, _, false, rfl, .ty "tuple", ty_s, kit_ty (by decide +kernel), _, rfl, ?_⟩
          have z1 := q H1 sm1
          rw [← okd, hz1, Bool.and_false] at z1
          exact iteT (iteT z1)
      | @t a vs2 ds2 ha rda =>
        refine iteF ?_
        refine ⟨_, rfl, _, _, _, _, true, rfl, .ty "tuple", ty_t ha, kit_ty (by decide +kernel), _, rfl, iteF ?_⟩
        refine ⟨_, rfl, a, _, rfl, .inr (SqT.of ha), _, _, rfl, rfl, _, rfl, ?_⟩
        have bad : fok (.t ds2) = false → Q (.bl false) H1 := fun hf => by
          have z1 := q H1 sm1
          rw [← okd, hf, Bool.and_false] at z1
          exact z1
        cases rda with
        | nil => exact ⟨_, rfl, iteT (iteT (bad rfl))⟩
        | @cons x r h ds3 rx rr =>
          have hlen := rr.length
          have e1 : decide ((1 : Int) ≤ (((x :: r).length : Nat) : Int)) = true := decide_eq_true (by rw [List.length_cons]; omega)
          rw [e1]
          refine iteT ⟨_, _, rfl, rfl, _, rfl, ?_⟩
          by_cases h4 : ds3.length ≤ 3
          · have e2 : decide ((((x :: r).length : Nat) : Int) ≤ (4 : Int)) = true := decide_eq_true (by rw [List.length_cons]; omega)
            rw [e2]
            refine iteF ?_
            refine ⟨_, rfl, a, _, 0, x, rfl, rfl, SqT.of ha, atI_nat rfl, x, h, rfl, rx, ?_, fun H2 sm2 => ⟨_, rfl, ?_⟩⟩
            · intro z he
              subst he
              exact sze.1
            · have sm12 : Same H H2 := sm1.trans sm2
              have fe : fok (.t (h :: ds3)) = (hdB h && aok ds3) := by
                show (hdB h && (decide (ds3.length ≤ 3) && aok ds3)) = _
                rw [decide_eq_true h4, Bool.true_and]
              cases hd : hdB h with
              | false =>
                rw [hd, Bool.false_and] at fe
                refine iteT ?_
                have z1 := q H2 sm12
                rw [← okd, fe, Bool.and_false] at z1
                exact z1
              | true =>
                rw [hd, Bool.true_and] at fe
                refine iteF ?_
                have eL2 := sm2 _ _ eL1
                have ha2 := sm2 _ _ ha
                refine ⟨_, rfl, .inl ⟨rfl, _, SqL.of eL2⟩, _, rfl, 1, rfl, a, x :: r, rfl, SqT.of ha2, ?_, fun p np => ⟨L, p, vs', _, rfl, rfl, ?_, upd_same, ?_, ?_⟩⟩
                · rintro ⟨z1, _⟩
                  rw [show HT.sIx (x :: r).length 0 (some 1) = min 1 (x :: r).length from HT.sIx_nat _ 0 1, List.length_cons] at z1
                  omega
                · rw [upd_ne (ne_of_none eL2 np)]
                  exact eL2
                · rw [cut1]
                  show vs'.length + r.length ≤ sizeLine
                  have := len_noda ds3
                  have hnod : nod (.t (h :: ds3)) = 1 + (nod h + noda ds3) := rfl
                  exact Nat.le_of_lt (small1000 (by omega))
                · rw [cut1]
                  have kp3 : Keep H2 (upd (upd H2 p (.tup ((x :: r).drop 1))) L (.lst (vs' ++ (x :: r).drop 1))) := (Keep.new np).trans (.lst (by rw [upd_ne (ne_of_none eL2 np)]; exact eL2))
                  refine ⟨_, vs' ++ r, ds' ++ ds3, rfl, fun b o e => ?_, upd_same, ((ra1.keep (.same sm2)).keep kp3).append ((rr.keep (.same sm2)).keep kp3), szka_append sz' sze.2, ?_, ?_⟩
                  · rw [upd_ne (ne_of_none e nL)]
                    exact same_upd np _ _ (sm12 _ _ e)
                  · have hnod : nod (.t (h :: ds3)) = 1 + (nod h + noda ds3) := rfl
                    rw [noda_append, noda_append]
                    show noda ds' + noda ds3 < noda ds' + (nod (.t (h :: ds3)) + 0)
                    omega
                  · rw [aok_append, ← okd, fe]
          · have e2 : decide ((((x :: r).length : Nat) : Int) ≤ (4 : Int)) = false := decide_eq_false (by rw [List.length_cons]; omega)
            rw [e2]
            refine iteT (iteT (bad ?_))
            show (hdB h && (decide (ds3.length ≤ 3) && aok ds3)) = false
            rw [decide_eq_false h4]
            simp
end
end KN
set_option Elab.async false
set_option linter.all false
set_option maxRecDepth 100000
set_option maxHeartbeats 2000000
namespace L2
open PySem PySem.Spec PyProof.Rows
section
variable {X : Cx} {CX : CXT} {k : Nat} {f : Addr} {sp : Sp} {E : XK} {x : Str} {e : Expr} {es : List Expr} {t : TA} {p pos : Pos}
/-- x(e, ..), x a def with a star parameter -/
theorem pe_callR (F : FnR X.prog X.w X.K X.mg X.base CX k f sp) (hr : Room k X.A) (hg : Gl X x) (hm : X.mg x = some (.ref f)) (hk : PySem.W.keepIn X.K (.ref f) = true) (hx : Passes CX X E) (ha : PA X (e :: es) t) (hd : (x == ("__debug__" : Str)) = false := by decide)
    (he : starEach (e :: es) X.env = (false, eval e X.env) :: starEach es X.env := by rfl) (hpl : (backTo pos (starEach es X.env)).any (·.1) = false := by rfl) :
    PE X (.Call (.Name x p) (e :: es) [] pos) (fun σ H Q => t σ H fun vs H1 => sp vs H1 Q E) := by
  refine ⟨fun pins s σ H Q I h => ?_⟩
  refine wpAny_Call_Name_kw (ld_glob I hg hm ?_ hd)
  refine PySem.W.callWith_K (h₀ := X.base) I.ok.mod.kin hk (thn (ha.run pos pins s σ H _ I h) fun us s1 ⟨vs, H1, I1, r, q⟩ => ⟨I1.kIn, ?_⟩) he hpl
  exact wpAny_call (run_fnR F hr hx I1 r q)
end
end L2
namespace KN
open PySem PySem.Spec PyProof.Rows L2
/-- what the written part says of an error class of the program's own -/
structure ErrC (K : PySem.W.Frag) (mg : Str → Option Value) (x : Str) (C : Addr) : Prop where
  g : mg x = some (.ref C)
  kp : PySem.W.keepIn K (.ref C) = true
  ex : PySem.W.excIn K C [.type "ValueError", .type "Exception", .type "BaseException", .type "object"] "ValueError.__new__" = true
  sb : PySem.W.subIn K (.ref C) (.type "BaseException") = some true
  ty : PySem.W.typeIn K (.ref C) = some (.type "type")
  hd : PySem.W.hasDictIn K C = true
  ec : ExcC K C
section
variable {P : Program} {w : World} {K : PySem.W.Frag} {mg : Str → Option Value} {base : Heap}
/-! ### form -/
theorem scForm : FnScope ["word", "parts", "row"] ((["word"] : List Str) ++ (["parts"] : List Str)) (defScope sForm) := ⟨rfl, rfl, rfl, by decide +kernel, rfl, by decide +kernel, by decide +kernel⟩
/-- what form promises, of its arguments -/
def FormP (CB : Addr) (z : Str) (rest : List V) (H : Hp) (Q : VK) (E : XK) : Prop := ∃ (ds : List Fd), RpA H rest ds ∧ szk (.t (.s z :: ds)) ∧ nod (.t (.s z :: ds)) ≤ 900 ∧
  (fok (.t (.s z :: ds)) = true → ∀ H' t, Same H H' → H' t = some (.tup (.str z :: rest)) → Q (.ref t) H') ∧ (fok (.t (.s z :: ds)) = false → ∀ H', Same H H' → E (.ref CB) none H')
def spForm (CB : Addr) : Sp := fun vs H Q E => ∃ (z : Str) (rest : List V), vs = .str z :: rest ∧ FormP CB z rest H Q E
theorem ok_form {f fI CB : Addr} {fd fdI : FuncData} (F : Fun K "form" "form" sForm f fd)
    (FI : Fun K "is_form" "is_form" sIsForm fI fdI) (bI : Binds K fdI ["row"] []) (gI : mg "is_form" = some (.ref fI))
    (GI : FnOk P w K mg base CX0 2 fI fdI ["row"] spIsForm) (eB : ErrC K mg "BadKind" CB) : FnR P w K mg base (L2.CX P w) 3 f (spForm CB) := by
  obtain ⟨oc, od, kV, doc, pm, an, cdv, ct, osl, rfl, lk, hcd⟩ := F.ex
  refine FnR.imp (StX.fn_star (ps := ["word"]) (pv := "parts") (k := 2) (sp := fun vs H Q E => ∃ (z : Str) (p : Addr) (rest : List V), vs = [.str z, .ref p] ∧ H p = some (.tup rest) ∧ FormP CB z rest H Q E) lk hcd scForm StX.cxUp (fun us rest hl => match us, rest, hl with | [a], [], _ => (by with_unfolding_all rfl) | [a], r :: rs, _ => (by with_unfolding_all rfl)) fun A outer s H vs Q E hr h => ?_) ?_
  · obtain ⟨z, p, rest, rfl, hp, ds, ra, sz, nn, good, bad⟩ := h
    refine ⟨_, pss_cons (ps_set (i := 2) scForm.nd rfl (.inl rfl) (pe_tup (pa_cons (pv 0) (StX.pa_star (pv 1) pa_nil))))
      (pss_cons (ps_if (pt_not (pt_val (pe_call GI hr (by rfl) gI FI.kp bI .nil pass0 (pa_cons (pv 2) pa_nil))))
        (pss_one (ps_raise rfl (takes_of rfl rfl rfl rfl) (pmk_own PySem.F.excBase_ValueError eB.ex eB.g eB.kp (raises_own eB.sb eB.ty) rfl))) pss_nil)
      (pss_one (ps_ret (pv 2)))), ?_⟩
    have hl := ra.length
    have hln := len_noda ds
    have hn1 : nod (.t (.s z :: ds)) = 1 + (1 + noda ds) := rfl
    refine ⟨_, rfl, _, rfl, p, rest, rfl, .inl (SqT.of hp), ?_, fun t nt => ?_⟩
    · show (rest ++ []).length + 1 ≤ sizeLine
      rw [List.append_nil]
      exact Nat.le_of_lt (small1000 (by omega))
    · have et : (upd H t (.tup (.str z :: (rest ++ [])))) t = some (.tup (.str z :: rest)) := by rw [upd_same, List.append_nil]
      have sm : Same H (upd H t (.tup (.str z :: (rest ++ [])))) := same_upd nt
      refine ⟨_, rfl, .ref t, .t (.s z :: ds), rfl, .t et (.cons (.s z) (ra.keep (.same sm))), sz, nn, fun H1 sm1 => ⟨_, rfl, ?_⟩⟩
      cases hf : fok (.t (.s z :: ds)) with
      | true =>
        refine iteF ?_
        exact ⟨_, rfl, good hf H1 t (sm.trans sm1) (sm1 _ _ et)⟩
      | false =>
        refine iteT ?_
        exact bad hf H1 (sm.trans sm1)
  · rintro vs H Q E ⟨z, rest, rfl, ds, ra, sz, nn, good, bad⟩
    have hl := ra.length
    have hln := len_noda ds
    have hn1 : nod (.t (.s z :: ds)) = 1 + (1 + noda ds) := rfl
    refine ⟨[.str z], rest, rfl, rfl, Nat.le_of_lt (small1000 (by omega)), fun p np => ⟨z, p, rest, rfl, upd_same, ds, ra.keep (.new np), sz, nn, fun hf H' t sm et => good hf H' t ((same_upd np).trans sm) et, fun hf H' sm => bad hf H' ((same_upd np).trans sm)⟩⟩
end
end KN
set_option Elab.async false
set_option linter.all false
set_option maxRecDepth 100000
set_option maxHeartbeats 400000
namespace KN
open PySem PySem.Spec PyProof.Rows L2
theorem iteD {c A B : Prop} [Decidable c] (hc : c) (h : A) : if decide c = true then A else B := by
  rw [decide_eq_true hc, if_pos rfl]
  exact h
theorem iteND {c A B : Prop} [Decidable c] (hc : ¬ c) (h : B) : if decide c = true then A else B := by
  rw [decide_eq_false hc, if_neg Bool.false_ne_true]
  exact h
theorem int_ne {i j : Int} (h : i ≠ j) : ¬ (V.int i = V.int j) := fun e => h (V.int.inj e)
section
variable {P : Program} {w : World} {K : PySem.W.Frag} {mg : Str → Option Value} {base : Heap}
/-! ### form_of -/
theorem scFO : FnScope ["_law_word_here", "_law_parts"] ["_law_word_here", "_law_parts"] (defScope sFormOf) := ⟨rfl, rfl, rfl, by decide +kernel, rfl, by decide +kernel, by decide +kernel⟩
def spFO (CB : Addr) : Sp := fun vs H Q E => ∃ (z : Str) (b : Addr) (rest : List V), vs = [.str z, .ref b] ∧ H b = some (.lst rest) ∧ rest.length ≤ 4 ∧ FormP CB z rest H Q E
theorem ok_FO {f fF CB : Addr} {fd fdF : FuncData} (F : Fun K "_law_form_of" "_law_form_of" sFormOf f fd) (FF : Fun K "form" "form" sForm fF fdF) (gF : mg "form" = some (.ref fF))
    (GF : FnR P w K mg base (L2.CX P w) 3 fF (spForm CB)) (ml : mg "len" = none) : FnOk P w K mg base (L2.CX P w) 4 f fd ["_law_word_here", "_law_parts"] (spFO CB) := by
  refine F.okX scFO (fun vs H Q E h => ?_) (fun cdv A outer s H vs Q E hr h => ?_)
  · obtain ⟨z, b, rest, rfl, _⟩ := h
    rfl
  obtain ⟨z, b, rest, rfl, hb, h4, hp⟩ := h
  refine ⟨_, pss_cons (ps_if (pt_cmpR op_eq (pe_callB call_len_seq (by rfl) ml PySem.boot_len (pa_cons (pv 1) pa_nil)) pe_int (nomark _))
      (pss_one (ps_ret (pe_callR GF hr (by rfl) gF FF.kp (passes_call (takes_of rfl rfl rfl rfl) (fun _ _ _ _ h => h)) (pa_cons (pv 0) pa_nil)))) pss_nil)
    (pss_cons (ps_if (pt_cmpR op_eq (pe_callB call_len_seq (by rfl) ml PySem.boot_len (pa_cons (pv 1) pa_nil)) pe_int (nomark _))
      (pss_one (ps_ret (pe_callR GF hr (by rfl) gF FF.kp (passes_call (takes_of rfl rfl rfl rfl) (fun _ _ _ _ h => h)) (pa_cons (pv 0) (pa_cons (pe_ix ix_list (pv 1) pe_int (fun _ _ => rfl)) pa_nil))))) pss_nil)
    (pss_cons (ps_if (pt_cmpR op_eq (pe_callB call_len_seq (by rfl) ml PySem.boot_len (pa_cons (pv 1) pa_nil)) pe_int (nomark _))
      (pss_one (ps_ret (pe_callR GF hr (by rfl) gF FF.kp (passes_call (takes_of rfl rfl rfl rfl) (fun _ _ _ _ h => h)) (pa_cons (pv 0) (pa_cons (pe_ix ix_list (pv 1) pe_int (fun _ _ => rfl)) (pa_cons (pe_ix ix_list (pv 1) pe_int (fun _ _ => rfl)) pa_nil)))))) pss_nil)
    (pss_cons (ps_if (pt_cmpR op_eq (pe_callB call_len_seq (by rfl) ml PySem.boot_len (pa_cons (pv 1) pa_nil)) pe_int (nomark _))
      (pss_one (ps_ret (pe_callR GF hr (by rfl) gF FF.kp (passes_call (takes_of rfl rfl rfl rfl) (fun _ _ _ _ h => h)) (pa_cons (pv 0) (pa_cons (pe_ix ix_list (pv 1) pe_int (fun _ _ => rfl)) (pa_cons (pe_ix ix_list (pv 1) pe_int (fun _ _ => rfl)) (pa_cons (pe_ix ix_list (pv 1) pe_int (fun _ _ => rfl)) pa_nil))))))) pss_nil)
    (pss_one (ps_ret (pe_callR GF hr (by rfl) gF FF.kp (passes_call (takes_of rfl rfl rfl rfl) (fun _ _ _ _ h => h)) (pa_cons (pv 0) (pa_cons (pe_ix ix_list (pv 1) pe_int (fun _ _ => rfl)) (pa_cons (pe_ix ix_list (pv 1) pe_int (fun _ _ => rfl)) (pa_cons (pe_ix ix_list (pv 1) pe_int (fun _ _ => rfl)) (pa_cons (pe_ix ix_list (pv 1) pe_int (fun _ _ => rfl)) pa_nil))))))))))), ?_⟩
  have hs : SqL K H b rest := SqL.of hb
  have len_of : ∀ {n : Nat}, decide (V.int ((rest.length : Nat) : Int) = V.int ((n : Nat) : Int)) = true → rest.length = n := fun {n} c => by
    have := V.int.inj (of_decide_eq_true c)
    omega
  have ne_of' : ∀ {n : Nat}, ¬ decide (V.int ((rest.length : Nat) : Int) = V.int ((n : Nat) : Int)) = true → rest.length ≠ n := fun {n} c e => c (decide_eq_true (by rw [e]))
  refine ⟨_, rfl, b, _, rfl, .inl hs, rfl, _, rfl, ite2 (fun c => ?_) (fun c0 => ?_)⟩
  · have e := len_of (n := 0) c
    obtain rfl : rest = [] := List.length_eq_zero_iff.mp e
    exact ⟨_, rfl, z, _, rfl, hp⟩
  refine ⟨_, rfl, b, _, rfl, .inl hs, rfl, _, rfl, ite2 (fun c => ?_) (fun c1 => ?_)⟩
  · have e := len_of (n := 1) c
    obtain ⟨a1, rfl⟩ := List.length_eq_one_iff.mp e
    exact ⟨_, rfl, _, rfl, b, _, 0, _, rfl, rfl, hs, atI_nat rfl, z, _, rfl, hp⟩
  refine ⟨_, rfl, b, _, rfl, .inl hs, rfl, _, rfl, ite2 (fun c => ?_) (fun c2 => ?_)⟩
  · have e := len_of (n := 2) c
    match rest, e, hs, hp with
    | [a1, a2], _, hs, hp => exact ⟨_, rfl, _, rfl, b, _, 0, _, rfl, rfl, hs, atI_nat rfl, _, rfl, b, _, 1, _, rfl, rfl, hs, atI_nat (j := 1) rfl, z, _, rfl, hp⟩
  refine ⟨_, rfl, b, _, rfl, .inl hs, rfl, _, rfl, ite2 (fun c => ?_) (fun c3 => ?_)⟩
  · have e := len_of (n := 3) c
    match rest, e, hs, hp with
    | [a1, a2, a3], _, hs, hp => exact ⟨_, rfl, _, rfl, b, _, 0, _, rfl, rfl, hs, atI_nat rfl, _, rfl, b, _, 1, _, rfl, rfl, hs, atI_nat (j := 1) rfl, _, rfl, b, _, 2, _, rfl, rfl, hs, atI_nat (j := 2) rfl, z, _, rfl, hp⟩
  have e : rest.length = 4 := by
    have := ne_of' (n := 0) c0
    have := ne_of' (n := 1) c1
    have := ne_of' (n := 2) c2
    have := ne_of' (n := 3) c3
    omega
  clear c0 c1 c2 c3 ne_of' len_of
  match rest, e, hs, hp with
  | [a1, a2, a3, a4], _, hs, hp => exact ⟨_, rfl, _, rfl, b, _, 0, _, rfl, rfl, hs, atI_nat rfl, _, rfl, b, _, 1, _, rfl, rfl, hs, atI_nat (j := 1) rfl, _, rfl, b, _, 2, _, rfl, rfl, hs, atI_nat (j := 2) rfl, _, rfl, b, _, 3, _, rfl, rfl, hs, atI_nat (j := 3) rfl, z, _, rfl, hp⟩
/-! ### refused -/
theorem scRef : FnScope ["_law_word_here", "_law_parts", "e"] ["_law_word_here", "_law_parts"] (defScope sRefused) := ⟨rfl, rfl, rfl, by decide +kernel, rfl, by decide +kernel, by decide +kernel⟩
def spRef : Sp := fun vs H Q _ => ∃ (z : Str) (b : Addr) (rest : List V) (ds : List Fd), vs = [.str z, .ref b] ∧ H b = some (.lst rest) ∧ rest.length ≤ 4 ∧ RpA H rest ds ∧ szk (.t (.s z :: ds)) ∧ nod (.t (.s z :: ds)) ≤ 900 ∧ fok (.t (.s z :: ds)) = false ∧
  ∀ H', Same H H' → Q (.bl true) H'
theorem ok_ref {f fO CB CN CR : Addr} {fd fdO : FuncData} (F : Fun K "_law_refused" "_law_refused" sRefused f fd) (FO : Fun K "_law_form_of" "_law_form_of" sFormOf fO fdO) (bO : Binds K fdO ["_law_word_here", "_law_parts"] []) (gO : mg "_law_form_of" = some (.ref fO))
    (GO : FnOk P w K mg base (L2.CX P w) 4 fO fdO ["_law_word_here", "_law_parts"] (spFO CB)) (mI : mg "isinstance" = none) (mV : mg "ValueError" = none) (eB : ErrC K mg "BadKind" CB) (gN : mg "NotesError" = some (.ref CN)) (gR : mg "BadRule" = some (.ref CR))
    (eN : PySem.W.exmOne K (.ref CB) (.ref CN) = some true) (k1 : PySem.W.kitOne K (.ref CB) (.ref CB) = some true) (k2 : PySem.W.kitOne K (.ref CB) (.type "ValueError") = some true) (k3 : PySem.W.kitOne K (.ref CB) (.ref CR) = some false) :
    FnOk P w K mg base CX0 5 f fd ["_law_word_here", "_law_parts"] spRef := by
  refine F.ok scRef (fun vs H Q E h => ?_) (fun cdv A outer s H vs Q E hr h => ?_)
  · obtain ⟨z, b, rest, ds, rfl, _⟩ := h
    rfl
  obtain ⟨z, b, rest, ds, rfl, hb, h4, ra, sz, nn, bad, q⟩ := h
  refine ⟨_, pss_cons (ps_try_as (i := 2) (ts := fun a cls d D σ H => (cls = .ref CB ∧ d = none) ∧ σ[2]? = some (some (.ref a)) ∧ D.rt (.bl true) H) (Wout := fun _ _ _ _ => False) rfl rfl scRef.nd rfl rfl ⟨rfl, by decide, .inl gN⟩ takes0
      (fun W pn xe tk _ => pss_one (ps_expr (pe_callS GO hr (by rfl) gO FO.kp bO (fun σ => passAt tk σ) (pa_cons (pv 0) (pa_cons (pv 1) pa_nil)))))
      (fun a oe cls d pn hz hf => ⟨fun pins s' σ H D I hx => ?_⟩))
    (pss_one (ps_ret pe_bl)), ?_⟩
  · obtain ⟨⟨rfl, rfl⟩, hσ, hq⟩ := hx
    refine (pss_one (ps_ret (pe_and (pe_callB (call_isE eB.ec hz hf) (by rfl) mI (by decide +kernel) (pa_cons (pv 2) (pa_cons (pe_glob (v := .ref CB) (by rfl) eB.g rfl) pa_nil)))
      (pe_and (pe_callB (call_isE eB.ec hz hf) (by rfl) mI (by decide +kernel) (pa_cons (pv 2) (pa_cons (pe_bltn (v := .ty "ValueError") (by rfl) mV (by decide +kernel) rfl) pa_nil)))
        (pe_one (pe_not (pe_callB (call_isE eB.ec hz hf) (by rfl) mI (by decide +kernel) (pa_cons (pv 2) (pa_cons (pe_glob (v := .ref CR) (by rfl) gR rfl) pa_nil)))))))) : PSs _ _ _).run pins s' σ H D I ?_
    refine ⟨_, hσ, .ref CB, .ref CB, true, rfl, fun u r => r, k1, _, rfl, iteT ?_⟩
    refine ⟨_, hσ, .ty "ValueError", .type "ValueError", true, rfl, fun u r => r, k2, _, rfl, iteT ?_⟩
    exact ⟨_, hσ, .ref CR, .ref CR, false, rfl, fun u r => r, k3, _, rfl, hq⟩
  · refine ⟨_, rfl, _, rfl, z, b, rest, rfl, hb, h4, ds, ra, sz, nn, fun hf => ?_, fun _ H' sm => ?_⟩
    · rw [bad] at hf
      cases hf
    · exact ⟨true, eN, fun _ a ha => ⟨⟨rfl, rfl⟩, rfl, q H' sm⟩, fun z => nomatch z⟩
end
end KN
set_option Elab.async false
set_option linter.all false
set_option maxRecDepth 100000
set_option maxHeartbeats 400000
namespace KN
open PySem PySem.Spec PyProof.Rows L2
/-! ### written data -/
section
variable {X : Cx}
def tLit (d : Fd) : TE := fun _ H Q => ∀ H' v, Same H H' → Rp H' v d → Q v H'
def tLits (ds : List Fd) : TA := fun _ H Q => ∀ H' vs, Same H H' → RpA H' vs ds → Q vs H'
theorem pe_imp {e : Expr} {t t' : TE} (h : PE X e t) (i : ∀ σ H Q, t' σ H Q → t σ H Q) : PE X e t' := ⟨fun pins s σ H Q I hq => h.run pins s σ H Q I (i σ H Q hq)⟩
theorem pa_imp {es : List Expr} {t t' : TA} (h : PA X es t) (i : ∀ σ H Q, t' σ H Q → t σ H Q) : PA X es t' := ⟨fun pos pins s σ H Q I hq => h.run pos pins s σ H Q I (i σ H Q hq)⟩
theorem lit_s {z : Str} {j : Nat} {pos : Pos} : PE X (.Constant (.str z) j pos) (tLit (.s z)) := pe_imp pe_str fun σ H Q h => h H _ (Same.refl H) (.s z)
theorem lits_nil : PA X [] (tLits []) := pa_imp pa_nil fun σ H Q h => h H _ (Same.refl H) .nil
theorem lits_cons {e : Expr} {es : List Expr} {d : Fd} {ds : List Fd} (h : PE X e (tLit d)) (r : PA X es (tLits ds)) (hs : starEach (e :: es) X.env = (false, eval e X.env) :: starEach es X.env := by rfl) : PA X (e :: es) (tLits (d :: ds)) :=
  pa_imp (pa_cons h r hs) fun σ H Q q H1 v s1 r1 H2 vs s2 r2 => q H2 _ (s1.trans s2) (.cons (r1.keep (.same s2)) r2)
theorem lit_t {es : List Expr} {k : Nat} {pos : Pos} {ds : List Fd} (h : PA X es (tLits ds)) (hl : ds.length ≤ 1000) : PE X (.Tuple es k pos) (tLit (.t ds)) :=
  pe_imp (pe_tup h) fun σ H Q q H1 vs s1 r1 => ⟨Nat.le_of_lt (small1000 (by rw [r1.length]; exact hl)), fun p np => q _ _ (s1.trans (same_upd np)) (.t upd_same (r1.keep (.new np)))⟩
end
/-- t + u of tuples, the answer told by what stands there -/
def rCatS (K : PySem.W.Frag) : R2 := fun x y H Q => ∃ a b xs ys, x = .ref a ∧ y = .ref b ∧ H a = some (.tup xs) ∧ H b = some (.tup ys) ∧ xs ≠ [] ∧ xs.length + ys.length ≤ 1000 ∧ ∀ p H', Same H H' → H' p = some (.tup (xs ++ ys)) → Q (.ref p) H'
theorem op_catS {X : Cx} : OpR X (binaryOp .Add) (rCatS X.K) := fun pins s σ H x y v u Q I rx ry h => op_catT pins s σ H x y v u Q I rx ry (by
  obtain ⟨a, b, xs, ys, e1, e2, h1, h2, hne, hl, q⟩ := h
  refine ⟨a, b, xs, ys, e1, e2, SqT.of h1, SqT.of h2, hne, Nat.le_of_lt (small1000 hl), fun e => ?_, fun _ p np => q p _ (same_upd np) upd_same⟩
  subst e
  exact q a H (Same.refl H) (by rw [List.append_nil]; exact h1))
/-! ### sizes of forms -/
theorem word_len {z : Str} (h : wdB z = true) : z.length ≤ 12 := by
  unfold wdB at h
  simp only [Bool.and_eq_true, decide_eq_true_eq] at h
  exact h.1.2
theorem let_len {z : Str} (h : letB z = true) : z.length ≤ 12 := by
  unfold letB at h
  simp only [Bool.and_eq_true, decide_eq_true_eq] at h
  omega
theorem szk_hd : ∀ d : Fd, hdB d = true → szk d ∧ nod d = 1
  | .s z, h => ⟨Nat.le_of_lt (small1000 (Nat.le_trans (word_len h) (by decide))), rfl⟩
  | .t _, h => by cases h
mutual
theorem szk_of : ∀ d : Fd, fok d = true → szk d
  | .s z, h => Nat.le_of_lt (small1000 (Nat.le_trans (let_len (by simpa [fok] using h)) (by decide)))
  | .t ds, h => szk_tok ds (by simpa [fok] using h)
theorem szk_tok : ∀ ds : List Fd, tok ds = true → szka ds
  | [], _ => trivial
  | d :: ds, h => by
    simp only [tok, Bool.and_eq_true] at h
    exact ⟨(szk_hd d h.1).1, szk_aok ds h.2.2⟩
theorem szk_aok : ∀ ds : List Fd, aok ds = true → szka ds
  | [], _ => trivial
  | d :: ds, h => by
    simp only [aok, Bool.and_eq_true] at h
    exact ⟨szk_of d h.1, szk_aok ds h.2⟩
end
mutual
theorem nod_le : ∀ (d : Fd) (k : Nat), fok d = true → dep d ≤ k → nod d + 1 ≤ 2 * 3 ^ k
  | .s z, k, _, _ => by
    have : 1 ≤ 3 ^ k := Nat.one_le_pow _ _ (by decide)
    show 1 + 1 ≤ _
    omega
  | .t ds, k, h, hd => by
    have hd' : 1 + deps ds ≤ k := hd
    obtain ⟨j, rfl⟩ : ∃ j, k = j + 1 := ⟨k - 1, by omega⟩
    have := nod_tok ds j (by simpa [fok] using h) (by omega)
    show (1 + noda ds) + 1 ≤ 2 * 3 ^ (j + 1)
    rw [Nat.pow_succ]
    omega
theorem nod_tok : ∀ (ds : List Fd) (k : Nat), tok ds = true → deps ds ≤ k → noda ds + 2 ≤ 3 * (2 * 3 ^ k)
  | [], k, h, _ => by simp [tok] at h
  | d :: ds, k, h, hd => by
    simp only [tok, Bool.and_eq_true, decide_eq_true_eq] at h
    have hd' : max (dep d) (deps ds) ≤ k := hd
    have h1 := (szk_hd d h.1).2
    have h2 := nod_aok ds k h.2.2 (by omega)
    have h3 : ds.length * (2 * 3 ^ k) ≤ 3 * (2 * 3 ^ k) := Nat.mul_le_mul_right _ h.2.1
    have h4 : 1 ≤ 3 ^ k := Nat.one_le_pow _ _ (by decide)
    show (nod d + noda ds) + 2 ≤ _
    have h5 : ds.length ≤ 3 := h.2.1
    match hl : ds.length with
    | 0 =>
      rw [hl] at h2
      omega
    | 1 =>
      rw [hl] at h2
      omega
    | 2 =>
      rw [hl] at h2
      omega
    | 3 =>
      rw [hl] at h2
      omega
    | n + 4 => omega
theorem nod_aok : ∀ (ds : List Fd) (k : Nat), aok ds = true → deps ds ≤ k → noda ds + ds.length ≤ ds.length * (2 * 3 ^ k)
  | [], k, _, _ => by simp [noda]
  | d :: ds, k, h, hd => by
    simp only [aok, Bool.and_eq_true] at h
    have hd' : max (dep d) (deps ds) ≤ k := hd
    have h1 := nod_le d k h.1 (by omega)
    have h2 := nod_aok ds k h.2 (by omega)
    show (nod d + noda ds) + (ds.length + 1) ≤ (ds.length + 1) * _
    rw [Nat.succ_mul]
    omega
end
theorem wdB_low {z : Str} {c : Nat} (h : c ∈ z.cps.toList) (hc : c < 97) : wdB z = false := by
  refine Bool.eq_false_iff.mpr fun e => ?_
  unfold wdB at e
  simp only [Bool.and_eq_true, List.all_eq_true, decide_eq_true_eq] at e
  have := e.2 c h
  omega
theorem wdB_long {z : Str} (h : 12 < z.length) : wdB z = false := by
  refine Bool.eq_false_iff.mpr fun e => ?_
  have := word_len e
  omega
theorem len_append (x y : Str) : (x ++ y).length = x.length + y.length := by
  show (x.cps ++ y.cps).size = _
  rw [Array.size_append]
  rfl
theorem cps_append (x y : Str) : (x ++ y).cps.toList = x.cps.toList ++ y.cps.toList := TL.tl_append x y
theorem cutS_len (z : Str) (lo hi : Option Int) : (cutS z lo hi).length ≤ z.length := by
  show (((z.cps.toList.drop (HT.sIx z.length 0 lo)).take (HT.sIx z.length z.length hi - HT.sIx z.length 0 lo)).toArray).size ≤ z.cps.size
  rw [List.size_toArray, List.length_take, List.length_drop, Array.length_toList]
  omega
theorem RpA.set {H : Hp} : ∀ {vs : List V} {ds : List Fd} {j : Nat} {v : V} {d : Fd}, RpA H vs ds → Rp H v d → RpA H (vs.set j v) (ds.set j d)
  | _, [], _, _, _, .nil, _ => .nil
  | _, _ :: _, 0, _, _, .cons _ a, h => .cons h a
  | _, _ :: _, j + 1, _, _, .cons h0 a, h => .cons h0 (RpA.set a h)
theorem RpA.get {H : Hp} : ∀ {vs : List V} {ds : List Fd} {j : Nat} {d : Fd}, RpA H vs ds → ds[j]? = some d → ∃ v, vs[j]? = some v ∧ Rp H v d
  | _, [], _, _, .nil, h => by simp at h
  | _, _ :: _, 0, _, .cons h0 a, h => ⟨_, rfl, by
    have := Option.some.inj h
    rw [← this]
    exact h0⟩
  | _, _ :: _, j + 1, _, .cons h0 a, h => RpA.get (j := j) a h
theorem aok_set : ∀ {ds : List Fd} {j : Nat} {d : Fd}, j < ds.length → fok d = false → aok (ds.set j d) = false
  | [], _, _, h, _ => by simp at h
  | e :: ds, 0, d, _, h => by
    show (fok d && aok ds) = false
    rw [h]
    rfl
  | e :: ds, j + 1, d, hj, h => by
    show (fok e && aok (ds.set j d)) = false
    rw [aok_set (by simpa using hj) h]
    simp
theorem szka_set : ∀ {ds : List Fd} {j : Nat} {d : Fd}, szka ds → szk d → szka (ds.set j d)
  | [], _, _, _, _ => trivial
  | _ :: _, 0, _, h, h2 => ⟨h2, h.2⟩
  | _ :: _, j + 1, _, h, h2 => ⟨h.1, szka_set h.2 h2⟩
theorem noda_set : ∀ {ds : List Fd} {j : Nat} {d : Fd}, noda (ds.set j d) ≤ noda ds + nod d
  | [], _, _ => by simp [noda]
  | e :: ds, 0, d => by
    show nod d + noda ds ≤ (nod e + noda ds) + nod d
    omega
  | e :: ds, j + 1, d => by
    have := noda_set (ds := ds) (j := j) (d := d)
    show nod e + noda (ds.set j d) ≤ (nod e + noda ds) + nod d
    omega
/-! ### the law's own data -/
def rowD : List Fd := [.s (Str.ofString "A"), .t [.s (Str.ofString "ok"), .s (Str.ofString "B")], .s (Str.ofString "C")]
def fourD : List Fd := [.s (Str.ofString "A"), .s (Str.ofString "B"), .s (Str.ofString "C"), .t [.s (Str.ofString "ok"), .s (Str.ofString "D")]]
def odd1 : List Fd := [.s (Str.ofString ""), .s (Str.ofString "ab"), .s (Str.ofString "QR"), .s (Str.ofString "q"), .s (Str.ofString "1"), .t [], .t [.s (Str.ofString "")], .t [.s (Str.ofString "Q")],
  .t [.s (Str.ofString "ab"), .s (Str.ofString "q")], .t [.s (Str.ofString "ab"), .s (Str.ofString "A"), .s (Str.ofString "B"), .s (Str.ofString "C"), .s (Str.ofString "D")]]
def odd2 : List Fd := [.t [.s (Str.ofString "ab"), .t [.s (Str.ofString "cd"), .t []]], .t [.s (Str.ofString "ab"), .t [.s (Str.ofString "cd"), .s (Str.ofString "A"), .t [.s (Str.ofString "E"), .s (Str.ofString "F")]]]]
theorem row_ok : aok rowD = true ∧ deps rowD ≤ 1 ∧ noda rowD ≤ 6 := by
  refine ⟨by decide +kernel, by decide +kernel, by decide +kernel⟩
theorem odd_at {j : Nat} (h : j < 12) : ∃ d, (odd1 ++ odd2)[j]? = some d ∧ fok d = false ∧ nod d ≤ 20 ∧ szk d := by
  have small : ∀ s : String, (Str.ofString s).length ≤ 12 → (Str.ofString s).length ≤ sizeLine := fun s h => Nat.le_of_lt (small1000 (by omega))
  have sz : szka (odd1 ++ odd2) := by
    simp only [odd1, odd2, List.cons_append, List.nil_append, szka, szk]
    refine ⟨small _ ?_, small _ ?_, small _ ?_, small _ ?_, small _ ?_, trivial, ⟨small _ ?_, trivial⟩, ⟨small _ ?_, trivial⟩, ⟨small _ ?_, small _ ?_, trivial⟩, ⟨small _ ?_, small _ ?_, small _ ?_, small _ ?_, small _ ?_, trivial⟩,
      ⟨small _ ?_, ⟨small _ ?_, trivial, trivial⟩, trivial⟩, ⟨small _ ?_, ⟨small _ ?_, small _ ?_, ⟨small _ ?_, small _ ?_, trivial⟩, trivial⟩, trivial⟩, trivial⟩ <;> decide +kernel
  have szi : ∀ (l : List Fd) (i : Nat) (d : Fd), szka l → l[i]? = some d → szk d := by
    intro l
    induction l with
    | nil => intro i d _ h; simp at h
    | cons x r ih =>
      intro i d hs h
      cases i with
      | zero =>
        have := Option.some.inj h
        rw [← this]
        exact hs.1
      | succ i => exact ih i d hs.2 h
  have key : ∀ i : Fin 12, ((odd1 ++ odd2)[i.val]?.map fun d => (fok d, decide (nod d ≤ 20))) = some (false, true) := by decide +kernel
  have k := key ⟨j, h⟩
  simp only at k
  cases e : (odd1 ++ odd2)[j]? with
  | none =>
    rw [e] at k
    cases k
  | some d =>
    rw [e] at k
    have k1 := Option.some.inj k
    have k2 := congrArg Prod.fst k1
    have k3 := congrArg Prod.snd k1
    exact ⟨d, rfl, k2, of_decide_eq_true k3, szi _ _ _ sz e⟩
theorem odd_len : (odd1 ++ odd2).length = 12 := rfl
end KN
set_option Elab.async false
set_option linter.all false
set_option maxRecDepth 100000
set_option maxHeartbeats 1000000
namespace KN
open PySem PySem.Spec PyProof.Rows L2
/-- the part of the law behind its words: facts of the module -/
structure Txt (P : Program) (w : World) (K : PySem.W.Frag) (mg : Str → Option Value) (base : Heap) (fTp fT fW fP fO fR CB : Addr) (fdTp fdT fdW fdP fdO fdR : FuncData) : Prop where
  GTp : FnOk P w K mg base CX0 2 fTp fdTp ["_law_script", "_law_k", "_law_size"] (spTape K)
  gTp : mg "_law_tape" = some (.ref fTp)
  kTp : PySem.W.keepIn K (.ref fTp) = true
  bTp : Binds K fdTp ["_law_script", "_law_k", "_law_size"] []
  GT : FnOk P w K mg base CX0 1 fT fdT ["_law_tape_here", "_law_many"] spTake
  gT : mg "_law_take" = some (.ref fT)
  kT : PySem.W.keepIn K (.ref fT) = true
  bT : Binds K fdT ["_law_tape_here", "_law_many"] []
  GW : FnOk P w K mg base CX0 2 fW fdW ["_law_tape_here"] spWord
  gW : mg "_law_word" = some (.ref fW)
  kW : PySem.W.keepIn K (.ref fW) = true
  bW : Binds K fdW ["_law_tape_here"] []
  GP : FnOk P w K mg base CX0 5 fP fdP ["_law_tape_here", "_law_depth"] (spPat 3)
  gP : mg "_law_pattern" = some (.ref fP)
  kP : PySem.W.keepIn K (.ref fP) = true
  bP : Binds K fdP ["_law_tape_here", "_law_depth"] []
  GO : FnOk P w K mg base (L2.CX P w) 4 fO fdO ["_law_word_here", "_law_parts"] (spFO CB)
  gO : mg "_law_form_of" = some (.ref fO)
  kO : PySem.W.keepIn K (.ref fO) = true
  bO : Binds K fdO ["_law_word_here", "_law_parts"] []
  GR : FnOk P w K mg base CX0 5 fR fdR ["_law_word_here", "_law_parts"] spRef
  gR : mg "_law_refused" = some (.ref fR)
  kR : PySem.W.keepIn K (.ref fR) = true
  bR : Binds K fdR ["_law_word_here", "_law_parts"] []
  ml : mg "len" = none
  mr : mg "range" = none
  mt : mg "tuple" = none
  mL : mg "list" = none
  mI : mg "isinstance" = none
section
variable {P : Program} {w : World} {K : PySem.W.Frag} {mg : Str → Option Value} {base : Heap} {fTp fT fW fP fO fR CB : Addr} {fdTp fdT fdW fdP fdO fdR : FuncData}
abbrev NL : List Str := ["_law_script", "_law_tape_here", "_law_word_here", "_law_parts", "_law_made", "_law_other", "_law_at", "_law_bad", "_law_row", "_law_odd", "_law_k"]
theorem scL : FnScope NL ["_law_script"] (defScope sLaw) := ⟨rfl, rfl, rfl, by decide +kernel, rfl, by decide +kernel, by decide +kernel⟩
def spLaw (K : PySem.W.Frag) : Sp := fun vs H Q _ => ∃ (a : Addr) (ns : List Int), vs = [.ref a] ∧ SqL K H a (ns.map V.int) ∧ ns.length ≤ 63 ∧ ∀ H', Q (.bl true) H'
theorem ixN_nat {n r : Nat} (h : r < n) : ixN n (r : Int) = some r := by
  unfold ixN
  rw [if_pos (by omega), if_pos (by omega)]
  simp
theorem ok_law {f : Addr} {fd : FuncData} (F : Fun K "law" "law" sLaw f fd) (T : Txt P w K mg base fTp fT fW fP fO fR CB fdTp fdT fdW fdP fdO fdR) : FnOk P w K mg base CX0 6 f fd ["_law_script"] (spLaw K) := by
  refine F.ok scL (fun vs H Q E h => ?_) (fun cdv A outer s H vs Q E hr h => ?_)
  · obtain ⟨a, ns, rfl, _⟩ := h
    rfl
  obtain ⟨a, ns, rfl, hS, hlen, q⟩ := h
  have hr1 : Room 1 _ := hr.mono (by decide)
  have hr2 : Room 2 _ := hr.mono (by decide)
  have hr4 : Room 4 _ := hr.mono (by decide)
  refine ⟨_, pss_cons (ps_set (i := 1) scL.nd rfl (.inr rfl) (pe_call T.GTp hr2 (by rfl) T.gTp T.kTp T.bTp .nil pass0 (pa_cons (pv 0) (pa_cons pe_int (pa_cons pe_int pa_nil)))))
    (pss_cons (ps_set (i := 2) scL.nd rfl (.inl rfl) (pe_call T.GW hr2 (by rfl) T.gW T.kW T.bW .nil pass0 (pa_cons (pv 1) pa_nil)))
    (pss_cons (ps_setLc (i := 3) (own := [("_law_k", 10)]) (g := gName 10) (tt := tYes) (by rfl) scL.nd rfl rfl (sw_true rfl rfl rfl (by decide +kernel))
      (pi_range1 (by rfl) T.mr (pa_cons (pe_call T.GT hr1 (by rfl) T.gT T.kT T.bT .nil pass0 (pa_cons (pv 1) (pa_cons pe_int pa_nil))) pa_nil))
      (blkOk_by (own := [("_law_k", 10)]) (N := NL) (sc := defScope sLaw) (by decide +kernel))
      (fun _ _ _ _ _ => pg_name (i := 10) scL.nd rfl (Or.inl rfl)) (fun _ _ _ _ _ => pts_nil)
      (fun _ _ _ _ _ => pe_call T.GP hr (by rfl) T.gP T.kP T.bP .nil pass0 (pa_cons (pv 1) (pa_cons pe_int pa_nil))))
    (pss_cons (ps_set (i := 4) scL.nd rfl (.inl rfl) (pe_call T.GO hr4 (by rfl) T.gO T.kO T.bO .nil passL (pa_cons (pv 2) (pa_cons (pe_callTy call_list_of (by rfl) T.mL (by decide +kernel) (pa_cons (pv 3) pa_nil)) pa_nil))))
    (pss_cons (ps_if (PW.pt (pw_or (pt_not (pt_val (pe_callB call_isi (by rfl) T.mI (by decide +kernel) (pa_cons (pv 4) (pa_cons (pe_bltn (v := .ty "tuple") (by rfl) T.mt (by decide +kernel) rfl) pa_nil)))))
        (pw_or1 (pt_cmpR (op_neD hr.units) (pv 4) (pe_op op_catS (pe_tup (pa_cons (pv 2) pa_nil)) (pe_callTy call_tuple_of (by rfl) T.mt (by decide +kernel) (pa_cons (pv 3) pa_nil))) (nomark _)))))
      (pss_one (ps_ret pe_bl)) pss_nil)
    (pss_cons (ps_set (i := 5) scL.nd rfl (.inl rfl) (pe_call T.GTp hr2 (by rfl) T.gTp T.kTp T.bTp .nil pass0 (pa_cons (pv 0) (pa_cons pe_int (pa_cons pe_int pa_nil)))))
    (pss_cons (ps_set (i := 6) scL.nd rfl (.inl rfl) (pe_call T.GT hr1 (by rfl) T.gT T.kT T.bT .nil pass0 (pa_cons (pv 5) (pa_cons (pe_callB call_len_str (by rfl) T.ml PySem.boot_len (pa_cons (pv 2) pa_nil)) pa_nil))))
    (pss_cons (ps_for PassesOwn.never rfl (pi_list (pe_lst (pa_cons pe_str (pa_cons (pe_op op_add_str (pe_op op_add_str (pe_slice sl_str (pv 2) po_none (po_some (pv 6))) pe_str) (pe_slice sl_str (pv 2) (po_some (pe_op op_add (pv 6) pe_int)) po_none))
        (pa_cons (pe_op op_add_str (pe_op op_add_str (pe_slice sl_str (pv 2) po_none (po_some (pv 6))) pe_str) (pe_slice sl_str (pv 2) (po_some (pv 6)) po_none)) (pa_cons (pe_op op_add_str (pv 2) pe_str) pa_nil)))))) (pg_name (i := 7) scL.nd rfl (Or.inl rfl))
      (pss_one (ps_if (pt_not (pt_val (pe_call T.GR hr (by rfl) T.gR T.kR T.bR .nil pass0 (pa_cons (pv 7) (pa_cons (pv 3) pa_nil))))) (pss_one (ps_ret pe_bl)) pss_nil)))
    (pss_cons (ps_set (i := 8) scL.nd rfl (.inl rfl) (pe_lst (t := tLits rowD) (lits_cons lit_s (lits_cons (lit_t (lits_cons lit_s (lits_cons lit_s lits_nil)) (by decide)) (lits_cons lit_s lits_nil)))))
    (pss_cons (ps_set (i := 4) scL.nd rfl (.inl rfl) (pe_call T.GO hr4 (by rfl) T.gO T.kO T.bO .nil passL (pa_cons (pv 2) (pa_cons (pe_callTy call_list_of (by rfl) T.mL (by decide +kernel) (pa_cons (pv 8) pa_nil)) pa_nil))))
    (pss_cons (ps_if (PW.pt (pw_or (pt_not (pt_val (pe_callB call_isi (by rfl) T.mI (by decide +kernel) (pa_cons (pv 4) (pa_cons (pe_bltn (v := .ty "tuple") (by rfl) T.mt (by decide +kernel) rfl) pa_nil)))))
        (pw_or1 (pt_cmpR (op_neD hr.units) (pv 4) (pe_tup (pa_cons (pv 2) (lits_cons (ds := [.t [.s (Str.ofString "ok"), .s (Str.ofString "B")], .s (Str.ofString "C")]) lit_s (lits_cons (lit_t (lits_cons lit_s (lits_cons lit_s lits_nil)) (by decide)) (lits_cons lit_s lits_nil))))) (nomark _)))))
      (pss_one (ps_ret pe_bl)) pss_nil)
    (pss_cons (ps_set (i := 9) scL.nd rfl (.inl rfl) (pe_lst (t := tLits odd1) (lits_cons lit_s (lits_cons lit_s (lits_cons lit_s (lits_cons lit_s (lits_cons lit_s (lits_cons (lit_t lits_nil (by decide)) (lits_cons (lit_t (lits_cons lit_s lits_nil) (by decide)) (lits_cons (lit_t (lits_cons lit_s lits_nil) (by decide))
        (lits_cons (lit_t (lits_cons lit_s (lits_cons lit_s lits_nil)) (by decide)) (lits_cons (lit_t (lits_cons lit_s (lits_cons lit_s (lits_cons lit_s (lits_cons lit_s (lits_cons lit_s lits_nil))))) (by decide)) lits_nil))))))))))))
    (pss_cons (ps_set (i := 9) scL.nd rfl (.inl rfl) (pe_op op_cat (pv 9) (pe_lst (t := tLits odd2) (lits_cons (lit_t (lits_cons lit_s (lits_cons (lit_t (lits_cons lit_s (lits_cons (lit_t lits_nil (by decide)) lits_nil)) (by decide)) lits_nil)) (by decide))
        (lits_cons (lit_t (lits_cons lit_s (lits_cons (lit_t (lits_cons lit_s (lits_cons lit_s (lits_cons (lit_t (lits_cons lit_s (lits_cons lit_s lits_nil)) (by decide)) lits_nil))) (by decide)) lits_nil)) (by decide)) lits_nil)))))
    (pss_cons (ps_asg (pe_ix ix_list (pv 9) (pe_call T.GT hr1 (by rfl) T.gT T.kT T.bT .nil pass0 (pa_cons (pv 5) (pa_cons (pe_callB call_len_seq (by rfl) T.ml PySem.boot_len (pa_cons (pv 9) pa_nil)) pa_nil))) (fun _ _ => rfl))
        (pg_sub (pv 8) (pe_call T.GT hr1 (by rfl) T.gT T.kT T.bT .nil pass0 (pa_cons (pv 5) (pa_cons pe_int pa_nil))) set_list))
    (pss_one (ps_ret (pe_and (pe_call T.GR hr (by rfl) T.gR T.kR T.bR .nil pass0 (pa_cons (pv 2) (pa_cons (pv 8) pa_nil)))
        (pe_one (pe_call T.GR hr (by rfl) T.gR T.kR T.bR .nil pass0 (pa_cons (pv 2) (pa_cons (pe_lst (t := tLits fourD) (lits_cons lit_s (lits_cons lit_s (lits_cons lit_s (lits_cons (lit_t (lits_cons lit_s (lits_cons lit_s lits_nil)) (by decide)) lits_nil))))) pa_nil)))))))))))))))))))), ?_⟩
  -- the tape, the word
  refine ⟨_, rfl, a, ns, 0, 90, rfl, hS, hlen, by decide, fun H1 p sm1 np t1 => ?_⟩
  refine ⟨_, rfl, p, rfl, t1, fun H2 z b2 t2 hz => ?_⟩
  have sm2 : Same H H2 := fun b o e => b2 b o (ne_of_none e np) (sm1 _ _ e)
  have wz : wdB z = true := wdB_of hz
  have hz12 := word_len wz
  have zline : z.length ≤ sizeLine := Nat.le_of_lt (small1000 (by omega))
  -- the parts
  refine ⟨_, rfl, p, 4, rfl, t2, by decide, fun H3 r3 b3 t3 h4 => ?_⟩
  have sm3 : Same H H3 := fun b o e => b3 b o (ne_of_none e np) (sm2 _ _ e)
  refine ⟨(r3 : Int), rfl, by omega, by omega, fun D nD => ?_⟩
  have npD : p ≠ D := t3.ne nD
  refine lc_range (lo := 0) (n := r3) (fun i H' => But p H3 H' ∧ Tp H' p ∧ ∃ (vs : List V) (ds : List Fd), H' D = some (.lst vs) ∧ RpA H' vs ds ∧ aok ds = true ∧ deps ds ≤ 2 ∧ ds.length = i)
    ⟨.of (same_upd nD), t3.same (same_upd nD), [], [], upd_same, .nil, rfl, Nat.zero_le _, rfl⟩ (fun i H' hi hW => ?_) (fun H4 hW => ?_)
  · obtain ⟨b4, t4, vs, ds, eD, ra, ok, dd, hl⟩ := hW
    refine ⟨rfl, tyes ?_⟩
    refine ⟨_, rfl, p, 2, rfl, t4, by decide, fun H5 v d b5 t5 rp okd dpd => ?_⟩
    have eD5 := b5 D _ npD.symm eD
    have kp : Keep H' (upd H5 D (.lst (vs ++ [v]))) := (Keep.but b5 t4).trans (.lst eD5)
    refine ⟨vs, eD5, ?_, fun b o nb e => ?_, ?_, vs ++ [v], ds ++ [d], upd_same, (ra.keep kp).snoc (rp.keep (.lst eD5)), ?_, ?_, ?_⟩
    · rw [ra.length]
      exact small1000 (by omega)
    · rw [upd_ne (ne_of_none e nD)]
      exact b5 _ _ nb (b4 _ _ nb e)
    · obtain ⟨ns, e, h⟩ := t5
      exact ⟨ns, by rw [upd_ne npD]; exact e, h⟩
    · rw [aok_snoc, ok, okd]
      rfl
    · rw [deps_snoc]
      omega
    · rw [List.length_append, hl]
      rfl
  obtain ⟨b4, t4, vs, ds, eD, ra, ok, dd, hl⟩ := hW
  have sm4 : Same H H4 := fun b o e => b4 b o (ne_of_none e np) (sm3 _ _ e)
  have hvl : vs.length = r3 := by rw [ra.length, hl]
  have hN : noda ds ≤ 60 := by
    have := nod_aok ds 2 ok dd
    have h3 : ds.length * (2 * 3 ^ 2) ≤ 3 * (2 * 3 ^ 2) := Nat.mul_le_mul_right _ (by omega)
    omega
  have szd : szka ds := szk_aok ds ok
  have okw : fok (.t (.s z :: ds)) = true := by
    show (wdB z && (decide (ds.length ≤ 3) && aok ds)) = true
    rw [wz, ok, decide_eq_true (show ds.length ≤ 3 by omega)]
    rfl
  have dpw : dep (.t (.s z :: ds)) ≤ 3 := by
    show 1 + max 0 (deps ds) ≤ 3
    omega
  have szw : szk (.t (.s z :: ds)) := ⟨zline, szd⟩
  have nnw : nod (.t (.s z :: ds)) ≤ 900 := by
    show 1 + (1 + noda ds) ≤ 900
    omega
  -- made = form_of(word, list(parts))
  refine ⟨_, rfl, _, rfl, D, vs, rfl, .inl (SqL.of eD), fun l nl => ?_⟩
  refine ⟨z, l, vs, rfl, upd_same, by omega, ds, ra.keep (.new nl), szw, nnw, fun _ H5 t sm5' et => ?_, fun hf => by rw [okw] at hf; cases hf⟩
  have sm45 : Same H4 H5 := (same_upd nl).trans sm5'
  have sm5 : Same H H5 := sm4.trans sm45
  have eD5 := sm45 _ _ eD
  have ra5 := ra.keep (.same sm45)
  refine ⟨_, rfl, _, _, _, _, true, rfl, .ty "tuple", ty_t et, kit_ty (by decide +kernel), _, rfl, iteF ?_⟩
  refine ⟨_, rfl, _, rfl, (by show 1 ≤ sizeLine; decide), fun t1 nt1 => ?_⟩
  refine ⟨_, rfl, D, vs, rfl, .inl ⟨SqL.of (same_upd nt1 _ _ eD5), fun l2 nl2 => ?_⟩⟩
  refine ⟨t1, l2, [.str z], vs, rfl, rfl, same_upd nl2 _ _ upd_same, upd_same, by simp, by show 1 + vs.length ≤ 1000; omega, fun c H6 sm6' ec => ?_⟩
  have sm56 : Same H5 H6 := ((same_upd nt1).trans (same_upd nl2)).trans sm6'
  have ra6 := ra5.keep (.same sm56)
  have shp := shaped_toPy okw (show dep (.t (.s z :: ds)) ≤ 60 by omega)
  refine ⟨_, _, Rp.dp (.t (sm56 _ _ et) (.cons (.s z) ra6)), Rp.dp (.t ec (.cons (.s z) ra6)), shp, shp, _, rfl, ?_⟩
  rw [eqv_toPy okw]
  refine iteF ?_
  have sm6 : Same H H6 := sm5.trans sm56
  have eD6 := sm56 _ _ eD5
  -- other = tape(script, 1, 9); at = take(other, len(word))
  refine ⟨_, rfl, a, ns, 1, 9, rfl, sm6.seq hS, hlen, by decide, fun H7 p2 sm7' np2 t7 => ?_⟩
  refine ⟨_, rfl, _, rfl, _, rfl, zline, p2, z.length, rfl, t7, by have := hz.1; omega, fun H8 at8 b8 t8 hat => ?_⟩
  have sm68 : Same H6 H8 := fun b o e => b8 b o (ne_of_none e np2) (sm7' _ _ e)
  have sm8 : Same H H8 := sm6.trans sm68
  have eD8 := sm68 _ _ eD6
  have ra8 := ra6.keep (.same sm68)
  have lQ : (Str.ofString "Q").length = 1 := by decide +kernel
  have lB : (Str.ofString " ").length = 1 := by decide +kernel
  have lA : (Str.ofString "abcdefghijkl").length = 12 := by decide +kernel
  have lc := fun lo hi => cutS_len z lo hi
  have big : ∀ {n : Nat}, n ≤ 60 → n ≤ sizeLine := fun h => Nat.le_of_lt (small1000 (by omega))
  refine ⟨_, rfl, _, rfl, _, rfl, z, rfl, zline, _, _, rfl, rfl, ?_, _, rfl, _, rfl, _, _, rfl, rfl, _, rfl, z, rfl, zline, _, _, rfl, rfl, ?_, ?_⟩
  · have := lc none (some (at8 : Int))
    exact big (by omega)
  · have h1 := lc none (some (at8 : Int))
    have h2 := lc (some ((at8 : Int) + 1)) none
    rw [len_append]
    exact big (by omega)
  refine ⟨_, rfl, _, rfl, _, rfl, z, rfl, zline, _, _, rfl, rfl, ?_, _, rfl, _, rfl, _, rfl, z, rfl, zline, _, _, rfl, rfl, ?_, ?_⟩
  · have := lc none (some (at8 : Int))
    exact big (by omega)
  · have h1 := lc none (some (at8 : Int))
    have h2 := lc (some (at8 : Int)) none
    rw [len_append]
    exact big (by omega)
  refine ⟨_, rfl, _, _, rfl, rfl, big (by omega), (by show 4 ≤ sizeLine; decide), fun l3 nl3 => ?_⟩
  generalize hX2 : cutS z none (some (at8 : Int)) ++ Str.ofString "Q" ++ cutS z (some ((at8 : Int) + 1)) none = X2
  generalize hX3 : cutS z none (some (at8 : Int)) ++ Str.ofString " " ++ cutS z (some (at8 : Int)) none = X3
  generalize hX4 : z ++ Str.ofString "abcdefghijkl" = X4
  have key : ∀ (i : Nat) (x : V), [V.str (Str.ofString ""), V.str X2, V.str X3, V.str X4][i]? = some x → ∃ y, x = .str y ∧ wdB y = false ∧ y.length ≤ 100 := by
    intro i x hx
    match i, hx with
    | 0, hx => exact ⟨_, (Option.some.inj hx).symm, by decide +kernel, by decide +kernel⟩
    | 1, hx =>
      refine ⟨X2, (Option.some.inj hx).symm, wdB_low (c := 81) ?_ (by decide), ?_⟩
      · rw [← hX2, cps_append, cps_append, show (Str.ofString "Q").cps.toList = [81] by decide +kernel]
        simp
      · have h1 := lc none (some (at8 : Int))
        have h2 := lc (some ((at8 : Int) + 1)) none
        rw [← hX2, len_append, len_append]
        omega
    | 2, hx =>
      refine ⟨X3, (Option.some.inj hx).symm, wdB_low (c := 32) ?_ (by decide), ?_⟩
      · rw [← hX3, cps_append, cps_append, show (Str.ofString " ").cps.toList = [32] by decide +kernel]
        simp
      · have h1 := lc none (some (at8 : Int))
        have h2 := lc (some (at8 : Int)) none
        rw [← hX3, len_append, len_append]
        omega
    | 3, hx =>
      have hw1 := hz.1
      refine ⟨X4, (Option.some.inj hx).symm, wdB_long ?_, ?_⟩
      · rw [← hX4, len_append]
        omega
      · rw [← hX4, len_append]
        omega
    | n + 4, hx => simp at hx
  have nl3' : H8 l3 = none := nl3
  have sm89 : Same H8 (upd H8 l3 (.lst [V.str (Str.ofString ""), V.str X2, V.str X3, V.str X4])) := same_upd nl3'
  refine ⟨l3, rfl, ⟨_, SqL.of upd_same⟩, for_list (K := K) (a := l3) (xs := [V.str (Str.ofString ""), V.str X2, V.str X3, V.str X4]) (fun i σ H' => ∃ y7 : Option V, σ = [some (.ref a), some (.ref p), some (.str z), some (.ref D), some (.ref t), some (.ref p2), some (.int (at8 : Int)), y7, none, none, none] ∧ Same H8 H' ∧ H' l3 = some (.lst [V.str (Str.ofString ""), V.str X2, V.str X3, V.str X4]))
    ⟨none, rfl, sm89, upd_same⟩ (fun i σ H' _ hW => ?_) (fun i x σ H' hx hW => ?_) (fun σ H9 hW => ?_)⟩
  · obtain ⟨_, _, _, el⟩ := hW
    exact SqL.of el
  · obtain ⟨y7, rfl, sm9, el⟩ := hW
    obtain ⟨y, rfl, hy, hyl⟩ := key i x hx
    refine ⟨_, rfl, _, rfl, y, D, vs, ds, rfl, sm9 _ _ eD8, by omega, ra8.keep (.same sm9), ⟨Nat.le_of_lt (small1000 (by omega)), szd⟩, ?_, ?_, fun H' sm' => ⟨_, rfl, iteF ?_⟩⟩
    · show 1 + (1 + noda ds) ≤ 900
      omega
    · show (wdB y && _) = false
      rw [hy]
      rfl
    · exact ⟨_, rfl, sm9.trans sm', sm' _ _ el⟩
  obtain ⟨y7, rfl, sm9', _⟩ := hW
  have sm9 : Same H H9 := sm8.trans sm9'
  have t9 : Tp H9 p2 := t8.same sm9'
  -- row, made again
  refine fun H10 vr sm10 rr => ⟨by rw [rr.length]; exact Nat.le_of_lt (small1000 (by decide)), fun lr nlr => ?_⟩
  have rl : vr.length = 3 := rr.length
  refine ⟨_, rfl, _, rfl, lr, vr, rfl, .inl (SqL.of upd_same), fun l5 nl5 => ?_⟩
  have okr : fok (.t (.s z :: rowD)) = true := by
    show (wdB z && (decide (rowD.length ≤ 3) && aok rowD)) = true
    rw [wz, row_ok.1]
    rfl
  have szr : szk (.t (.s z :: rowD)) := ⟨zline, szk_aok _ row_ok.1⟩
  have nnr : nod (.t (.s z :: rowD)) ≤ 900 := by
    have := row_ok.2.2
    show 1 + (1 + noda rowD) ≤ 900
    omega
  refine ⟨z, l5, vr, rfl, upd_same, by omega, rowD, (rr.keep (.new nlr)).keep (.new nl5), szr, nnr, fun _ H12 t2 sm12' et2 => ?_, fun hf => by rw [okr] at hf; cases hf⟩
  have er12 : H12 lr = some (.lst vr) := sm12' _ _ (same_upd nl5 _ _ upd_same)
  have sm912 : Same H9 H12 := ((sm10.trans (same_upd nlr)).trans (same_upd nl5)).trans sm12'
  have rr12 := ((rr.keep (.new nlr)).keep (.new nl5)).keep (.same sm12')
  refine ⟨_, rfl, _, _, _, _, true, rfl, .ty "tuple", ty_t et2, kit_ty (by decide +kernel), _, rfl, iteF ?_⟩
  refine ⟨_, rfl, _, rfl, fun H13 vr2 sm13 rr2 => ?_⟩
  refine ⟨?_, fun t3 nt3 => ?_⟩
  · show vr2.length + 1 ≤ sizeLine
    rw [rr2.length]
    exact Nat.le_of_lt (small1000 (by decide))
  have shr := shaped_toPy okr (show dep (.t (.s z :: rowD)) ≤ 60 by
    have := row_ok.2.1
    show 1 + max 0 (deps rowD) ≤ 60
    omega)
  refine ⟨_, _, Rp.dp (.t (same_upd nt3 _ _ (sm13 _ _ et2)) (.cons (.s z) ((rr12.keep (.same sm13)).keep (.new nt3)))), Rp.dp (d := .t (.s z :: rowD)) (.t upd_same (.cons (.s z) (rr2.keep (.new nt3)))), shr, shr, _, rfl, ?_⟩
  rw [eqv_toPy okr]
  refine iteF ?_
  have sm9b : Same H9 (upd H13 t3 (.tup (.str z :: vr2))) := (sm912.trans sm13).trans (same_upd nt3)
  have er13 : (upd H13 t3 (.tup (.str z :: vr2))) lr = some (.lst vr) := same_upd nt3 _ _ (sm13 _ _ er12)
  have rr13 := (rr12.keep (.same sm13)).keep (.new nt3 (o := .tup (.str z :: vr2)))
  have t13 := t9.same sm9b
  generalize upd H13 t3 (.tup (.str z :: vr2)) = H14 at sm9b er13 rr13 t13
  -- odd
  refine fun H15 vo sm15 ro => ⟨by rw [ro.length]; exact Nat.le_of_lt (small1000 (by decide)), fun lo nlo => ?_⟩
  refine ⟨_, rfl, fun H16 vo2 sm16 ro2 => ⟨by rw [ro2.length]; exact Nat.le_of_lt (small1000 (by decide)), fun lo2 nlo2 => ?_⟩⟩
  have hol : (vo ++ vo2).length = 12 := by
    rw [List.length_append, ro.length, ro2.length]
    rfl
  have elo : (upd H16 lo2 (.lst vo2)) lo = some (.lst vo) := same_upd nlo2 _ _ (sm16 _ _ upd_same)
  refine ⟨lo, lo2, vo, vo2, rfl, rfl, elo, upd_same, ?_, fun lo3 nlo3 => ?_⟩
  · rw [← List.length_append, hol]
    exact Nat.le_of_lt (small1000 (by decide))
  have smx : Same H14 (upd (upd H16 lo2 (.lst vo2)) lo3 (.lst (vo ++ vo2))) := (((sm15.trans (same_upd nlo)).trans sm16).trans (same_upd nlo2)).trans (same_upd nlo3)
  have rox : RpA (upd (upd H16 lo2 (.lst vo2)) lo3 (.lst (vo ++ vo2))) (vo ++ vo2) (odd1 ++ odd2) := ((ro.keep (.same (((same_upd nlo).trans sm16).trans ((same_upd nlo2).trans (same_upd nlo3))))).append (ro2.keep (.same ((same_upd nlo2).trans (same_upd nlo3)))))
  have elx : (upd (upd H16 lo2 (.lst vo2)) lo3 (.lst (vo ++ vo2))) lo3 = some (.lst (vo ++ vo2)) := upd_same
  have erx := smx _ _ er13
  have rrx := rr13.keep (.same smx)
  have tx := t13.same smx
  have npl : p2 ≠ lo3 := Tp.ne (t13.same (((sm15.trans (same_upd nlo)).trans sm16).trans (same_upd nlo2))) nlo3
  generalize upd (upd H16 lo2 (.lst vo2)) lo3 (.lst (vo ++ vo2)) = H17 at smx rox elx erx rrx tx
  have npr : lr ≠ p2 := fun e => by
    obtain ⟨_, e2, _⟩ := t9
    have e3 := sm10 _ _ e2
    rw [← e, nlr] at e3
    cases e3
  -- row[take(other, 3)] = odd[take(other, len(odd))]
  refine ⟨_, rfl, _, rfl, _, rfl, lo3, _, rfl, .inl (SqL.of elx), p2, (vo ++ vo2).length, rfl, tx, by omega, fun H18 j b18 t18 hj => ?_⟩
  obtain ⟨dj, ej, fj, nj, sj⟩ := odd_at (j := j) (by omega)
  have k18 := Keep.but b18 tx
  obtain ⟨vj, evj, rj⟩ := (rox.keep k18).get ej
  refine ⟨lo3, _, _, vj, rfl, rfl, SqL.of (b18 _ _ npl.symm elx), atI_nat evj, ?_⟩
  refine ⟨_, rfl, _, rfl, p2, 3, rfl, t18, by decide, fun H19 i3 b19 t19 hi3 => ?_⟩
  have er19 := b19 _ _ npr (b18 _ _ npr erx)
  have k19 := Keep.but b19 t18
  refine ⟨lr, vr, _, i3, rfl, rfl, er19, ixN_nat (by omega), ?_⟩
  have kset : Keep H19 (upd H19 lr (.lst (vr.set i3 vj))) := .lst er19
  have rrs := (((rrx.keep k18).keep k19).keep kset).set (j := i3) ((rj.keep k19).keep kset)
  have badrow : fok (.t (.s z :: rowD.set i3 dj)) = false := by
    show (wdB z && (decide ((rowD.set i3 dj).length ≤ 3) && aok (rowD.set i3 dj))) = false
    rw [aok_set (show i3 < 3 from hi3) fj]
    simp
  have nset := noda_set (ds := rowD) (j := i3) (d := dj)
  have nrow := row_ok.2.2
  refine ⟨_, rfl, _, rfl, z, lr, _, rowD.set i3 dj, rfl, upd_same, ?_, rrs, ⟨zline, szka_set (szk_aok _ row_ok.1) sj⟩, ?_, badrow, fun H20 sm20 => ⟨_, rfl, iteT ?_⟩⟩
  · rw [List.length_set]
    omega
  · show 1 + (1 + noda (rowD.set i3 dj)) ≤ 900
    omega
  refine ⟨_, rfl, fun H21 vf sm21 rf => ⟨by rw [rf.length]; exact Nat.le_of_lt (small1000 (by decide)), fun lf nlf => ?_⟩⟩
  refine ⟨z, lf, vf, fourD, rfl, upd_same, ?_, rf.keep (.new nlf), ⟨zline, szk_aok _ (by decide +kernel)⟩, ?_, ?_, fun H22 _ => q H22⟩
  · rw [rf.length]
    decide
  · have : noda fourD ≤ 20 := by decide +kernel
    show 1 + (1 + noda fourD) ≤ 900
    omega
  · show (wdB z && (decide (fourD.length ≤ 3) && aok fourD)) = false
    rw [show decide (fourD.length ≤ 3) = false from rfl]
    simp
end
end KN
set_option Elab.async false
set_option linter.all false
set_option maxRecDepth 100000
set_option maxHeartbeats 1000000
namespace KN
open PySem PySem.Spec PyProof.Rows L2
/-! ### isinstance of a caught error -/
theorem kit_self {K : PySem.W.Frag} {C : Addr} : PySem.W.kitOne K (.ref C) (.ref C) = some true := by
  unfold PySem.W.kitOne
  rw [if_pos (beq_self_eq_true _)]
theorem kit_builtin {K : PySem.W.Frag} {C : Addr} {T : String} {b : Bool} (m : PySem.W.kitMeta T = true) (h : PySem.W.subIn K (.ref C) (.type T) = some b) : PySem.W.kitOne K (.ref C) (.type T) = some b := by
  have hne : ¬ ((Value.ref C == Value.type T) = true) := fun e => by
    have e2 := beq_iff_eq.mp e
    cases e2
  unfold PySem.W.kitOne
  rw [if_neg hne]
  show (if PySem.W.kitMeta T = true then _ else none) = _
  rw [if_pos m]
  exact h
theorem kit_other {K : PySem.W.Frag} {C D : Addr} (h1 : PySem.W.subIn K (.ref C) (.ref C) = some true) (h2 : PySem.W.subIn K (.ref C) (.ref D) = some false) (hd : PySem.W.hasDictIn K D = true) (ht : PySem.W.typeIn K (.ref D) = some (.type "type")) : PySem.W.kitOne K (.ref C) (.ref D) = some false := by
  have hne : ¬ ((Value.ref C == Value.ref D) = true) := fun e => by
    have e2 : C = D := Value.ref.inj (beq_iff_eq.mp e)
    subst e2
    rw [h1] at h2
    cases h2
  obtain ⟨cd, hc, _⟩ := PySem.W.any_some hd
  unfold PySem.W.kitOne
  rw [if_neg hne]
  show (if ((PySem.W.clsIn K D).isSome && PySem.W.typeIn K (.ref D) == some (.type "type")) = true then _ else none) = _
  rw [if_pos (by rw [hc, ht]; rfl)]
  exact h2
/-! ### what the top has written -/
theorem all_mk {l : PySem.W.OpenLaw} {w : World} {K : PySem.W.Frag} {h : Heap} {mg : Str → Option Value} {fa CB CN CR f1 f2 f3 f4 f5 f6 f7 f8 f9 f10 f11 f12 : Addr} {tS tC : Tok} (X : K.In h) (G : h.Ns mainGlobals mg) (hfa : mg "law" = some (.ref fa))
    {od1 an1 od2 an2 od3 an3 od4 an4 od5 an5 od6 an6 od7 an7 od8 an8 od9 an9 od10 an10 od11 an11 od12 an12 : Option Addr} {sl1 sl2 sl3 sl4 sl5 sl6 sl7 sl8 sl9 sl10 sl11 sl12 : Array (Option Value)} {oc1 kV1 dc1 pm1 cd1 ct1 oc2 kV2 dc2 pm2 cd2 ct2 oc3 kV3 dc3 pm3 cd3 ct3 oc4 kV4 dc4 pm4 cd4 ct4 oc5 kV5 dc5 pm5 cd5 ct5 oc6 kV6 dc6 pm6 cd6 ct6 oc7 kV7 dc7 pm7 cd7 ct7 oc8 kV8 dc8 pm8 cd8 ct8 oc9 kV9 dc9 pm9 cd9 ct9 oc10 kV10 dc10 pm10 cd10 ct10 oc11 kV11 dc11 pm11 cd11 ct11 oc12 kV12 dc12 pm12 cd12 ct12 : Value}
    (a1 : PySem.W.nsIn K mainGlobals "is_word" = some (some (.ref f1))) (l1 : K.lookup f1 = some ⟨oc1, od1, .func (PySem.W.fnOf "is_word" "is_word" (defArgs sIsWord) (defBody sIsWord) (defScope sIsWord) .none kV1 dc1 pm1 an1 cd1 ct1), sl1⟩) (c1 : PySem.W.codeIn K cd1 "is_word" = true) (k1 : PySem.W.keepIn K (.ref f1) = true)
    (a2 : PySem.W.nsIn K mainGlobals "is_letter" = some (some (.ref f2))) (l2 : K.lookup f2 = some ⟨oc2, od2, .func (PySem.W.fnOf "is_letter" "is_letter" (defArgs sIsLetter) (defBody sIsLetter) (defScope sIsLetter) .none kV2 dc2 pm2 an2 cd2 ct2), sl2⟩) (c2 : PySem.W.codeIn K cd2 "is_letter" = true) (k2 : PySem.W.keepIn K (.ref f2) = true)
    (a3 : PySem.W.nsIn K mainGlobals "is_form" = some (some (.ref f3))) (l3 : K.lookup f3 = some ⟨oc3, od3, .func (PySem.W.fnOf "is_form" "is_form" (defArgs sIsForm) (defBody sIsForm) (defScope sIsForm) .none kV3 dc3 pm3 an3 cd3 ct3), sl3⟩) (c3 : PySem.W.codeIn K cd3 "is_form" = true) (k3 : PySem.W.keepIn K (.ref f3) = true)
    (a4 : PySem.W.nsIn K mainGlobals "form" = some (some (.ref f4))) (l4 : K.lookup f4 = some ⟨oc4, od4, .func (PySem.W.fnOf "form" "form" (defArgs sForm) (defBody sForm) (defScope sForm) .none kV4 dc4 pm4 an4 cd4 ct4), sl4⟩) (c4 : PySem.W.codeIn K cd4 "form" = true) (k4 : PySem.W.keepIn K (.ref f4) = true)
    (a5 : PySem.W.nsIn K mainGlobals "_law_cell" = some (some (.ref f5))) (l5 : K.lookup f5 = some ⟨oc5, od5, .func (PySem.W.fnOf "_law_cell" "_law_cell" (defArgs sCell) (defBody sCell) (defScope sCell) .none kV5 dc5 pm5 an5 cd5 ct5), sl5⟩) (c5 : PySem.W.codeIn K cd5 "_law_cell" = true) (k5 : PySem.W.keepIn K (.ref f5) = true)
    (a6 : PySem.W.nsIn K mainGlobals "_law_tape" = some (some (.ref f6))) (l6 : K.lookup f6 = some ⟨oc6, od6, .func (PySem.W.fnOf "_law_tape" "_law_tape" (defArgs sTape) (defBody sTape) (defScope sTape) .none kV6 dc6 pm6 an6 cd6 ct6), sl6⟩) (c6 : PySem.W.codeIn K cd6 "_law_tape" = true) (k6 : PySem.W.keepIn K (.ref f6) = true)
    (a7 : PySem.W.nsIn K mainGlobals "_law_take" = some (some (.ref f7))) (l7 : K.lookup f7 = some ⟨oc7, od7, .func (PySem.W.fnOf "_law_take" "_law_take" (defArgs sTake) (defBody sTake) (defScope sTake) .none kV7 dc7 pm7 an7 cd7 ct7), sl7⟩) (c7 : PySem.W.codeIn K cd7 "_law_take" = true) (k7 : PySem.W.keepIn K (.ref f7) = true)
    (a8 : PySem.W.nsIn K mainGlobals "_law_word" = some (some (.ref f8))) (l8 : K.lookup f8 = some ⟨oc8, od8, .func (PySem.W.fnOf "_law_word" "_law_word" (defArgs sWord) (defBody sWord) (defScope sWord) .none kV8 dc8 pm8 an8 cd8 ct8), sl8⟩) (c8 : PySem.W.codeIn K cd8 "_law_word" = true) (k8 : PySem.W.keepIn K (.ref f8) = true)
    (a9 : PySem.W.nsIn K mainGlobals "_law_pattern" = some (some (.ref f9))) (l9 : K.lookup f9 = some ⟨oc9, od9, .func (PySem.W.fnOf "_law_pattern" "_law_pattern" (defArgs sPattern) (defBody sPattern) (defScope sPattern) .none kV9 dc9 pm9 an9 cd9 ct9), sl9⟩) (c9 : PySem.W.codeIn K cd9 "_law_pattern" = true) (k9 : PySem.W.keepIn K (.ref f9) = true)
    (a10 : PySem.W.nsIn K mainGlobals "_law_form_of" = some (some (.ref f10))) (l10 : K.lookup f10 = some ⟨oc10, od10, .func (PySem.W.fnOf "_law_form_of" "_law_form_of" (defArgs sFormOf) (defBody sFormOf) (defScope sFormOf) .none kV10 dc10 pm10 an10 cd10 ct10), sl10⟩) (c10 : PySem.W.codeIn K cd10 "_law_form_of" = true) (k10 : PySem.W.keepIn K (.ref f10) = true)
    (a11 : PySem.W.nsIn K mainGlobals "_law_refused" = some (some (.ref f11))) (l11 : K.lookup f11 = some ⟨oc11, od11, .func (PySem.W.fnOf "_law_refused" "_law_refused" (defArgs sRefused) (defBody sRefused) (defScope sRefused) .none kV11 dc11 pm11 an11 cd11 ct11), sl11⟩) (c11 : PySem.W.codeIn K cd11 "_law_refused" = true) (k11 : PySem.W.keepIn K (.ref f11) = true)
    (a12 : PySem.W.nsIn K mainGlobals "law" = some (some (.ref f12))) (l12 : K.lookup f12 = some ⟨oc12, od12, .func (PySem.W.fnOf "law" "law" (defArgs sLaw) (defBody sLaw) (defScope sLaw) .none kV12 dc12 pm12 an12 cd12 ct12), sl12⟩) (c12 : PySem.W.codeIn K cd12 "law" = true) (k12 : PySem.W.keepIn K (.ref f12) = true)
    (z0 : PySem.W.nsIn K mainGlobals "len" = some none)
    (z1 : PySem.W.nsIn K mainGlobals "range" = some none)
    (z2 : PySem.W.nsIn K mainGlobals "int" = some none)
    (z3 : PySem.W.nsIn K mainGlobals "tuple" = some none)
    (z4 : PySem.W.nsIn K mainGlobals "list" = some none)
    (z5 : PySem.W.nsIn K mainGlobals "isinstance" = some none)
    (z6 : PySem.W.nsIn K mainGlobals "str" = some none)
    (z7 : PySem.W.nsIn K mainGlobals "all" = some none)
    (z8 : PySem.W.nsIn K mainGlobals "ValueError" = some none)
    (s1 : PySem.W.nsIn K mainGlobals "SMALL" = some (some (.str (Str.ofString "abcdefghijklmnopqrstuvwxyz") tS))) (s2 : PySem.W.nsIn K mainGlobals "CAPITAL" = some (some (.str (Str.ofString "ABCDEFGHIJKLMNOPQRSTUVWXYZ") tC)))
    (aB : PySem.W.nsIn K mainGlobals "BadKind" = some (some (.ref CB))) (aN : PySem.W.nsIn K mainGlobals "NotesError" = some (some (.ref CN))) (aR : PySem.W.nsIn K mainGlobals "BadRule" = some (some (.ref CR)))
    (e1 : PySem.W.keepIn K (.ref CB) = true) (e2 : PySem.W.excIn K CB [.type "ValueError", .type "Exception", .type "BaseException", .type "object"] "ValueError.__new__" = true)
    (e3 : PySem.W.subIn K (.ref CB) (.type "BaseException") = some true) (e4 : PySem.W.typeIn K (.ref CB) = some (.type "type")) (e5 : PySem.W.hasDictIn K CB = true)
    (e6 : PySem.W.findIn K (.ref CB) "__getattribute__" = some (some (.builtin "BaseException.__getattribute__"))) (e7 : PySem.W.findIn K (.ref CB) "__getattr__" = some none)
    (e8 : PySem.W.findIn K (.ref CB) "__class__" = some (some (.builtin "object.__class__"))) (e9 : PySem.W.specialIn K (.builtin "object.__class__") "__get__" = some (some (.builtin "getset_descriptor.__get__")))
    (e10 : PySem.W.takesIn K (.builtin "object.__class__") = some true) (e11 : PySem.W.mroIn K CB (.type "object") = some true)
    (n1 : PySem.W.subIn K (.ref CN) (.type "BaseException") = some true) (n2 : PySem.W.hasDictIn K CN = true) (n3 : PySem.W.typeIn K (.ref CN) = some (.type "type")) (n4 : PySem.W.subIn K (.ref CB) (.ref CN) = some true)
    (q1 : PySem.W.subIn K (.ref CB) (.ref CB) = some true) (q2 : PySem.W.subIn K (.ref CB) (.type "ValueError") = some true) (q3 : PySem.W.subIn K (.ref CB) (.ref CR) = some false)
    (r1 : PySem.W.hasDictIn K CR = true) (r2 : PySem.W.typeIn K (.ref CR) = some (.type "type")) :
    ∃ fd : FuncData, (∀ (s : Shared) (v : Value), BindsTo s fd ⟨[v], []⟩ [("_law_script", v)]) ∧ ∀ base : Heap, K.In base → base.Ns mainGlobals mg → FnOk l.prog w K mg base CX0 6 fa fd ["_law_script"] (spLaw K) := by
  have e := hfa.symm.trans (PySem.W.mg_of X G a12)
  cases e
  have F1 := fun_mk (st := sIsWord) l1 c1 k1
  have b1 := F1.binds (ps := ["text"]) fun _ _ _ _ _ _ us hl => match us, hl with | [_], _ => rfl
  have g1 := PySem.W.mg_of X G a1
  have F2 := fun_mk (st := sIsLetter) l2 c2 k2
  have b2 := F2.binds (ps := ["text"]) fun _ _ _ _ _ _ us hl => match us, hl with | [_], _ => rfl
  have g2 := PySem.W.mg_of X G a2
  have F3 := fun_mk (st := sIsForm) l3 c3 k3
  have b3 := F3.binds (ps := ["row"]) fun _ _ _ _ _ _ us hl => match us, hl with | [_], _ => rfl
  have g3 := PySem.W.mg_of X G a3
  have F4 := fun_mk (st := sForm) l4 c4 k4
  have g4 := PySem.W.mg_of X G a4
  have F5 := fun_mk (st := sCell) l5 c5 k5
  have b5 := F5.binds (ps := ["_law_script", "_law_k"]) fun _ _ _ _ _ _ us hl => match us, hl with | [_, _], _ => rfl
  have g5 := PySem.W.mg_of X G a5
  have F6 := fun_mk (st := sTape) l6 c6 k6
  have b6 := F6.binds (ps := ["_law_script", "_law_k", "_law_size"]) fun _ _ _ _ _ _ us hl => match us, hl with | [_, _, _], _ => rfl
  have g6 := PySem.W.mg_of X G a6
  have F7 := fun_mk (st := sTake) l7 c7 k7
  have b7 := F7.binds (ps := ["_law_tape_here", "_law_many"]) fun _ _ _ _ _ _ us hl => match us, hl with | [_, _], _ => rfl
  have g7 := PySem.W.mg_of X G a7
  have F8 := fun_mk (st := sWord) l8 c8 k8
  have b8 := F8.binds (ps := ["_law_tape_here"]) fun _ _ _ _ _ _ us hl => match us, hl with | [_], _ => rfl
  have g8 := PySem.W.mg_of X G a8
  have F9 := fun_mk (st := sPattern) l9 c9 k9
  have b9 := F9.binds (ps := ["_law_tape_here", "_law_depth"]) fun _ _ _ _ _ _ us hl => match us, hl with | [_, _], _ => rfl
  have g9 := PySem.W.mg_of X G a9
  have F10 := fun_mk (st := sFormOf) l10 c10 k10
  have b10 := F10.binds (ps := ["_law_word_here", "_law_parts"]) fun _ _ _ _ _ _ us hl => match us, hl with | [_, _], _ => rfl
  have g10 := PySem.W.mg_of X G a10
  have F11 := fun_mk (st := sRefused) l11 c11 k11
  have b11 := F11.binds (ps := ["_law_word_here", "_law_parts"]) fun _ _ _ _ _ _ us hl => match us, hl with | [_, _], _ => rfl
  have g11 := PySem.W.mg_of X G a11
  have F12 := fun_mk (st := sLaw) l12 c12 k12
  have m0 := PySem.W.mg_none_of X G z0
  have m1 := PySem.W.mg_none_of X G z1
  have m2 := PySem.W.mg_none_of X G z2
  have m3 := PySem.W.mg_none_of X G z3
  have m4 := PySem.W.mg_none_of X G z4
  have m5 := PySem.W.mg_none_of X G z5
  have m6 := PySem.W.mg_none_of X G z6
  have m7 := PySem.W.mg_none_of X G z7
  have m8 := PySem.W.mg_none_of X G z8
  have mS : ∃ t, mg "SMALL" = some (.str SMALLs t) := ⟨tS, PySem.W.mg_of X G s1⟩
  have mC : ∃ t, mg "CAPITAL" = some (.str CAPs t) := ⟨tC, PySem.W.mg_of X G s2⟩
  have eB : ErrC K mg "BadKind" CB := ⟨PySem.W.mg_of X G aB, e1, e2, e3, e4, e5, ⟨e6, e7, e3, e5, e8, e9, e10, e11⟩⟩
  refine ⟨PySem.W.fnOf "law" "law" (defArgs sLaw) (defBody sLaw) (defScope sLaw) .none kV12 dc12 pm12 an12 cd12 ct12, fun s v => .of_eq rfl, fun base _ _ => ?_⟩
  have GT : FnOk l.prog w K mg base CX0 1 f7 _ ["_law_tape_here", "_law_many"] spTake := ok_take F7 m0 m2
  have GTp : FnOk l.prog w K mg base CX0 2 f6 _ ["_law_script", "_law_k", "_law_size"] (spTape K) := ok_tape F6 F5 b5 g5 m0 m1 m2
  have GW : FnOk l.prog w K mg base CX0 2 f8 _ ["_law_tape_here"] spWord := ok_word F8 F7 b7 g7 m0 m2 m1
  have P1 := ok_pat (P := l.prog) (w := w) (base := base) (n := 0) F9 b9 g9 pat_none F7 b7 g7 F8 b8 g8 m0 m2 m1 m3
  have P2 := ok_pat (n := 1) F9 b9 g9 P1 F7 b7 g7 F8 b8 g8 m0 m2 m1 m3
  have P3 := ok_pat (n := 2) F9 b9 g9 P2 F7 b7 g7 F8 b8 g8 m0 m2 m1 m3
  have GI : FnOk l.prog w K mg base CX0 2 f3 _ ["row"] spIsForm := ok_isForm F3 F2 b2 g2 F1 b1 g1 m5 m6 m3 m0 m7 mC mS
  have GF : FnR l.prog w K mg base (L2.CX l.prog w) 3 f4 (spForm CB) := ok_form F4 F3 b3 g3 GI eB
  have GO := ok_FO F10 F4 g4 GF m0
  have GR := ok_ref F11 F10 b10 g10 GO m5 m8 eB (PySem.W.mg_of X G aN) (PySem.W.mg_of X G aR) (PySem.W.exm_ref n1 n2 n3 n4) kit_self (kit_builtin (by decide +kernel) q2) (kit_other q1 q3 r1 r2)
  exact ok_law F12 ⟨GTp, g6, k6, b6, GT, g7, k7, b7, GW, g8, k8, b8, P3, g9, k9, b9, GO, g10, k10, b10, GR, g11, k11, b11, m0, m1, m3, m4, m5⟩
end KN
open PySem PySem.W PyProof.Rows
set_option Elab.async false
set_option maxRecDepth 100000 in
set_option maxHeartbeats 0 in
theorem PySem.Challenge.cw_kindnotes_k01_forms_are_made_holds : PySem.Challenge.rw_kindnotes_k01_forms_are_made.Holds := by
  w_on; o_law; k_head; (case hw => w_witness2)
  k_fill
  refine L2.walk_of (l := PySem.Challenge.rw_kindnotes_k01_forms_are_made) (n := 63) (k := 6) (x := "_law_script") (CX := fun _ => L2.CX0) (sp := fun w => KN.spLaw _) rfl (by decide) rfl ⟨rfl, by decide, by decide⟩ (fun w h Y => PySem.W.kIn_of Y) ?F (fun _ _ a ns hl _ hS => ⟨a, ns, rfl, hS, hl, fun _ => rfl⟩) (fun _ _ _ _ _ h => h)
  case F =>
    intro w mg fa h KX G hmg
    refine' KN.all_mk KX G hmg ?a1 ?l1 ?c1 ?k1 ?a2 ?l2 ?c2 ?k2 ?a3 ?l3 ?c3 ?k3 ?a4 ?l4 ?c4 ?k4 ?a5 ?l5 ?c5 ?k5 ?a6 ?l6 ?c6 ?k6 ?a7 ?l7 ?c7 ?k7 ?a8 ?l8 ?c8 ?k8 ?a9 ?l9 ?c9 ?k9 ?a10 ?l10 ?c10 ?k10 ?a11 ?l11 ?c11 ?k11 ?a12 ?l12 ?c12 ?k12 ?z0 ?z1 ?z2 ?z3 ?z4 ?z5 ?z6 ?z7 ?z8 ?s1 ?s2 ?aB ?aN ?aR ?e1 ?e2 ?e3 ?e4 ?e5 ?e6 ?e7 ?e8 ?e9 ?e10 ?e11 ?n1 ?n2 ?n3 ?n4 ?q1 ?q2 ?q3 ?r1 ?r2
    (case a1 => k_is)
    (case l1 => k_is)
    (case c1 => k_is)
    (case k1 => k_is)
    (case a2 => k_is)
    (case l2 => k_is)
    (case c2 => k_is)
    (case k2 => k_is)
    (case a3 => k_is)
    (case l3 => k_is)
    (case c3 => k_is)
    (case k3 => k_is)
    (case a4 => k_is)
    (case l4 => k_is)
    (case c4 => k_is)
    (case k4 => k_is)
    (case a5 => k_is)
    (case l5 => k_is)
    (case c5 => k_is)
    (case k5 => k_is)
    (case a6 => k_is)
    (case l6 => k_is)
    (case c6 => k_is)
    (case k6 => k_is)
    (case a7 => k_is)
    (case l7 => k_is)
    (case c7 => k_is)
    (case k7 => k_is)
    (case a8 => k_is)
    (case l8 => k_is)
    (case c8 => k_is)
    (case k8 => k_is)
    (case a9 => k_is)
    (case l9 => k_is)
    (case c9 => k_is)
    (case k9 => k_is)
    (case a10 => k_is)
    (case l10 => k_is)
    (case c10 => k_is)
    (case k10 => k_is)
    (case a11 => k_is)
    (case l11 => k_is)
    (case c11 => k_is)
    (case k11 => k_is)
    (case a12 => k_is)
    (case l12 => k_is)
    (case c12 => k_is)
    (case k12 => k_is)
    (case z0 => k_is)
    (case z1 => k_is)
    (case z2 => k_is)
    (case z3 => k_is)
    (case z4 => k_is)
    (case z5 => k_is)
    (case z6 => k_is)
    (case z7 => k_is)
    (case z8 => k_is)
    (case s1 => k_is)
    (case s2 => k_is)
    (case aB => k_is)
    (case aN => k_is)
    (case aR => k_is)
    (case e1 => k_is)
    (case e2 => k_exc)
    (case e3 => k_is)
    (case e4 => k_is)
    (case e5 => k_is)
    (case e6 => k_is)
    (case e7 => k_is)
    (case e8 => k_is)
    (case e9 => k_is)
    (case e10 => k_is)
    (case e11 => k_is)
    (case n1 => k_is)
    (case n2 => k_is)
    (case n3 => k_is)
    (case n4 => k_is)
    (case q1 => k_is)
    (case q2 => k_is)
    (case q3 => k_is)
    (case r1 => k_is)
    (case r2 => k_is)
