import PyProof.Rows.All
import Wide.All
import OpenK.AllK
import Wide.FinOn
import HandS.ForMost
import HandS.Exc
import HandS.ExcOwn
import HandS.ExcIs
import HandS.TryOnly
import HandS.WordsExc
import HandS.IsInst
import HandS.Star
import HandS.Walk
import HandS.FStr
import HandS.Deep
import HandS.SetFor
import HandS.Defaults
import HandS.TupAny
import HandS.Flow
import HandS.RaiseOp
import HandS.CallSlots
import HandS.RaiseMore
import PySem.Challenge.RW_kindnotes_k14_what_a_node_needs
set_option Elab.async false
set_option linter.all false
set_option maxRecDepth 100000
set_option maxHeartbeats 1000000
namespace VL
open PySem PySem.Spec PyProof.Rows L2
/-! ### data -/
inductive Da where
  | n | b (x : Bool) | i (k : Int) | s (z : Str) | t (ds : List Da) | l (ds : List Da)
  | dk (kvs : List (Key × Da)) | ins (C : Addr) (fs : List (Str × Da)) | r (a : Addr) | ty (nm : String) | sc (ns : List Int) | o (j : Nat)
/-- a list of ints that nobody changes -/
def Scl (K : PySem.W.Frag) (H : Hp) (a : Addr) (ns : List Int) : Prop := (∃ o, H a = some (.frz o (.lst (ns.map V.int)))) ∨ SqL K (fun _ => none) a (ns.map V.int)
section
variable (K : PySem.W.Frag) (A : Addr → Prop) (H : Hp)
mutual
/-- the value v is the data d; A: what may change -/
inductive Rp : V → Da → Prop
  | n : Rp .non .n
  | b (x : Bool) : Rp (.bl x) (.b x)
  | i (k : Int) : Rp (.int k) (.i k)
  | s (z : Str) : Rp (.str z) (.s z)
  | r (a : Addr) : Rp (.ref a) (.r a)
  | ty (nm : String) : Rp (.ty nm) (.ty nm)
  | sc {a : Addr} {ns : List Int} : Scl K H a ns → Rp (.ref a) (.sc ns)
  | t {a : Addr} {vs : List V} {ds : List Da} : SqT K H a vs → RpA vs ds → Rp (.ref a) (.t ds)
  | l {a : Addr} {vs : List V} {ds : List Da} : H a = some (.lst vs) → ¬ A a → RpA vs ds → Rp (.ref a) (.l ds)
  | dk {a : Addr} {kvs : List (Key × V)} {kds : List (Key × Da)} : H a = some (.dK kvs) → ¬ A a → RpK kvs kds → Rp (.ref a) (.dk kds)
  | ins {a C dx : Addr} {fs : List (Str × V)} {gs : List (Str × Da)} : H a = some (.ins C dx fs) → ¬ A a → RpF fs gs → Rp (.ref a) (.ins C gs)
inductive RpA : List V → List Da → Prop
  | nil : RpA [] []
  | cons {v : V} {vs : List V} {d : Da} {ds : List Da} : Rp v d → RpA vs ds → RpA (v :: vs) (d :: ds)
inductive RpK : List (Key × V) → List (Key × Da) → Prop
  | nil : RpK [] []
  | cons {k : Key} {v : V} {vs : List (Key × V)} {d : Da} {ds : List (Key × Da)} : Rp v d → RpK vs ds → RpK ((k, v) :: vs) ((k, d) :: ds)
inductive RpF : List (Str × V) → List (Str × Da) → Prop
  | nil : RpF [] []
  | cons {k : Str} {v : V} {vs : List (Str × V)} {d : Da} {ds : List (Str × Da)} : Rp v d → RpF vs ds → RpF ((k, v) :: vs) ((k, d) :: ds)
end
end
/-- what stands outside W, and what never changes, stands; what may change behind is old or new -/
structure Kp (W W' : Addr → Prop) (H H' : Hp) : Prop where
  keep : ∀ b o, H b = some o → (¬ W b ∨ ¬ Mut (some o)) → H' b = some o
  mono : ∀ b, W' b → W b ∨ H b = none
section
variable {K : PySem.W.Frag} {W W1 W2 A A' : Addr → Prop} {H H1 H2 H' : Hp}
theorem Kp.refl : Kp W W H H := ⟨fun _ _ h _ => h, fun _ h => .inl h⟩
theorem Kp.trans (a : Kp W W1 H H1) (b : Kp W1 W2 H1 H2) : Kp W W2 H H2 := by
  refine ⟨fun x o h z => ?_, fun x h => ?_⟩
  · refine b.keep x o (a.keep x o h z) ?_
    rcases z with z | z
    · refine .inl fun q => ?_
      rcases a.mono x q with q | q
      · exact z q
      · rw [h] at q; cases q
    · exact .inr z
  · rcases b.mono x h with q | q
    · exact a.mono x q
    · cases e : H x with
      | none => exact .inr rfl
      | some o =>
        refine .inl (Classical.byContradiction fun z => ?_)
        rw [a.keep x o e (.inl z)] at q
        cases q
theorem Kp.same (s : Same H H') : Kp W W H H' := ⟨fun b o h _ => s b o h, fun _ h => .inl h⟩
theorem Kp.sub (a : Kp W W1 H H1) (h : ∀ b, W2 b → W1 b) : Kp W W2 H H1 := ⟨a.keep, fun b z => a.mono b (h b z)⟩
theorem Kp.or {Z : Addr → Prop} (a : Kp W W1 H H1) : Kp (fun b => Z b ∨ W b) (fun b => Z b ∨ W1 b) H H1 :=
  ⟨fun b o h z => a.keep b o h (z.imp (fun q r => q (.inr r)) id), fun b z => by
    rcases z with z | z
    · exact .inl (.inl z)
    · exact (a.mono b z).imp .inr id⟩
theorem sqt_kp {a : Addr} {vs : List V} (k : Kp W W1 H H1) (h : SqT K H a vs) : SqT K H1 a vs := by
  rcases h with h | h
  · refine .inl ?_
    rcases h with h | ⟨o, h⟩
    · exact .inl (k.keep _ _ h (.inr id))
    · exact .inr ⟨o, k.keep _ _ h (.inr id)⟩
  · exact .inr h
theorem scl_kp {a : Addr} {ns : List Int} (k : Kp W W1 H H1) (h : Scl K H a ns) : Scl K H1 a ns := h.imp (fun ⟨o, h⟩ => ⟨o, k.keep _ _ h (.inr id)⟩) id
theorem Scl.sq {a : Addr} {ns : List Int} (h : Scl K H a ns) : SqL K H a (ns.map V.int) := by
  rcases h with ⟨o, h⟩ | h
  · exact .inl (.inr ⟨o, h⟩)
  · rcases h with (h | ⟨o, h⟩) | h
    · cases h
    · cases h
    · exact .inr h
theorem old_new (k : Kp A A' H H') {a : Addr} {o : HO} (h : H a = some o) (n : ¬ A a) : H' a = some o ∧ ¬ A' a :=
  ⟨k.keep a o h (.inl n), fun z => (k.mono a z).elim n fun q => by rw [h] at q; cases q⟩
mutual
theorem Rp.kp (k : Kp A A' H H') : ∀ {v : V} {d : Da}, Rp K A H v d → Rp K A' H' v d
  | _, _, .n => .n
  | _, _, .b x => .b x
  | _, _, .i x => .i x
  | _, _, .s x => .s x
  | _, _, .r x => .r x
  | _, _, .ty x => .ty x
  | _, _, .sc h => .sc (scl_kp k h)
  | _, _, .t h a => .t (sqt_kp k h) (RpA.kp k a)
  | _, _, .l h n a => .l (old_new k h n).1 (old_new k h n).2 (RpA.kp k a)
  | _, _, .dk h n a => .dk (old_new k h n).1 (old_new k h n).2 (RpK.kp k a)
  | _, _, .ins h n a => .ins (old_new k h n).1 (old_new k h n).2 (RpF.kp k a)
theorem RpA.kp (k : Kp A A' H H') : ∀ {vs : List V} {ds : List Da}, RpA K A H vs ds → RpA K A' H' vs ds
  | _, _, .nil => .nil
  | _, _, .cons h a => .cons (Rp.kp k h) (RpA.kp k a)
theorem RpK.kp (k : Kp A A' H H') : ∀ {vs : List (Key × V)} {ds : List (Key × Da)}, RpK K A H vs ds → RpK K A' H' vs ds
  | _, _, .nil => .nil
  | _, _, .cons h a => .cons (Rp.kp k h) (RpK.kp k a)
theorem RpF.kp (k : Kp A A' H H') : ∀ {vs : List (Str × V)} {ds : List (Str × Da)}, RpF K A H vs ds → RpF K A' H' vs ds
  | _, _, .nil => .nil
  | _, _, .cons h a => .cons (Rp.kp k h) (RpF.kp k a)
end
theorem Rp.anti (h : ∀ b, A' b → A b) {v : V} {d : Da} (r : Rp K A H v d) : Rp K A' H v d := r.kp ⟨fun _ _ e _ => e, fun b z => .inl (h b z)⟩
theorem RpA.anti (h : ∀ b, A' b → A b) {v : List V} {d : List Da} (r : RpA K A H v d) : RpA K A' H v d := r.kp ⟨fun _ _ e _ => e, fun b z => .inl (h b z)⟩
theorem RpA.length : ∀ {vs : List V} {ds : List Da}, RpA K A H vs ds → vs.length = ds.length
  | _, _, .nil => rfl
  | _, _, .cons h a => by rw [List.length_cons, List.length_cons, RpA.length a]
theorem RpA.append : ∀ {vs us : List V} {ds es : List Da}, RpA K A H vs ds → RpA K A H us es → RpA K A H (vs ++ us) (ds ++ es)
  | _, _, _, _, .nil, h => h
  | _, _, _, _, .cons h a, h2 => .cons h (RpA.append a h2)
theorem RpA.snoc {vs : List V} {ds : List Da} {v : V} {d : Da} (a : RpA K A H vs ds) (h : Rp K A H v d) : RpA K A H (vs ++ [v]) (ds ++ [d]) := a.append (.cons h .nil)
theorem RpA.set : ∀ {vs : List V} {ds : List Da} {j : Nat} {v : V} {d : Da}, RpA K A H vs ds → Rp K A H v d → RpA K A H (vs.set j v) (ds.set j d)
  | _, _, _, _, _, .nil, _ => .nil
  | _, _, 0, _, _, .cons _ a, h => .cons h a
  | _, _, j + 1, _, _, .cons h0 a, h => .cons h0 (RpA.set a h)
theorem RpA.take : ∀ {vs : List V} {ds : List Da} (j : Nat), RpA K A H vs ds → RpA K A H (vs.take j) (ds.take j)
  | _, _, 0, _ => .nil
  | _, _, _ + 1, .nil => .nil
  | _, _, j + 1, .cons h a => .cons h (RpA.take j a)
theorem RpA.drop : ∀ {vs : List V} {ds : List Da} (j : Nat), RpA K A H vs ds → RpA K A H (vs.drop j) (ds.drop j)
  | _, _, 0, r => r
  | _, _, _ + 1, .nil => .nil
  | _, _, j + 1, .cons h a => RpA.drop j a
theorem RpA.get : ∀ {vs : List V} {ds : List Da} {j : Nat} {d : Da}, RpA K A H vs ds → ds[j]? = some d → ∃ v, vs[j]? = some v ∧ Rp K A H v d
  | _, _, _, _, .nil, h => by simp at h
  | _, _, 0, _, .cons h0 a, h => ⟨_, rfl, by
    have := Option.some.inj h
    rw [← this]
    exact h0⟩
  | _, _, j + 1, _, .cons h0 a, h => RpA.get (j := j) a h
theorem RpA.get' : ∀ {vs : List V} {ds : List Da} {j : Nat} {v : V}, RpA K A H vs ds → vs[j]? = some v → ∃ d, ds[j]? = some d ∧ Rp K A H v d
  | _, _, _, _, .nil, h => by simp at h
  | _, _, 0, _, .cons h0 a, h => ⟨_, rfl, by
    have := Option.some.inj h
    rw [← this]
    exact h0⟩
  | _, _, j + 1, _, .cons h0 a, h => RpA.get' (j := j) a h
theorem RpA.reverse {vs : List V} {ds : List Da} (a : RpA K A H vs ds) : RpA K A H vs.reverse ds.reverse := by
  induction a using RpA.rec (motive_1 := fun _ _ _ => True) (motive_3 := fun _ _ _ => True) (motive_4 := fun _ _ _ => True) with
  | nil => exact .nil
  | cons h a _ ih => rw [List.reverse_cons, List.reverse_cons]; exact ih.snoc h
  | _ => trivial
end
theorem same_upd {H : Hp} {p : Addr} {o : HO} (h : H p = none) : Same H (upd H p o) := fun b x e => by
  rw [upd_ne (ne_of_none e h)]
  exact e
/-! ### states -/
inductive Slx where
  | no | val (d : Da) | own (p : Addr) (ds : List Da)
inductive MO where
  | lst (ds : List Da) | dk (kvs : List (Key × Da)) | ins (C : Addr) (fs : List (Str × Da))
abbrev Mx := Addr → Option MO
structure Sx where
  ρ : List Slx
  M : Mx
structure Cq where
  A0 : Addr → Prop
  W0 : Addr → Prop
  H0 : Hp
  n : Nat
def wM (M : Mx) : Addr → Prop := fun a => M a ≠ none
def Sx.W (S : Sx) : Addr → Prop := fun a => (∃ (i : Nat) (ds : List Da), S.ρ[i]? = some (Slx.own a ds)) ∨ S.M a ≠ none
def Sx.A (S : Sx) (c : Cq) : Addr → Prop := fun a => c.A0 a ∨ S.W a
def Sx.set (S : Sx) (i : Nat) (x : Slx) : Sx := ⟨S.ρ.set i x, S.M⟩
def MOk (K : PySem.W.Frag) (A : Addr → Prop) (H : Hp) (a : Addr) : MO → Prop
  | .lst ds => ∃ vs, H a = some (.lst vs) ∧ RpA K A H vs ds
  | .dk kds => ∃ kvs, H a = some (.dK kvs) ∧ RpK K A H kvs kds
  | .ins C gs => ∃ dx fs, H a = some (.ins C dx fs) ∧ RpF K A H fs gs
structure Rel (K : PySem.W.Frag) (c : Cq) (S : Sx) (σ : L2.St) (H : Hp) : Prop where
  len : σ.length = S.ρ.length
  cn : S.ρ.length = c.n
  val : ∀ (i : Nat) d, S.ρ[i]? = some (Slx.val d) → ∃ v, σ[i]? = some (some v) ∧ Rp K (S.A c) H v d
  own : ∀ (i : Nat) p ds, S.ρ[i]? = some (Slx.own p ds) → σ[i]? = some (some (V.ref p)) ∧ ∃ vs, H p = some (.lst vs) ∧ RpA K (S.A c) H vs ds
  inj : ∀ (i j : Nat) p ds es, S.ρ[i]? = some (Slx.own p ds) → S.ρ[j]? = some (Slx.own p es) → i = j
  sep : ∀ (i : Nat) p ds, S.ρ[i]? = some (Slx.own p ds) → S.M p = none
  mem : ∀ a m, S.M a = some m → MOk K (S.A c) H a m
  a0 : ∀ a, c.A0 a → H a ≠ none ∧ ¬ S.W a
  kp : Kp c.W0 S.W c.H0 H
section
variable {K : PySem.W.Frag} {c : Cq} {S S' : Sx} {σ σ' : L2.St} {H H' : Hp}
theorem MOk.kp {A A' : Addr → Prop} {a : Addr} {m : MO} (k : Kp A A' H H') (hx : ∀ o, H a = some o → H' a = some o) (h : MOk K A H a m) : MOk K A' H' a m := by
  cases m with
  | lst ds => obtain ⟨vs, e, r⟩ := h; exact ⟨vs, hx _ e, r.kp k⟩
  | dk ds => obtain ⟨vs, e, r⟩ := h; exact ⟨vs, hx _ e, r.kp k⟩
  | ins C ds => obtain ⟨dx, vs, e, r⟩ := h; exact ⟨dx, vs, hx _ e, r.kp k⟩
theorem Rel.next (r : Rel K c S σ H) (k : Kp S.W S'.W H H') (len : σ'.length = S'.ρ.length) (cn : S'.ρ.length = S.ρ.length)
    (val : ∀ (i : Nat) d, S'.ρ[i]? = some (Slx.val d) → ∃ v, σ'[i]? = some (some v) ∧ Rp K (S'.A c) H' v d)
    (own : ∀ (i : Nat) p ds, S'.ρ[i]? = some (Slx.own p ds) → σ'[i]? = some (some (V.ref p)) ∧ ∃ vs, H' p = some (.lst vs) ∧ RpA K (S'.A c) H' vs ds)
    (inj : ∀ (i j : Nat) p ds es, S'.ρ[i]? = some (Slx.own p ds) → S'.ρ[j]? = some (Slx.own p es) → i = j)
    (sep : ∀ (i : Nat) p ds, S'.ρ[i]? = some (Slx.own p ds) → S'.M p = none)
    (mem : ∀ a m, S'.M a = some m → MOk K (S'.A c) H' a m) : Rel K c S' σ' H' := by
  refine ⟨len, cn.trans r.cn, val, own, inj, sep, mem, fun a z => ?_, r.kp.trans k⟩
  obtain ⟨h1, h2⟩ := r.a0 a z
  cases e : H a with
  | none => exact absurd e h1
  | some o =>
    have q := k.keep a o e (.inl h2)
    refine ⟨(fun z => by rw [q] at z; cases z), fun w => ?_⟩
    rcases k.mono a w with w | w
    · exact h2 w
    · exact h1 w
theorem kA (k : Kp S.W S'.W H H') : Kp (S.A c) (S'.A c) H H' := k.or
theorem Rel.same (r : Rel K c S σ H) (s : Same H H') : Rel K c S σ H' := by
  have k : Kp S.W S.W H H' := .same s
  refine r.next k r.len rfl (fun i d e => ?_) (fun i p ds e => ?_) r.inj r.sep (fun a m e => ?_)
  · obtain ⟨v, h1, h2⟩ := r.val i d e
    exact ⟨v, h1, h2.kp (kA k)⟩
  · obtain ⟨h1, vs, h2, h3⟩ := r.own i p ds e
    exact ⟨h1, vs, s _ _ h2, h3.kp (kA k)⟩
  · exact (r.mem a m e).kp (kA k) (s a)
theorem Rel.new (r : Rel K c S σ H) {p : Addr} {o : HO} (n : H p = none) : Rel K c S σ (upd H p o) := r.same (same_upd n)
theorem get_set {α : Type} {l : List α} {i j : Nat} {x y : α} (h : (l.set i x)[j]? = some y) : (i = j ∧ x = y) ∨ (i ≠ j ∧ l[j]? = some y) := by
  rw [List.getElem?_set] at h
  by_cases e : i = j
  · subst e
    simp only [if_true] at h
    split at h
    · exact .inl ⟨rfl, Option.some.inj h⟩
    · cases h
  · rw [if_neg e] at h
    exact .inr ⟨e, h⟩
theorem set_get {α : Type} {l : List α} {i : Nat} {x : α} (h : i < l.length) : (l.set i x)[i]? = some x := List.getElem?_set_self h
/-- a slot gets a value -/
theorem Rel.setV (r : Rel K c S σ H) {i : Nat} {v : V} {d : Da} (h : Rp K (S.A c) H v d) (hi : i < S.ρ.length) : Rel K c (S.set i (.val d)) (σ.set i (some v)) H ∧ Kp S.W (S.set i (.val d)).W H H := by
  have k : Kp S.W (S.set i (.val d)).W H H := by
    refine Kp.refl.sub fun b z => ?_
    rcases z with ⟨j, ds, z⟩ | z
    · rcases get_set z with ⟨_, q⟩ | ⟨_, q⟩
      · cases q
      · exact .inl ⟨j, ds, q⟩
    · exact .inr z
  refine ⟨r.next k (by simp [Sx.set, r.len]) (by simp [Sx.set]) (fun j e he => ?_) (fun j p ds he => ?_) (fun j j' p ds es h1 h2 => ?_) (fun j p ds he => ?_) (fun a m e => ?_), k⟩
  · rcases get_set he with ⟨rfl, q⟩ | ⟨ne, q⟩
    · cases q
      exact ⟨v, set_get (by rw [r.len]; exact hi), h.kp (kA k)⟩
    · obtain ⟨v', h1, h2⟩ := r.val j e q
      exact ⟨v', by rw [List.getElem?_set_ne ne]; exact h1, h2.kp (kA k)⟩
  · rcases get_set he with ⟨rfl, q⟩ | ⟨ne, q⟩
    · cases q
    · obtain ⟨h1, vs, h2, h3⟩ := r.own j p ds q
      exact ⟨by rw [List.getElem?_set_ne ne]; exact h1, vs, h2, h3.kp (kA k)⟩
  · rcases get_set h1 with ⟨rfl, q⟩ | ⟨ne, q⟩
    · cases q
    · rcases get_set h2 with ⟨rfl, q'⟩ | ⟨ne', q'⟩
      · cases q'
      · exact r.inj j j' p ds es q q'
  · rcases get_set he with ⟨rfl, q⟩ | ⟨ne, q⟩
    · cases q
    · exact r.sep j p ds q
  · exact (r.mem a m e).kp (kA k) fun _ z => z
/-- a slot gets a new list -/
theorem Rel.setO (r : Rel K c S σ H) {i : Nat} {p : Addr} {vs : List V} {ds : List Da} (np : H p = none) (h : RpA K (S.A c) H vs ds) (hi : i < S.ρ.length) :
    Rel K c (S.set i (.own p ds)) (σ.set i (some (.ref p))) (upd H p (.lst vs)) ∧ Kp S.W (S.set i (.own p ds)).W H (upd H p (.lst vs)) := by
  have k : Kp S.W (S.set i (.own p ds)).W H (upd H p (.lst vs)) := by
    refine ⟨fun b o e _ => by rw [upd_ne (ne_of_none e np)]; exact e, fun b z => ?_⟩
    rcases z with ⟨j, ds', z⟩ | z
    · rcases get_set z with ⟨_, q⟩ | ⟨_, q⟩
      · cases q
        exact .inr np
      · exact .inl (.inl ⟨j, ds', q⟩)
    · exact .inl (.inr z)
  have s : Same H (upd H p (.lst vs)) := same_upd np
  have pn : ∀ {j : Nat} {q : Addr} {es : List Da}, S.ρ[j]? = some (Slx.own q es) → q ≠ p := fun {j q es} e => by
    obtain ⟨_, _, h2, _⟩ := r.own j q es e
    exact ne_of_none h2 np
  refine ⟨r.next k (by simp [Sx.set, r.len]) (by simp [Sx.set]) (fun j e he => ?_) (fun j q es he => ?_) (fun j j' q ds' es h1 h2 => ?_) (fun j q es he => ?_) (fun a m e => ?_), k⟩
  · rcases get_set he with ⟨rfl, q⟩ | ⟨ne, q⟩
    · cases q
    · obtain ⟨v', h1, h2⟩ := r.val j e q
      exact ⟨v', by rw [List.getElem?_set_ne ne]; exact h1, h2.kp (kA k)⟩
  · rcases get_set he with ⟨rfl, z⟩ | ⟨ne, z⟩
    · cases z
      exact ⟨set_get (by rw [r.len]; exact hi), vs, upd_same, h.kp (kA k)⟩
    · obtain ⟨h1, vs', h2, h3⟩ := r.own j q es z
      exact ⟨by rw [List.getElem?_set_ne ne]; exact h1, vs', s _ _ h2, h3.kp (kA k)⟩
  · rcases get_set h1 with ⟨e1, q1⟩ | ⟨ne, q1⟩
    · rcases get_set h2 with ⟨e2, q2⟩ | ⟨ne', q2⟩
      · rw [← e1, ← e2]
      · cases q1
        exact absurd rfl (pn q2)
    · rcases get_set h2 with ⟨e2, q2⟩ | ⟨ne', q2⟩
      · cases q2
        exact absurd rfl (pn q1)
      · exact r.inj j j' q ds' es q1 q2
  · rcases get_set he with ⟨rfl, z⟩ | ⟨ne, z⟩
    · cases z
      cases e : S.M p with
      | none => exact e
      | some m =>
        have := r.mem p m e
        cases m with
        | lst ds => obtain ⟨vs, e, r⟩ := this; rw [np] at e; cases e
        | dk ds => obtain ⟨vs, e, r⟩ := this; rw [np] at e; cases e
        | ins C ds => obtain ⟨dx, vs, e, r⟩ := this; rw [np] at e; cases e
    · exact r.sep j q es z
  · exact (r.mem a m e).kp (kA k) fun o z => s a o z
/-- a list of one's own changes -/
theorem Rel.updO (r : Rel K c S σ H) {i : Nat} {p : Addr} {es : List Da} {vs : List V} {ds : List Da} (e : S.ρ[i]? = some (Slx.own p es)) (h : RpA K (S.A c) H vs ds) :
    Rel K c (S.set i (.own p ds)) σ (upd H p (.lst vs)) ∧ Kp S.W (S.set i (.own p ds)).W H (upd H p (.lst vs)) := by
  obtain ⟨hσ, ws, hp, _⟩ := r.own i p es e
  have hi : i < S.ρ.length := by
    rw [List.getElem?_eq_some_iff] at e
    exact e.1
  have k : Kp S.W (S.set i (.own p ds)).W H (upd H p (.lst vs)) := by
    refine ⟨fun b o eb z => ?_, fun b z => ?_⟩
    · have : b ≠ p := fun q => by
        subst q
        rcases z with z | z
        · exact z (.inl ⟨i, es, e⟩)
        · rw [hp] at eb
          cases eb
          exact z trivial
      rw [upd_ne this]
      exact eb
    · rcases z with ⟨j, ds', z⟩ | z
      · rcases get_set z with ⟨_, q⟩ | ⟨_, q⟩
        · cases q
          exact .inl (.inl ⟨i, es, e⟩)
        · exact .inl (.inl ⟨j, ds', q⟩)
      · exact .inl (.inr z)
  have pn : ∀ {j : Nat} {q : Addr} {es' : List Da}, i ≠ j → S.ρ[j]? = some (Slx.own q es') → q ≠ p := fun {j q es'} ne z1 z2 => by
    subst z2
    exact ne (r.inj i j q es es' e z1)
  refine ⟨r.next k (by simp [Sx.set, r.len]) (by simp [Sx.set]) (fun j d he => ?_) (fun j q es' he => ?_) (fun j j' q ds' es' h1 h2 => ?_) (fun j q es' he => ?_) (fun a m em => ?_), k⟩
  · rcases get_set he with ⟨rfl, q⟩ | ⟨ne, q⟩
    · cases q
    · obtain ⟨v', h1, h2⟩ := r.val j d q
      exact ⟨v', h1, h2.kp (kA k)⟩
  · rcases get_set he with ⟨rfl, z⟩ | ⟨ne, z⟩
    · cases z
      exact ⟨hσ, vs, upd_same, h.kp (kA k)⟩
    · obtain ⟨h1, vs', h2, h3⟩ := r.own j q es' z
      exact ⟨h1, vs', by rw [upd_ne (pn ne z)]; exact h2, h3.kp (kA k)⟩
  · rcases get_set h1 with ⟨e1, q1⟩ | ⟨ne, q1⟩
    · rcases get_set h2 with ⟨e2, q2⟩ | ⟨ne', q2⟩
      · rw [← e1, ← e2]
      · cases q1
        exact absurd rfl (pn ne' q2)
    · rcases get_set h2 with ⟨e2, q2⟩ | ⟨ne', q2⟩
      · cases q2
        exact absurd rfl (pn ne q1)
      · exact r.inj j j' q ds' es' q1 q2
  · rcases get_set he with ⟨rfl, z⟩ | ⟨ne, z⟩
    · cases z
      exact r.sep i p es e
    · exact r.sep j q es' z
  · refine (r.mem a m em).kp (kA k) fun o z => ?_
    have : a ≠ p := fun q => by
      have em' : S.M a = some m := em
      rw [q, r.sep i p es e] at em'
      cases em'
    rw [upd_ne this]
    exact z
/-- a list of one's own is not changed any more -/
theorem Rel.frz (r : Rel K c S σ H) {i : Nat} {p : Addr} {es : List Da} (e : S.ρ[i]? = some (Slx.own p es)) :
    Rel K c (S.set i (.val (.l es))) σ H ∧ Kp S.W (S.set i (.val (.l es))).W H H ∧ Rp K ((S.set i (.val (.l es))).A c) H (.ref p) (.l es) := by
  obtain ⟨hσ, ws, hp, hw⟩ := r.own i p es e
  have sub : ∀ b, (S.set i (.val (.l es))).W b → S.W b ∧ b ≠ p := fun b z => by
    rcases z with ⟨j, ds', z⟩ | z
    · rcases get_set z with ⟨_, q⟩ | ⟨ne, q⟩
      · cases q
      · exact ⟨.inl ⟨j, ds', q⟩, fun z => by subst z; exact ne (r.inj i j b es ds' e q)⟩
    · exact ⟨.inr z, fun w => z (by rw [w]; exact r.sep i p es e)⟩
  have k : Kp S.W (S.set i (.val (.l es))).W H H := Kp.refl.sub fun b z => (sub b z).1
  have nA : ¬ (S.set i (.val (.l es))).A c p := fun z => by
    rcases z with z | z
    · exact (r.a0 p z).2 (.inl ⟨i, es, e⟩)
    · exact (sub p z).2 rfl
  have rp : Rp K ((S.set i (.val (.l es))).A c) H (.ref p) (.l es) := .l hp nA (hw.kp (kA k))
  refine ⟨r.next k (by simp [Sx.set, r.len]) (by simp [Sx.set]) (fun j d he => ?_) (fun j q es' he => ?_) (fun j j' q ds' es' h1 h2 => ?_) (fun j q es' he => ?_) (fun a m em => ?_), k, rp⟩
  · rcases get_set he with ⟨rfl, q⟩ | ⟨ne, q⟩
    · cases q
      exact ⟨_, hσ, rp⟩
    · obtain ⟨v', h1, h2⟩ := r.val j d q
      exact ⟨v', h1, h2.kp (kA k)⟩
  · rcases get_set he with ⟨rfl, z⟩ | ⟨ne, z⟩
    · cases z
    · obtain ⟨h1, vs', h2, h3⟩ := r.own j q es' z
      exact ⟨h1, vs', h2, h3.kp (kA k)⟩
  · rcases get_set h1 with ⟨e1, q1⟩ | ⟨ne, q1⟩
    · cases q1
    · rcases get_set h2 with ⟨e2, q2⟩ | ⟨ne', q2⟩
      · cases q2
      · exact r.inj j j' q ds' es' q1 q2
  · rcases get_set he with ⟨rfl, z⟩ | ⟨ne, z⟩
    · cases z
    · exact r.sep j q es' z
  · exact (r.mem a m em).kp (kA k) fun o z => z
end
end VL
set_option Elab.async false
set_option linter.all false
set_option maxRecDepth 100000
set_option maxHeartbeats 1000000
namespace VL
open PySem PySem.Spec PyProof.Rows L2
abbrev WE := Sx → (Da → Sx → Prop) → Prop
abbrev WA := Sx → (List Da → Sx → Prop) → Prop
abbrev WT := Sx → (Bool → Sx → Prop) → Prop
structure Dn where
  nx : Sx → Prop
  rt : Da → Sx → Prop
  bk : Sx → Prop := fun _ => False
  ct : Sx → Prop := fun _ => False
abbrev WS := Dn → Sx → Prop
def Da.isO : Da → Bool
  | .o _ => true
  | _ => false
def RpS (K : PySem.W.Frag) (A : Addr → Prop) (σ : L2.St) (H : Hp) (v : V) (d : Da) : Prop := Rp K A H v d ∨ ∃ j, d = .o j ∧ σ[j]? = some (some v)
section
variable (K : PySem.W.Frag) (c : Cq)
def Pst (S : Sx) (σ : L2.St) (H : Hp) (Qd : Da → Sx → Prop) (Q : VK) : Prop :=
  ∀ d S', Qd d S' → ∀ H' v, Rel K c S' σ H' → Kp S.W S'.W H H' → RpS K (S'.A c) σ H' v d → Q v H'
def PstL (S : Sx) (σ : L2.St) (H : Hp) (Qd : List Da → Sx → Prop) (Q : VK) : Prop :=
  ∀ ds S', Qd ds S' → ∀ H' p vs, Rel K c S' σ H' → Kp S.W S'.W H H' → H' p = none → RpA K (S'.A c) H' vs ds → ds.length ≤ sizeLine → Q (.ref p) (upd H' p (.lst vs))
def PstA (S : Sx) (σ : L2.St) (H : Hp) (Qd : List Da → Sx → Prop) (Q : List V → Hp → Prop) : Prop :=
  ∀ ds S', Qd ds S' → ∀ H' vs, Rel K c S' σ H' → Kp S.W S'.W H H' → RpA K (S'.A c) H' vs ds → Q vs H'
def PstT (S : Sx) (σ : L2.St) (H : Hp) (Qd : Bool → Sx → Prop) (Q : Bool → Hp → Prop) : Prop :=
  ∀ b S', Qd b S' → ∀ H', Rel K c S' σ H' → Kp S.W S'.W H H' → Q b H'
structure PstS (S : Sx) (H : Hp) (Dd : Dn) (D : Ends) : Prop where
  nx : ∀ S', Dd.nx S' → ∀ σ' H', Rel K c S' σ' H' → Kp S.W S'.W H H' → D.nx σ' H'
  rt : ∀ d S', Dd.rt d S' → ∀ σ' H' v, Rel K c S' σ' H' → Kp S.W S'.W H H' → Rp K (S'.A c) H' v d → D.rt v H'
  bk : ∀ S', Dd.bk S' → ∀ σ' H', Rel K c S' σ' H' → Kp S.W S'.W H H' → D.bk σ' H'
  ct : ∀ S', Dd.ct S' → ∀ σ' H', Rel K c S' σ' H' → Kp S.W S'.W H H' → D.ct σ' H'
def lE (w : WE) : TE := fun σ H Q => ∃ S Qd, Rel K c S σ H ∧ w S Qd ∧ Pst K c S σ H Qd Q
/-- a new list -/
def lL (w : WA) : TE := fun σ H Q => ∃ S Qd, Rel K c S σ H ∧ w S Qd ∧ PstL K c S σ H Qd Q
def lA (w : WA) : TA := fun σ H Q => ∃ S Qd, Rel K c S σ H ∧ w S Qd ∧ PstA K c S σ H Qd Q
def lT (w : WT) : TT := fun σ H Q => ∃ S Qd, Rel K c S σ H ∧ w S Qd ∧ PstT K c S σ H Qd Q
def lS (w : WS) : TS := fun D σ H => ∃ S Dd, Rel K c S σ H ∧ w Dd S ∧ PstS K c S H Dd D
end
theorem pe_imp {X : Cx} {e : Expr} {t t' : TE} (h : PE X e t) (i : ∀ σ H Q, t' σ H Q → t σ H Q) : PE X e t' := ⟨fun pins s σ H Q I hq => h.run pins s σ H Q I (i σ H Q hq)⟩
theorem pa_imp {X : Cx} {es : List Expr} {t t' : TA} (h : PA X es t) (i : ∀ σ H Q, t' σ H Q → t σ H Q) : PA X es t' := ⟨fun pos pins s σ H Q I hq => h.run pos pins s σ H Q I (i σ H Q hq)⟩
theorem pt_imp {X : Cx} {e : Expr} {t t' : TT} (h : PT X e t) (i : ∀ σ H Q, t' σ H Q → t σ H Q) : PT X e t' := ⟨fun pins s σ H Q I hq => h.run pins s σ H Q I (i σ H Q hq)⟩
theorem pw_imp {X : Cx} {e : Expr} {t t' : TT} (h : PW X e t) (i : ∀ σ H Q, t' σ H Q → t σ H Q) : PW X e t' := ⟨fun wh pins s σ H Q I hq => h.run wh pins s σ H Q I (i σ H Q hq)⟩
theorem ps_imp {X : Cx} {e : Stmt} {t t' : TS} (h : PS X e t) (i : ∀ D σ H, t' D σ H → t D σ H) : PS X e t' := ⟨fun pins s σ H D I hq => h.run pins s σ H D I (i D σ H hq)⟩
theorem pss_imp {X : Cx} {e : List Stmt} {t t' : TS} (h : PSs X e t) (i : ∀ D σ H, t' D σ H → t D σ H) : PSs X e t' := ⟨fun pins s σ H D I hq => h.run pins s σ H D I (i D σ H hq)⟩
section
variable {K : PySem.W.Frag} {c : Cq} {S S1 S' : Sx} {σ : L2.St} {H H1 H' : Hp} {A : Addr → Prop} {v x y : V} {d e : Da} {ds es : List Da}
theorem RpS.pure (h : RpS K A σ H v d) (n : d.isO = false) : Rp K A H v d := by
  rcases h with h | ⟨j, rfl, _⟩
  · exact h
  · cases n
theorem RpS.kp {A' : Addr → Prop} (k : Kp A A' H H') (h : RpS K A σ H v d) : RpS K A' σ H' v d := h.imp (·.kp k) id
theorem PstS.at {Dd : Dn} {D : Ends} (p : PstS K c S H Dd D) (k : Kp S.W S1.W H H1) : PstS K c S1 H1 Dd D :=
  ⟨fun S' h σ' H' r k' => p.nx S' h σ' H' r (k.trans k'), fun d S' h σ' H' v r k' => p.rt d S' h σ' H' v r (k.trans k'), fun S' h σ' H' r k' => p.bk S' h σ' H' r (k.trans k'), fun S' h σ' H' r k' => p.ct S' h σ' H' r (k.trans k')⟩
theorem Rel.notA (r : Rel K c S σ H) {p : Addr} (n : H p = none) : ¬ S.A c p := fun z => by
  rcases z with z | ⟨i, ds, z⟩ | z
  · exact (r.a0 p z).1 n
  · obtain ⟨_, vs, h, _⟩ := r.own i p ds z
    rw [n] at h; cases h
  · cases e : S.M p with
    | none => exact z e
    | some m =>
      have := r.mem p m e
      cases m with
      | lst ds => obtain ⟨vs, e, r⟩ := this; rw [n] at e; cases e
      | dk ds => obtain ⟨vs, e, r⟩ := this; rw [n] at e; cases e
      | ins C ds => obtain ⟨dx, vs, e, r⟩ := this; rw [n] at e; cases e
/-- a new object, its value -/
theorem Rel.alloc (r : Rel K c S σ H) {p : Addr} {o : HO} (n : H p = none) : Rel K c S σ (upd H p o) ∧ Kp S.W S.W H (upd H p o) ∧ ¬ S.A c p := ⟨r.new n, .same (same_upd n), r.notA n⟩
/-! lists and tuples of data -/
def Sx.lst (S : Sx) : Da → Option (List Da)
  | .l ds => some ds
  | .o j => match S.ρ[j]? with
    | some (.own _ ds) => some ds
    | _ => none
  | .r a => match S.M a with
    | some (.lst ds) => some ds
    | _ => none
  | _ => none
theorem lst_ok (r : Rel K c S σ H) (h : RpS K (S.A c) σ H v d) (e : S.lst d = some ds) : ∃ p vs, v = .ref p ∧ H p = some (.lst vs) ∧ RpA K (S.A c) H vs ds := by
  rcases h with h | ⟨j, rfl, hj⟩
  · cases h with
    | l h1 h2 h3 => cases e; exact ⟨_, _, rfl, h1, h3⟩
    | r a =>
      simp only [Sx.lst] at e
      split at e
      · rename_i q
        cases e
        obtain ⟨vs, h1, h2⟩ := r.mem a _ q
        exact ⟨_, _, rfl, h1, h2⟩
      · cases e
    | _ => cases e
  · simp only [Sx.lst] at e
    split at e
    · rename_i q
      cases e
      obtain ⟨h1, vs, h2, h3⟩ := r.own j _ _ q
      rw [hj] at h1
      cases h1
      exact ⟨_, _, rfl, h2, h3⟩
    · cases e
theorem tup_ok (h : RpS K A σ H v (.t ds)) : ∃ p vs, v = .ref p ∧ SqT K H p vs ∧ RpA K A H vs ds := by
  rcases h with h | ⟨j, e, _⟩
  · cases h with
    | t h1 h2 => exact ⟨_, _, rfl, h1, h2⟩
  · cases e
end
/-! ### names and constants -/
section
variable {X : Cx} {c : Cq} {pos : Pos}
def wVar (i : Nat) : WE := fun S Q => match S.ρ[i]? with
  | some (.val d) => Q d S
  | some (.own _ _) => Q (.o i) S
  | _ => False
def wC (d : Da) : WE := fun S Q => Q d S
theorem vv (i : Nat) {x : Str} (hN : X.N[i]? = some x := by rfl) (hv : Vis X.env.scope x := by first | exact Or.inl rfl | exact Or.inr (Or.inl rfl) | exact Or.inr (Or.inr rfl)) (hd : (x == ("__debug__" : Str)) = false := by decide)
    (hcd : (x == ("__classdict__" : Str)) = false := by decide) : PE X (.Name x pos) (lE X.K c (wVar i)) := by
  refine pe_imp (pe_var hN hv hd hcd) fun σ H Q h => ?_
  obtain ⟨S, Qd, r, h, p⟩ := h
  unfold wVar at h
  split at h
  · rename_i d q
    obtain ⟨v, h1, h2⟩ := r.val i d q
    exact ⟨v, h1, p _ _ h _ _ r .refl (.inl h2)⟩
  · rename_i a ds q
    obtain ⟨h1, vs, h2, h3⟩ := r.own i _ _ q
    exact ⟨_, h1, p _ _ h _ _ r .refl (.inr ⟨i, rfl, h1⟩)⟩
  · exact h.elim
theorem vc {e : Expr} {v : V} {d : Da} (h : PE X e (tC v)) (r : ∀ K A H, Rp K A H v d) : PE X e (lE X.K c (wC d)) := pe_imp h fun σ H Q h => by
  obtain ⟨S, Qd, rr, h, p⟩ := h
  exact p _ _ h _ _ rr .refl (.inl (r _ _ _))
theorem vi {i : Int} {j : Nat} : PE X (.Constant (.int i) j pos) (lE X.K c (wC (.i i))) := vc pe_int fun _ _ _ => .i i
theorem vb {b : Bool} {j : Nat} : PE X (.Constant (.bool b) j pos) (lE X.K c (wC (.b b))) := vc pe_bl fun _ _ _ => .b b
theorem vn {j : Nat} : PE X (.Constant .none j pos) (lE X.K c (wC .n)) := vc pe_non fun _ _ _ => .n
theorem vs {z : Str} {j : Nat} : PE X (.Constant (.str z) j pos) (lE X.K c (wC (.s z))) := vc pe_str fun _ _ _ => .s z
theorem vgs {x z : Str} {t : Tok} (hg : Gl X x) (hm : X.mg x = some (.str z t)) (hd : (x == ("__debug__" : Str)) = false := by decide) : PE X (.Name x pos) (lE X.K c (wC (.s z))) := vc (pe_glob hg hm (v := .str z) ⟨_, rfl⟩ hd) fun _ _ _ => .s z
theorem vgi {x : Str} {z : Int} {t : Tok} (hg : Gl X x) (hm : X.mg x = some (.int z t)) (hd : (x == ("__debug__" : Str)) = false := by decide) : PE X (.Name x pos) (lE X.K c (wC (.i z))) := vc (pe_glob hg hm (v := .int z) ⟨_, rfl⟩ hd) fun _ _ _ => .i z
theorem vgr {x : Str} {z : Addr} (hg : Gl X x) (hm : X.mg x = some (.ref z)) (hd : (x == ("__debug__" : Str)) = false := by decide) : PE X (.Name x pos) (lE X.K c (wC (.r z))) := vc (pe_glob hg hm (v := .ref z) rfl hd) fun _ _ _ => .r z
end
/-! ### by values -/
section
variable {X : Cx} {c : Cq} {pos : Pos} {a b : Expr} {wa wb : WE}
abbrev RD := Da → Da → Sx → (Da → Sx → Prop) → Prop
abbrev RU := Da → Sx → (Da → Sx → Prop) → Prop
def wOp (rd : RD) (wa wb : WE) : WE := fun S Q => wa S fun x S1 => wb S1 fun y S2 => rd x y S2 Q
def wUn (rd : RU) (wa : WE) : WE := fun S Q => wa S fun x S1 => rd x S1 Q
/-- a rule by values says what the data's rule asks -/
def OpL (K : PySem.W.Frag) (c : Cq) (r : R2) (rd : RD) : Prop := ∀ σ H S x y dx dy Qd Q, Rel K c S σ H → RpS K (S.A c) σ H x dx → RpS K (S.A c) σ H y dy → rd dx dy S Qd → Pst K c S σ H Qd Q → r x y H Q
def UnL (K : PySem.W.Frag) (c : Cq) (r : V → Hp → VK → Prop) (rd : RU) : Prop := ∀ σ H S x dx Qd Q, Rel K c S σ H → RpS K (S.A c) σ H x dx → rd dx S Qd → Pst K c S σ H Qd Q → r x H Q
theorem Pst.at {K : PySem.W.Frag} {c : Cq} {S S1 : Sx} {σ : L2.St} {H H1 : Hp} {Qd : Da → Sx → Prop} {Q : VK} (p : Pst K c S σ H Qd Q) (k : Kp S.W S1.W H H1) : Pst K c S1 σ H1 Qd Q :=
  fun d S' h H' v r k' rp => p d S' h H' v r (k.trans k') rp
theorem PstA.at {K : PySem.W.Frag} {c : Cq} {S S1 : Sx} {σ : L2.St} {H H1 : Hp} {Qd : List Da → Sx → Prop} {Q : List V → Hp → Prop} (p : PstA K c S σ H Qd Q) (k : Kp S.W S1.W H H1) : PstA K c S1 σ H1 Qd Q :=
  fun d S' h H' v r k' rp => p d S' h H' v r (k.trans k') rp
theorem PstL.at {K : PySem.W.Frag} {c : Cq} {S S1 : Sx} {σ : L2.St} {H H1 : Hp} {Qd : List Da → Sx → Prop} {Q : VK} (p : PstL K c S σ H Qd Q) (k : Kp S.W S1.W H H1) : PstL K c S1 σ H1 Qd Q :=
  fun d S' h H' v vs r k' n rp => p d S' h H' v vs r (k.trans k') n rp
theorem PstT.at {K : PySem.W.Frag} {c : Cq} {S S1 : Sx} {σ : L2.St} {H H1 : Hp} {Qd : Bool → Sx → Prop} {Q : Bool → Hp → Prop} (p : PstT K c S σ H Qd Q) (k : Kp S.W S1.W H H1) : PstT K c S1 σ H1 Qd Q :=
  fun d S' h H' r k' => p d S' h H' r (k.trans k')
theorem lop {r : R2} {rd : RD} {K : PySem.W.Frag} (L : OpL K c r rd) : ∀ σ H Q, lE K c (wOp rd wa wb) σ H Q → tOp r (lE K c wa) (lE K c wb) σ H Q := fun σ H Q h => by
  obtain ⟨S, Qd, rr, h, p⟩ := h
  refine ⟨S, _, rr, h, fun x S1 h1 H1 v1 r1 k1 p1 => ⟨S1, _, r1, h1, fun y S2 h2 H2 v2 r2 k2 p2 => ?_⟩⟩
  exact L σ H2 S2 v1 v2 x y Qd Q r2 (p1.kp (kA k2)) p2 h2 (p.at (k1.trans k2))
theorem lun {r : V → Hp → VK → Prop} {rd : RU} {K : PySem.W.Frag} (L : UnL K c r rd) : ∀ σ H Q, lE K c (wUn rd wa) σ H Q → tUn r (lE K c wa) σ H Q := fun σ H Q h => by
  obtain ⟨S, Qd, rr, h, p⟩ := h
  exact ⟨S, _, rr, h, fun x S1 h1 H1 v1 r1 k1 p1 => L σ H1 S1 v1 x Qd Q r1 p1 h1 (p.at k1)⟩
theorem v_op {op : Operator} {r : R2} {rd : RD} (ho : OpR X (binaryOp op) r) (L : OpL X.K c r rd) (ha : PE X a (lE X.K c wa)) (hb : PE X b (lE X.K c wb)) : PE X (.BinOp a op b pos) (lE X.K c (wOp rd wa wb)) := pe_imp (pe_op ho ha hb) (lop L)
theorem v_cmp {op : CmpOp} {r : R2} {rd : RD} (ho : OpR X (compareOp op) r) (L : OpL X.K c r rd) (hm : behindInMarks op b = false) (ha : PE X a (lE X.K c wa)) (hb : PE X b (lE X.K c wb)) : PE X (.Compare a [op] [b] pos) (lE X.K c (wOp rd wa wb)) := pe_imp (pe_cmpR ho ha hb hm) (lop L)
theorem OpR.or {f : Value → Value → Sem Value} {r r' : R2} (h : OpR X f r) (h' : OpR X f r') : OpR X f (fun x y H Q => r x y H Q ∨ r' x y H Q) := fun pins s σ H x y v u Q I rx ry q => q.elim (h pins s σ H x y v u Q I rx ry) (h' pins s σ H x y v u Q I rx ry)
end
end VL
set_option Elab.async false
set_option linter.all false
set_option maxRecDepth 100000
set_option maxHeartbeats 1000000
namespace VL
open PySem PySem.Spec PyProof.Rows L2
section
variable {K : PySem.W.Frag} {c : Cq} {A : Addr → Prop} {H : Hp} {σ : L2.St} {v x y : V} {d : Da} {ds : List Da}
theorem rs_i {k : Int} (h : RpS K A σ H v (.i k)) : v = .int k := by
  rcases h with h | ⟨_, e, _⟩
  · cases h; rfl
  · cases e
theorem rs_s {k : Str} (h : RpS K A σ H v (.s k)) : v = .str k := by
  rcases h with h | ⟨_, e, _⟩
  · cases h; rfl
  · cases e
theorem rs_b {k : Bool} (h : RpS K A σ H v (.b k)) : v = .bl k := by
  rcases h with h | ⟨_, e, _⟩
  · cases h; rfl
  · cases e
theorem rs_n (h : RpS K A σ H v .n) : v = .non := by
  rcases h with h | ⟨_, e, _⟩
  · cases h; rfl
  · cases e
theorem pure1 {H : Hp} (h : Rp K A H v d) : RpS K A σ H v d := .inl h
/-! ### numbers -/
def rdI (C : Int → Int → Prop) (g : Int → Int → Int) : RD := fun x y S Q => match x, y with
  | .i a, .i b => C a b ∧ Q (.i (g a b)) S
  | _, _ => False
def rdI0 (g : Int → Int → Int) : RD := fun x y S Q => match x, y with
  | .i a, .i b => Q (.i (g a b)) S
  | _, _ => False
def rdC (g : Int → Int → Bool) : RD := fun x y S Q => match x, y with
  | .i a, .i b => Q (.b (g a b)) S
  | _, _ => False
theorem lI {C : Int → Int → Prop} {g : Int → Int → Int} : OpL K c (rI C fun i j => .int (g i j)) (rdI C g) := fun σ H S x y dx dy Qd Q r rx ry h p => by
  cases dx <;> cases dy <;> try exact h.elim
  obtain ⟨h1, h2⟩ := h
  exact ⟨_, _, rs_i rx, rs_i ry, h1, p _ _ h2 _ _ r .refl (.inl (.i _))⟩
theorem lI0 {g : Int → Int → Int} : OpL K c (rI0 fun i j => .int (g i j)) (rdI0 g) := fun σ H S x y dx dy Qd Q r rx ry h p => by
  cases dx <;> cases dy <;> try exact h.elim
  exact ⟨_, _, rs_i rx, rs_i ry, p _ _ h _ _ r .refl (.inl (.i _))⟩
theorem lC {g : Int → Int → Bool} : OpL K c (rI0 fun i j => .bl (g i j)) (rdC g) := fun σ H S x y dx dy Qd Q r rx ry h p => by
  cases dx <;> cases dy <;> try exact h.elim
  exact ⟨_, _, rs_i rx, rs_i ry, p _ _ h _ _ r .refl (.inl (.b _))⟩
/-! ### plus -/
def rdAdd : RD := fun x y S Q => match x, y with
  | .i a, .i b => Q (.i (a + b)) S
  | .s a, .s b => a.length + b.length ≤ sizeLine ∧ Q (.s (a ++ b)) S
  | .t a, .t b => a.length + b.length ≤ sizeLine ∧ Q (.t (a ++ b)) S
  | _, _ => False
def rAddA (K : PySem.W.Frag) : R2 := fun x y H Q => (rI0 fun i j => .int (i + j)) x y H Q ∨ (∃ i j, x = .str i ∧ y = .str j ∧ i.length + j.length ≤ sizeLine ∧ Q (.str (i ++ j)) H) ∨ rCatA K x y H Q
theorem op_addA {X : Cx} : OpR X (binaryOp .Add) (rAddA X.K) := op_add.or (op_add_str.or op_catA)
theorem lAdd : OpL K c (rAddA K) rdAdd := fun σ H S x y dx dy Qd Q r rx ry h p => by
  cases dx <;> cases dy <;> try exact h.elim
  · exact .inl ⟨_, _, rs_i rx, rs_i ry, p _ _ h _ _ r .refl (.inl (.i _))⟩
  · exact .inr (.inl ⟨_, _, rs_s rx, rs_s ry, h.1, p _ _ h.2 _ _ r .refl (.inl (.s _))⟩)
  · rename_i ds es
    obtain ⟨a, vs, ea, ha, ra⟩ := tup_ok rx
    obtain ⟨b, us, eb, hb, rb⟩ := tup_ok ry
    have l1 := ra.length
    have l2 := rb.length
    obtain ⟨h1, h2⟩ := h
    refine .inr (.inr ⟨a, b, vs, us, ea, eb, ha, hb, by omega, fun e => ?_, fun _ e => ?_, fun _ _ q nq => ?_⟩)
    · subst e
      have : ds = [] := List.length_eq_zero_iff.mp (by simpa using l1.symm)
      subst this
      exact p _ _ h2 _ _ r .refl (.inl (.t hb rb))
    · subst e
      have : es = [] := List.length_eq_zero_iff.mp (by simpa using l2.symm)
      subst this
      rw [List.append_nil] at h2
      exact p _ _ h2 _ _ r .refl (.inl (.t ha ra))
    · obtain ⟨r', k, nA⟩ := r.alloc (o := .tup (vs ++ us)) nq
      exact p _ _ h2 _ _ r' k (.inl (.t (.inl (.inl upd_same)) ((ra.append rb).kp (kA k))))
/-! ### == and in -/
mutual
def Da.py : Da → PyData
  | .n => .none
  | .b x => .bool x
  | .i k => .int k
  | .s z => .str z
  | .t ds => .tuple (pys ds)
  | .l ds => .list (pys ds)
  | _ => .none
def pys : List Da → List PyData
  | [] => []
  | d :: ds => d.py :: pys ds
end
mutual
/-- plain data, that == knows -/
def Da.pl : Da → Bool
  | .n => true
  | .b _ => true
  | .i _ => true
  | .s z => PyData.strOk z
  | .t ds => pls ds
  | .l ds => pls ds
  | _ => false
def pls : List Da → Bool
  | [] => true
  | d :: ds => d.pl && pls ds
end
mutual
theorem Rp.dp : ∀ {v : V} {d : Da}, d.pl = true → Rp K A H v d → Dp K H v d.py
  | _, _, _, .n => .non
  | _, _, _, .b x => .bl x
  | _, _, _, .i x => .int x
  | _, _, _, .s x => .str x
  | _, _, h, .t h1 h2 => .tup h1 (RpA.dp (by simpa [Da.pl] using h) h2)
  | _, _, h, .l h1 _ h2 => .lst (SqL.of h1) (RpA.dp (by simpa [Da.pl] using h) h2)
  | _, _, h, .r _ => by simp [Da.pl] at h
  | _, _, h, .ty _ => by simp [Da.pl] at h
  | _, _, h, .sc _ => by simp [Da.pl] at h
  | _, _, h, .dk _ _ _ => by simp [Da.pl] at h
  | _, _, h, .ins _ _ _ => by simp [Da.pl] at h
theorem RpA.dp : ∀ {vs : List V} {ds : List Da}, pls ds = true → RpA K A H vs ds → DpAll K H vs (pys ds)
  | _, _, _, .nil => .nil
  | _, _, h, .cons h1 h2 => by
    simp only [pls, Bool.and_eq_true] at h
    exact .cons (Rp.dp h.1 h1) (RpA.dp h.2 h2)
end
mutual
theorem canLay_py : ∀ d : Da, d.pl = true → d.py.canLay0 = true
  | .n, _ => rfl
  | .b _, _ => rfl
  | .i _, _ => rfl
  | .s z, h => by simpa [Da.py, PyData.canLay0, Da.pl] using h
  | .t ds, h => by
    simp only [Da.py, PyData.canLay0]
    exact canLay_pys ds (by simpa [Da.pl] using h)
  | .l ds, h => by
    simp only [Da.py, PyData.canLay0]
    exact canLay_pys ds (by simpa [Da.pl] using h)
  | .dk _, _ => rfl
  | .ins _ _, _ => rfl
  | .r _, _ => rfl
  | .ty _, _ => rfl
  | .sc _, _ => rfl
  | .o _, _ => rfl
theorem canLay_pys : ∀ ds : List Da, pls ds = true → PyData.canLayAll0 (pys ds) = true
  | [], _ => rfl
  | d :: ds, h => by
    simp only [pls, Bool.and_eq_true] at h
    simp only [pys, PyData.canLayAll0, Bool.and_eq_true]
    exact ⟨canLay_py d h.1, canLay_pys ds h.2⟩
end
/-- == can be asked of it -/
def Da.eqb (d : Da) : Bool := d.pl && decide (d.py.depth ≤ 64)
theorem eqb_shaped (h : d.eqb = true) : SeqAt.shaped d.py = true ∧ d.pl = true := by
  unfold Da.eqb at h
  rw [Bool.and_eq_true] at h
  refine ⟨?_, h.1⟩
  show (d.py.canLay0 && decide (d.py.depth ≤ 64)) = true
  rw [canLay_py d h.1, h.2]
  rfl
/-- the scalars -/
def Da.va : Da → V
  | .b x => .bl x
  | .i k => .int k
  | .s z => .str z
  | _ => .non
def Da.fl : Da → Bool
  | .n => true
  | .b _ => true
  | .i _ => true
  | .s _ => true
  | _ => false
theorem rs_fl (f : d.fl = true) (h : RpS K A σ H v d) : v = d.va := by
  cases d <;> first
    | exact rs_n h
    | exact rs_b h
    | exact rs_i h
    | exact rs_s h
    | exact Bool.noConfusion f
theorem fl_flat (f : d.fl = true) : flatV d.va = true := by
  cases d <;> first | rfl | exact Bool.noConfusion f
theorem rpa_fl : ∀ {ds : List Da} {vs : List V}, ds.all Da.fl = true → RpA K A H vs ds → vs = ds.map Da.va ∧ vs.all flatV = true
  | _, _, _, .nil => ⟨rfl, rfl⟩
  | _, _, f, .cons h a => by
    rw [List.all_cons, Bool.and_eq_true] at f
    obtain ⟨e1, e2⟩ := rpa_fl f.2 a
    have e := rs_fl (σ := []) f.1 (.inl h)
    subst e
    rw [List.map_cons, ← e1, List.all_cons, e2, fl_flat f.1]
    exact ⟨rfl, rfl⟩
/-- an own list, a shared list, by its items -/
def Sx.res (S : Sx) (d : Da) : Da := match S.lst d with
  | some ds => .l ds
  | none => d
/-- == of scalars -/
def eqF : Da → Da → Bool
  | .n, .n => true
  | .b x, .b y => decide (x = y)
  | .i x, .i y => decide (x = y)
  | .s x, .s y => decide (x = y)
  | _, _ => false
theorem dec_of {p q : Prop} [Decidable p] [Decidable q] (h : p ↔ q) : decide p = decide q := by
  by_cases hp : p
  · rw [decide_eq_true hp, decide_eq_true (h.mp hp)]
  · rw [decide_eq_false hp, decide_eq_false fun z => hp (h.mpr z)]
theorem eqF_ok {x y : Da} (hx : x.fl = true) (hy : y.fl = true) : decide (x.va = y.va) = eqF x y := by
  cases x <;> cases y <;> first
    | exact Bool.noConfusion hx
    | exact Bool.noConfusion hy
    | exact decide_eq_false (fun e => by cases e)
    | exact decide_eq_true rfl
    | exact dec_of ⟨fun e => by injection e, fun e => by rw [e]⟩
def rdEq : RD := fun x y S Q => (x.fl = true ∧ y.fl = true ∧ scal x.va y.va = true ∧ Q (.b (eqF x y)) S) ∨ (x.eqb = true ∧ y.eqb = true ∧ Q (.b (PyData.eqv x.py y.py)) S)
def rdNe : RD := fun x y S Q => (x.fl = true ∧ y.fl = true ∧ scal x.va y.va = true ∧ Q (.b (!eqF x y)) S) ∨ (x.eqb = true ∧ y.eqb = true ∧ Q (.b (!PyData.eqv x.py y.py)) S)
def rEqA (K : PySem.W.Frag) : R2 := fun x y H Q => rEq x y H Q ∨ rEqD K x y H Q
def rNeA (K : PySem.W.Frag) : R2 := fun x y H Q => rNe x y H Q ∨ rNeD K x y H Q
theorem op_eqA {X : Cx} (hu : X.A.units + 64 < cLine) : OpR X (compareOp .Eq) (rEqA X.K) := op_eq.or (op_eqD hu)
theorem op_neA {X : Cx} (hu : X.A.units + 64 < cLine) : OpR X (compareOp .NotEq) (rNeA X.K) := op_ne.or (op_neD hu)
theorem eqb_no (h : d.eqb = true) : d.isO = false := by
  cases d <;> first | rfl | (simp [Da.eqb, Da.pl] at h)
theorem lEq : OpL K c (rEqA K) rdEq := fun σ H S x y dx dy Qd Q r rx ry h p => by
  rcases h with ⟨f1, f2, f3, h⟩ | ⟨f1, f2, h⟩
  · rw [rs_fl f1 rx, rs_fl f2 ry]
    exact .inl ⟨f3, by rw [eqF_ok f1 f2]; exact p _ _ h _ _ r .refl (.inl (.b _))⟩
  · exact .inr ⟨_, _, (rx.pure (eqb_no f1)).dp (eqb_shaped f1).2, (ry.pure (eqb_no f2)).dp (eqb_shaped f2).2, (eqb_shaped f1).1, (eqb_shaped f2).1, p _ _ h _ _ r .refl (.inl (.b _))⟩
theorem lNe : OpL K c (rNeA K) rdNe := fun σ H S x y dx dy Qd Q r rx ry h p => by
  rcases h with ⟨f1, f2, f3, h⟩ | ⟨f1, f2, h⟩
  · rw [rs_fl f1 rx, rs_fl f2 ry]
    exact .inl ⟨f3, by rw [eqF_ok f1 f2]; exact p _ _ h _ _ r .refl (.inl (.b _))⟩
  · exact .inr ⟨_, _, (rx.pure (eqb_no f1)).dp (eqb_shaped f1).2, (ry.pure (eqb_no f2)).dp (eqb_shaped f2).2, (eqb_shaped f1).1, (eqb_shaped f2).1, p _ _ h _ _ r .refl (.inl (.b _))⟩
def Sx.sq (S : Sx) : Da → Option (List Da)
  | .t ds => some ds
  | .sc ns => some (ns.map Da.i)
  | d => S.lst d
theorem rpa_ofInts {K : PySem.W.Frag} {A : Addr → Prop} {H : Hp} : ∀ ns : List Int, RpA K A H (ns.map V.int) (ns.map Da.i)
  | [] => .nil
  | n :: r => .cons (.i n) (rpa_ofInts r)
theorem sc_ok {ns : List Int} (h : RpS K A σ H v (.sc ns)) : ∃ p, v = .ref p ∧ SqL K H p (ns.map V.int) := by
  rcases h with h | ⟨j, e, _⟩
  · cases h with
    | sc h1 => exact ⟨_, rfl, h1.sq⟩
  · cases e
theorem sq_ok {S : Sx} (r : Rel K c S σ H) (h : RpS K (S.A c) σ H v d) (e : S.sq d = some ds) : ∃ p vs, v = .ref p ∧ (SqL K H p vs ∨ SqT K H p vs) ∧ RpA K (S.A c) H vs ds := by
  cases d with
  | t es =>
    cases e
    obtain ⟨p, vs, e1, h1, h2⟩ := tup_ok h
    exact ⟨p, vs, e1, .inr h1, h2⟩
  | sc ns =>
    cases e
    obtain ⟨p, e1, h1⟩ := sc_ok h
    exact ⟨p, _, e1, .inl h1, rpa_ofInts ns⟩
  | _ =>
    obtain ⟨p, vs, e1, h1, h2⟩ := lst_ok r h e
    exact ⟨p, vs, e1, .inl (SqL.of h1), h2⟩
def inD (x : Da) (ds : List Da) : Bool := inV x.va (ds.map Da.va)
/-- x in a list or tuple of flat things; in a text -/
def rdIn (neg : Bool) : RD := fun x y S Q => match x, y with
  | .s a, .s b => Q (.b (if neg then !(!(Builtin.Str.occurrences b a 0 b.length 1).isEmpty) else !(Builtin.Str.occurrences b a 0 b.length 1).isEmpty)) S
  | x, y => ∃ ds, S.sq y = some ds ∧ x.fl = true ∧ ds.all Da.fl = true ∧ Q (.b (if neg then !inD x ds else inD x ds)) S
def rInA (K : PySem.W.Frag) : R2 := fun x y H Q => rIn K false x y H Q ∨ (∃ i j, x = .str i ∧ y = .str j ∧ Q (.bl (!(Builtin.Str.occurrences j i 0 j.length 1).isEmpty)) H)
def rNotInA (K : PySem.W.Frag) : R2 := fun x y H Q => rIn K true x y H Q ∨ (∃ i j, x = .str i ∧ y = .str j ∧ Q (.bl (!(!(Builtin.Str.occurrences j i 0 j.length 1).isEmpty))) H)
theorem op_inA {X : Cx} : OpR X (compareOp .In) (rInA X.K) := op_in_seq.or op_in_str
theorem op_notInA {X : Cx} : OpR X (compareOp .NotIn) (rNotInA X.K) := op_notIn_seq.or op_notin_str
theorem lInL {neg : Bool} {S : Sx} {dx dy : Da} {Qd : Da → Sx → Prop} {Q : VK} (r : Rel K c S σ H) (rx : RpS K (S.A c) σ H x dx) (ry : RpS K (S.A c) σ H y dy)
    (h : ∃ ds, S.sq dy = some ds ∧ dx.fl = true ∧ ds.all Da.fl = true ∧ Qd (.b (if neg then !inD dx ds else inD dx ds)) S) (p : Pst K c S σ H Qd Q) : rIn K neg x y H Q := by
  obtain ⟨ds, e, f1, f2, h⟩ := h
  obtain ⟨a, vs, e1, h1, h2⟩ := sq_ok r ry e
  obtain ⟨e3, f3⟩ := rpa_fl f2 h2
  have e2 := rs_fl f1 rx
  subst e2
  refine ⟨a, vs, e1, h1, fl_flat f1, f3, ?_⟩
  rw [e3]
  have h' : Qd (.b (if neg then !inV dx.va (ds.map Da.va) else inV dx.va (ds.map Da.va))) S := h
  cases neg
  · exact p _ _ h' _ _ r .refl (.inl (.b _))
  · exact p _ _ h' _ _ r .refl (.inl (.b _))
theorem lIn : OpL K c (rInA K) (rdIn false) := fun σ H S x y dx dy Qd Q r rx ry h p => by
  unfold rdIn at h
  split at h
  · exact .inr ⟨_, _, rs_s rx, rs_s ry, p _ _ h _ _ r .refl (.inl (.b _))⟩
  · exact .inl (lInL (neg := false) r rx ry h p)
theorem lNotIn : OpL K c (rNotInA K) (rdIn true) := fun σ H S x y dx dy Qd Q r rx ry h p => by
  unfold rdIn at h
  split at h
  · exact .inr ⟨_, _, rs_s rx, rs_s ry, p _ _ h _ _ r .refl (.inl (.b _))⟩
  · exact .inl (lInL (neg := true) r rx ry h p)
/-! ### is None -/
def Da.isN : Da → Bool
  | .n => true
  | _ => false
theorem isN_ok (r : Rp K A H v d) : decide (v = .non) = d.isN := by
  cases r <;> first | rfl | exact decide_eq_false (fun e => by cases e)
def rdIs (neg : Bool) : RD := fun x y S Q => match x, y with
  | .o _, _ => False
  | x, .n => Q (.b (if neg then !x.isN else x.isN)) S
  | _, _ => False
theorem lIs : OpL K c (fun x y H Q => y = .non ∧ Q (.bl (decide (x = .non))) H) (rdIs false) := fun σ H S x y dx dy Qd Q r rx ry h p => by
  unfold rdIs at h
  split at h
  · exact h.elim
  · rename_i no
    refine ⟨rs_n ry, ?_⟩
    rw [isN_ok (rx.pure (by cases dx <;> first | rfl | exact absurd rfl (no _)))]
    exact p _ _ h _ _ r .refl (.inl (.b _))
  · exact h.elim
theorem lIsNot : OpL K c (fun x y H Q => y = .non ∧ Q (.bl (!decide (x = .non))) H) (rdIs true) := fun σ H S x y dx dy Qd Q r rx ry h p => by
  unfold rdIs at h
  split at h
  · exact h.elim
  · rename_i no
    refine ⟨rs_n ry, ?_⟩
    rw [isN_ok (rx.pure (by cases dx <;> first | rfl | exact absurd rfl (no _)))]
    exact p _ _ h _ _ r .refl (.inl (.b _))
  · exact h.elim
end
end VL
set_option Elab.async false
set_option linter.all false
set_option maxRecDepth 100000
set_option maxHeartbeats 1000000
namespace VL
open PySem PySem.Spec PyProof.Rows L2
section
variable {X : Cx} {c : Cq} {pos p apos : Pos} {e a b : Expr} {es rest : List Expr} {we wa wb : WE} {wt wu : WT} {wl wr : WA}
/-! ### a list of one's own becomes a value -/
def wFz (we : WE) : WE := fun S Q => we S fun d S' => match d with
  | .o i => match S'.ρ[i]? with
    | some (.own _ ds) => Q (.l ds) (S'.set i (.val (.l ds)))
    | _ => False
  | d => Q d S'
theorem vFz (h : PE X e (lE X.K c we)) : PE X e (lE X.K c (wFz we)) := pe_imp h fun σ H Q h => by
  obtain ⟨S, Qd, r, h, p⟩ := h
  refine ⟨S, _, r, h, fun d S1 h1 H1 v r1 k1 p1 => ?_⟩
  split at h1
  · rename_i i
    split at h1
    · rename_i q ds e
      obtain ⟨r2, k2, p2⟩ := r1.frz e
      have : v = .ref q := by
        rcases p1 with p1 | ⟨j, e1, e2⟩
        · cases p1
        · cases e1
          rw [(r1.own _ _ _ e).1] at e2
          cases e2
          rfl
      subst this
      exact p _ _ h1 _ _ r2 (k1.trans k2) (.inl p2)
    · exact h1.elim
  · exact p _ _ h1 _ _ r1 k1 p1
/-! ### tests -/
def wB (we : WE) : WT := fun S Q => we S fun d S' => match d with
  | .b k => Q k S'
  | _ => False
theorem lB {K : PySem.W.Frag} : ∀ σ H Q, lT K c (wB we) σ H Q → tB (lE K c we) σ H Q := fun σ H Q h => by
  obtain ⟨S, Qd, r, h, p⟩ := h
  refine ⟨S, _, r, h, fun d S1 h1 H1 v r1 k1 p1 => ?_⟩
  cases d <;> try exact h1.elim
  exact ⟨_, rs_b p1, p _ _ h1 _ r1 k1⟩
theorem vB (h : PE X e (lE X.K c we)) (he : ∀ whole, isTrue e X.env whole = (do let v ← whole; standAt e.pos; holding [v] (truthy v)) := by intro _; rfl) : PT X e (lT X.K c (wB we)) := pt_imp (pt_val h he) lB
theorem lTest {K : PySem.W.Frag} {t : TE} (h : ∀ σ H Q, lE K c we σ H Q → t σ H Q) : ∀ σ H Q, lT K c (wB we) σ H Q → tTest t σ H Q := fun σ H Q h' => by
  obtain ⟨S, Qd, r, h', p⟩ := h'
  refine h _ _ _ ⟨S, _, r, h', fun d S1 h1 H1 v r1 k1 p1 => ?_⟩
  cases d <;> try exact h1.elim
  exact ⟨_, rs_b p1, p _ _ h1 _ r1 k1⟩
theorem vt_cmp {op : CmpOp} {r : R2} {rd : RD} (ho : OpR X (compareOp op) r) (L : OpL X.K c r rd) (hm : behindInMarks op b = false) (ha : PE X a (lE X.K c wa)) (hb : PE X b (lE X.K c wb)) : PT X (.Compare a [op] [b] pos) (lT X.K c (wB (wOp rd wa wb))) :=
  pt_imp (pt_cmpR ho ha hb hm) (lTest (lop L))
/-- truth -/
def trD (S : Sx) (d : Da) (Q : Bool → Prop) : Prop := match d with
  | .n => Q false
  | .b k => Q k
  | .i k => Q (k != 0)
  | .s z => z.length ≤ sizeLine ∧ Q ((z.length : Int) != 0)
  | .t ds => Q (!ds.isEmpty)
  | .dk ds => Q (!ds.isEmpty)
  | .l ds => Q (!ds.isEmpty)
  | d => ∃ ds, S.lst d = some ds ∧ Q (!ds.isEmpty)
def wTr (we : WE) : WT := fun S Q => we S fun d S' => trD S' d fun k => Q k S'
theorem rpa_empty {K : PySem.W.Frag} {A : Addr → Prop} {H : Hp} {vs : List V} {ds : List Da} (h : RpA K A H vs ds) : vs.isEmpty = ds.isEmpty := by cases h <;> rfl
theorem rpk_empty {K : PySem.W.Frag} {A : Addr → Prop} {H : Hp} {vs : List (Key × V)} {ds : List (Key × Da)} (h : RpK K A H vs ds) : vs.isEmpty = ds.isEmpty := by cases h <;> rfl
theorem tr_ok {K : PySem.W.Frag} {S : Sx} {σ : L2.St} {H : Hp} {v : V} {d : Da} {Q : Bool → Prop} (r : Rel K c S σ H) (h : RpS K (S.A c) σ H v d) (t : trD S d Q) : ∃ k, TruV K v H k ∧ Q k := by
  cases d with
  | n => rw [rs_n h]; exact ⟨_, rfl, t⟩
  | b x => rw [rs_b h]; exact ⟨_, rfl, t⟩
  | i x => rw [rs_i h]; exact ⟨_, rfl, t⟩
  | s x => rw [rs_s h]; exact ⟨_, ⟨t.1, rfl⟩, t.2⟩
  | t ds =>
    obtain ⟨q, vs, rfl, h1, h2⟩ := tup_ok h
    exact ⟨_, .inr (.inl ⟨vs, h1, rfl⟩), by rw [rpa_empty h2]; exact t⟩
  | l ds =>
    obtain ⟨q, vs, rfl, h1, h2⟩ := lst_ok r h rfl
    exact ⟨_, .inl ⟨vs, SqL.of h1, rfl⟩, by rw [rpa_empty h2]; exact t⟩
  | dk ds =>
    cases h.pure rfl with
    | dk h1 _ h2 => exact ⟨_, .inr (.inr ⟨_, h1, rfl⟩), by rw [rpk_empty h2]; exact t⟩
  | ins C fs => obtain ⟨ds, e, _⟩ := t; cases e
  | ty _ => obtain ⟨ds, e, _⟩ := t; cases e
  | sc _ => obtain ⟨ds, e, _⟩ := t; cases e
  | r x =>
    obtain ⟨ds, e, t⟩ := t
    obtain ⟨q, vs, rfl, h1, h2⟩ := lst_ok r h e
    exact ⟨_, .inl ⟨vs, SqL.of h1, rfl⟩, by rw [rpa_empty h2]; exact t⟩
  | o x =>
    obtain ⟨ds, e, t⟩ := t
    obtain ⟨q, vs, rfl, h1, h2⟩ := lst_ok r h e
    exact ⟨_, .inl ⟨vs, SqL.of h1, rfl⟩, by rw [rpa_empty h2]; exact t⟩
theorem vTr (h : PE X e (lE X.K c we)) (he : ∀ whole, isTrue e X.env whole = (do let v ← whole; standAt e.pos; holding [v] (truthy v)) := by intro _; rfl) : PT X e (lT X.K c (wTr we)) := pt_imp (pt_truth h he) fun σ H Q h => by
  obtain ⟨S, Qd, r, h, p⟩ := h
  refine ⟨S, _, r, h, fun d S1 h1 H1 v r1 k1 p1 => ?_⟩
  obtain ⟨k, t, q⟩ := tr_ok r1 p1 h1
  exact ⟨k, t, p _ _ q _ r1 k1⟩
def wAnd (wt wu : WT) : WT := fun S Q => wt S fun k S1 => if k = true then wu S1 Q else Q false S1
def wOr (wt wu : WT) : WT := fun S Q => wt S fun k S1 => if k = true then Q true S1 else wu S1 Q
def wNot (wt : WT) : WT := fun S Q => wt S fun k S1 => Q (!k) S1
theorem ite_of {k : Bool} {P Q P' Q' : Prop} (h : if k = true then P else Q) (h1 : P → P') (h2 : Q → Q') : if k = true then P' else Q' := by
  cases k
  · exact h2 h
  · exact h1 h
theorem v_and (ha : PT X a (lT X.K c wt)) (hb : PW X (.BoolOp .And (b :: rest) pos) (lT X.K c wu)) : PW X (.BoolOp .And (a :: b :: rest) pos) (lT X.K c (wAnd wt wu)) := pw_imp (pw_and ha hb) fun σ H Q h => by
  obtain ⟨S, Qd, r, h, p⟩ := h
  exact ⟨S, _, r, h, fun k S1 h1 H1 r1 k1 => ite_of h1 (fun h2 => ⟨S1, _, r1, h2, p.at k1⟩) fun h2 => p _ _ h2 _ r1 k1⟩
theorem v_or (ha : PT X a (lT X.K c wt)) (hb : PW X (.BoolOp .Or (b :: rest) pos) (lT X.K c wu)) : PW X (.BoolOp .Or (a :: b :: rest) pos) (lT X.K c (wOr wt wu)) := pw_imp (pw_or ha hb) fun σ H Q h => by
  obtain ⟨S, Qd, r, h, p⟩ := h
  exact ⟨S, _, r, h, fun k S1 h1 H1 r1 k1 => ite_of h1 (fun h2 => p _ _ h2 _ r1 k1) fun h2 => ⟨S1, _, r1, h2, p.at k1⟩⟩
theorem v_not (ha : PT X a (lT X.K c wt)) : PT X (.UnaryOp .Not a pos) (lT X.K c (wNot wt)) := pt_imp (pt_not ha) fun σ H Q h => by
  obtain ⟨S, Qd, r, h, p⟩ := h
  exact ⟨S, _, r, h, fun k S1 h1 H1 r1 k1 => p _ _ h1 _ r1 k1⟩
/-! .. as values -/
def wAndV (wa wb : WE) : WE := fun S Q => wa S fun d S1 => match d with
  | .b k => if k = true then wb S1 Q else Q (.b false) S1
  | _ => False
def wOrV (wa wb : WE) : WE := fun S Q => wa S fun d S1 => match d with
  | .b k => if k = true then Q (.b true) S1 else wb S1 Q
  | _ => False
def wNotV (wa : WE) : WE := fun S Q => wa S fun d S1 => match d with
  | .b k => Q (.b (!k)) S1
  | _ => False
theorem ve_and (ha : PE X a (lE X.K c wa)) (hb : PE X (.BoolOp .And (b :: rest) pos) (lE X.K c wb)) : PE X (.BoolOp .And (a :: b :: rest) pos) (lE X.K c (wAndV wa wb)) := pe_imp (pe_and ha hb) fun σ H Q h => by
  obtain ⟨S, Qd, r, h, p⟩ := h
  refine ⟨S, _, r, h, fun d S1 h1 H1 v r1 k1 p1 => ?_⟩
  cases d <;> try exact h1.elim
  exact ⟨_, rs_b p1, ite_of h1 (fun h2 => ⟨S1, _, r1, h2, p.at k1⟩) fun h2 => p _ _ h2 _ _ r1 k1 (.inl (.b _))⟩
theorem ve_or (ha : PE X a (lE X.K c wa)) (hb : PE X (.BoolOp .Or (b :: rest) pos) (lE X.K c wb)) : PE X (.BoolOp .Or (a :: b :: rest) pos) (lE X.K c (wOrV wa wb)) := pe_imp (pe_or ha hb) fun σ H Q h => by
  obtain ⟨S, Qd, r, h, p⟩ := h
  refine ⟨S, _, r, h, fun d S1 h1 H1 v r1 k1 p1 => ?_⟩
  cases d <;> try exact h1.elim
  exact ⟨_, rs_b p1, ite_of h1 (fun h2 => p _ _ h2 _ _ r1 k1 (.inl (.b _))) fun h2 => ⟨S1, _, r1, h2, p.at k1⟩⟩
theorem ve_not (ha : PE X a (lE X.K c wa)) : PE X (.UnaryOp .Not a pos) (lE X.K c (wNotV wa)) := pe_imp (pe_not ha) fun σ H Q h => by
  obtain ⟨S, Qd, r, h, p⟩ := h
  refine ⟨S, _, r, h, fun d S1 h1 H1 v r1 k1 p1 => ?_⟩
  cases d <;> try exact h1.elim
  exact ⟨_, rs_b p1, p _ _ h1 _ _ r1 k1 (.inl (.b _))⟩
def wIte (wt : WT) (wa wb : WE) : WE := fun S Q => wt S fun k S1 => if k = true then wa S1 Q else wb S1 Q
theorem v_ite {t : Expr} (ht : PT X t (lT X.K c wt)) (ha : PE X a (lE X.K c wa)) (hb : PE X b (lE X.K c wb)) : PE X (.IfExp t a b pos) (lE X.K c (wIte wt wa wb)) := pe_imp (pe_ifExp ht ha hb) fun σ H Q h => by
  obtain ⟨S, Qd, r, h, p⟩ := h
  exact ⟨S, _, r, h, fun k S1 h1 H1 r1 k1 => ite_of h1 (fun h2 => ⟨S1, _, r1, h2, p.at k1⟩) fun h2 => ⟨S1, _, r1, h2, p.at k1⟩⟩
/-- a <= b <= c -/
def wChain (rd rd' : RD) (wa wb wc : WE) : WE := fun S Q => wa S fun x S1 => wb S1 fun y S2 => rd x y S2 fun z S3 => match z with
  | .b k => if k = true then wc S3 fun u S4 => rd' y u S4 Q else Q (.b false) S3
  | _ => False
theorem lchain {K : PySem.W.Frag} {r r' : R2} {rd rd' : RD} {wc : WE} (L : OpL K c r rd) (L' : OpL K c r' rd') : ∀ σ H Q, lE K c (wChain rd rd' wa wb wc) σ H Q → tChain r r' (lE K c wa) (lE K c wb) (lE K c wc) σ H Q := fun σ H Q h => by
  obtain ⟨S, Qd, rr, h, p⟩ := h
  refine ⟨S, _, rr, h, fun x S1 h1 H1 v1 r1 k1 p1 => ⟨S1, _, r1, h1, fun y S2 h2 H2 v2 r2 k2 p2 => ?_⟩⟩
  refine L σ H2 S2 v1 v2 x y _ _ r2 (p1.kp (kA k2)) p2 h2 fun z S3 h3 H3 v3 r3 k3 p3 => ?_
  cases z <;> try exact h3.elim
  refine ⟨_, rs_b p3, ite_of h3 (fun h4 => ⟨S3, _, r3, h4, fun u S4 h4 H4 v4 r4 k4 p4 => ?_⟩) fun h4 => p _ _ h4 _ _ r3 ((k1.trans k2).trans k3) (.inl (.b _))⟩
  exact L' σ H4 S4 v2 v4 y u Qd Q r4 (p2.kp (kA (k3.trans k4))) p4 h4 (p.at (((k1.trans k2).trans k3).trans k4))
theorem v_chain {op op' : CmpOp} {r r' : R2} {rd rd' : RD} {d : Expr} {wc : WE} (ho : OpR X (compareOp op) r) (L : OpL X.K c r rd) (ho' : OpR X (compareOp op') r') (L' : OpL X.K c r' rd') (ha : PE X a (lE X.K c wa)) (hb : PE X b (lE X.K c wb)) (hc : PE X d (lE X.K c wc))
    (hm : lastMarks [op, op'] [b, d] = false := by with_unfolding_all rfl) : PE X (.Compare a [op, op'] [b, d] pos) (lE X.K c (wChain rd rd' wa wb wc)) := pe_imp (pe_chain ho ho' ha hb hc hm) (lchain L L')
theorem vt_chain {op op' : CmpOp} {r r' : R2} {rd rd' : RD} {d : Expr} {wc : WE} (ho : OpR X (compareOp op) r) (L : OpL X.K c r rd) (ho' : OpR X (compareOp op') r') (L' : OpL X.K c r' rd') (ha : PE X a (lE X.K c wa)) (hb : PE X b (lE X.K c wb)) (hc : PE X d (lE X.K c wc))
    (hm : lastMarks [op, op'] [b, d] = false := by with_unfolding_all rfl) : PT X (.Compare a [op, op'] [b, d] pos) (lT X.K c (wB (wChain rd rd' wa wb wc))) := pt_imp (pt_chain ho ho' ha hb hc hm) (lTest (lchain L L'))
/-! ### arguments, displays -/
def wNil : WA := fun S Q => Q [] S
def wCons (we : WE) (wr : WA) : WA := fun S Q => we S fun d S1 => d.isO = false ∧ wr S1 fun ds S2 => Q (d :: ds) S2
theorem v_nil : PA X [] (lA X.K c wNil) := pa_imp pa_nil fun σ H Q h => by
  obtain ⟨S, Qd, r, h, p⟩ := h
  exact p _ _ h _ _ r .refl .nil
theorem v_cons (he : PE X e (lE X.K c we)) (hr : PA X es (lA X.K c wr)) (hs : starEach (e :: es) X.env = (false, eval e X.env) :: starEach es X.env := by rfl) : PA X (e :: es) (lA X.K c (wCons we wr)) := pa_imp (pa_cons he hr hs) fun σ H Q h => by
  obtain ⟨S, Qd, r, h, p⟩ := h
  refine ⟨S, _, r, h, fun d S1 h1 H1 v r1 k1 p1 => ⟨S1, _, r1, h1.2, fun ds S2 h2 H2 vs r2 k2 p2 => ?_⟩⟩
  exact p _ _ h2 _ _ r2 (k1.trans k2) (.cons ((p1.pure h1.1).kp (kA k2)) p2)
def wTup (wl : WA) : WE := fun S Q => wl S fun ds S' => ds.length ≤ sizeLine ∧ Q (.t ds) S'
theorem v_tup {k : Nat} (h : PA X es (lA X.K c wl)) : PE X (.Tuple es k pos) (lE X.K c (wTup wl)) := pe_imp (pe_tup h) fun σ H Q h => by
  obtain ⟨S, Qd, r, h, p⟩ := h
  refine ⟨S, _, r, h, fun ds S1 h1 H1 vs r1 k1 p1 => ⟨by rw [p1.length]; exact h1.1, fun q nq => ?_⟩⟩
  obtain ⟨r2, k2, nA⟩ := r1.alloc (o := .tup vs) nq
  exact p _ _ h1.2 _ _ r2 (k1.trans k2) (.inl (.t (.inl (.inl upd_same)) (p1.kp (kA k2))))
def wLst (wl : WA) : WA := fun S Q => wl S fun ds S' => ds.length ≤ sizeLine ∧ Q ds S'
theorem v_lst (h : PA X es (lA X.K c wl)) : PE X (.List es pos) (lL X.K c (wLst wl)) := pe_imp (pe_lst h) fun σ H Q h => by
  obtain ⟨S, Qd, r, h, p⟩ := h
  exact ⟨S, _, r, h, fun ds S1 h1 H1 vs r1 k1 p1 => ⟨by rw [p1.length]; exact h1.1, fun q nq => p _ _ h1.2 _ _ _ r1 k1 nq p1 h1.1⟩⟩
/-- a new list as a value -/
def wOf (wl : WA) : WE := fun S Q => wl S fun ds S' => Q (.l ds) S'
theorem vOf (h : PE X e (lL X.K c wl)) : PE X e (lE X.K c (wOf wl)) := pe_imp h fun σ H Q h => by
  obtain ⟨S, Qd, r, h, p⟩ := h
  refine ⟨S, _, r, h, fun ds S1 h1 H1 q vs r1 k1 nq p1 _ => ?_⟩
  obtain ⟨r2, k2, nA⟩ := r1.alloc (o := .lst vs) nq
  exact p _ _ h1 _ _ r2 (k1.trans k2) (.inl (.l upd_same nA (p1.kp (kA k2))))
/-! ### calls of built-ins -/
def Un1 (K : PySem.W.Frag) (c : Cq) (r : List V → Hp → VK → Prop) (rd : RU) : Prop := UnL K c (fun x H Q => r [x] H Q) rd
theorem CallR.or {f : Value} {r r' : List V → Hp → VK → Prop} (h : CallR X f r) (h' : CallR X f r') : CallR X f (fun xs H Q => r xs H Q ∨ r' xs H Q) := fun pins s σ H xs us Q I rv q => q.elim (h pins s σ H xs us Q I rv) (h' pins s σ H xs us Q I rv)
theorem lcb1 {K : PySem.W.Frag} {r : List V → Hp → VK → Prop} {rd : RU} (L : Un1 K c r rd) : ∀ σ H Q, lE K c (wUn rd we) σ H Q → tCB r (tCons (lE K c we) tNil) σ H Q := fun σ H Q h => by
  obtain ⟨S, Qd, rr, h, p⟩ := h
  exact ⟨S, _, rr, h, fun x S1 h1 H1 v1 r1 k1 p1 => L σ H1 S1 v1 x Qd Q r1 p1 h1 (p.at k1)⟩
theorem v_cb1 {x : Str} {id : String} {r : List V → Hp → VK → Prop} {rd : RU} (hc : CallR X (.builtin id) r) (L : Un1 X.K c r rd) (hg : Gl X x) (hm : X.mg x = none) (hv : bootBuiltins x = some (.builtin id)) (he : PE X e (lE X.K c we)) (hs : starEach [e] X.env = (false, eval e X.env) :: starEach [] X.env := by rfl)
    (hn : x ≠ "__name__" := by decide) (hdb : (x == ("__debug__" : Str)) = false := by decide) (hpl : (backTo pos (starEach [] X.env)).any (·.1) = false := by rfl) : PE X (.Call (.Name x p) [e] [] pos) (lE X.K c (wUn rd we)) :=
  pe_imp (pe_callB hc hg hm hv (pa_cons he pa_nil hs) hn hdb hs hpl) (lcb1 L)
theorem v_ct1 {x : Str} {T : String} {r : List V → Hp → VK → Prop} {rd : RU} (hc : CallR X (.type T) r) (L : Un1 X.K c r rd) (hg : Gl X x) (hm : X.mg x = none) (hv : bootBuiltins x = some (.type T)) (he : PE X e (lE X.K c we)) (hs : starEach [e] X.env = (false, eval e X.env) :: starEach [] X.env := by rfl)
    (hn : x ≠ "__name__" := by decide) (hdb : (x == ("__debug__" : Str)) = false := by decide) (hpl : (backTo pos (starEach [] X.env)).any (·.1) = false := by rfl) : PE X (.Call (.Name x p) [e] [] pos) (lE X.K c (wUn rd we)) :=
  pe_imp (pe_callTy hc hg hm hv (pa_cons he pa_nil hs) hn hdb hs hpl) (lcb1 L)
def rdLen : RU := fun d S Q => match d with
  | .s z => z.length ≤ sizeLine ∧ Q (.i z.length) S
  | .t ds => Q (.i ds.length) S
  | .l ds => Q (.i ds.length) S
  | .dk ds => Q (.i ds.length) S
  | .sc ns => Q (.i ns.length) S
  | d => ∃ ds, S.lst d = some ds ∧ Q (.i ds.length) S
def rLenA (K : PySem.W.Frag) : List V → Hp → VK → Prop := fun xs H Q => (∃ x n, xs = [x] ∧ LenV K x H n ∧ Q (.int n) H) ∨ (∃ a kvs, xs = [V.ref a] ∧ H a = some (.dK kvs) ∧ Q (.int kvs.length) H)
theorem call_lenA : CallR X (.builtin "len") (rLenA X.K) := CallR.or call_len call_lenD
theorem rpk_len {K : PySem.W.Frag} {A : Addr → Prop} {H : Hp} : ∀ {vs : List (Key × V)} {ds : List (Key × Da)}, RpK K A H vs ds → vs.length = ds.length
  | _, _, .nil => rfl
  | _, _, .cons _ a => by rw [List.length_cons, List.length_cons, rpk_len a]
theorem lLen {K : PySem.W.Frag} : Un1 K c (rLenA K) rdLen := fun σ H S x d Qd Q r rx h p => by
  have lst : ∀ ds, S.lst d = some ds → Qd (.i ds.length) S → rLenA K [x] H Q := fun ds e q => by
    obtain ⟨b, vs, rfl, h1, h2⟩ := lst_ok r rx e
    exact .inl ⟨_, _, rfl, .inl ⟨vs, SqL.of h1, rfl⟩, by rw [h2.length]; exact p _ _ q _ _ r .refl (.inl (.i _))⟩
  cases d with
  | s z => rw [rs_s rx]; exact .inl ⟨_, _, rfl, ⟨h.1, rfl⟩, p _ _ h.2 _ _ r .refl (.inl (.i _))⟩
  | t ds =>
    obtain ⟨b, vs, rfl, h1, h2⟩ := tup_ok rx
    exact .inl ⟨_, _, rfl, .inr ⟨vs, h1, rfl⟩, by rw [h2.length]; exact p _ _ h _ _ r .refl (.inl (.i _))⟩
  | dk ds =>
    cases rx.pure rfl with
    | dk h1 _ h2 => exact .inr ⟨_, _, rfl, h1, by rw [rpk_len h2]; exact p _ _ h _ _ r .refl (.inl (.i _))⟩
  | l ds => exact lst ds rfl h
  | sc ns =>
    obtain ⟨b, rfl, h1⟩ := sc_ok rx
    exact .inl ⟨_, _, rfl, .inl ⟨_, h1, rfl⟩, by rw [List.length_map]; exact p _ _ h _ _ r .refl (.inl (.i _))⟩
  | n => obtain ⟨ds, e, q⟩ := h; exact lst ds e q
  | b _ => obtain ⟨ds, e, q⟩ := h; exact lst ds e q
  | i _ => obtain ⟨ds, e, q⟩ := h; exact lst ds e q
  | ins _ _ => obtain ⟨ds, e, q⟩ := h; exact lst ds e q
  | r _ => obtain ⟨ds, e, q⟩ := h; exact lst ds e q
  | ty _ => obtain ⟨ds, e, q⟩ := h; exact lst ds e q
  | o _ => obtain ⟨ds, e, q⟩ := h; exact lst ds e q
def rdInt : RU := fun d S Q => match d with
  | .i k => Q (.i k) S
  | .b k => Q (.i (if k then 1 else 0)) S
  | _ => False
theorem lInt {K : PySem.W.Frag} : Un1 K c (fun xs H Q => (∃ i, xs = [.int i] ∧ Q (.int i) H) ∨ ∃ k, xs = [.bl k] ∧ Q (.int (if k then 1 else 0)) H) rdInt := fun σ H S x d Qd Q r rx h p => by
  cases d <;> try exact h.elim
  · rw [rs_b rx]
    exact .inr ⟨_, rfl, p _ _ h _ _ r .refl (.inl (.i _))⟩
  · rw [rs_i rx]
    exact .inl ⟨_, rfl, p _ _ h _ _ r .refl (.inl (.i _))⟩
def rdStr : RU := fun d S Q => match d with
  | .i k => k.natAbs.log2 < 1920 ∧ Q (.s (toString k)) S
  | _ => False
theorem lStr {K : PySem.W.Frag} : Un1 K c (fun xs H Q => ∃ i : Int, xs = [.int i] ∧ i.natAbs.log2 < 1920 ∧ Q (.str (toString i)) H) rdStr := fun σ H S x d Qd Q r rx h p => by
  cases d <;> try exact h.elim
  rw [rs_i rx]
  exact ⟨_, rfl, h.1, p _ _ h.2 _ _ r .refl (.inl (.s _))⟩
/-- tuple(list), tuple(tuple) -/
def rdTuple : RU := fun d S Q => match d with
  | .t ds => Q (.t ds) S
  | .l ds => Q (.t ds) S
  | d => ∃ ds, S.lst d = some ds ∧ Q (.t ds) S
def rTupleA (K : PySem.W.Frag) : List V → Hp → VK → Prop := fun xs H Q => ∃ p ys, xs = [.ref p] ∧ ((SqL K H p ys ∧ ∀ l, H l = none → Q (.ref l) (upd H l (.tup ys))) ∨ (SqT K H p ys ∧ Q (.ref p) H))
theorem call_tupleA : CallR X (.type "tuple") (rTupleA X.K) := call_tuple_of
theorem lTuple {K : PySem.W.Frag} : Un1 K c (rTupleA K) rdTuple := fun σ H S x d Qd Q r rx h p => by
  have lst : ∀ ds, S.lst d = some ds → Qd (.t ds) S → rTupleA K [x] H Q := fun ds e q => by
    obtain ⟨b, vs, rfl, h1, h2⟩ := lst_ok r rx e
    refine ⟨b, vs, rfl, .inl ⟨SqL.of h1, fun l nl => ?_⟩⟩
    obtain ⟨r2, k2, nA⟩ := r.alloc (o := .tup vs) nl
    exact p _ _ q _ _ r2 k2 (.inl (.t (.inl (.inl upd_same)) (h2.kp (kA k2))))
  cases d with
  | t ds =>
    obtain ⟨b, vs, rfl, h1, h2⟩ := tup_ok rx
    exact ⟨b, vs, rfl, .inr ⟨h1, p _ _ h _ _ r .refl (.inl (.t h1 h2))⟩⟩
  | l ds => exact lst ds rfl h
  | s _ => obtain ⟨ds, e, q⟩ := h; exact lst ds e q
  | dk _ => obtain ⟨ds, e, q⟩ := h; exact lst ds e q
  | n => obtain ⟨ds, e, q⟩ := h; exact lst ds e q
  | b _ => obtain ⟨ds, e, q⟩ := h; exact lst ds e q
  | i _ => obtain ⟨ds, e, q⟩ := h; exact lst ds e q
  | ins _ _ => obtain ⟨ds, e, q⟩ := h; exact lst ds e q
  | r _ => obtain ⟨ds, e, q⟩ := h; exact lst ds e q
  | ty _ => obtain ⟨ds, e, q⟩ := h; exact lst ds e q
  | sc _ => obtain ⟨ds, e, q⟩ := h; exact lst ds e q
  | o _ => obtain ⟨ds, e, q⟩ := h; exact lst ds e q
/-- all, any of bools -/
def bools : List Da → Option (List Bool)
  | [] => some []
  | .b x :: r => (bools r).map (x :: ·)
  | _ => none
theorem bools_map : ∀ (bs : List Bool), bools (bs.map Da.b) = some bs
  | [] => rfl
  | b :: r => by rw [List.map_cons, bools, bools_map r]; rfl
theorem bools_ok {K : PySem.W.Frag} {A : Addr → Prop} {H : Hp} : ∀ {ds : List Da} {vs : List V} {bs : List Bool}, bools ds = some bs → RpA K A H vs ds → vs = bs.map V.bl
  | [], _, _, e, h => by cases e; cases h; rfl
  | .b x :: r, _, _, e, h => by
    rw [bools] at e
    cases q : bools r with
    | none => rw [q] at e; cases e
    | some bs =>
      rw [q] at e
      cases e
      cases h with
      | cons h1 h2 =>
        cases h1
        rw [bools_ok q h2]
        rfl
  | .n :: _, _, _, e, _ => by cases e
  | .i _ :: _, _, _, e, _ => by cases e
  | .s _ :: _, _, _, e, _ => by cases e
  | .t _ :: _, _, _, e, _ => by cases e
  | .l _ :: _, _, _, e, _ => by cases e
  | .dk _ :: _, _, _, e, _ => by cases e
  | .ins _ _ :: _, _, _, e, _ => by cases e
  | .r _ :: _, _, _, e, _ => by cases e
  | .ty _ :: _, _, _, e, _ => by cases e
  | .sc _ :: _, _, _, e, _ => by cases e
  | .o _ :: _, _, _, e, _ => by cases e
def rdAll : RU := fun d S Q => ∃ ds bs, S.lst d = some ds ∧ bools ds = some bs ∧ Q (.b (bs.all id)) S
def rdAny : RU := fun d S Q => ∃ ds bs, S.lst d = some ds ∧ bools ds = some bs ∧ Q (.b (bs.any id)) S
theorem lAll {K : PySem.W.Frag} : Un1 K c (rAll K) rdAll := fun σ H S x d Qd Q r rx h p => by
  obtain ⟨ds, bs, e, e2, q⟩ := h
  obtain ⟨b, vs, rfl, h1, h2⟩ := lst_ok r rx e
  rw [bools_ok e2 h2] at h1
  exact ⟨b, bs, rfl, SqL.of h1, p _ _ q _ _ r .refl (.inl (.b _))⟩
theorem lAny {K : PySem.W.Frag} : Un1 K c (rAny K) rdAny := fun σ H S x d Qd Q r rx h p => by
  obtain ⟨ds, bs, e, e2, q⟩ := h
  obtain ⟨b, vs, rfl, h1, h2⟩ := lst_ok r rx e
  rw [bools_ok e2 h2] at h1
  exact ⟨b, bs, rfl, SqL.of h1, p _ _ q _ _ r .refl (.inl (.b _))⟩
def intsD : List Da → Option (List Int)
  | [] => some []
  | .i x :: r => (intsD r).map (x :: ·)
  | _ => none
theorem intsD_map : ∀ (bs : List Int), intsD (bs.map Da.i) = some bs
  | [] => rfl
  | b :: r => by rw [List.map_cons, intsD, intsD_map r]; rfl
theorem intsD_eq : ∀ {ds : List Da} {ns : List Int}, intsD ds = some ns → ds = ns.map Da.i
  | [], _, e => by cases e; rfl
  | .i x :: r, _, e => by
    rw [intsD] at e
    cases q : intsD r with
    | none => rw [q] at e; cases e
    | some bs =>
      rw [q] at e
      cases e
      rw [intsD_eq q]
      rfl
  | .n :: _, _, e => by cases e
  | .b _ :: _, _, e => by cases e
  | .s _ :: _, _, e => by cases e
  | .t _ :: _, _, e => by cases e
  | .l _ :: _, _, e => by cases e
  | .dk _ :: _, _, e => by cases e
  | .ins _ _ :: _, _, e => by cases e
  | .r _ :: _, _, e => by cases e
  | .ty _ :: _, _, e => by cases e
  | .sc _ :: _, _, e => by cases e
  | .o _ :: _, _, e => by cases e
theorem rpa_ints {K : PySem.W.Frag} {A : Addr → Prop} {H : Hp} : ∀ {ns : List Int} {vs : List V}, RpA K A H vs (ns.map Da.i) → vs = ns.map V.int
  | [], _, h => by cases h; rfl
  | n :: r, _, h => by
    cases h with
    | cons h1 h2 =>
      cases h1
      rw [rpa_ints h2]
      rfl
def rdSum : RU := fun d S Q => ∃ ds ns, S.lst d = some ds ∧ intsD ds = some ns ∧ Q (.i ns.sum) S
theorem lSum {K : PySem.W.Frag} : Un1 K c (rSum K) rdSum := fun σ H S x d Qd Q r rx h p => by
  obtain ⟨ds, bs, e, e2, q⟩ := h
  obtain ⟨b, vs, rfl, h1, h2⟩ := lst_ok r rx e
  have := intsD_eq e2
  subst this
  rw [rpa_ints h2] at h1
  exact ⟨b, bs, rfl, SqL.of h1, p _ _ q _ _ r .refl (.inl (.i _))⟩
end
end VL
set_option Elab.async false
set_option linter.all false
set_option maxRecDepth 100000
set_option maxHeartbeats 1000000
namespace VL
open PySem PySem.Spec PyProof.Rows
theorem extend_tup (l : Addr) (items : Array Value) (n : Nat) (b : Addr) (dd : Option Addr) (sl : Array (Option Value)) (items2 : Array Value) (n2 : Nat) (hs0 : ¬(!items.isEmpty && Builtin.List.listTooLong (items.size + items2.size)) = true) (hs1 : items.size ≤ sizeLine) (hs2 : items.size + items2.size ≤ sizeLine + 1) :
    Meets (Builtin.«list.extend» ⟨[.ref l, .ref b], []⟩) (fun _ R s => s.heap.get? l = some { cls := .type "list", dict := none, data := .seq items n, slots := #[] } ∧ s.heap.get? b = some { cls := .type "tuple", dict := dd, data := .seq items2 n2, slots := sl } ∧ R (.ok (.ret Value.none)) { s with heap := s.heap.update l (Obj.mapSeq fun x => x ++ items2), toks := s.toks }) :=
  .of_wp fun prog w A R s h => by
    obtain ⟨hp, g, d, tk, os⟩ := s; obtain ⟨hl, hb, h⟩ := h; have f1 := AutoSeq1.idx_int; have f2 := AutoSeq1.sub_tuple_tuple; have f3 := AutoSeq1.sub_list_list; have f4 := AutoSeq1.sub_tuple_list; have f5 := AutoSeq1.sub_list_tuple
    have hz' : (items ++ items2).size ≤ sizeLine + 1 := by rw [Array.size_append]; exact hs2
    wp_walk using (wpAny_updateSeq hl rfl (hz := hs1) (_hz' := hz')), AutoSeq1.wpAny_loadPart' hl, AutoSeq1.wpAny_loadPart' hb; exact ⟨_, rfl, h⟩
end VL
namespace L2
open PySem PySem.Spec PyProof.Rows
section
variable {X : Cx}
def rExtendT (K : PySem.W.Frag) : V → List V → Hp → VK → Prop := fun x vs H Q => ∃ l b xs zs, x = .ref l ∧ vs = [.ref b] ∧ H l = some (.lst xs) ∧ SqT K H b zs ∧ xs.length + zs.length ≤ sizeLine ∧ Q .non (upd H l (.lst (xs ++ zs)))
theorem mt_extendT : MtM X "list.extend" (rExtendT X.K) := by
  intro pins s σ H x vs v us Q I rx rv h
  obtain ⟨l, b, xs, zs, rfl, rfl, hH, hB, hz, q⟩ := h
  cases rx
  obtain ⟨u, rfl, ru⟩ := rv.one
  cases ru
  obtain ⟨z, its, n, r, hl, e⟩ := I.lstM hH
  obtain ⟨its2, r2, ⟨o2, ho2, hc2, n2, hd2⟩, hl2⟩ := I.tuple hB
  obtain ⟨oc, od, oda, osl⟩ := o2
  dsimp only at hc2 hd2
  subst hc2 hd2
  have e1 := r.length
  have e2 := r2.length
  have hsz : its.toArray.size + its2.toArray.size ≤ sizeLine := by rw [List.size_toArray, List.size_toArray]; omega
  have hlong : ¬ (!its.toArray.isEmpty && Builtin.List.listTooLong (its.toArray.size + its2.toArray.size)) = true := by
    rw [notLongL hsz, Bool.and_false]
    exact Bool.false_ne_true
  refine call_meets F.slot_list_extend ⟨_, e, rfl⟩ F.entry_list_extend (F.args_list_extend_2 _ _)
    (VL.extend_tup l its.toArray n b od osl its2.toArray n2 hlong (by rw [List.size_toArray]; omega) (by omega)) ⟨e, ho2, ?_⟩
  refine ⟨.non, _, I.lset (its' := its ++ its2) hH e (by simp) (r.append r2) ?_, rfl, q⟩
  rw [List.length_append]
  omega
end
end L2
namespace VL
open PySem PySem.Spec PyProof.Rows L2
section
variable {K : PySem.W.Frag} {c : Cq} {S S' : Sx} {σ : L2.St} {H H' : Hp} {A : Addr → Prop} {v : V} {d : Da} {ds es : List Da}
/-! ### a shared list changes -/
def updM (M : Mx) (a : Addr) (m : MO) : Mx := fun b => if b = a then some m else M b
theorem updM_same {M : Mx} {a : Addr} {m : MO} : updM M a m a = some m := by unfold updM; rw [if_pos rfl]
theorem updM_ne {M : Mx} {a b : Addr} {m : MO} (h : b ≠ a) : updM M a m b = M b := by unfold updM; rw [if_neg h]
theorem Rel.updM (r : Rel K c S σ H) {a : Addr} {m m' : MO} {o o' : HO} (e : S.M a = some m) (ha : H a = some o) (mu : Mut (some o)) (new : ∀ A, Kp (S.A c) A H (upd H a o') → MOk K A (upd H a o') a m') :
    Rel K c ⟨S.ρ, VL.updM S.M a m'⟩ σ (upd H a o') ∧ Kp S.W (Sx.W ⟨S.ρ, VL.updM S.M a m'⟩) H (upd H a o') := by
  have eq : ∀ b, Sx.W ⟨S.ρ, VL.updM S.M a m'⟩ b ↔ S.W b := fun b => by
    unfold Sx.W
    refine or_congr Iff.rfl ?_
    show VL.updM S.M a m' b ≠ none ↔ _
    by_cases q : b = a
    · subst q
      rw [updM_same, e]
      simp
    · rw [updM_ne q]
  have k : Kp S.W (Sx.W ⟨S.ρ, VL.updM S.M a m'⟩) H (upd H a o') := by
    refine ⟨fun b u eb z => ?_, fun b z => .inl ((eq b).1 z)⟩
    have : b ≠ a := fun q => by
      subst q
      rcases z with z | z
      · exact z (.inr (by rw [e]; exact fun q => by cases q))
      · rw [ha] at eb
        cases eb
        exact z mu
    rw [upd_ne this]
    exact eb
  refine ⟨r.next k r.len rfl (fun i d he => ?_) (fun i p ds he => ?_) r.inj (fun i p ds he => ?_) (fun b u eb => ?_), k⟩
  · obtain ⟨w, h1, h2⟩ := r.val i d he
    exact ⟨w, h1, h2.kp (kA k)⟩
  · obtain ⟨h1, vs, h2, h3⟩ := r.own i p ds he
    have : p ≠ a := fun q => by
      subst q
      rw [r.sep i p ds he] at e
      cases e
    exact ⟨h1, vs, by rw [upd_ne this]; exact h2, h3.kp (kA k)⟩
  · have : p ≠ a := fun q => by
      subst q
      rw [r.sep i p ds he] at e
      cases e
    show VL.updM S.M a m' p = none
    rw [updM_ne this]
    exact r.sep i p ds he
  · by_cases q : b = a
    · subst q
      have e' : VL.updM S.M b m' b = some u := eb
      rw [updM_same] at e'
      cases e'
      exact new _ (kA k)
    · have e' : VL.updM S.M a m' b = some u := eb
      rw [updM_ne q] at e'
      exact (r.mem b u e').kp (kA k) fun o z => by rw [upd_ne q]; exact z
/-- the list d with other items -/
def Sx.putL (S : Sx) (d : Da) (ds : List Da) : Option Sx := match d with
  | .o j => match S.ρ[j]? with
    | some (.own p _) => some (S.set j (.own p ds))
    | _ => none
  | .r a => match S.M a with
    | some (.lst _) => some ⟨S.ρ, VL.updM S.M a (.lst ds)⟩
    | _ => none
  | _ => none
theorem putL_ok {S' : Sx} (r : Rel K c S σ H) (h : RpS K (S.A c) σ H v d) (e : S.putL d ds = some S') : ∃ p old, v = .ref p ∧ H p = some (.lst old) ∧
    ∀ vs, RpA K (S.A c) H vs ds → Rel K c S' σ (upd H p (.lst vs)) ∧ Kp S.W S'.W H (upd H p (.lst vs)) := by
  rcases h with h | ⟨j, rfl, hj⟩
  · cases h with
    | r a =>
      simp only [Sx.putL] at e
      split at e
      · rename_i q
        cases e
        obtain ⟨ws, h1, h2⟩ := r.mem a _ q
        exact ⟨a, ws, rfl, h1, fun vs rv => r.updM q h1 trivial fun A k => ⟨vs, upd_same, rv.kp k⟩⟩
      · cases e
    | _ => cases e
  · simp only [Sx.putL] at e
    split at e
    · rename_i q
      cases e
      obtain ⟨h1, ws, h2, h3⟩ := r.own j _ _ q
      rw [hj] at h1
      cases h1
      exact ⟨_, ws, rfl, h2, fun vs rv => r.updO q rv⟩
    · cases e
end
section
variable {X : Cx} {c : Cq} {pos p apos : Pos} {e a b : Expr} {es rest : List Expr} {we wa wb : WE} {wt wu : WT} {wl wr : WA}
/-! ### items -/
def rdIx : RD := fun x y S Q => match x, y with
  | .s z, .i k => z.length ≤ sizeLine ∧ ∃ ch, atI z.cps.toList k = some ch ∧ Q (.s ⟨#[ch]⟩) S
  | .t ds, .i k => ∃ d, atI ds k = some d ∧ Q d S
  | .sc ns, .i k => ∃ v, atI ns k = some v ∧ Q (.i v) S
  | x, .i k => ∃ ds d, S.lst x = some ds ∧ atI ds k = some d ∧ Q d S
  | _, _ => False
theorem atI_rp {K : PySem.W.Frag} {A : Addr → Prop} {H : Hp} {vs : List V} {ds : List Da} {k : Int} {d : Da} (h : RpA K A H vs ds) (e : atI ds k = some d) : ∃ v, atI vs k = some v ∧ Rp K A H v d := by
  unfold atI at e ⊢
  rw [h.length]
  cases q : ixN ds.length k with
  | none => rw [q] at e; cases e
  | some j =>
    rw [q] at e
    exact h.get (show ds[j]? = some d from e)
theorem lIx {K : PySem.W.Frag} : OpL K c (rIx K) rdIx := fun σ H S x y dx dy Qd Q r rx ry h p => by
  unfold rdIx at h
  split at h
  · obtain ⟨h1, ch, h2, h3⟩ := h
    exact .inr (.inr ⟨_, _, ch, rs_s rx, rs_i ry, h1, h2, p _ _ h3 _ _ r .refl (.inl (.s _))⟩)
  · obtain ⟨d, h1, h2⟩ := h
    obtain ⟨q, vs, e1, g1, g2⟩ := tup_ok rx
    obtain ⟨v, g3, g4⟩ := atI_rp g2 h1
    exact .inr (.inl ⟨q, vs, _, v, e1, rs_i ry, g1, g3, p _ _ h2 _ _ r .refl (.inl g4)⟩)
  · obtain ⟨w, h1, h2⟩ := h
    obtain ⟨q, e1, g1⟩ := sc_ok rx
    refine .inl ⟨q, _, _, .int w, e1, rs_i ry, g1, ?_, p _ _ h2 _ _ r .refl (.inl (.i _))⟩
    unfold atI at h1 ⊢
    rw [List.length_map]
    cases e : ixN _ _ with
    | none => rw [e] at h1; cases h1
    | some j =>
      rw [e] at h1
      show (List.map V.int _)[j]? = _
      have h1' : _ = some w := h1
      rw [List.getElem?_map]
      simp only [Option.bind_some] at h1'
      rw [h1']
      rfl
  · obtain ⟨ds, d, h0, h1, h2⟩ := h
    obtain ⟨q, vs, e1, g1, g2⟩ := lst_ok r rx h0
    obtain ⟨v, g3, g4⟩ := atI_rp g2 h1
    exact .inl ⟨q, vs, _, v, e1, rs_i ry, SqL.of g1, g3, p _ _ h2 _ _ r .refl (.inl g4)⟩
  · exact h.elim
theorem v_ix (ha : PE X a (lE X.K c wa)) (hb : PE X b (lE X.K c wb)) (hs : PlainIx b) : PE X (.Subscript a b pos) (lE X.K c (wOp rdIx wa wb)) := pe_imp (pe_ix ix_seq ha hb hs) (lop lIx)
/-! ### slices -/
abbrev WO := Sx → (Option Int → Sx → Prop) → Prop
def lO (K : PySem.W.Frag) (c : Cq) (w : WO) : L2.St → Hp → (Option Int → Hp → Prop) → Prop := fun σ H Q => ∃ S Qd, Rel K c S σ H ∧ w S Qd ∧ ∀ o S', Qd o S' → ∀ H', Rel K c S' σ H' → Kp S.W S'.W H H' → Q o H'
theorem po_imp {o : Option Expr} {t t' : L2.St → Hp → (Option Int → Hp → Prop) → Prop} (h : PO X o t) (i : ∀ σ H Q, t' σ H Q → t σ H Q) : PO X o t' := ⟨fun pins s σ H Q I hq => h.run pins s σ H Q I (i σ H Q hq)⟩
def wNo : WO := fun S Q => Q none S
def wPart (we : WE) : WO := fun S Q => we S fun d S' => match d with
  | .i k => Q (some k) S'
  | _ => False
theorem v_no : PO X none (lO X.K c wNo) := po_imp po_none fun σ H Q h => by
  obtain ⟨S, Qd, r, h, p⟩ := h
  exact p _ _ h _ r .refl
theorem v_part (h : PE X e (lE X.K c we)) : PO X (some e) (lO X.K c (wPart we)) := po_imp (po_some h) fun σ H Q h => by
  obtain ⟨S, Qd, r, h, p⟩ := h
  refine ⟨S, _, r, h, fun d S1 h1 H1 v r1 k1 p1 => ?_⟩
  cases d <;> try exact h1.elim
  exact ⟨_, rs_i p1, p _ _ h1 _ r1 k1⟩
def cutD (xs : List Da) (lo hi : Option Int) : List Da := (xs.drop (HT.sIx xs.length 0 lo)).take (HT.sIx xs.length xs.length hi - HT.sIx xs.length 0 lo)
theorem cut_rp {K : PySem.W.Frag} {A : Addr → Prop} {H : Hp} {vs : List V} {ds : List Da} {lo hi : Option Int} (h : RpA K A H vs ds) : RpA K A H (cutV vs lo hi) (cutD ds lo hi) := by
  unfold cutV cutD
  rw [h.length]
  exact (h.drop _).take _
def rdSl (x : Da) (lo hi : Option Int) (S : Sx) (Q : Da → Sx → Prop) : Prop := match x with
  | .s z => z.length ≤ sizeLine ∧ Q (.s (cutS z lo hi)) S
  | .t ds => Q (.t (cutD ds lo hi)) S
  | x => ∃ ds, S.lst x = some ds ∧ Q (.l (cutD ds lo hi)) S
def wSl (we : WE) (wl wh : WO) : WE := fun S Q => we S fun x S1 => wl S1 fun lo S2 => wh S2 fun hi S3 => rdSl x lo hi S3 Q
def rSlU (K : PySem.W.Frag) : V → Option Int → Option Int → Hp → VK → Prop := fun x lo hi H Q => rSlL K x lo hi H Q ∨ rSlA K x lo hi H Q ∨ rSlS x lo hi H Q
theorem sl_any : SlR X (rSlU X.K) := SlR.or sl_list (SlR.or sl_tupA sl_str)
theorem cut_all {vs : List V} {lo hi : Option Int} (h : HT.sIx vs.length 0 lo = 0 ∧ HT.sIx vs.length vs.length hi = vs.length) : cutV vs lo hi = vs := by
  unfold cutV
  rw [h.1, h.2, List.drop_zero, Nat.sub_zero, List.take_length]
theorem v_sl {lo hi : Option Expr} {p2 : Pos} {w1 w2 : WO} (he : PE X e (lE X.K c we)) (hl : PO X lo (lO X.K c w1)) (hh : PO X hi (lO X.K c w2)) : PE X (.Subscript e (.Slice lo hi none p2) pos) (lE X.K c (wSl we w1 w2)) := pe_imp (pe_slice sl_any he hl hh) fun σ H Q h => by
  obtain ⟨S, Qd, r, h, p⟩ := h
  refine ⟨S, _, r, h, fun x S1 h1 H1 v r1 k1 p1 => ⟨S1, _, r1, h1, fun l S2 h2 H2 r2 k2 => ⟨S2, _, r2, h2, fun u S3 h3 H3 r3 k3 => ?_⟩⟩⟩
  have px := p1.kp (kA (c := c) (k2.trans k3))
  have k := (k1.trans k2).trans k3
  unfold rdSl at h3
  split at h3
  · rw [rs_s px]
    exact .inr (.inr ⟨_, rfl, h3.1, p _ _ h3.2 _ _ r3 k (.inl (.s _))⟩)
  · obtain ⟨q, vs, rfl, g1, g2⟩ := tup_ok px
    refine .inr (.inl ⟨q, vs, rfl, g1, fun w => ?_, fun w q' nq => ?_⟩)
    · have := cut_rp (lo := l) (hi := u) g2
      rw [cut_all w] at this
      exact p _ _ h3 _ _ r3 k (.inl (.t g1 this))
    · obtain ⟨r4, k4, nA⟩ := r3.alloc (o := .tup (cutV vs l u)) nq
      exact p _ _ h3 _ _ r4 (k.trans k4) (.inl (.t (.inl (.inl upd_same)) ((cut_rp g2).kp (kA k4))))
  · obtain ⟨ds, h0, h3⟩ := h3
    obtain ⟨q, vs, rfl, g1, g2⟩ := lst_ok r3 px h0
    refine .inl ⟨q, vs, rfl, SqL.of g1, fun q' nq => ?_⟩
    obtain ⟨r4, k4, nA⟩ := r3.alloc (o := .lst (cutV vs l u)) nq
    exact p _ _ h3 _ _ r4 (k.trans k4) (.inl (.l upd_same nA ((cut_rp g2).kp (kA k4))))
/-! ### lists change -/
def wPop (we : WE) : WE := fun S Q => we S fun d S1 => ∃ ds x S2, S1.lst d = some ds ∧ ds[ds.length - 1]? = some x ∧ S1.putL d ds.dropLast = some S2 ∧ Q x S2
theorem rpa_dropLast {K : PySem.W.Frag} {A : Addr → Prop} {H : Hp} {vs : List V} {ds : List Da} (h : RpA K A H vs ds) : RpA K A H vs.dropLast ds.dropLast := by
  rw [List.dropLast_eq_take, List.dropLast_eq_take, h.length]
  exact h.take _
theorem rpa_eraseIdx {K : PySem.W.Frag} {A : Addr → Prop} {H : Hp} {vs : List V} {ds : List Da} (h : RpA K A H vs ds) (k : Nat) : RpA K A H (vs.eraseIdx k) (ds.eraseIdx k) := by
  rw [List.eraseIdx_eq_take_drop_succ, List.eraseIdx_eq_take_drop_succ]
  exact (h.take _).append (h.drop _)
theorem v_pop (hb : attributeBase e "pop" X.env (eval e X.env) = eval e X.env := by rfl) (hl : (apos.endLine == pos.line) = true := by rfl) (he : PE X e (lE X.K c we)) : PE X (.Call (.Attribute e "pop" apos) [] [] pos) (lE X.K c (wPop we)) :=
  pe_imp (pe_bm0 PySem.F.plainAttrs_list PySem.F.slot_list_pop PySem.F.type_list_pop mt_pop he hb hl) fun σ H Q h => by
  obtain ⟨S, Qd, r, h, p⟩ := h
  refine ⟨S, _, r, h, fun d S1 h1 H1 v r1 k1 p1 => ?_⟩
  obtain ⟨ds, x, S2, h2, h3, h4, h5⟩ := h1
  obtain ⟨q, vs, rfl, g1, g2⟩ := lst_ok r1 p1 h2
  obtain ⟨q', old, e', g3, g4⟩ := putL_ok r1 p1 h4
  cases e'
  rw [g1] at g3
  cases g3
  obtain ⟨y, g5, g6⟩ := g2.get h3
  obtain ⟨r2, k2⟩ := g4 _ (rpa_dropLast g2)
  exact ⟨.inl ⟨rfl, _, SqL.of g1⟩, q, vs, y, rfl, rfl, g1, by rw [g2.length]; exact g5, p _ _ h5 _ _ r2 (k1.trans k2) (.inl (g6.kp (kA k2)))⟩
/-- a method of one argument, by values; ty: the receiver's type is known -/
def wMet (ty : Da → Sx → Prop) (rd : RD) (we wi : WE) : WE := fun S Q => we S fun d S0 => ty d S0 ∧ wi S0 fun i S1 => rd d i S1 Q
def MetL (K : PySem.W.Frag) (c : Cq) (r : V → List V → Hp → VK → Prop) (rd : RD) : Prop := OpL K c (fun x y H Q => r x [y] H Q) rd
def tyL (d : Da) (S : Sx) : Prop := ∃ ds, S.lst d = some ds
def TyL (K : PySem.W.Frag) (c : Cq) (T : String) (ty : Da → Sx → Prop) : Prop := ∀ σ H S x d, Rel K c S σ H → RpS K (S.A c) σ H x d → ty d S → tyV K T x H
theorem tyL_ok {K : PySem.W.Frag} : TyL K c "list" tyL := fun σ H S x d r h t => by
  obtain ⟨ds, e⟩ := t
  obtain ⟨q, vs, rfl, g1, _⟩ := lst_ok r h e
  exact .inl ⟨rfl, _, SqL.of g1⟩
theorem lmet {K : PySem.W.Frag} {T : String} {ty : Da → Sx → Prop} {r : V → List V → Hp → VK → Prop} {rd : RD} (ht : TyL K c T ty) (L : MetL K c r rd) : ∀ σ H Q, lE K c (wMet ty rd we wa) σ H Q → tBM K T r (lE K c we) (tCons (lE K c wa) tNil) σ H Q := fun σ H Q h => by
  obtain ⟨S, Qd, rr, h, p⟩ := h
  refine ⟨S, _, rr, h, fun d S0 h0 H0 v r0 k0 p0 => ⟨ht _ _ _ _ _ r0 p0 h0.1, S0, _, r0, h0.2, fun y S1 h1 H1 u r1 k1 p1 => ?_⟩⟩
  exact L σ H1 S1 v u d y Qd Q r1 (p0.kp (kA k1)) p1 h1 (p.at (k0.trans k1))
theorem v_met {T id : String} {nm : Str} {ty : Da → Sx → Prop} {r : V → List V → Hp → VK → Prop} {rd : RD} {i : Expr} {wi : WE} (pa : PlainAttrs T) (slot : Slot T nm id) (hty : typeOf (.builtin id) = pure (.type "method_descriptor")) (hm : MtR X id r)
    (ht : TyL X.K c T ty) (L : MetL X.K c r rd) (he : PE X e (lE X.K c we)) (hi : PE X i (lE X.K c wi)) (hs : starEach [i] X.env = (false, eval i X.env) :: starEach [] X.env := by rfl)
    (hbase : attributeBase e nm X.env (eval e X.env) = eval e X.env := by rfl)
    (hfew : ((backTo pos (starEach [i] X.env)).all (fun x => !x.1) && (backToKw pos (keywordEach [] X.env)).all (fun x => x.1.isSome) && decide (([i] : List Expr).length + ([] : List Keyword).length + (if ([] : List Keyword).isEmpty then 0 else 1) < 30)) = true := by rfl)
    (hline : (apos.endLine == pos.line) = true := by rfl) (hplain : (backTo pos (starEach [] X.env)).any (·.1) = false := by rfl) :
    PE X (.Call (.Attribute e nm apos) [i] [] pos) (lE X.K c (wMet ty rd we wi)) := pe_imp (pe_bm pa slot hty hm he (pa_cons hi pa_nil hs) hbase hfew hline hs hplain) (lmet ht L)
def rdPopAt : RD := fun d i S Q => match i with
  | .i k => -(2 ^ 63) ≤ k ∧ k < 2 ^ 63 ∧ ∃ ds j x S2, S.lst d = some ds ∧ seqIndex? k ds.length = some j ∧ ds[j]? = some x ∧ S.putL d (ds.eraseIdx j) = some S2 ∧ Q x S2
  | _ => False
theorem lPopAt {K : PySem.W.Frag} : MetL K c rPopAt rdPopAt := fun σ H S x y d i Qd Q r rx ry h p => by
  cases i <;> try exact h.elim
  obtain ⟨b1, b2, ds, j, z, S2, h2, h3, h4, h5, h6⟩ := h
  obtain ⟨q, vs, rfl, g1, g2⟩ := lst_ok r rx h2
  obtain ⟨q', old, e', g3, g4⟩ := putL_ok r rx h5
  cases e'
  obtain ⟨w, g5, g6⟩ := g2.get h4
  obtain ⟨r2, k2⟩ := g4 _ (rpa_eraseIdx g2 j)
  rw [rs_i ry]
  exact ⟨q, vs, _, j, w, rfl, rfl, g1, b1, b2, by rw [g2.length]; exact h3, g5, p _ _ h6 _ _ r2 k2 (.inl (g6.kp (kA k2)))⟩
def rdAppend : RD := fun d y S Q => ∃ ds S2, S.lst d = some ds ∧ y.isO = false ∧ ds.length < sizeLine ∧ S.putL d (ds ++ [y]) = some S2 ∧ Q .n S2
theorem lAppend {K : PySem.W.Frag} : MetL K c rAppend rdAppend := fun σ H S x y d i Qd Q r rx ry h p => by
  obtain ⟨ds, S2, h2, h3, h4, h5, h6⟩ := h
  obtain ⟨q, vs, rfl, g1, g2⟩ := lst_ok r rx h2
  obtain ⟨q', old, e', g3, g4⟩ := putL_ok r rx h5
  cases e'
  obtain ⟨r2, k2⟩ := g4 _ (g2.snoc (ry.pure h3))
  exact ⟨q, vs, y, rfl, rfl, g1, by rw [g2.length]; exact h4, p _ _ h6 _ _ r2 k2 (.inl .n)⟩
def Sx.xq (S : Sx) : Da → Option (List Da)
  | .t ds => some ds
  | d => S.lst d
def rdExtend : RD := fun d y S Q => ∃ ds es S2, S.lst d = some ds ∧ S.xq y = some es ∧ ds.length + es.length ≤ sizeLine ∧ S.putL d (ds ++ es) = some S2 ∧ Q .n S2
def rExtA (K : PySem.W.Frag) : V → List V → Hp → VK → Prop := fun x vs H Q => rExtend x vs H Q ∨ rExtendT K x vs H Q
theorem mt_extA : MtM X "list.extend" (rExtA X.K) := fun pins s σ H x vs v us Q I rx rv h => h.elim (mt_extend pins s σ H x vs v us Q I rx rv) (mt_extendT pins s σ H x vs v us Q I rx rv)
theorem lExtend {K : PySem.W.Frag} : MetL K c (rExtA K) rdExtend := fun σ H S x y d i Qd Q r rx ry h p => by
  obtain ⟨ds, es, S2, h2, h3, h4, h5, h6⟩ := h
  obtain ⟨q, vs, rfl, g1, g2⟩ := lst_ok r rx h2
  obtain ⟨q', old, e', g3, g4⟩ := putL_ok r rx h5
  cases e'
  cases i with
  | t es' =>
    cases h3
    obtain ⟨b, us, rfl, g5, g6⟩ := tup_ok ry
    obtain ⟨r2, k2⟩ := g4 _ (g2.append g6)
    exact .inr ⟨q, b, vs, us, rfl, rfl, g1, g5, by rw [g2.length, g6.length]; exact h4, p _ _ h6 _ _ r2 k2 (.inl .n)⟩
  | _ =>
    obtain ⟨b, us, rfl, g5, g6⟩ := lst_ok r ry h3
    obtain ⟨r2, k2⟩ := g4 _ (g2.append g6)
    exact .inl ⟨q, b, vs, us, rfl, rfl, g1, g5, by rw [g2.length, g6.length]; exact h4, p _ _ h6 _ _ r2 k2 (.inl .n)⟩
/-! ### statements -/
def wSet (i : Nat) (we : WE) : WS := fun D S => we S fun d S' => d.isO = false ∧ D.nx (S'.set i (.val d))
/-- a new list in a slot: to be changed there -/
def wOwn (i : Nat) (wl : WA) : WS := fun D S => wl S fun ds S' => ∀ q, S'.M q = none → D.nx (S'.set i (.own q ds))
theorem lset {K : PySem.W.Frag} {t : TE} {i : Nat} (hi : i < c.n) (h : ∀ σ H Q, lE K c we σ H Q → t σ H Q) : ∀ D σ H, lS K c (wSet i we) D σ H → tAsg t (gName i) D σ H := fun D σ H h' => by
  obtain ⟨S, Dd, r, h', p⟩ := h'
  refine h _ _ _ ⟨S, _, r, h', fun d S1 h1 H1 v r1 k1 p1 => ?_⟩
  obtain ⟨r2, k2⟩ := r1.setV (i := i) (p1.pure h1.1) (by rw [r1.cn]; exact hi)
  exact p.nx _ h1.2 _ _ r2 (k1.trans k2)
theorem lown {K : PySem.W.Frag} {t : TE} {i : Nat} (hi : i < c.n) (h : ∀ σ H Q, lL K c wl σ H Q → t σ H Q) : ∀ D σ H, lS K c (wOwn i wl) D σ H → tAsg t (gName i) D σ H := fun D σ H h' => by
  obtain ⟨S, Dd, r, h', p⟩ := h'
  refine h _ _ _ ⟨S, _, r, h', fun ds S1 h1 H1 q vs r1 k1 nq p1 _ => ?_⟩
  obtain ⟨r2, k2⟩ := r1.setO (i := i) nq p1 (by rw [r1.cn]; exact hi)
  refine p.nx _ (h1 q ?_) _ _ r2 (k1.trans k2)
  cases e : S1.M q with
  | none => rfl
  | some m => exact absurd (Or.inr (Or.inr (by rw [e]; exact fun z => by cases z))) (r1.notA nq)
theorem s_set {i : Nat} {x : Str} {pos' : Pos} (hN : X.N.Nodup) (hi : X.N[i]? = some x) (hx : Loc X.env.scope x) (hn : i < c.n) (he : PE X e (lE X.K c we)) (hs : swapsWith e (some (.Name x pos')) pos.line X.env = pure false := by rfl)
    (hf : X.fn x = true ∨ X.env.scope.names.lookup x = some .local := by first | exact .inl rfl | exact .inr rfl) : PS X (.Assign [.Name x pos'] e pos) (lS X.K c (wSet i we)) := ps_imp (ps_set hN hi hx he hs hf) (lset hn fun _ _ _ h => h)
theorem s_own {i : Nat} {x : Str} {pos' : Pos} (hN : X.N.Nodup) (hi : X.N[i]? = some x) (hx : Loc X.env.scope x) (hn : i < c.n) (he : PE X e (lL X.K c wl)) (hs : swapsWith e (some (.Name x pos')) pos.line X.env = pure false := by rfl)
    (hf : X.fn x = true ∨ X.env.scope.names.lookup x = some .local := by first | exact .inl rfl | exact .inr rfl) : PS X (.Assign [.Name x pos'] e pos) (lS X.K c (wOwn i wl)) := ps_imp (ps_set hN hi hx he hs hf) (lown hn fun _ _ _ h => h)
def wDrop (we : WE) : WS := fun D S => we S fun _ S' => D.nx S'
theorem s_expr (he : PE X e (lE X.K c we)) (hs : swapsWith e none pos.line X.env = pure false := by rfl) : PS X (.Expr e pos) (lS X.K c (wDrop we)) := ps_imp (ps_expr he hs) fun D σ H h => by
  obtain ⟨S, Dd, r, h, p⟩ := h
  exact ⟨S, _, r, h, fun d S1 h1 H1 v r1 k1 p1 => p.nx _ h1 _ _ r1 k1⟩
def wRet (we : WE) : WS := fun D S => we S fun d S' => d.isO = false ∧ D.rt d S'
theorem s_ret (he : PE X e (lE X.K c we)) : PS X (.Return (some e) pos) (lS X.K c (wRet we)) := ps_imp (ps_ret he) fun D σ H h => by
  obtain ⟨S, Dd, r, h, p⟩ := h
  exact ⟨S, _, r, h, fun d S1 h1 H1 v r1 k1 p1 => p.rt _ _ h1.2 _ _ _ r1 k1 (p1.pure h1.1)⟩
def wRetN : WS := fun D S => D.rt .n S
theorem s_retN : PS X (.Return none pos) (lS X.K c wRetN) := ps_imp ps_retN fun D σ H h => by
  obtain ⟨S, Dd, r, h, p⟩ := h
  exact p.rt _ _ h _ _ _ r .refl .n
def wSeq (w1 w2 : WS) : WS := fun D S => w1 { D with nx := w2 D } S
def wNx : WS := fun D S => D.nx S
def wBk : WS := fun D S => D.bk S
def wCt : WS := fun D S => D.ct S
theorem ss_nil : PSs X [] (lS X.K c wNx) := pss_imp pss_nil fun D σ H h => by
  obtain ⟨S, Dd, r, h, p⟩ := h
  exact p.nx _ h _ _ r .refl
theorem s_pass : PS X (.Pass pos) (lS X.K c wNx) := ps_imp ps_pass fun D σ H h => by
  obtain ⟨S, Dd, r, h, p⟩ := h
  exact p.nx _ h _ _ r .refl
theorem s_break : PS X (.Break pos) (lS X.K c wBk) := ps_imp ps_break fun D σ H h => by
  obtain ⟨S, Dd, r, h, p⟩ := h
  exact p.bk _ h _ _ r .refl
theorem s_cont : PS X (.Continue pos) (lS X.K c wCt) := ps_imp ps_continue fun D σ H h => by
  obtain ⟨S, Dd, r, h, p⟩ := h
  exact p.ct _ h _ _ r .refl
theorem ss_cons {st : Stmt} {sts : List Stmt} {w1 w2 : WS} (h1 : PS X st (lS X.K c w1)) (h2 : PSs X sts (lS X.K c w2)) : PSs X (st :: sts) (lS X.K c (wSeq w1 w2)) := pss_imp (pss_cons h1 h2) fun D σ H h => by
  obtain ⟨S, Dd, r, h, p⟩ := h
  exact ⟨S, _, r, h, ⟨fun S' h' σ' H' r' k' => ⟨S', Dd, r', h', p.at k'⟩, p.rt, p.bk, p.ct⟩⟩
theorem ss_one {st : Stmt} {w1 : WS} (h1 : PS X st (lS X.K c w1)) : PSs X [st] (lS X.K c w1) := pss_one h1
def wIf (wt : WT) (w1 w2 : WS) : WS := fun D S => wt S fun k S' => if k = true then w1 D S' else w2 D S'
theorem s_if {t : Expr} {l1 l2 : List Stmt} {w1 w2 : WS} (ht : PT X t (lT X.K c wt)) (h1 : PSs X l1 (lS X.K c w1)) (h2 : PSs X l2 (lS X.K c w2)) : PS X (.If t l1 l2 pos) (lS X.K c (wIf wt w1 w2)) := ps_imp (ps_if ht h1 h2) fun D σ H h => by
  obtain ⟨S, Dd, r, h, p⟩ := h
  exact ⟨S, _, r, h, fun k S1 h1 H1 r1 k1 => ite_of h1 (fun h2 => ⟨S1, Dd, r1, h2, p.at k1⟩) fun h2 => ⟨S1, Dd, r1, h2, p.at k1⟩⟩
def wWhile (wt : WT) (wb : WS) : WS := fun D S => ∃ W : Nat → Sx → Prop, (∃ m, W m S) ∧ ∀ m S, W m S → wt S fun k S1 => if k = true then wb { D with nx := fun S' => ∃ m', m' < m ∧ W m' S', ct := fun S' => ∃ m', m' < m ∧ W m' S', bk := D.nx } S1 else D.nx S1
theorem s_while {t : Expr} {l1 : List Stmt} {wb : WS} (hp : PassesOwn (model X.prog X.w) X.A X.env X.xe) (ht : PT X t (lT X.K c wt)) (h1 : PSs X l1 (lS X.K c wb)) : PS X (.While t l1 [] pos) (lS X.K c (wWhile wt wb)) := ps_imp (ps_while hp ht h1) fun D σ H h => by
  obtain ⟨S, Dd, r, ⟨W, ⟨m0, h0⟩, turn⟩, p⟩ := h
  refine ⟨fun m σ' H' => ∃ S', Rel X.K c S' σ' H' ∧ Kp S.W S'.W H H' ∧ W m S', ⟨m0, S, r, .refl, h0⟩, fun m σ1 H1 ⟨S1, r1, k1, h1⟩ => ⟨S1, _, r1, turn m S1 h1, fun k S2 h2 H2 r2 k2 => ?_⟩⟩
  have pk := p.at (k1.trans k2)
  refine ite_of h2 (fun h3 => ⟨fun σ' H' => ∃ S' m', Rel X.K c S' σ' H' ∧ Kp S.W S'.W H H' ∧ m' < m ∧ W m' S', fun σ' H' ⟨S', m', a1, a2, a3, a4⟩ => ⟨m', a3, S', a1, a2, a4⟩, S2, _, r2, h3, ?_⟩) fun h3 => p.nx _ h3 _ _ r2 (k1.trans k2)
  exact ⟨fun S' ⟨m', l, w⟩ σ' H' r' k' => ⟨S', m', r', (k1.trans k2).trans k', l, w⟩, pk.rt, pk.nx, fun S' ⟨m', l, w⟩ σ' H' r' k' => ⟨S', m', r', (k1.trans k2).trans k', l, w⟩⟩
end
end VL
set_option Elab.async false
set_option linter.all false
set_option maxRecDepth 100000
set_option maxHeartbeats 1000000
namespace VL
open PySem PySem.Spec PyProof.Rows L2
/-! ### targets -/
abbrev WG := Da → Sx → (Sx → Prop) → Prop
structure LG (K : PySem.W.Frag) (c : Cq) (g : TG) (wg : WG) (is : List Nat) : Prop where
  run : ∀ x d S σ H (Qd : Sx → Prop) (Q : L2.St → Hp → Prop), Rel K c S σ H → Rp K (S.A c) H x d → wg d S Qd →
    (∀ S' σ', Qd S' → Rel K c S' σ' H → Kp S.W S'.W H H → (∀ j, j ∉ is → σ'[j]? = σ[j]?) → σ'.length = σ.length → Q σ' H) → g x σ H Q
structure LGs (K : PySem.W.Frag) (c : Cq) (g : TGs) (wg : List Da → Sx → (Sx → Prop) → Prop) (is : List Nat) : Prop where
  run : ∀ xs ds S σ H (Qd : Sx → Prop) (Q : L2.St → Hp → Prop), Rel K c S σ H → RpA K (S.A c) H xs ds → wg ds S Qd →
    (∀ S' σ', Qd S' → Rel K c S' σ' H → Kp S.W S'.W H H → (∀ j, j ∉ is → σ'[j]? = σ[j]?) → σ'.length = σ.length → Q σ' H) → g xs σ H Q
section
variable {K : PySem.W.Frag} {c : Cq}
def wgN (i : Nat) : WG := fun d S Q => Q (S.set i (.val d))
theorem lgN {i : Nat} (hi : i < c.n) : LG K c (gName i) (wgN i) [i] := ⟨fun x d S σ H Qd Q r rp h q => by
  obtain ⟨r2, k2⟩ := r.setV (i := i) rp (by rw [r.cn]; exact hi)
  exact q _ _ h r2 k2 (fun j hj => by rw [List.getElem?_set_ne (fun e => hj (by simp [e]))]) (by simp)⟩
def wgNil : List Da → Sx → (Sx → Prop) → Prop := fun ds S Q => match ds with
  | [] => Q S
  | _ => False
def wgCons (wg : WG) (wr : List Da → Sx → (Sx → Prop) → Prop) : List Da → Sx → (Sx → Prop) → Prop := fun ds S Q => match ds with
  | d :: ds => wg d S fun S1 => wr ds S1 Q
  | _ => False
theorem lgs_nil : LGs K c gNil wgNil [] := ⟨fun xs ds S σ H Qd Q r rp h q => by
  cases rp with
  | nil => exact ⟨rfl, q _ _ h r .refl (fun _ _ => rfl) rfl⟩
  | cons _ _ => exact h.elim⟩
theorem lgs_cons {g : TG} {gr : TGs} {wg : WG} {wr : List Da → Sx → (Sx → Prop) → Prop} {is js : List Nat} (L : LG K c g wg is) (R : LGs K c gr wr js) : LGs K c (gCons g gr) (wgCons wg wr) (is ++ js) := ⟨fun xs ds S σ H Qd Q r rp h q => by
  cases rp with
  | nil => exact h.elim
  | cons h1 h2 =>
    refine ⟨_, _, rfl, L.run _ _ S σ H _ _ r h1 h fun S1 σ1 e1 r1 k1 s1 l1 => ?_⟩
    refine R.run _ _ S1 σ1 H _ _ r1 (h2.kp (kA k1)) e1 fun S2 σ2 e2 r2 k2 s2 l2 => ?_
    exact q _ _ e2 r2 (k1.trans k2) (fun j hj => by
      rw [List.mem_append] at hj
      rw [s2 j (fun z => hj (.inr z)), s1 j (fun z => hj (.inl z))]) (l2.trans l1)⟩
def wgT (wr : List Da → Sx → (Sx → Prop) → Prop) : WG := fun d S Q => match d with
  | .t ds => wr ds S Q
  | _ => False
theorem lgT {n : Nat} {gr : TGs} {wr : List Da → Sx → (Sx → Prop) → Prop} {js : List Nat} (R : LGs K c gr wr js) (hl : ∀ ds S Q, wr ds S Q → ds.length = n) : LG K c (gTup K n gr) (wgT wr) js := ⟨fun x d S σ H Qd Q r rp h q => by
  cases rp <;> try exact h.elim
  rename_i h1 h2
  refine ⟨_, _, rfl, h1, by rw [h2.length]; exact hl _ _ _ h, ?_⟩
  exact R.run _ _ S σ H _ _ r h2 h q⟩
theorem len0 : ∀ ds S Q, wgNil ds S Q → ds.length = 0 := fun ds S Q h => by
  cases ds with
  | nil => rfl
  | cons _ _ => exact h.elim
end
/-! ### what is walked -/
abbrev WI := WA
def ItOk (K : PySem.W.Frag) (c : Cq) (J : It) (ds : List Da) (W : Addr → Prop) (H : Hp) : Prop := ∀ H2 (W2 : Addr → Prop), Kp W W2 H H2 → ∀ i,
  (∀ d, ds[i]? = some d → J.go i H2 ∧ ∀ x H3, J.yld i H2 x H3 → Same H2 H3 ∧ Rp K (fun a => c.A0 a ∨ W2 a) H3 x d) ∧ (ds.length ≤ i → J.stop i H2)
def lWk (K : PySem.W.Frag) (c : Cq) (wi : WI) : TI := fun σ H R => ∃ S Qd, Rel K c S σ H ∧ wi S Qd ∧ ∀ ds S', Qd ds S' → ∀ H' J, Rel K c S' σ H' → Kp S.W S'.W H H' → ItOk K c J ds S'.W H' → R J H'
theorem pi_imp {X : Cx} {tg e : Expr} {t t' : TI} (h : PI X tg e t) (i : ∀ σ H Q, t' σ H Q → t σ H Q) : PI X tg e t' := ⟨fun pins s σ H Q I hq => h.run pins s σ H Q I (i σ H Q hq)⟩
section
variable {X : Cx} {c : Cq} {pos p apos : Pos} {e a b tg : Expr} {es rest : List Expr} {we wa wb : WE} {wt wu : WT} {wl wr : WA}
/-- a list or a tuple that stands still -/
def wSq (we : WE) : WI := fun S Q => we S fun d S' => match d with
  | .l ds => Q ds S'
  | .t ds => Q ds S'
  | _ => False
theorem it_list {K : PySem.W.Frag} {q : Addr} {vs : List V} {ds : List Da} {W A : Addr → Prop} {H : Hp} (hq : H q = some (.lst vs)) (nW : ¬ (c.A0 q ∨ W q)) (ha : RpA K (fun a => c.A0 a ∨ W a) H vs ds) : ItOk K c (Itl K q) ds W H := fun H2 W2 k i => by
  have e2 : H2 q = some (.lst vs) := k.keep _ _ hq (.inl fun z => nW (.inr z))
  refine ⟨fun d hd => ?_, fun hl => ⟨vs, SqL.of e2, by rw [ha.length]; exact hl⟩⟩
  obtain ⟨v, hv, rv⟩ := ha.get hd
  refine ⟨⟨vs, v, SqL.of e2, hv⟩, fun x H3 hy => ?_⟩
  obtain ⟨rfl, hy⟩ := hy
  have := hy vs (SqL.of e2)
  rw [hv] at this
  cases this
  exact ⟨Same.refl _, rv.kp k.or⟩
theorem it_tup {K : PySem.W.Frag} {q : Addr} {vs : List V} {ds : List Da} {W A : Addr → Prop} {H : Hp} (hq : SqT K H q vs) (ha : RpA K (fun a => c.A0 a ∨ W a) H vs ds) : ItOk K c (Itt K q) ds W H := fun H2 W2 k i => by
  have e2 := sqt_kp k hq
  refine ⟨fun d hd => ?_, fun hl => ⟨vs, e2, by rw [ha.length]; exact hl⟩⟩
  obtain ⟨v, hv, rv⟩ := ha.get hd
  refine ⟨⟨vs, v, e2, hv⟩, fun x H3 hy => ?_⟩
  obtain ⟨rfl, hy⟩ := hy
  have := hy vs e2
  rw [hv] at this
  cases this
  exact ⟨Same.refl _, rv.kp k.or⟩
/-- of one value: a list or a tuple -/
theorem pi_lt {l : Expr} {tl : TE} (hl : PE X l tl) : PI X tg l (fun σ H R => tl σ H fun x H1 => ∃ a, x = .ref a ∧ (((∃ xs, SqL X.K H1 a xs) ∧ R (Itl X.K a) H1) ∨ ((∃ xs, SqT X.K H1 a xs) ∧ R (Itt X.K a) H1))) := by
  refine ⟨fun pins s σ H R I h => ?_⟩
  refine thn (hl.run pins s σ H _ I h) fun v s1 ⟨x, H1, I1, r1, a, e, q1⟩ => ?_
  subst e
  cases r1
  rcases q1 with ⟨⟨xs, hq⟩, q⟩ | ⟨⟨xs, hq⟩, q⟩
  · obtain ⟨its, rv, pl, hz⟩ := I1.list hq
    refine wpAny_pyIter_list pl.isList ⟨_, [s1.heap.objs.size], _, _, H1, rfl, I1.kept (t' := s1.toks) fun b o e => Heap.get?_push_of_some _ e, turn_list a _, ⟨_, Heap.get?_push_size _ rfl, rfl, rfl⟩, fun b hb => ?_, q⟩
    obtain rfl := List.mem_singleton.mp hb
    exact I1.fpOk (Nat.le_refl _) (I1.hok.fresh (Nat.le_refl _))
  · obtain ⟨its, rv, pl, hz⟩ := I1.tuple hq
    refine wpAny_pyIter_tuple (show s1.heap.IsTuple a its.toArray from pl) ⟨_, [s1.heap.objs.size], _, _, H1, rfl, I1.kept (t' := s1.toks) fun b o e => Heap.get?_push_of_some _ e, turn_tuple a _, ⟨_, Heap.get?_push_size _ rfl, rfl, rfl⟩, fun b hb => ?_, q⟩
    obtain rfl := List.mem_singleton.mp hb
    exact I1.fpOk (Nat.le_refl _) (I1.hok.fresh (Nat.le_refl _))
theorem i_sq (he : PE X e (lE X.K c we)) : PI X tg e (lWk X.K c (wSq we)) := pi_imp (pi_lt he) fun σ H R h => by
  obtain ⟨S, Qd, r, h, p⟩ := h
  refine ⟨S, _, r, h, fun d S1 h1 H1 v r1 k1 p1 => ?_⟩
  cases d <;> try exact h1.elim
  · obtain ⟨q, vs, rfl, g1, g2⟩ := tup_ok p1
    exact ⟨q, rfl, .inr ⟨⟨vs, g1⟩, p _ _ h1 _ _ r1 k1 (it_tup (A := fun _ => False) g1 g2)⟩⟩
  · cases p1.pure rfl with
    | l g1 g2 g3 => exact ⟨_, rfl, .inl ⟨⟨_, SqL.of g1⟩, p _ _ h1 _ _ r1 k1 (it_list (A := fun _ => False) g1 g2 g3)⟩⟩
/-- range(n) -/
def rngD (lo : Int) (n : Nat) : List Da := (List.range n).map fun (k : Nat) => Da.i (lo + (k : Int))
def wRng1 (we : WE) : WI := fun S Q => we S fun d S' => match d with
  | .i k => -(2 ^ 62) ≤ k ∧ k < 2 ^ 62 ∧ Q (rngD 0 k.toNat) S'
  | _ => False
def wRng2 (wa wb : WE) : WI := fun S Q => wa S fun d S1 => wb S1 fun e S2 => match d, e with
  | .i i, .i j => (-(2 ^ 62) ≤ i ∧ i < 2 ^ 62 ∧ -(2 ^ 62) ≤ j ∧ j < 2 ^ 62) ∧ Q (rngD i (j - i).toNat) S2
  | _, _ => False
theorem it_rng {K : PySem.W.Frag} {lo : Int} {n : Nat} {W : Addr → Prop} {H : Hp} : ItOk K c (Itr lo n) (rngD lo n) W H := fun H2 W2 k i => by
  refine ⟨fun d hd => ?_, fun hl => by
    show n ≤ i
    simpa [rngD] using hl⟩
  unfold rngD at hd
  rw [List.getElem?_map] at hd
  cases q : (List.range n)[i]? with
  | none => rw [q] at hd; cases hd
  | some j =>
    rw [q] at hd
    cases hd
    have hi : i < n := by
      have := (List.getElem?_eq_some_iff.mp q).1
      simpa using this
    have hj : j = i := by
      rw [List.getElem?_range hi] at q
      exact (Option.some.inj q).symm
    subst hj
    exact ⟨hi, fun x H3 ⟨e1, e2⟩ => ⟨by rw [e1]; exact Same.refl _, by rw [e2]; exact .i _⟩⟩
theorem i_rng1 (hg : Gl X "range") (hm : X.mg "range" = none) (ha : PE X a (lE X.K c wa)) (hs0 : starEach [a] X.env = (false, eval a X.env) :: starEach [] X.env := by rfl) (hs : starEach [a] X.env = [(false, eval a X.env)] := by rfl) : PI X tg (.Call (.Name "range" p) [a] [] pos) (lWk X.K c (wRng1 wa)) :=
  pi_imp (pi_range1 hg hm (pa_cons ha pa_nil hs0) hs) fun σ H R h => by
  obtain ⟨S, Qd, r, h, p⟩ := h
  refine ⟨S, _, r, h, fun d S1 h1 H1 v r1 k1 p1 => ?_⟩
  cases d <;> try exact h1.elim
  rw [rs_i p1]
  exact ⟨_, rfl, h1.1, h1.2.1, p _ _ h1.2.2 _ _ r1 k1 it_rng⟩
theorem i_rng2 (hg : Gl X "range") (hm : X.mg "range" = none) (ha : PE X a (lE X.K c wa)) (hb : PE X b (lE X.K c wb)) (hs0 : starEach [a, b] X.env = (false, eval a X.env) :: starEach [b] X.env := by rfl) (hs1 : starEach [b] X.env = (false, eval b X.env) :: starEach [] X.env := by rfl)
    (hs : starEach [a, b] X.env = [(false, eval a X.env), (false, eval b X.env)] := by rfl) (hs2 : starEach [b] X.env = [(false, eval b X.env)] := by rfl) : PI X tg (.Call (.Name "range" p) [a, b] [] pos) (lWk X.K c (wRng2 wa wb)) :=
  pi_imp (pi_range2 hg hm (pa_cons ha (pa_cons hb pa_nil hs1) hs0) hs hs2) fun σ H R h => by
  obtain ⟨S, Qd, r, h, p⟩ := h
  refine ⟨S, _, r, h, fun d S1 h1 H1 v r1 k1 p1 => ⟨S1, _, r1, h1, fun e S2 h2 H2 u r2 k2 p2 => ?_⟩⟩
  cases d <;> cases e <;> try exact h2.elim
  rw [rs_i p1, rs_i p2]
  exact ⟨_, _, rfl, h2.1, p _ _ h2.2 _ _ r2 (k1.trans k2) it_rng⟩
/-! ### for -/
def forGo (wg : WG) (wb : WS) (D : Dn) : List Da → Sx → Prop
  | [], S => D.nx S
  | d :: ds, S => wg d S fun S2 => wb { D with nx := forGo wg wb D ds, ct := forGo wg wb D ds, bk := D.nx } S2
def wFor (wi : WI) (wg : WG) (wb : WS) : WS := fun D S => wi S fun ds S1 => forGo wg wb D ds S1
theorem s_for {iter : Expr} {body : List Stmt} {wi : WI} {g : TG} {wg : WG} {wb : WS} {is : List Nat} (hp : PassesOwn (model X.prog X.w) X.A X.env X.xe) (hc : X.calm = true) (hi : PI X tg iter (lWk X.K c wi)) (hg : PG X tg g) (L : LG X.K c g wg is) (hb : PSs X body (lS X.K c wb))
    (hs : ∀ x, foldedSetIterable iter X.env x = pure x := by intro _; rfl) : PS X (.For tg iter body [] pos) (lS X.K c (wFor wi wg wb)) := ps_imp (ps_for hp hc hi hg hb hs) fun D σ H h => by
  obtain ⟨S, Dd, r, h, p⟩ := h
  refine ⟨S, _, r, h, fun ds S1 h1 H1 J r1 k1 ok => ?_⟩
  refine ⟨fun i m σ2 H2 => m = ds.length - i ∧ i ≤ ds.length ∧ ∃ S2, Rel X.K c S2 σ2 H2 ∧ Kp S1.W S2.W H1 H2 ∧ forGo wg wb Dd (ds.drop i) S2, ⟨ds.length, by simp, Nat.zero_le _, S1, r1, .refl, by simpa using h1⟩, ?_⟩
  rintro i m σ2 H2 ⟨rfl, hi, S2, r2, k2, h2⟩
  obtain ⟨go, stop⟩ := ok H2 S2.W k2 i
  by_cases hlt : i < ds.length
  · refine .inr ⟨(go ds[i] (List.getElem?_eq_getElem hlt)).1, fun σ' H' => ∃ S', Rel X.K c S' σ' H' ∧ Kp S1.W S'.W H1 H' ∧ forGo wg wb Dd (ds.drop (i + 1)) S', fun σ' H' ⟨S', a1, a2, a3⟩ => ⟨ds.length - (i + 1), by omega, rfl, hlt, S', a1, a2, a3⟩, fun x H3 hy => ?_⟩
    obtain ⟨sm, rx⟩ := (go ds[i] (List.getElem?_eq_getElem hlt)).2 x H3 hy
    rw [List.drop_eq_getElem_cons hlt] at h2
    have r3 := r2.same sm
    have k3 : Kp S2.W S2.W H2 H3 := .same sm
    refine L.run x ds[i] S2 σ2 H3 _ _ r3 rx h2 fun S4 σ4 h4 r4 k4 _ _ => ⟨S4, _, r4, h4, ?_⟩
    have kk := (k2.trans k3).trans k4
    have pk := p.at (k1.trans kk)
    exact ⟨fun S' h' σ' H' r' k' => ⟨S', r', kk.trans k', h'⟩, pk.rt, pk.nx, fun S' h' σ' H' r' k' => ⟨S', r', kk.trans k', h'⟩⟩
  · have e : i = ds.length := by omega
    subst e
    rw [List.drop_length] at h2
    exact .inl ⟨stop (Nat.le_refl _), p.nx _ h2 _ _ r2 (k1.trans k2)⟩
end
end VL
set_option Elab.async false
set_option linter.all false
set_option maxRecDepth 100000
set_option maxHeartbeats 1000000
namespace VL
open PySem PySem.Spec PyProof.Rows L2
def wipeR (ρ : List Slx) : List Nat → List Slx
  | [] => ρ
  | v :: vs => (wipeR ρ vs).set v .no
def kept (ρ : List Slx) (v : Nat) : Slx := match ρ[v]? with
  | some (.val d) => .val d
  | _ => .no
def backR (ρ0 ρ : List Slx) : List Nat → List Slx
  | [] => ρ
  | v :: vs => (backR ρ0 ρ vs).set v (kept ρ0 v)
def Sx.wipe (S : Sx) (vs : List Nat) : Sx := ⟨wipeR S.ρ vs, S.M⟩
def Sx.back (S S4 : Sx) (vs : List Nat) : Sx := ⟨backR S.ρ S4.ρ vs, S4.M⟩
/-- the block's names are no lists of one's own -/
def Sx.norm (S : Sx) (vs : List Nat) : Sx := S.back S vs
section
variable {K : PySem.W.Frag} {c : Cq} {S S1 S' : Sx} {σ σ' : L2.St} {H H1 H' : Hp}
theorem wipeR_length (ρ : List Slx) : ∀ vs, (wipeR ρ vs).length = ρ.length
  | [] => rfl
  | v :: vs => by unfold wipeR; rw [List.length_set, wipeR_length ρ vs]
theorem backR_length (ρ0 ρ : List Slx) : ∀ vs, (backR ρ0 ρ vs).length = ρ.length
  | [] => rfl
  | v :: vs => by unfold backR; rw [List.length_set, backR_length ρ0 ρ vs]
theorem wipeR_get {ρ : List Slx} {j : Nat} {x : Slx} : ∀ {vs : List Nat}, (wipeR ρ vs)[j]? = some x → x = .no ∨ (ρ[j]? = some x ∧ j ∉ vs)
  | [], h => .inr ⟨h, by simp⟩
  | v :: vs, h => by
    unfold wipeR at h
    rcases get_set h with ⟨_, e⟩ | ⟨ne, e⟩
    · exact .inl e.symm
    · rcases wipeR_get e with e | ⟨e1, e2⟩
      · exact .inl e
      · exact .inr ⟨e1, by rw [List.mem_cons, not_or]; exact ⟨Ne.symm ne, e2⟩⟩
theorem backR_get {ρ0 ρ : List Slx} {j : Nat} {x : Slx} : ∀ {vs : List Nat}, (backR ρ0 ρ vs)[j]? = some x → (j ∈ vs ∧ x = kept ρ0 j) ∨ (j ∉ vs ∧ ρ[j]? = some x)
  | [], h => .inr ⟨by simp, h⟩
  | v :: vs, h => by
    unfold backR at h
    rcases get_set h with ⟨e1, e⟩ | ⟨ne, e⟩
    · subst e1
      exact .inl ⟨by simp, e.symm⟩
    · rcases backR_get e with ⟨e1, e2⟩ | ⟨e1, e2⟩
      · exact .inl ⟨by simp [e1], e2⟩
      · exact .inr ⟨by rw [List.mem_cons, not_or]; exact ⟨Ne.symm ne, e1⟩, e2⟩
theorem wipe_get {σ : L2.St} {j : Nat} : ∀ {vs : List Nat}, j ∉ vs → (wipe σ vs)[j]? = σ[j]?
  | [], _ => rfl
  | v :: vs, h => by
    rw [List.mem_cons, not_or] at h
    unfold wipe
    rw [List.getElem?_set_ne (Ne.symm h.1), wipe_get h.2]
theorem wipe_in {σ : L2.St} {j : Nat} : ∀ {vs : List Nat}, j ∈ vs → j < σ.length → (wipe σ vs)[j]? = some none
  | [], h, _ => by simp at h
  | v :: vs, h, hl => by
    unfold wipe
    by_cases e : v = j
    · subst e
      rw [List.getElem?_set_self (by rw [wipe_length]; exact hl)]
    · rw [List.getElem?_set_ne e]
      exact wipe_in ((List.mem_cons.mp h).resolve_left (fun z => e z.symm)) hl
theorem wipe_eq {vs : List Nat} (hl : σ'.length = σ.length) (h : ∀ j, j ∉ vs → σ'[j]? = σ[j]?) : wipe σ' vs = wipe σ vs := by
  refine List.ext_getElem? fun j => ?_
  by_cases hj : j ∈ vs
  · by_cases hlt : j < σ.length
    · rw [wipe_in hj hlt, wipe_in hj (by rw [hl]; exact hlt)]
    · rw [List.getElem?_eq_none (by rw [wipe_length]; omega), List.getElem?_eq_none (by rw [wipe_length]; omega)]
  · rw [wipe_get hj, wipe_get hj, h j hj]
theorem Rel.wipe (r : Rel K c S σ H) (vs : List Nat) : Rel K c (S.wipe vs) (L2.wipe σ vs) H ∧ Kp S.W (S.wipe vs).W H H := by
  have k : Kp S.W (S.wipe vs).W H H := by
    refine Kp.refl.sub fun b z => ?_
    rcases z with ⟨j, ds, z⟩ | z
    · rcases wipeR_get z with e | ⟨e, _⟩
      · cases e
      · exact .inl ⟨j, ds, e⟩
    · exact .inr z
  refine ⟨r.next k (by rw [wipe_length]; exact r.len.trans (wipeR_length _ _).symm) (wipeR_length _ _) (fun j d he => ?_) (fun j p ds he => ?_) (fun i j p ds es h1 h2 => ?_) (fun j p ds he => ?_) (fun a m e => (r.mem a m e).kp (kA k) fun _ z => z), k⟩
  · rcases wipeR_get he with e | ⟨e, nj⟩
    · cases e
    · obtain ⟨v, h1, h2⟩ := r.val j d e
      exact ⟨v, by rw [wipe_get nj]; exact h1, h2.kp (kA k)⟩
  · rcases wipeR_get he with e | ⟨e, nj⟩
    · cases e
    · obtain ⟨h1, vs, h2, h3⟩ := r.own j p ds e
      exact ⟨by rw [wipe_get nj]; exact h1, vs, h2, h3.kp (kA k)⟩
  · rcases wipeR_get h1 with e | ⟨e1, _⟩
    · cases e
    · rcases wipeR_get h2 with e | ⟨e2, _⟩
      · cases e
      · exact r.inj i j p ds es e1 e2
  · rcases wipeR_get he with e | ⟨e, nj⟩
    · cases e
    · exact r.sep j p ds e
/-- behind a comprehension's turn -/
theorem Rel.back {S4 : Sx} {vs : List Nat} (r : Rel K c S σ H) (r4 : Rel K c S4 σ' H') (k : Kp S.W S4.W H H') (hl : σ'.length = σ.length) (hs : ∀ j, j ∉ vs → σ'[j]? = σ[j]?) : Rel K c (S.back S4 vs) σ H' ∧ Kp S4.W (S.back S4 vs).W H' H' := by
  have k4 : Kp S4.W (S.back S4 vs).W H' H' := by
    refine Kp.refl.sub fun b z => ?_
    rcases z with ⟨j, ds, z⟩ | z
    · rcases backR_get z with ⟨_, e⟩ | ⟨_, e⟩
      · unfold kept at e
        split at e <;> cases e
      · exact .inl ⟨j, ds, e⟩
    · exact .inr z
  have no : ∀ {j : Nat} {p : Addr} {ds : List Da}, (backR S.ρ S4.ρ vs)[j]? = some (Slx.own p ds) → j ∉ vs ∧ S4.ρ[j]? = some (Slx.own p ds) := fun {j p ds} e => by
    rcases backR_get e with ⟨_, e⟩ | ⟨nj, e⟩
    · unfold kept at e
      split at e <;> cases e
    · exact ⟨nj, e⟩
  refine ⟨r4.next k4 (by rw [← hl]; exact r4.len.trans (backR_length _ _ _).symm) (backR_length _ _ _) (fun j d he => ?_) (fun j p ds he => ?_) (fun i j p ds es h1 h2 => r4.inj i j p ds es (no h1).2 (no h2).2) (fun j p ds he => r4.sep j p ds (no he).2) (fun a m e => (r4.mem a m e).kp (kA k4) fun _ z => z), k4⟩
  · rcases backR_get he with ⟨hj, e⟩ | ⟨nj, e⟩
    · unfold kept at e
      split at e
      · rename_i d' q
        cases e
        obtain ⟨v, h1, h2⟩ := r.val j d q
        exact ⟨v, h1, h2.kp (kA (k.trans k4))⟩
      · cases e
    · obtain ⟨v, h1, h2⟩ := r4.val j d e
      exact ⟨v, by rw [← hs j nj]; exact h1, h2.kp (kA k4)⟩
  · obtain ⟨nj, e⟩ := no he
    obtain ⟨h1, ws, h2, h3⟩ := r4.own j p ds e
    exact ⟨by rw [← hs j nj]; exact h1, ws, h2, h3.kp (kA k4)⟩
/-- with a new object that nothing knows -/
def Cq.plus (c : Cq) (D : Addr) : Cq := ⟨fun a => c.A0 a ∨ a = D, c.W0, c.H0, c.n⟩
theorem Rel.plus (r : Rel K c S σ H) {D : Addr} {o : HO} (nD : H D = none) : Rel K (c.plus D) S σ (upd H D o) ∧ Kp S.W S.W H (upd H D o) := by
  have s : Same H (upd H D o) := same_upd nD
  have k : Kp (S.A c) (S.A (c.plus D)) H (upd H D o) := by
    refine ⟨fun b u e _ => s b u e, fun b z => ?_⟩
    rcases z with (z | z) | z
    · exact .inl (.inl z)
    · subst z
      exact .inr nD
    · exact .inl (.inr z)
  refine ⟨⟨r.len, r.cn, fun i d e => ?_, fun i p ds e => ?_, r.inj, r.sep, fun a m e => (r.mem a m e).kp k (s a), fun a z => ?_, r.kp.trans (.same s)⟩, .same s⟩
  · obtain ⟨v, h1, h2⟩ := r.val i d e
    exact ⟨v, h1, h2.kp k⟩
  · obtain ⟨h1, vs, h2, h3⟩ := r.own i p ds e
    exact ⟨h1, vs, s _ _ h2, h3.kp k⟩
  · rcases z with z | z
    · obtain ⟨h1, h2⟩ := r.a0 a z
      refine ⟨fun q => ?_, h2⟩
      cases e : H a with
      | none => exact h1 e
      | some u => rw [s _ _ e] at q; cases q
    · subst z
      exact ⟨(fun q => by rw [upd_same] at q; cases q), fun z => r.notA nD (.inr z)⟩
/-- the unknown object changes -/
theorem Rel.upD {D : Addr} (r : Rel K (c.plus D) S σ H) {o o' : HO} (e : H D = some o) (mu : Mut (some o)) (nk : ∀ u, c.H0 D = some u → ¬ (¬ c.W0 D ∨ ¬ Mut (some u))) : Rel K (c.plus D) S σ (upd H D o') := by
  have nW : ¬ S.W D := (r.a0 D (.inr rfl)).2
  have keep : ∀ b u, H b = some u → (¬ S.A (c.plus D) b ∨ ¬ Mut (some u)) → upd H D o' b = some u := fun b u eb z => by
    have : b ≠ D := fun q => by
      subst q
      rcases z with z | z
      · exact z (.inl (.inr rfl))
      · rw [e] at eb
        cases eb
        exact z mu
    rw [upd_ne this]
    exact eb
  have k : Kp (S.A (c.plus D)) (S.A (c.plus D)) H (upd H D o') := ⟨keep, fun b z => .inl z⟩
  have ne : ∀ {a : Addr}, S.W a → a ≠ D := fun z q => by subst q; exact nW z
  refine ⟨r.len, r.cn, fun i d he => ?_, fun i p ds he => ?_, r.inj, r.sep, fun a m em => (r.mem a m em).kp k fun u z => ?_, fun a z => ⟨?_, (r.a0 a z).2⟩, ?_⟩
  · obtain ⟨v, h1, h2⟩ := r.val i d he
    exact ⟨v, h1, h2.kp k⟩
  · obtain ⟨h1, vs, h2, h3⟩ := r.own i p ds he
    exact ⟨h1, vs, by rw [upd_ne (ne (.inl ⟨i, ds, he⟩))]; exact h2, h3.kp k⟩
  · rw [upd_ne (ne (.inr (by rw [em]; exact fun q => by cases q)))]
    exact z
  · by_cases q : a = D
    · rw [q, upd_same]
      exact fun q => by cases q
    · rw [upd_ne q]
      exact (r.a0 a z).1
  · refine ⟨fun b u eb z => ?_, fun b z => ?_⟩
    · have : b ≠ D := fun q => by
        subst q
        exact nk u eb z
      rw [upd_ne this]
      exact r.kp.keep b u eb z
    · exact r.kp.mono b z
theorem Rel.nk (r : Rel K c S σ H) {D : Addr} (n : H D = none) : ∀ u, c.H0 D = some u → ¬ (¬ c.W0 D ∨ ¬ Mut (some u)) := fun u e z => by
  have := r.kp.keep D u e z
  rw [n] at this
  cases this
def offH (H : Hp) (D : Addr) : Hp := fun b => if b = D then none else H b
theorem offH_ne {H : Hp} {D b : Addr} (h : b ≠ D) : offH H D b = H b := by unfold offH; rw [if_neg h]
theorem offH_same {H : Hp} {D : Addr} : offH H D D = none := by unfold offH; rw [if_pos rfl]
theorem upd_offH {H : Hp} {D : Addr} {o : HO} (e : H D = some o) : upd (offH H D) D o = H := by
  funext b
  by_cases q : b = D
  · rw [q, upd_same, e]
  · rw [upd_ne q, offH_ne q]
/-- as if the unknown object were not there -/
theorem Rel.minus {D : Addr} (r : Rel K (c.plus D) S σ H) {o : HO} (e : H D = some o) (mu : Mut (some o)) (nA : ¬ c.A0 D) (nk : ∀ u, c.H0 D = some u → ¬ (¬ c.W0 D ∨ ¬ Mut (some u))) :
    Rel K c S σ (offH H D) ∧ Kp (S.A (c.plus D)) (S.A c) H (offH H D) := by
  have nW : ¬ S.W D := (r.a0 D (.inr rfl)).2
  have k : Kp (S.A (c.plus D)) (S.A c) H (offH H D) := by
    refine ⟨fun b u eb z => ?_, fun b z => .inl (z.imp .inl id)⟩
    have : b ≠ D := fun q => by
      subst q
      rcases z with z | z
      · exact z (.inl (.inr rfl))
      · rw [e] at eb
        cases eb
        exact z mu
    rw [offH_ne this]
    exact eb
  have ne : ∀ {a : Addr}, S.W a → a ≠ D := fun z q => by subst q; exact nW z
  refine ⟨⟨r.len, r.cn, fun i d he => ?_, fun i p ds he => ?_, r.inj, r.sep, fun a m em => (r.mem a m em).kp k fun u z => ?_, fun a z => ⟨?_, (r.a0 a (.inl z)).2⟩, ?_⟩, k⟩
  · obtain ⟨v, h1, h2⟩ := r.val i d he
    exact ⟨v, h1, h2.kp k⟩
  · obtain ⟨h1, vs, h2, h3⟩ := r.own i p ds he
    exact ⟨h1, vs, by rw [offH_ne (ne (.inl ⟨i, ds, he⟩))]; exact h2, h3.kp k⟩
  · rw [offH_ne (ne (.inr (by rw [em]; exact fun q => by cases q)))]
    exact z
  · rw [offH_ne (fun q => nA (by rw [← q]; exact z))]
    exact (r.a0 a (.inl z)).1
  · refine ⟨fun b u eb z => ?_, fun b z => ?_⟩
    · have : b ≠ D := fun q => by
        subst q
        exact nk u eb z
      rw [offH_ne this]
      exact r.kp.keep b u eb z
    · exact r.kp.mono b z
end
section
variable {X : Cx} {c : Cq} {pos p apos : Pos} {e a b tg : Expr} {es rest : List Expr} {we wa wb : WE} {wt wu : WT} {wl wr : WA}
/-! ### comprehensions -/
def wYes : WT := fun S Q => Q true S
theorem t_yes {K : PySem.W.Frag} : ∀ σ H Q, lT K c wYes σ H Q → tYes σ H Q := fun σ H Q h => by
  obtain ⟨S, Qd, r, h, p⟩ := h
  exact p _ _ h _ r .refl
theorem pts_imp {X : Cx} {l : List Expr} {t t' : TT} (h : PTs X l t) (i : ∀ σ H Q, t' σ H Q → t σ H Q) : PTs X l t' := ⟨fun pins s σ H Q I hq => h.run pins s σ H Q I (i σ H Q hq)⟩
theorem ts_nil : PTs X [] (lT X.K c wYes) := pts_imp pts_nil t_yes
theorem ts_one {t : Expr} (h : PT X t (lT X.K c wt)) : PTs X [t] (lT X.K c wt) := pts_one h
def lcGo (wg : WG) (wt : WT) (we : WE) (vs : List Nat) (Q : List Da → Sx → Prop) : List Da → List Da → Sx → Prop
  | [], acc, S => Q acc S
  | d :: ds, acc, S => wg d (S.wipe vs) fun S2 => wt S2 fun b S3 => if b = true then we S3 fun y S4 => y.isO = false ∧ acc.length < sizeLine ∧ lcGo wg wt we vs Q ds (acc ++ [y]) (S.back S4 vs) else lcGo wg wt we vs Q ds acc (S.back S3 vs)
def wLc (wi : WI) (wg : WG) (wt : WT) (we : WE) (vs : List Nat) : WA := fun S Q => wi S fun ds S1 => lcGo wg wt we vs Q ds [] (S1.norm vs)
theorem llc {K : PySem.W.Frag} {wi : WI} {g : TG} {wg : WG} {tt : TT} {te : TE} {is vs : List Nat} (L : ∀ c' : Cq, c'.n = c.n → LG K c' g wg is) (hv : ∀ i ∈ is, i ∈ vs) (ht : ∀ c' : Cq, c'.n = c.n → ∀ σ H Q, lT K c' wt σ H Q → tt σ H Q)
    (he : ∀ c' : Cq, c'.n = c.n → ∀ σ H Q, lE K c' we σ H Q → te σ H Q) : ∀ σ H Q, lL K c (wLc wi wg wt we vs) σ H Q → tLc (lWk K c wi) g tt te vs σ H Q := fun σ H Q h => by
  obtain ⟨S, Qd, r, h, p⟩ := h
  refine ⟨S, _, r, h, fun ds S1 h1 H1 J r1 k1 ok D nD => ?_⟩
  have nk := r1.nk nD
  have nA : ¬ c.A0 D := fun z => (r1.a0 D z).1 nD
  obtain ⟨r1', _⟩ := r1.plus (o := .lst []) nD
  have sm1 : Same H1 (upd H1 D (.lst [])) := same_upd nD
  refine ⟨fun i m H2 => m = ds.length - i ∧ i ≤ ds.length ∧ ∃ S2 acc vacc, Rel K (c.plus D) S2 σ H2 ∧ Kp S1.W S2.W H1 H2 ∧ H2 D = some (.lst vacc) ∧ RpA K (S2.A (c.plus D)) H2 vacc acc ∧ acc.length ≤ sizeLine ∧ lcGo wg wt we vs Qd (ds.drop i) acc S2,
    ⟨ds.length, by simp, Nat.zero_le _, S1.norm vs, [], [], (r1'.back r1' .refl rfl fun _ _ => rfl).1, (Kp.same sm1).trans (r1'.back r1' .refl rfl fun _ _ => rfl).2, upd_same, .nil, Nat.zero_le _, by simpa using h1⟩, ?_⟩
  rintro i m H2 ⟨rfl, hi, S2, acc, vacc, r2, k2, eD, ra, hz, h2⟩
  obtain ⟨go, stop⟩ := ok H2 (fun a => S2.W a ∨ a = D) ⟨k2.keep, fun b z => z.elim (k2.mono b) fun q => .inr (by rw [q]; exact nD)⟩ i
  by_cases hlt : i < ds.length
  · refine .inr ⟨(go ds[i] (List.getElem?_eq_getElem hlt)).1, fun H' => ∃ S2 acc vacc, Rel K (c.plus D) S2 σ H' ∧ Kp S1.W S2.W H1 H' ∧ H' D = some (.lst vacc) ∧ RpA K (S2.A (c.plus D)) H' vacc acc ∧ acc.length ≤ sizeLine ∧ lcGo wg wt we vs Qd (ds.drop (i + 1)) acc S2,
      fun H' q => ⟨ds.length - (i + 1), by omega, rfl, hlt, q⟩, fun x H3 hy => ?_⟩
    obtain ⟨sm, rx⟩ := (go ds[i] (List.getElem?_eq_getElem hlt)).2 x H3 hy
    rw [List.drop_eq_getElem_cons hlt] at h2
    have r3 := r2.same sm
    have k3 : Kp S2.W S2.W H2 H3 := .same sm
    obtain ⟨rw3, kw3⟩ := r3.wipe vs
    -- the item does not know the new list
    have rx' : Rp K ((S2.wipe vs).A (c.plus D)) H3 x ds[i] := rx.kp ⟨fun b u e _ => e, fun b z => by
      rcases z with (z | z) | z
      · exact .inl (.inl z)
      · exact .inl (.inr (.inr z))
      · exact (kw3.mono b z).imp (fun q => .inr (.inl q)) id⟩
    refine (L (c.plus D) rfl).run x ds[i] _ _ H3 _ _ rw3 rx' h2 fun S4 σ4 h4 r4 k4 s4 l4 => ?_
    have l4' : σ4.length = σ.length := by rw [l4, wipe_length]
    have s4' : ∀ j, j ∉ vs → σ4[j]? = σ[j]? := fun j hj => by
      rw [s4 j (fun z => hj (hv j z)), wipe_get hj]
    refine ⟨wipe_eq l4' s4', ht (c.plus D) rfl _ _ _ ⟨S4, _, r4, h4, fun b S5 h5 H5 r5 k5 => ?_⟩⟩
    have k25 : Kp S2.W S5.W H2 H5 := ((k3.trans kw3).trans k4).trans k5
    have D5 : H5 D = some (.lst vacc) := k25.keep D _ eD (.inl (r2.a0 D (.inr rfl)).2)
    refine ite_of h5 (fun h6 => he (c.plus D) rfl _ _ _ ⟨S5, _, r5, h6, fun y S6 h7 H6 v r6 k6 py => ?_⟩) fun h6 => ?_
    · obtain ⟨py0, hz2, h8⟩ := h7
      have k26 := k25.trans k6
      have D6 : H6 D = some (.lst vacc) := k26.keep D _ eD (.inl (r2.a0 D (.inr rfl)).2)
      obtain ⟨rb, kb⟩ := r2.back r6 k26 l4' s4'
      have kab := kA (c := c.plus D) (k26.trans kb)
      have ra6 := ra.kp kab
      refine ⟨vacc, D6, by rw [ra.length]; exact hz2, S2.back S6 vs, acc ++ [y], vacc ++ [v], rb.upD D6 trivial nk, ?_, upd_same, ?_, by rw [List.length_append]; exact hz2, h8⟩
      · refine ⟨fun b u eb z => ?_, (k2.trans (k26.trans kb)).mono⟩
        rw [upd_ne (ne_of_none eb nD)]
        exact (k2.trans (k26.trans kb)).keep b u eb z
      · refine (ra6.snoc ((py.pure py0).kp (kA kb))).kp ⟨fun b u eb z => ?_, fun b z => .inl z⟩
        have : b ≠ D := fun q => by
          subst q
          rcases z with z | z
          · exact z (.inl (.inr rfl))
          · rw [D6] at eb
            cases eb
            exact z trivial
        rw [upd_ne this]
        exact eb
    · obtain ⟨rb, kb⟩ := r2.back r5 k25 l4' s4'
      exact ⟨S2.back S5 vs, acc, vacc, rb, k2.trans (k25.trans kb), D5, ra.kp (kA (k25.trans kb)), hz, h6⟩
  · have e : i = ds.length := by omega
    subst e
    rw [List.drop_length] at h2
    obtain ⟨rm, km⟩ := r2.minus eD trivial nA nk
    have q := p acc S2 h2 (offH H2 D) D vacc rm ?_ offH_same (ra.kp km) hz
    · rw [upd_offH eD] at q
      exact .inl ⟨stop (Nat.le_refl _), q⟩
    · refine k1.trans ⟨fun b u eb z => ?_, fun b z => k2.mono b z⟩
      rw [offH_ne (ne_of_none eb nD)]
      exact k2.keep b u eb z
theorem v_lc {elt tg iter : Expr} {ifs : List Expr} {scope : Scope} {own : List (Str × Nat)} {wi : WI} {g : TG} {wg : WG} {is : List Nat} (hc : X.calm = true) (hN : X.N.Nodup) (hi : PI X tg iter (lWk X.K c wi)) (ok : BlkOk X.N X.env.scope scope own)
    (L : ∀ c' : Cq, c'.n = c.n → LG X.K c' g wg is) (hg : ∀ (s : Shared) (H : Hp) (C : Addr) (cl : List (Str × Addr)) (fp : List Addr), PG (X.blk s H scope (compEnvC scope cl C X.env) fp) tg g)
    (ht : ∀ (s : Shared) (H : Hp) (C : Addr) (cl : List (Str × Addr)) (fp : List Addr) (c' : Cq), c'.n = c.n → PTs (X.blk s H scope (compEnvC scope cl C X.env) fp) ifs (lT X.K c' wt))
    (he : ∀ (s : Shared) (H : Hp) (C : Addr) (cl : List (Str × Addr)) (fp : List Addr) (c' : Cq), c'.n = c.n → PE (X.blk s H scope (compEnvC scope cl C X.env) fp) elt (lE X.K c' we))
    (hv : ∀ i ∈ is, i ∈ own.map (·.2)) (hs : ∀ x, foldedSetIterable iter X.env x = pure x := by intro _; rfl) : PE X (.ListComp elt [⟨tg, iter, ifs, 0⟩] scope pos) (lL X.K c (wLc wi wg wt we (own.map (·.2)))) :=
  pe_imp (pe_lc (tt := fun σ H Q => ∃ c' : Cq, c'.n = c.n ∧ lT X.K c' wt σ H Q) (te := fun σ H Q => ∃ c' : Cq, c'.n = c.n ∧ lE X.K c' we σ H Q) hc hN hi ok hg
    (fun s H C cl fp => ⟨fun pins s' σ H' Q I ⟨c', hc', h⟩ => (ht s H C cl fp c' hc').run pins s' σ H' Q I h⟩)
    (fun s H C cl fp => ⟨fun pins s' σ H' Q I ⟨c', hc', h⟩ => (he s H C cl fp c' hc').run pins s' σ H' Q I h⟩) hs)
    (llc L hv (fun c' e _ _ _ h => ⟨c', e, h⟩) (fun c' e _ _ _ h => ⟨c', e, h⟩))
/-- y = [..] -/
theorem s_ownLc {i : Nat} {y : Str} {py spos : Pos} {elt tg iter : Expr} {ifs : List Expr} {scope : Scope} {own : List (Str × Nat)} {wi : WI} {g : TG} {wg : WG} {is : List Nat} (hc : X.calm = true) (hN : X.N.Nodup) (hy : X.N[i]? = some y) (hyl : X.env.scope.names.lookup y = some .local) (hn : i < c.n)
    (hsw : swapsWith (.ListComp elt [⟨tg, iter, ifs, 0⟩] scope pos) (some (.Name y py)) spos.line X.env = pure true) (hi : PI X tg iter (lWk X.K c wi)) (ok : BlkOk X.N X.env.scope scope own)
    (L : ∀ c' : Cq, c'.n = c.n → LG X.K c' g wg is) (hg : ∀ (s : Shared) (H : Hp) (C : Addr) (cl : List (Str × Addr)) (fp : List Addr), PG (X.blk s H scope (compEnvC scope cl C X.env) fp) tg g)
    (ht : ∀ (s : Shared) (H : Hp) (C : Addr) (cl : List (Str × Addr)) (fp : List Addr) (c' : Cq), c'.n = c.n → PTs (X.blk s H scope (compEnvC scope cl C X.env) fp) ifs (lT X.K c' wt))
    (he : ∀ (s : Shared) (H : Hp) (C : Addr) (cl : List (Str × Addr)) (fp : List Addr) (c' : Cq), c'.n = c.n → PE (X.blk s H scope (compEnvC scope cl C X.env) fp) elt (lE X.K c' we))
    (hv : ∀ i ∈ is, i ∈ own.map (·.2)) (hs : ∀ x, foldedSetIterable iter X.env x = pure x := by intro _; rfl) : PS X (.Assign [.Name y py] (.ListComp elt [⟨tg, iter, ifs, 0⟩] scope pos) spos) (lS X.K c (wOwn i (wLc wi wg wt we (own.map (·.2))))) :=
  ps_imp (ps_setLc (i := i) (tt := fun σ H Q => ∃ c' : Cq, c'.n = c.n ∧ lT X.K c' wt σ H Q) (te := fun σ H Q => ∃ c' : Cq, c'.n = c.n ∧ lE X.K c' we σ H Q) hc hN hy hyl hsw hi ok hg
    (fun s H C cl fp => ⟨fun pins s' σ H' Q I ⟨c', hc', h⟩ => (ht s H C cl fp c' hc').run pins s' σ H' Q I h⟩)
    (fun s H C cl fp => ⟨fun pins s' σ H' Q I ⟨c', hc', h⟩ => (he s H C cl fp c' hc').run pins s' σ H' Q I h⟩) hs)
    (lown hn (llc L hv (fun c' e _ _ _ h => ⟨c', e, h⟩) (fun c' e _ _ _ h => ⟨c', e, h⟩)))
end
end VL
set_option Elab.async false
set_option linter.all false
set_option maxRecDepth 100000
set_option maxHeartbeats 1000000
namespace VL
open PySem PySem.Spec PyProof.Rows L2
/-! ### promises by data -/
abbrev DX := Value → Option (List (Str × Da)) → Mx → Prop
abbrev DC := List Da → Mx → (Da → Mx → Prop) → DX → Prop
def Mem (K : PySem.W.Frag) (A0 : Addr → Prop) (M : Mx) (H : Hp) : Prop := ∀ a m, M a = some m → MOk K (fun b => A0 b ∨ wM M b) H a m
def XdOk (K : PySem.W.Frag) (A : Addr → Prop) (H : Hp) (ofs : Option (List (Str × Da))) (d : Option Addr) : Prop := match ofs with
  | none => d = none
  | some gs => ∃ a fs, d = some a ∧ H a = some (.xd fs) ∧ RpF K A H fs gs
def spOf (K : PySem.W.Frag) (dc : DC) : Sp := fun vs H Q E => ∃ (A0 : Addr → Prop) (M : Mx) (ds : List Da) (Qd : Da → Mx → Prop) (Xd : DX),
  RpA K (fun a => A0 a ∨ wM M a) H vs ds ∧ Mem K A0 M H ∧ (∀ a, A0 a → H a ≠ none ∧ M a = none) ∧ dc ds M Qd Xd ∧
  (∀ d M', Qd d M' → ∀ H' v, Kp (wM M) (wM M') H H' → Mem K A0 M' H' → Rp K (fun a => A0 a ∨ wM M' a) H' v d → Q v H') ∧
  (∀ cls ofs M', Xd cls ofs M' → ∀ H' d, Kp (wM M) (wM M') H H' → Mem K A0 M' H' → XdOk K (fun a => A0 a ∨ wM M' a) H' ofs d → E cls d H')
def XOk (K : PySem.W.Frag) (c : Cq) (Xs : Value → Option (List (Str × Da)) → Sx → Prop) (W : WX) : Prop := ∀ cls ofs S', Xs cls ofs S' → ∀ σ' H' d, Rel K c S' σ' H' → XdOk K (S'.A c) H' ofs d → W cls d σ' H'
abbrev Xno : Value → Option (List (Str × Da)) → Sx → Prop := fun _ _ _ => False
theorem xno {K : PySem.W.Frag} {c : Cq} {W : WX} : XOk K c Xno W := fun _ _ _ h => h.elim
def wCall (dc : DC) (dd : List Da) (Xs : Value → Option (List (Str × Da)) → Sx → Prop) (wa : WA) : WE := fun S Q => wa S fun ds S1 => dc (ds ++ dd) S1.M (fun d M' => Q d ⟨S1.ρ, M'⟩) fun cls ofs M' => Xs cls ofs ⟨S1.ρ, M'⟩
section
variable {K : PySem.W.Frag} {c : Cq} {S : Sx} {σ : L2.St} {H H' : Hp} {A : Addr → Prop}
theorem Rel.memM (r : Rel K c S σ H) {A1 : Addr → Prop} (h : ∀ b, A1 b → c.A0 b ∨ ∃ (i : Nat) (ds : List Da), S.ρ[i]? = some (Slx.own b ds)) : Mem K A1 S.M H := fun a m e => (r.mem a m e).kp ⟨fun _ _ z _ => z, fun b z => by
  rcases z with z | z
  · rcases h b z with q | q
    · exact .inl (.inl q)
    · exact .inl (.inr (.inl q))
  · exact .inl (.inr (.inr z))⟩ fun _ z => z
/-- what a call asks of the heap, and what it leaves -/
theorem sp_call {dc : DC} {ds : List Da} {vs : List V} {Qd : Da → Sx → Prop} {Q : VK} {Xs : Value → Option (List (Str × Da)) → Sx → Prop} {W : WX} (r : Rel K c S σ H) (rv : RpA K (S.A c) H vs ds) (h : dc ds S.M (fun d M' => Qd d ⟨S.ρ, M'⟩) fun cls ofs M' => Xs cls ofs ⟨S.ρ, M'⟩)
    (p : Pst K c S σ H Qd Q) (hX : XOk K c Xs W) : spOf K dc vs H Q (fun cls d H' => W cls d σ H') := by
  let A1 : Addr → Prop := fun a => c.A0 a ∨ ∃ (i : Nat) (ds : List Da), S.ρ[i]? = some (Slx.own a ds)
  have mk : ∀ (M' : Mx) (H' : Hp), Kp (wM S.M) (wM M') H H' → Mem K A1 M' H' → Rel K c ⟨S.ρ, M'⟩ σ H' ∧ Kp S.W (Sx.W ⟨S.ρ, M'⟩) H H' := fun M' H' k hm => by
    have k' : Kp S.W (Sx.W ⟨S.ρ, M'⟩) H H' := by
      refine ⟨fun b o e z => k.keep b o e (z.imp (fun q w => q (.inr w)) id), fun b z => ?_⟩
      rcases z with z | z
      · exact .inl (.inl z)
      · exact (k.mono b z).imp .inr id
    refine ⟨r.next k' r.len rfl (fun i d e => ?_) (fun i q es e => ?_) r.inj (fun i q es e => ?_) (fun a m e => (hm a m e).kp ⟨fun _ _ z _ => z, fun b z => ?_⟩ fun _ z => z), k'⟩
    · obtain ⟨v, h1, h2⟩ := r.val i d e
      exact ⟨v, h1, h2.kp (kA k')⟩
    · obtain ⟨h1, ws, h2, h3⟩ := r.own i q es e
      exact ⟨h1, ws, k.keep _ _ h2 (.inl fun z => z (r.sep i q es e)), h3.kp (kA k')⟩
    · cases e2 : M' q with
      | none => exact e2
      | some m =>
        obtain ⟨h1, ws, h2, h3⟩ := r.own i q es e
        rcases k.mono q (by show M' q ≠ none; rw [e2]; exact fun z => by cases z) with z | z
        · exact absurd (r.sep i q es e) z
        · rw [h2] at z
          cases z
    · rcases z with z | z | z
      · exact .inl (.inl (.inl z))
      · exact .inl (.inl (.inr z))
      · exact .inl (.inr z)
  refine ⟨A1, S.M, ds, _, _, rv.anti fun b z => ?_, r.memM fun b z => z, fun a z => ?_, h, fun d M' hq H' v k hm rp => ?_, fun cls ofs M' hx H' d k hm hd => ?_⟩
  · rcases z with (z | z) | z
    · exact .inl z
    · exact .inr (.inl z)
    · exact .inr (.inr z)
  · rcases z with z | ⟨i, es, z⟩
    · obtain ⟨h1, h2⟩ := r.a0 a z
      refine ⟨h1, ?_⟩
      cases e : S.M a with
      | none => rfl
      | some m => exact absurd (Or.inr (by rw [e]; exact fun q => by cases q)) h2
    · obtain ⟨_, ws, h2, _⟩ := r.own i a es z
      exact ⟨by rw [h2]; exact fun q => (by cases q), r.sep i a es z⟩
  · obtain ⟨r', k'⟩ := mk M' H' k hm
    refine p _ _ hq _ _ r' k' (.inl (rp.anti fun b z => ?_))
    rcases z with z | z | z
    · exact .inl (.inl z)
    · exact .inl (.inr z)
    · exact .inr z
  · obtain ⟨r', k'⟩ := mk M' H' k hm
    refine hX _ _ _ hx _ _ _ r' ?_
    cases ofs with
    | none => exact hd
    | some gs =>
      obtain ⟨a, fs, e1, e2, e3⟩ := hd
      refine ⟨a, fs, e1, e2, e3.kp ⟨fun _ _ z _ => z, fun b z => ?_⟩⟩
      rcases z with z | z | z
      · exact .inl (.inl (.inl z))
      · exact .inl (.inl (.inr z))
      · exact .inl (.inr z)
end
section
variable {X : Cx} {c : Cq} {k : Nat} {f : Addr} {fd : FuncData} {ps : List Str} {dc : DC} {dvs : List V} {dvs' : List Value} {dd : List Da} {x m : Str} {p pos apos : Pos} {e o : Expr} {es : List Expr} {wl wr : WA} {we : WE} {Xs : Value → Option (List (Str × Da)) → Sx → Prop} {W : WX}
theorem v_callD (F : FnOk X.prog X.w X.K X.mg X.base (L2.CX X.prog X.w) k f fd ps (spOf X.K dc)) (hr : Room k X.A) (hg : Gl X x) (hm : X.mg x = some (.ref f)) (hk : PySem.W.keepIn X.K (.ref f) = true) (hb : Binds X.K fd ps dvs') (hd : Vals dvs dvs') (hdd : ∀ A H, RpA X.K A H dvs dd)
    (tk : Takes X W) (hX : XOk X.K c Xs W) (ha : PA X (e :: es) (lA X.K c wl)) (hdb : (x == ("__debug__" : Str)) = false := by decide) (he : starEach (e :: es) X.env = (false, eval e X.env) :: starEach es X.env := by rfl) (hpl : (backTo pos (starEach es X.env)).any (·.1) = false := by rfl) :
    PE X (.Call (.Name x p) (e :: es) [] pos) (lE X.K c (wCall dc dd Xs wl)) := pe_imp (pe_callSD F hr hg hm hk hb hd (fun σ => passAt tk σ) ha hdb he hpl) fun σ H Q h => by
  obtain ⟨S, Qd, r, h, p⟩ := h
  exact ⟨S, _, r, h, fun ds S1 h1 H1 vs r1 k1 p1 => sp_call r1 (p1.append (hdd _ _)) h1 (p.at k1) hX⟩
theorem v_call (F : FnOk X.prog X.w X.K X.mg X.base (L2.CX X.prog X.w) k f fd ps (spOf X.K dc)) (hr : Room k X.A) (hg : Gl X x) (hm : X.mg x = some (.ref f)) (hk : PySem.W.keepIn X.K (.ref f) = true) (hb : Binds X.K fd ps [])
    (tk : Takes X W) (hX : XOk X.K c Xs W) (ha : PA X (e :: es) (lA X.K c wl)) (hdb : (x == ("__debug__" : Str)) = false := by decide) (he : starEach (e :: es) X.env = (false, eval e X.env) :: starEach es X.env := by rfl) (hpl : (backTo pos (starEach es X.env)).any (·.1) = false := by rfl) :
    PE X (.Call (.Name x p) (e :: es) [] pos) (lE X.K c (wCall dc [] Xs wl)) := v_callD F hr hg hm hk hb .nil (fun _ _ => .nil) tk hX ha hdb he hpl
/-! ### raise -/
def wRaise (cls : Value) (Xs : Value → Option (List (Str × Da)) → Sx → Prop) : WS := fun _ S => Xs cls none S
theorem s_raise {C : Addr} {bmB : List Value} {B newId initId : String} {msg : Str} {j : Nat} {p2 : Pos} (hc : X.calm = true) (tk : Takes X W) (hX : XOk X.K c Xs W) (F : ExcBaseFacts B newId initId bmB) (q : PySem.W.excIn X.K C bmB newId = true) (gC : X.mg x = some (.ref C)) (kC : PySem.W.keepIn X.K (.ref C) = true) (r : Raises X (.ref C)) (hg : Gl X x)
    (hdb : (x == ("__debug__" : Str)) = false := by decide) : PS X (.Raise (some (.Call (.Name x p) [.Constant (.str msg) j p2] [] apos)) none pos) (lS X.K c (wRaise (.ref C) Xs)) := ps_imp (ps_raise hc tk (pmk_own F q gC kC r hg hdb)) fun D σ H h => by
  obtain ⟨S, Dd, r, h, p⟩ := h
  exact hX _ _ _ h _ _ _ r rfl
end
/-! ### defs -/
section
variable {P : Program} {w : World} {K : PySem.W.Frag} {mg : Str → Option Value} {base : Heap}
theorem FnOk.cx {k : Nat} {f : Addr} {fd : FuncData} {ps : List Str} {sp : Sp} (F : FnOk P w K mg base CX0 k f fd ps sp) : FnOk P w K mg base (L2.CX P w) k f fd ps sp :=
  ⟨F.len, fun A outer s H args us vs Q E hr e0 hb hv h => codeAny_mono (F.run A outer s H args us vs Q E hr e0 hb hv h) fun r s' hq => by
    cases r with
    | error e => exact False.elim hq
    | ok fl => cases fl <;> first | exact hq | exact False.elim hq⟩
/-- .. that lets nothing out -/
theorem FnOk.c0 {k : Nat} {f : Addr} {fd : FuncData} {ps : List Str} {sp : Sp} (F : FnOk P w K mg base (L2.CX P w) k f fd ps sp) : FnOk P w K mg base CX0 k f fd ps (fun vs H Q _ => sp vs H Q E0) :=
  ⟨fun vs H Q E h => F.len vs H Q E0 h, fun A outer s H args us vs Q E hr e0 hb hv h => codeAny_mono (F.run A outer s H args us vs Q E0 hr e0 hb hv h) fun r s' hq => by
    cases r with
    | error e =>
      obtain ⟨_, _, _, _, _, _, _, _, _, _, _, _, z⟩ := hq
      exact z
    | ok fl => cases fl <;> first | exact hq | exact False.elim hq⟩
def startD (n : Nat) (ds : List Da) : List Slx := ds.map .val ++ List.replicate (n - ds.length) .no
theorem start_rel {c : Cq} {N : List Str} {vs : List V} {ds : List Da} {M : Mx} {H : Hp} (hn : c.n = N.length) (hl : vs.length ≤ N.length) (rp : RpA K (fun a => c.A0 a ∨ wM M a) H vs ds) (mem : Mem K c.A0 M H) (a0 : ∀ a, c.A0 a → H a ≠ none ∧ M a = none) (e1 : c.W0 = wM M) (e2 : c.H0 = H) :
    Rel K c ⟨startD N.length ds, M⟩ (L2.start N vs) H := by
  have l := rp.length
  have get : ∀ (i : Nat) (x : Slx), (startD N.length ds)[i]? = some x → x = .no ∨ ∃ d, x = .val d ∧ ds[i]? = some d := fun i x h => by
    unfold startD at h
    by_cases hi : i < (ds.map Slx.val).length
    · rw [List.getElem?_append_left hi, List.getElem?_map] at h
      cases q : ds[i]? with
      | none => rw [q] at h; cases h
      | some d => rw [q] at h; cases h; exact .inr ⟨d, rfl, rfl⟩
    · rw [List.getElem?_append_right (by omega), List.getElem?_replicate] at h
      split at h
      · cases h; exact .inl rfl
      · cases h
  have no : ∀ (i : Nat) (p : Addr) (es : List Da), (startD N.length ds)[i]? = some (Slx.own p es) → False := fun i p es h => by
    rcases get i _ h with z | ⟨d, z, _⟩ <;> cases z
  have sub : ∀ b, (Sx.W ⟨startD N.length ds, M⟩) b → wM M b := fun b z => by
    rcases z with ⟨i, es, z⟩ | z
    · exact (no i b es z).elim
    · exact z
  have subA : ∀ b, Sx.A ⟨startD N.length ds, M⟩ c b → c.A0 b ∨ wM M b := fun b z => z.imp id (sub b)
  refine ⟨?_, ?_, fun i d e => ?_, fun i p es e => (no i p es e).elim, fun i j p es es' h1 _ => (no i p es h1).elim, fun i p es e => (no i p es e).elim, fun a m e => (mem a m e).kp ⟨fun _ _ z _ => z, fun b z => .inl (subA b z)⟩ fun _ z => z, fun a z => ⟨(a0 a z).1, fun w => sub a w (a0 a z).2⟩, ?_⟩
  · unfold L2.start startD
    simp
    omega
  · unfold startD
    simp
    omega
  · rcases get i _ e with z | ⟨d', z, e'⟩
    · cases z
    · cases z
      obtain ⟨v, hv, rv⟩ := rp.get e'
      refine ⟨v, ?_, rv.anti subA⟩
      unfold L2.start
      have : i < vs.length := by
        rw [List.getElem?_eq_some_iff] at hv
        exact hv.1
      rw [List.getElem?_append_left (by simpa using this), List.getElem?_map, hv]
      rfl
  · rw [e1, e2]
    exact Kp.refl.sub sub
theorem okD {x qual : Str} {st : Stmt} {f : Addr} {fd : FuncData} {N ps : List Str} {k : Nat} {dc : DC} (F : Fun K x qual st f fd) (S : FnScope N ps (defScope st)) (hl : ∀ ds M Q X, dc ds M Q X → ds.length = ps.length)
    (hbody : ∀ (cdv : Value) (A : Around) (outer : List Env) (s : Shared) (H : Hp) (E : XK) (c : Cq) (ds : List Da) (M : Mx) (Qd : Da → Mx → Prop) (Xd : DX), c.n = N.length → Room k (A.deeper (envOfC qual (defScope st) s.heap.objs.size f cdv)) → dc ds M Qd Xd →
      XOk K c (fun cls ofs S' => Xd cls ofs S'.M) (fun cls d _ H' => E cls d H') →
      ∃ wb : WS, PSs (cxOf (L2.CX P w) P w K mg base N qual (defScope st) f cdv A outer s H E) (defBody st) (lS K c wb) ∧ wb { nx := fun S' => Qd .n S'.M, rt := fun d S' => Qd d S'.M } ⟨startD N.length ds, M⟩) :
    FnOk P w K mg base (L2.CX P w) (k + 1) f fd ps (spOf K dc) := by
  refine F.okX S (fun vs H Q E h => ?_) (fun cdv A outer s H vs Q E hr h => ?_)
  · obtain ⟨A0, M, ds, Qd, Xd, rp, _, _, hd, _⟩ := h
    rw [rp.length]
    exact hl _ _ _ _ hd
  obtain ⟨A0, M, ds, Qd, Xd, rp, mem, a0, hd, hQ, hE⟩ := h
  have hpl : ps.length ≤ N.length := by have := congrArg List.length S.pre; rw [List.length_take] at this; omega
  let c : Cq := ⟨A0, wM M, H, N.length⟩
  have done : ∀ {S' : Sx} {σ' : L2.St} {H' : Hp}, Rel K c S' σ' H' → Kp (wM M) (wM S'.M) H H' ∧ Mem K A0 S'.M H' ∧ ∀ b, (A0 b ∨ wM S'.M b) → S'.A c b := fun r => by
    refine ⟨r.kp.sub fun b z => .inr z, r.memM fun b z => .inl z, fun b z => z.imp id .inr⟩
  obtain ⟨wb, h1, h2⟩ := hbody cdv A outer s H E c ds M Qd Xd rfl hr hd fun cls ofs S' hx σ' H' d r hd' => by
    obtain ⟨k1, m1, s1⟩ := done r
    refine hE cls ofs S'.M hx H' d k1 m1 ?_
    cases ofs with
    | none => exact hd'
    | some gs =>
      obtain ⟨a, fs, e1, e2, e3⟩ := hd'
      exact ⟨a, fs, e1, e2, e3.kp ⟨fun _ _ z _ => z, fun b z => .inl (s1 b z)⟩⟩
  refine ⟨lS K c wb, h1, _, _, start_rel (c := c) rfl (by rw [rp.length, hl _ _ _ _ hd]; exact hpl) rp mem a0 rfl rfl, h2, ⟨fun S' hq σ' H' r _ => ?_, fun d S' hq σ' H' v r _ rv => ?_, fun _ h => h.elim, fun _ h => h.elim⟩⟩
  · obtain ⟨k1, m1, s1⟩ := done r
    exact hQ _ _ hq _ _ k1 m1 .n
  · obtain ⟨k1, m1, s1⟩ := done r
    exact hQ _ _ hq _ _ k1 m1 (rv.anti s1)
end
end VL
set_option Elab.async false
set_option linter.all false
set_option maxRecDepth 100000
set_option maxHeartbeats 1000000
namespace VL
open PySem PySem.Spec PyProof.Rows L2
/-! ### isinstance -/
structure Tab where
  n : Bool
  b : Bool
  i : Bool
  s : Bool
  t : Bool
  l : Bool
  d : Bool
structure IsiT (T : String) (tab : Tab) : Prop where
  n : kitB "NoneType" T = some tab.n
  b : kitB "bool" T = some tab.b
  i : kitB "int" T = some tab.i
  s : kitB "str" T = some tab.s
  t : kitB "tuple" T = some tab.t
  l : kitB "list" T = some tab.l
  d : kitB "dict" T = some tab.d
theorem isi_tuple : IsiT "tuple" ⟨false, false, false, false, true, false, false⟩ := ⟨by decide +kernel, by decide +kernel, by decide +kernel, by decide +kernel, by decide +kernel, by decide +kernel, by decide +kernel⟩
theorem isi_int : IsiT "int" ⟨false, true, true, false, false, false, false⟩ := ⟨by decide +kernel, by decide +kernel, by decide +kernel, by decide +kernel, by decide +kernel, by decide +kernel, by decide +kernel⟩
theorem isi_bool : IsiT "bool" ⟨false, true, false, false, false, false, false⟩ := ⟨by decide +kernel, by decide +kernel, by decide +kernel, by decide +kernel, by decide +kernel, by decide +kernel, by decide +kernel⟩
theorem isi_str : IsiT "str" ⟨false, false, false, true, false, false, false⟩ := ⟨by decide +kernel, by decide +kernel, by decide +kernel, by decide +kernel, by decide +kernel, by decide +kernel, by decide +kernel⟩
theorem isi_list : IsiT "list" ⟨false, false, false, false, false, true, false⟩ := ⟨by decide +kernel, by decide +kernel, by decide +kernel, by decide +kernel, by decide +kernel, by decide +kernel, by decide +kernel⟩
theorem isi_dict : IsiT "dict" ⟨false, false, false, false, false, false, true⟩ := ⟨by decide +kernel, by decide +kernel, by decide +kernel, by decide +kernel, by decide +kernel, by decide +kernel, by decide +kernel⟩
def isiD (tab : Tab) (d : Da) (Q : Bool → Prop) : Prop := match d with
  | .n => Q tab.n
  | .b _ => Q tab.b
  | .i _ => Q tab.i
  | .s _ => Q tab.s
  | .t _ => Q tab.t
  | .l _ => Q tab.l
  | .dk _ => Q tab.d
  | _ => False
def wIsi (tab : Tab) (we : WE) : WE := fun S Q => we S fun d S' => isiD tab d fun b => Q (.b b) S'
theorem sqt_ty {K : PySem.W.Frag} {H : Hp} {a : Addr} {vs : List V} (h : SqT K H a vs) : TyX K H (.ref a) (.type "tuple") := by
  rcases h with (h | ⟨o, h⟩) | ⟨o, its, n, h, c, _⟩
  · exact .base (.tup h)
  · exact .fTuple h
  · exact .kTuple h c
section
variable {X : Cx} {c : Cq} {pos p p2 apos : Pos} {e a b : Expr} {es rest : List Expr} {we wa wb : WE} {wt wu : WT} {wl wr : WA} {x y : Str}
theorem v_isi {T : String} {tab : Tab} (I : IsiT T tab) (hg : Gl X "isinstance") (hm : X.mg "isinstance" = none) (hgT : Gl X x) (hmT : X.mg x = none) (hvT : bootBuiltins x = some (.type T)) (he : PE X e (lE X.K c we)) (hn : x ≠ "__name__" := by decide) (hdb : (x == ("__debug__" : Str)) = false := by decide)
    (hs : starEach [e, .Name x p2] X.env = (false, eval e X.env) :: starEach [.Name x p2] X.env := by rfl) (hs2 : starEach [.Name x p2] X.env = (false, eval (.Name x p2) X.env) :: starEach [] X.env := by rfl) (hpl : (backTo pos (starEach [.Name x p2] X.env)).any (·.1) = false := by rfl)
    (hv : bootBuiltins "isinstance" = some (.builtin "isinstance") := by decide +kernel) : PE X (.Call (.Name "isinstance" p) [e, .Name x p2] [] pos) (lE X.K c (wIsi tab we)) :=
  pe_imp (pe_callB call_isi hg hm hv (pa_cons he (pa_cons (pe_bltn (v := .ty T) hgT hmT hvT rfl hn hdb) pa_nil hs2) hs) (by decide) (by decide) hs hpl) fun σ H Q h => by
  obtain ⟨S, Qd, r, h, q⟩ := h
  refine ⟨S, _, r, h, fun d S1 h1 H1 v r1 k1 p1 => ?_⟩
  have go : ∀ {A : String} {bb : Bool}, TyX X.K H1 v (.type A) → kitB A T = some bb → Qd (.b bb) S1 → rIsi X.K [v, .ty T] H1 Q := fun ty kb hq => ⟨v, _, _, _, _, rfl, .ty T, ty, kit_ty kb, q _ _ hq _ _ r1 k1 (.inl (.b _))⟩
  cases d with
  | n => exact go (by rw [rs_n p1]; exact .base .non) I.n h1
  | b z => exact go (by rw [rs_b p1]; exact .base (.bl z)) I.b h1
  | i z => exact go (by rw [rs_i p1]; exact .base (.int z)) I.i h1
  | s z => exact go (by rw [rs_s p1]; exact .base (.str z)) I.s h1
  | t ds =>
    obtain ⟨w, vs, rfl, g1, g2⟩ := tup_ok p1
    exact go (sqt_ty g1) I.t h1
  | l ds =>
    cases p1.pure rfl with
    | l g1 g2 g3 => exact go (.base (.lst g1)) I.l h1
  | dk ds =>
    cases p1.pure rfl with
    | dk g1 g2 g3 => exact go (.base (.dK g1)) I.d h1
  | _ => exact h1.elim
/-! ### built-ins of several arguments -/
def wArg (rd : List Da → Sx → (Da → Sx → Prop) → Prop) (wl : WA) : WE := fun S Q => wl S fun ds S' => rd ds S' Q
def AL (K : PySem.W.Frag) (c : Cq) (r : List V → Hp → VK → Prop) (rd : List Da → Sx → (Da → Sx → Prop) → Prop) : Prop := ∀ σ H S vs ds Qd Q, Rel K c S σ H → RpA K (S.A c) H vs ds → rd ds S Qd → Pst K c S σ H Qd Q → r vs H Q
theorem v_cb {id : String} {r : List V → Hp → VK → Prop} {rd : List Da → Sx → (Da → Sx → Prop) → Prop} (hc : CallR X (.builtin id) r) (L : AL X.K c r rd) (hg : Gl X x) (hm : X.mg x = none) (hv : bootBuiltins x = some (.builtin id)) (ha : PA X (e :: es) (lA X.K c wl)) (hn : x ≠ "__name__" := by decide) (hdb : (x == ("__debug__" : Str)) = false := by decide)
    (he : starEach (e :: es) X.env = (false, eval e X.env) :: starEach es X.env := by rfl) (hpl : (backTo pos (starEach es X.env)).any (·.1) = false := by rfl) : PE X (.Call (.Name x p) (e :: es) [] pos) (lE X.K c (wArg rd wl)) :=
  pe_imp (pe_callB hc hg hm hv ha hn hdb he hpl) fun σ H Q h => by
  obtain ⟨S, Qd, r, h, q⟩ := h
  exact ⟨S, _, r, h, fun ds S1 h1 H1 vs r1 k1 p1 => L σ H1 S1 vs ds Qd Q r1 p1 h1 (q.at k1)⟩
def rd2I (g : Int → Int → Int) : List Da → Sx → (Da → Sx → Prop) → Prop := fun ds S Q => match ds with
  | [.i i, .i j] => Q (.i (g i j)) S
  | _ => False
theorem l2I {K : PySem.W.Frag} {g : Int → Int → Int} : AL K c (fun xs H Q => ∃ i j, xs = [.int i, .int j] ∧ Q (.int (g i j)) H) (rd2I g) := fun σ H S vs ds Qd Q r rp h p => by
  unfold rd2I at h
  split at h
  · cases rp with
    | cons h1 h2 =>
      cases h2 with
      | cons h3 h4 =>
        cases h4
        cases h1
        cases h3
        exact ⟨_, _, rfl, p _ _ h _ _ r .refl (.inl (.i _))⟩
  · exact h.elim
theorem lMin {K : PySem.W.Frag} : AL K c (fun xs H Q => ∃ i j : Int, xs = [.int i, .int j] ∧ Q (.int (if j < i then j else i)) H) (rd2I fun i j => if j < i then j else i) := l2I
theorem lMax {K : PySem.W.Frag} : AL K c (fun xs H Q => ∃ i j : Int, xs = [.int i, .int j] ∧ Q (.int (if j > i then j else i)) H) (rd2I fun i j => if j > i then j else i) := l2I
/-! ### new lists -/
def wList (we : WE) : WA := fun S Q => we S fun d S' => ∃ ds, S'.sq d = some ds ∧ ds.length ≤ sizeLine ∧ Q ds S'
theorem v_list (hg : Gl X x) (hm : X.mg x = none) (hv : bootBuiltins x = some (.type "list")) (he : PE X e (lE X.K c we)) (hs : starEach [e] X.env = (false, eval e X.env) :: starEach [] X.env := by rfl)
    (hn : x ≠ "__name__" := by decide) (hdb : (x == ("__debug__" : Str)) = false := by decide) (hpl : (backTo pos (starEach [] X.env)).any (·.1) = false := by rfl) : PE X (.Call (.Name x p) [e] [] pos) (lL X.K c (wList we)) :=
  pe_imp (pe_callTy call_list_of hg hm hv (pa_cons he pa_nil hs) hn hdb hs hpl) fun σ H Q h => by
  obtain ⟨S, Qd, r, h, q⟩ := h
  refine ⟨S, _, r, h, fun d S1 h1 H1 v r1 k1 p1 => ?_⟩
  obtain ⟨ds, e1, hz, h2⟩ := h1
  obtain ⟨w, vs, rfl, g1, g2⟩ := sq_ok r1 p1 e1
  exact ⟨w, vs, rfl, g1, fun l nl => q _ _ h2 _ _ _ r1 k1 nl g2 hz⟩
def wCatL (wa wb : WE) : WA := fun S Q => wa S fun x S1 => wb S1 fun y S2 => ∃ ds es, S2.lst x = some ds ∧ S2.lst y = some es ∧ ds.length + es.length ≤ sizeLine ∧ Q (ds ++ es) S2
theorem v_catL (ha : PE X a (lE X.K c wa)) (hb : PE X b (lE X.K c wb)) : PE X (.BinOp a .Add b pos) (lL X.K c (wCatL wa wb)) := pe_imp (pe_op op_cat ha hb) fun σ H Q h => by
  obtain ⟨S, Qd, r, h, q⟩ := h
  refine ⟨S, _, r, h, fun x S1 h1 H1 v1 r1 k1 p1 => ⟨S1, _, r1, h1, fun y S2 h2 H2 v2 r2 k2 p2 => ?_⟩⟩
  obtain ⟨ds, es, e1, e2, hz, h3⟩ := h2
  obtain ⟨w1, vs1, rfl, g1, g2⟩ := lst_ok r2 (p1.kp (kA k2)) e1
  obtain ⟨w2, vs2, rfl, g3, g4⟩ := lst_ok r2 p2 e2
  exact ⟨w1, w2, vs1, vs2, rfl, rfl, g1, g3, by rw [g2.length, g4.length]; exact hz, fun l nl => q _ _ h3 _ _ _ r2 (k1.trans k2) nl (g2.append g4) (by rw [List.length_append]; exact hz)⟩
/-- x = [..], not changed any more -/
theorem s_valLc {i : Nat} {py spos : Pos} {elt tg iter : Expr} {ifs : List Expr} {scope : Scope} {own : List (Str × Nat)} {wi : WI} {g : TG} {wg : WG} {is : List Nat} (hc : X.calm = true) (hN : X.N.Nodup) (hy : X.N[i]? = some y) (hyl : X.env.scope.names.lookup y = some .local) (hn : i < c.n)
    (hsw : swapsWith (.ListComp elt [⟨tg, iter, ifs, 0⟩] scope pos) (some (.Name y py)) spos.line X.env = pure true) (hi : PI X tg iter (lWk X.K c wi)) (ok : BlkOk X.N X.env.scope scope own)
    (L : ∀ c' : Cq, c'.n = c.n → LG X.K c' g wg is) (hg : ∀ (s : Shared) (H : Hp) (C : Addr) (cl : List (Str × Addr)) (fp : List Addr), PG (X.blk s H scope (compEnvC scope cl C X.env) fp) tg g)
    (ht : ∀ (s : Shared) (H : Hp) (C : Addr) (cl : List (Str × Addr)) (fp : List Addr) (c' : Cq), c'.n = c.n → PTs (X.blk s H scope (compEnvC scope cl C X.env) fp) ifs (lT X.K c' wt))
    (he : ∀ (s : Shared) (H : Hp) (C : Addr) (cl : List (Str × Addr)) (fp : List Addr) (c' : Cq), c'.n = c.n → PE (X.blk s H scope (compEnvC scope cl C X.env) fp) elt (lE X.K c' we))
    (hv : ∀ i ∈ is, i ∈ own.map (·.2)) (hs : ∀ x, foldedSetIterable iter X.env x = pure x := by intro _; rfl) : PS X (.Assign [.Name y py] (.ListComp elt [⟨tg, iter, ifs, 0⟩] scope pos) spos) (lS X.K c (wSet i (wOf (wLc wi wg wt we (own.map (·.2)))))) :=
  ps_imp (ps_setLc (i := i) (tt := fun σ H Q => ∃ c' : Cq, c'.n = c.n ∧ lT X.K c' wt σ H Q) (te := fun σ H Q => ∃ c' : Cq, c'.n = c.n ∧ lE X.K c' we σ H Q) hc hN hy hyl hsw hi ok hg
    (fun s H C cl fp => ⟨fun pins s' σ H' Q I ⟨c', hc', h⟩ => (ht s H C cl fp c' hc').run pins s' σ H' Q I h⟩)
    (fun s H C cl fp => ⟨fun pins s' σ H' Q I ⟨c', hc', h⟩ => (he s H C cl fp c' hc').run pins s' σ H' Q I h⟩) hs)
    (lset hn fun σ H Q h => llc L hv (fun c' e _ _ _ h => ⟨c', e, h⟩) (fun c' e _ _ _ h => ⟨c', e, h⟩) σ H Q (by
      obtain ⟨S, Qd, r, h, q⟩ := h
      refine ⟨S, _, r, h, fun ds S1 h1 H1 w vs r1 k1 nw p1 _ => ?_⟩
      obtain ⟨r2, k2, nA⟩ := r1.alloc (o := .lst vs) nw
      exact q _ _ h1 _ _ r2 (k1.trans k2) (.inl (.l upd_same nA (p1.kp (kA k2))))))
/-! ### a list of one's own is handed out, to be changed by others -/
def wSh (we : WE) : WE := fun S Q => we S fun d S' => match d with
  | .o i => match S'.ρ[i]? with
    | some (.own q ds) => Q (.r q) ⟨S'.ρ.set i (.val (.r q)), updM S'.M q (.lst ds)⟩
    | _ => False
  | _ => False
theorem Rel.share {K : PySem.W.Frag} {S : Sx} {σ : L2.St} {H : Hp} (r : Rel K c S σ H) {i : Nat} {q : Addr} {ds : List Da} (e : S.ρ[i]? = some (Slx.own q ds)) :
    Rel K c ⟨S.ρ.set i (.val (.r q)), VL.updM S.M q (.lst ds)⟩ σ H ∧ Kp S.W (Sx.W ⟨S.ρ.set i (.val (.r q)), VL.updM S.M q (.lst ds)⟩) H H := by
  obtain ⟨hσ, ws, hq, hw⟩ := r.own i q ds e
  have sub : ∀ b, (Sx.W ⟨S.ρ.set i (.val (.r q)), VL.updM S.M q (.lst ds)⟩) b → S.W b := fun b z => by
    rcases z with ⟨j, es, z⟩ | z
    · rcases get_set z with ⟨_, z⟩ | ⟨_, z⟩
      · cases z
      · exact .inl ⟨j, es, z⟩
    · by_cases hb : b = q
      · subst hb
        exact .inl ⟨i, ds, e⟩
      · have z' : VL.updM S.M q (.lst ds) b ≠ none := z
        rw [updM_ne hb] at z'
        exact .inr z'
  have k : Kp S.W (Sx.W ⟨S.ρ.set i (.val (.r q)), VL.updM S.M q (.lst ds)⟩) H H := Kp.refl.sub sub
  refine ⟨r.next k (by simp [r.len]) (by simp) (fun j d he => ?_) (fun j b es he => ?_) (fun j j' b es es' h1 h2 => ?_) (fun j b es he => ?_) (fun b m em => ?_), k⟩
  · rcases get_set he with ⟨rfl, z⟩ | ⟨ne, z⟩
    · cases z
      exact ⟨_, hσ, .r q⟩
    · obtain ⟨v, h1, h2⟩ := r.val j d z
      exact ⟨v, h1, h2.kp (kA k)⟩
  · rcases get_set he with ⟨rfl, z⟩ | ⟨ne, z⟩
    · cases z
    · obtain ⟨h1, vs, h2, h3⟩ := r.own j b es z
      exact ⟨h1, vs, h2, h3.kp (kA k)⟩
  · rcases get_set h1 with ⟨rfl, z⟩ | ⟨ne, z⟩
    · cases z
    · rcases get_set h2 with ⟨rfl, z'⟩ | ⟨ne', z'⟩
      · cases z'
      · exact r.inj j j' b es es' z z'
  · rcases get_set he with ⟨rfl, z⟩ | ⟨ne, z⟩
    · cases z
    · have hb : b ≠ q := fun hb => by
        subst hb
        exact ne (r.inj i j b ds es e z)
      show VL.updM S.M q (.lst ds) b = none
      rw [updM_ne hb]
      exact r.sep j b es z
  · by_cases hb : b = q
    · subst hb
      have em' : VL.updM S.M b (.lst ds) b = some m := em
      rw [updM_same] at em'
      cases em'
      exact ⟨ws, hq, hw.kp (kA k)⟩
    · have em' : VL.updM S.M q (.lst ds) b = some m := em
      rw [updM_ne hb] at em'
      exact (r.mem b m em').kp (kA k) fun _ z => z
theorem vSh (h : PE X e (lE X.K c we)) : PE X e (lE X.K c (wSh we)) := pe_imp h fun σ H Q h => by
  obtain ⟨S, Qd, r, h, p⟩ := h
  refine ⟨S, _, r, h, fun d S1 h1 H1 v r1 k1 p1 => ?_⟩
  split at h1
  · rename_i i
    split at h1
    · rename_i q ds e
      obtain ⟨r2, k2⟩ := r1.share e
      have : v = .ref q := by
        rcases p1 with p1 | ⟨j, e1, e2⟩
        · cases p1
        · cases e1
          rw [(r1.own _ _ _ e).1] at e2
          cases e2
          rfl
      subst this
      exact p _ _ h1 _ _ r2 (k1.trans k2) (.inl (.r _))
    · exact h1.elim
  · exact h1.elim
/-! ### minus, unpacking -/
def rdNeg : RU := fun d S Q => match d with
  | .i k => Q (.i (-k)) S
  | _ => False
theorem v_neg (ha : PE X a (lE X.K c wa)) : PE X (.UnaryOp .USub a pos) (lE X.K c (wUn rdNeg wa)) := pe_imp (pe_un un_neg ha) (lun fun σ H S x d Qd Q r rx h p => by
  cases d <;> try exact h.elim
  exact ⟨_, rs_i rx, p _ _ h _ _ r .refl (.inl (.i _))⟩)
theorem lenN {i n : Nat} {wr : List Da → Sx → (Sx → Prop) → Prop} (h : ∀ ds S Q, wr ds S Q → ds.length = n) : ∀ ds S Q, wgCons (wgN i) wr ds S Q → ds.length = n + 1 := fun ds S Q z => by
  cases ds with
  | nil => exact z.elim
  | cons d r => rw [List.length_cons, h r _ _ z]
def wAsg (we : WE) (wg : WG) : WS := fun D S => we S fun d S' => d.isO = false ∧ wg d S' D.nx
theorem s_asg {tg : Expr} {g : TG} {wg : WG} {is : List Nat} (he : PE X e (lE X.K c we)) (hg : PG X tg g) (L : LG X.K c g wg is) (hs : swapsWithSole [tg] e pos.line X.env = pure false := by rfl) (hw : swappedStores [tg] e X.env = pure none := by rfl)
    (h1 : (assignEach [tg] X.env).map (·.2) = [assign tg X.env] := by rfl) : PS X (.Assign [tg] e pos) (lS X.K c (wAsg we wg)) := ps_imp (ps_asg he hg hs hw h1) fun D σ H h => by
  obtain ⟨S, Dd, r, h, p⟩ := h
  refine ⟨S, _, r, h, fun d S1 h1 H1 v r1 k1 p1 => ?_⟩
  exact L.run v d S1 σ H1 _ _ r1 (p1.pure h1.1) h1.2 fun S2 σ2 h2 r2 k2 _ _ => p.nx _ h2 _ _ r2 (k1.trans k2)
end
end VL
set_option Elab.async false
set_option linter.all false
set_option maxRecDepth 100000
set_option maxHeartbeats 1000000
namespace VL
open PySem PySem.Spec PyProof.Rows
/-! ### t[::-1], t[:0:-1] -/
theorem pick_back {α : Type} (xs : List α) : ∀ k, k ≤ xs.length → (List.range k).filterMap (fun m => xs[xs.length - 1 - m]?) = (xs.drop (xs.length - k)).reverse
  | 0, _ => by simp
  | k + 1, h => by
    have hlt : xs.length - (k + 1) < xs.length := by omega
    rw [List.range_succ, List.filterMap_append, pick_back xs k (by omega), List.drop_eq_getElem_cons hlt, List.reverse_cons, show xs.length - (k + 1) + 1 = xs.length - k by omega]
    congr 1
    have e : xs.length - 1 - k = xs.length - (k + 1) := by omega
    rw [List.filterMap_cons, e, List.getElem?_eq_getElem hlt]
    rfl
theorem filterMap_same {α β : Type} {f g : α → Option β} : ∀ {l : List α}, (∀ x ∈ l, f x = g x) → l.filterMap f = l.filterMap g
  | [], _ => rfl
  | x :: r, h => by
    rw [List.filterMap_cons, List.filterMap_cons, h x (by simp), filterMap_same fun y hy => h y (by simp [hy])]
/-- how many items of n are walked down: all, or all but the first -/
def downN (b : Bool) (n : Nat) : Nat := if b then n - 1 else n
def downHi (b : Bool) : Option Int := if b then some 0 else none
theorem adjust_down (b : Bool) (n : Nat) : Builtin.Slice.sliceAdjust none (downHi b) (-1) (n : Int) = ((n : Int) - 1, if b then min 0 ((n : Int) - 1) else -1) := by
  cases b <;> rfl
theorem places_down (b : Bool) (n : Nat) : Builtin.Slice.slicePlaces ((n : Int) - 1) (if b then min 0 ((n : Int) - 1) else -1) (-1) = downN b n := by
  have e : (- (-1 : Int)) = 1 := by decide
  cases b
  · show Builtin.Slice.slicePlaces ((n : Int) - 1) (-1) (-1) = n
    unfold Builtin.Slice.slicePlaces
    rw [if_neg (by decide), e]
    simp only [Int.ediv_one]
    split <;> omega
  · show Builtin.Slice.slicePlaces ((n : Int) - 1) (min 0 ((n : Int) - 1)) (-1) = n - 1
    unfold Builtin.Slice.slicePlaces
    rw [if_neg (by decide), e]
    simp only [Int.ediv_one]
    split <;> omega
section
variable {prog : Program} {w : World} {A : Around} {E : Value → Shared → Prop} {s : Shared}
theorem applied_down {sl : Addr} {vu vs : Value} {b : Bool} {n : Nat} {Q : Int × Int × Nat → Shared → Prop} (hs : s.heap.IsSliceOf sl .none vu vs) (pu : IsPart vu (downHi b)) (ps : IsPart vs (some (-1))) (h : Q ((n : Int) - 1, -1, downN b n) s) :
    wpAny (model prog w) A (Builtin.Slice.sliceApplied (.ref sl) (pure (n : Int))) Q E s := by
  obtain ⟨os, g1, g2, g3⟩ := id hs
  unfold Builtin.Slice.sliceApplied Builtin.Slice.sliceFields
  refine wpAny_bind (wpAny_bind (wpAny_field g1 g3 (x := .none) rfl (wpAny_bind (wpAny_field g1 g3 (x := vu) rfl (wpAny_bind (wpAny_field g1 g3 (x := vs) rfl (wpAny_pure ?_)))))))
  refine wpAny_bind (HT.slicePart_ ps ?_)
  show wpAny (model prog w) A (if ((-1 : Int) == 0) = true then _ else _) Q E s
  rw [if_neg (show ¬ ((-1 : Int) == 0) = true by decide)]
  refine wpAny_bind (HT.slicePart_ .none (wpAny_bind (HT.slicePart_ pu (wpAny_bind (wpAny_pure ?_)))))
  show wpAny (model prog w) A (match Builtin.Slice.sliceAdjust none (downHi b) (-1) (n : Int) with | (lo, hi) => pure (lo, (-1 : Int), Builtin.Slice.slicePlaces lo hi (-1))) Q E s
  rw [adjust_down]
  show wpAny (model prog w) A (pure ((n : Int) - 1, (-1 : Int), Builtin.Slice.slicePlaces ((n : Int) - 1) (if b then min 0 ((n : Int) - 1) else -1) (-1))) Q E s
  rw [places_down]
  exact wpAny_pure h
theorem item_down {t sl : Addr} {items : Array Value} {vu vs : Value} {b : Bool} {Q : Value → Shared → Prop} (ht : IsTup s.heap t items) (hs : s.heap.IsSliceOf sl .none vu vs) (pu : IsPart vu (downHi b)) (ps : IsPart vs (some (-1)))
    (h : Q (.ref s.heap.objs.size) { s with heap := s.heap.push { cls := .type "tuple", data := .seq ((items.toList.drop (items.size - downN b items.size)).reverse).toArray } }) (hsz : items.size ≤ sizeLine) :
    wpAny (model prog w) A (getItem (.ref t) (.ref sl)) Q E s := by
  have hle : downN b items.size ≤ items.size := by cases b <;> simp [downN]
  have hfit : sizeOk (.seq ((items.toList.drop (items.size - downN b items.size)).reverse).toArray) := by
    show ((items.toList.drop (items.size - downN b items.size)).reverse).toArray.size ≤ sizeLine
    rw [List.size_toArray, List.length_reverse, List.length_drop, Array.length_toList]
    omega
  obtain ⟨os, g1, g2, g3⟩ := id hs
  have ty : s.TypeIs (.ref sl) "slice" := ⟨os, g1, g2⟩
  unfold getItem
  refine wpAny_holding ?_
  refine wpAny_bind (wpAny_sequenceKey ht.typeIs (by decide) (wpAny_bind (wpAny_callSpecial?_slot (name := Str.ofString "__getitem__") ht.typeIs slot_tuple_getitem (wpAny_call_entry slot_tuple_getitem ht.typeIs entry_tuple_getitem ?_ (args_tuple_getitem _ _)))))
  show wpAny (model prog w) A.in1 (Builtin.Tuple.tupleItemsOf (.ref t) >>= _) _ _ s
  refine wpAny_bind (tupleItemsOf_ ht (wpAny_bind (wpAny_typeOf ty ?_)))
  rw [if_pos (show (Value.type "slice" == Value.type "slice") = true by decide)]
  refine wpAny_bind (applied_down hs pu ps ?_)
  have hno : ¬ ((((items.size : Int) - 1) == 0 && (-1 : Int) == 1 && downN b items.size == items.size) = true) := by
    rw [show ((-1 : Int) == 1) = false by decide]
    simp
  show wpAny (model prog w) A.in1 (if (((items.size : Int) - 1) == 0 && (-1 : Int) == 1 && downN b items.size == items.size) = true then _ else _) _ _ s
  rw [if_neg hno]
  have pk : ((List.range (downN b items.size)).filterMap fun (m : Nat) => items[(((items.size : Int) - 1) + (m : Int) * (-1)).toNat]?).toArray = ((items.toList.drop (items.size - downN b items.size)).reverse).toArray := by
    congr 1
    have := pick_back items.toList (downN b items.size) (by rw [Array.length_toList]; exact hle)
    rw [Array.length_toList] at this
    rw [← this]
    refine filterMap_same fun m hm => ?_
    have hm' := List.mem_range.mp hm
    rw [show (((items.size : Int) - 1) + (m : Int) * (-1)).toNat = items.size - 1 - m by omega, Array.getElem?_toList]
  rw [pk]
  exact wpAny_bind (m := Builtin.Tuple.tupleExact _) (wpAny_newObj_type (wpAny_bind (wpAny_pure (wpAny_pure ⟨_, rfl, wpAny_pure h⟩))) hfit)
end
end VL
namespace VL
open PySem PySem.Spec PyProof.Rows L2
section
variable {X : Cx} {c : Cq} {pos p p2 apos : Pos} {e a b : Expr} {we wa wb : WE}
/-- the items from the end -/
def cutR {α : Type} (b : Bool) (xs : List α) : List α := (xs.drop (xs.length - downN b xs.length)).reverse
theorem cutR_length {α : Type} (b : Bool) (xs : List α) : (cutR b xs).length ≤ xs.length := by
  unfold cutR
  rw [List.length_reverse, List.length_drop]
  omega
theorem vals_rev {xs : List V} {us : List Value} (h : Vals xs us) : Vals xs.reverse us.reverse := by
  induction h with
  | nil => exact .nil
  | cons r t ih =>
    rw [List.reverse_cons, List.reverse_cons]
    exact ih.append (.cons r .nil)
theorem vals_cutR {b : Bool} {xs : List V} {us : List Value} (h : Vals xs us) : Vals (cutR b xs) (cutR b us) := by
  unfold cutR
  rw [h.length]
  exact vals_rev (h.drop _)
/-- t[::-1], t[:0:-1] of a tuple, by values -/
def tDown (K : PySem.W.Frag) (b : Bool) (te : TE) : TE := fun σ H Q => te σ H fun x H1 => ∃ a xs, x = .ref a ∧ SqT K H1 a xs ∧ ∀ p, H1 p = none → Q (.ref p) (upd H1 p (.tup (cutR b xs)))
theorem pe_down {hi : Option Expr} {st : Expr} {te : TE} {bb : Bool} (ops : Value → Value → List Value) (hsub : ∀ v u, subscripted (.Slice none hi (some st) p2) false v u = operate (ops v u) (getItem v u)) (he : PE X e te) (hu : PO X hi (fun _ H Q => Q (downHi bb) H)) (hst : PO X (some st) (fun _ H Q => Q (some (-1)) H)) : PE X (.Subscript e (.Slice none hi (some st) p2) pos) (tDown X.K bb te) := by
  refine ⟨fun pins s σ H Q I h => ?_⟩
  refine Subscript_ (thn (he.run pins s σ H _ I h) fun v s1 ⟨x, H1, I1, r1, a, xs, ex, hx, q1⟩ => ?_)
  subst ex
  cases r1
  refine wpAny_Slice ?_
  rw [evalPart_none]
  refine wpAny_pure (thn (hu.run pins s1 σ H1 (fun o H' => o = downHi bb ∧ H' = H1) I1 ⟨rfl, rfl⟩) fun vu s3 ⟨u, H3, I3, pu, eu, eH3⟩ => thn (hst.run pins s3 σ H3 (fun o H' => o = some (-1) ∧ H' = H3) I3 ⟨rfl, rfl⟩) fun vs s4 ⟨u', H4, I4, ps, eu', eH4⟩ => ?_)
  subst eu eu' eH4 eH3
  have I5 : L2.Inv X pins σ H4 { s4 with heap := s4.heap.push { cls := .type "slice", data := .fields #[.none, vu, vs] } } := I4.kept (t' := s4.toks) fun b ob q => Heap.get?_push_of_some _ q
  obtain ⟨its, r, ht, hz⟩ := I5.tuple hx
  have hlen : its.toArray.size = xs.length := by rw [List.size_toArray]; exact r.length.symm
  show wpAny (model X.prog X.w) X.A (subscriptTail e (.Slice none hi (some st) p2) (.ref a) (.ref s4.heap.objs.size)) (EP X pins σ Q) X.xe { s4 with heap := s4.heap.push { cls := .type "slice", data := .fields #[.none, vu, vs] } }
  refine tail_any (ops := ops (.ref a) (.ref s4.heap.objs.size)) ht.typeIs slot_tuple_getitem.lookup ?_ (hsub _ _)
  refine item_down ht (Heap.IsSliceOf.new ..) pu ps ?_ (by rw [hlen]; exact hz)
  refine ⟨.ref _, _, I5.laid (o := .tup (cutR bb xs)) (fun b ob q => Heap.get?_push_of_some _ q) (Nat.le_refl _) ?_, rfl, q1 _ (I5.hok.fresh (Nat.le_refl _))⟩
  refine ⟨Nat.le_trans (cutR_length bb xs) hz, cutR bb its, vals_cutR r, ?_⟩
  have : ((its.toArray.toList.drop (its.toArray.size - downN bb its.toArray.size)).reverse) = cutR bb its := by
    unfold cutR
    rw [List.size_toArray]
  rw [this]
  exact IsTup.new _ _
theorem po_m1 {j : Nat} {q1 q2 : Pos} : PO X (some (.UnaryOp .USub (.Constant (.int 1) j q1) q2)) (fun _ H Q => Q (some (-1)) H) := po_imp (po_some (pe_un un_neg pe_int)) fun σ H Q h => ⟨1, rfl, -1, rfl, h⟩
theorem po_0 {j : Nat} {q1 : Pos} : PO X (some (.Constant (.int 0) j q1)) (fun _ H Q => Q (downHi true) H) := po_imp (po_some pe_int) fun σ H Q h => ⟨0, rfl, h⟩
theorem po_n : PO X none (fun _ H Q => Q (downHi false) H) := po_imp po_none fun σ H Q h => h
def wDown (b : Bool) (we : WE) : WE := fun S Q => we S fun d S' => match d with
  | .t ds => Q (.t (cutR b ds)) S'
  | _ => False
theorem rpa_cutR {K : PySem.W.Frag} {A : Addr → Prop} {H : Hp} {bb : Bool} {vs : List V} {ds : List Da} (h : RpA K A H vs ds) : RpA K A H (cutR bb vs) (cutR bb ds) := by
  unfold cutR
  rw [h.length]
  exact (h.drop _).reverse
theorem ldown {K : PySem.W.Frag} {bb : Bool} : ∀ σ H Q, lE K c (wDown bb we) σ H Q → tDown K bb (lE K c we) σ H Q := fun σ H Q h => by
  obtain ⟨S, Qd, r, h, p⟩ := h
  refine ⟨S, _, r, h, fun d S1 h1 H1 v r1 k1 p1 => ?_⟩
  cases d <;> try exact h1.elim
  obtain ⟨w, vs, rfl, g1, g2⟩ := tup_ok p1
  refine ⟨w, vs, rfl, g1, fun q nq => ?_⟩
  obtain ⟨r2, k2, nA⟩ := r1.alloc (o := .tup (cutR bb vs)) nq
  exact p _ _ h1 _ _ r2 (k1.trans k2) (.inl (.t (.inl (.inl upd_same)) ((rpa_cutR g2).kp (kA k2))))
theorem v_rev {j : Nat} {q1 q2 : Pos} (he : PE X e (lE X.K c we)) : PE X (.Subscript e (.Slice none none (some (.UnaryOp .USub (.Constant (.int 1) j q1) q2)) p2) pos) (lE X.K c (wDown false we)) := pe_imp (pe_down (fun v u => [v, u]) (fun _ _ => by with_unfolding_all rfl) he po_n po_m1) ldown
theorem v_rev0 {j k : Nat} {q1 q2 q3 : Pos} (he : PE X e (lE X.K c we)) : PE X (.Subscript e (.Slice none (some (.Constant (.int 0) k q3)) (some (.UnaryOp .USub (.Constant (.int 1) j q1) q2)) p2) pos) (lE X.K c (wDown true we)) := pe_imp (pe_down (fun v u => [v, u]) (fun _ _ => by with_unfolding_all rfl) he po_0 po_m1) ldown
end
end VL
set_option Elab.async false
set_option linter.all false
set_option maxRecDepth 100000
set_option maxHeartbeats 1000000
namespace VL
open PySem PySem.Spec PyProof.Rows L2
/-! ### how loops are read -/
theorem forGo_of {wg : WG} {wb : WS} {D : Dn} (I : List Da → Sx → Prop) (step : ∀ d ds S, I (d :: ds) S → ∀ R : Sx → Prop, (∀ S', I ds S' → R S') → wg d S fun S2 => wb { D with nx := R, ct := R, bk := D.nx } S2) (stop : ∀ S, I [] S → D.nx S) :
    ∀ ds S, I ds S → forGo wg wb D ds S
  | [], S, h => stop S h
  | d :: ds, S, h => step d ds S h _ fun S' h' => forGo_of I step stop ds S' h'
theorem lcGo_of {wg : WG} {wt : WT} {we : WE} {vs : List Nat} {Q : List Da → Sx → Prop} (I : List Da → List Da → Sx → Prop)
    (step : ∀ d ds acc S, I (d :: ds) acc S → ∀ R : List Da → Sx → Prop, (∀ acc' S', I ds acc' S' → R acc' S') → wg d (S.wipe vs) fun S2 => wt S2 fun b S3 => if b = true then we S3 fun y S4 => y.isO = false ∧ acc.length < sizeLine ∧ R (acc ++ [y]) (S.back S4 vs) else R acc (S.back S3 vs))
    (stop : ∀ acc S, I [] acc S → Q acc S) : ∀ ds acc S, I ds acc S → lcGo wg wt we vs Q ds acc S
  | [], acc, S, h => stop acc S h
  | d :: ds, acc, S, h => step d ds acc S h _ fun acc' S' h' => lcGo_of I step stop ds acc' S' h'
/-- the same but for the slots vs -/
structure Agr (S S4 : Sx) (vs : List Nat) : Prop where
  M : S4.M = S.M
  len : S4.ρ.length = S.ρ.length
  get : ∀ j, j ∉ vs → S4.ρ[j]? = S.ρ[j]?
theorem wipeR_out (ρ : List Slx) {j : Nat} : ∀ {vs : List Nat}, j ∉ vs → (wipeR ρ vs)[j]? = ρ[j]?
  | [], _ => rfl
  | v :: vs, h => by
    rw [List.mem_cons, not_or] at h
    unfold wipeR
    rw [List.getElem?_set_ne (Ne.symm h.1), wipeR_out ρ h.2]
theorem backR_out (ρ0 ρ : List Slx) {j : Nat} : ∀ {vs : List Nat}, j ∉ vs → (backR ρ0 ρ vs)[j]? = ρ[j]?
  | [], _ => rfl
  | v :: vs, h => by
    rw [List.mem_cons, not_or] at h
    unfold backR
    rw [List.getElem?_set_ne (Ne.symm h.1), backR_out ρ0 ρ h.2]
theorem backR_in (ρ0 ρ : List Slx) {j : Nat} : ∀ {vs : List Nat}, j ∈ vs → j < ρ.length → (backR ρ0 ρ vs)[j]? = some (kept ρ0 j)
  | [], h, _ => by simp at h
  | v :: vs, h, hl => by
    unfold backR
    by_cases e : v = j
    · subst e
      rw [List.getElem?_set_self (by rw [backR_length]; exact hl)]
    · rw [List.getElem?_set_ne e]
      exact backR_in ρ0 ρ ((List.mem_cons.mp h).resolve_left (fun z => e z.symm)) hl
theorem Agr.wipe {S : Sx} {vs : List Nat} : Agr S (S.wipe vs) vs := ⟨rfl, wipeR_length _ _, fun j h => wipeR_out _ h⟩
theorem Agr.set {S S4 : Sx} {vs : List Nat} {i : Nat} {x : Slx} (a : Agr S S4 vs) (h : i ∈ vs) : Agr S (S4.set i x) vs :=
  ⟨a.M, by simp [Sx.set, a.len], fun j hj => by
    show (S4.ρ.set i x)[j]? = _
    rw [List.getElem?_set_ne (fun e => hj (by rw [← e]; exact h)), a.get j hj]⟩
theorem kept_norm (ρ : List Slx) (vs : List Nat) {j : Nat} (hj : j ∈ vs) (hl : j < ρ.length) : kept (backR ρ ρ vs) j = kept ρ j := by
  unfold kept
  rw [backR_in ρ ρ hj hl]
  unfold kept
  cases ρ[j]? with
  | none => rfl
  | some s => cases s <;> rfl
theorem Agr.back {S S4 : Sx} {vs : List Nat} (a : Agr (S.norm vs) S4 vs) : (S.norm vs).back S4 vs = S.norm vs := by
  have e1 : backR (S.norm vs).ρ S4.ρ vs = (S.norm vs).ρ := by
    refine List.ext_getElem? fun j => ?_
    by_cases hj : j ∈ vs
    · by_cases hl : j < S4.ρ.length
      · have hl' : j < S.ρ.length := by
          have := a.len
          rw [show (S.norm vs).ρ.length = S.ρ.length from backR_length _ _ _] at this
          omega
        have e : kept (S.norm vs).ρ j = kept S.ρ j := kept_norm S.ρ vs hj hl'
        rw [backR_in _ _ hj hl, e]
        exact (backR_in _ _ hj hl').symm
      · have h2 := a.len
        rw [List.getElem?_eq_none (by rw [backR_length]; omega), List.getElem?_eq_none (by omega)]
    · rw [backR_out _ _ hj, a.get j hj]
  show Sx.mk (backR (S.norm vs).ρ S4.ρ vs) S4.M = S.norm vs
  rw [e1, a.M]
/-- a comprehension whose turns change nothing -/
theorem lc_pure {wg : WG} {wt : WT} {we : WE} {vs : List Nat} {Q : List Da → Sx → Prop} {S : Sx} {ds : List Da} (f : Da → Option Da)
    (h : ∀ d ∈ ds, ∀ (R1 : Da → Sx → Prop) (R2 : Sx → Prop), (∀ S4, Agr (S.norm vs) S4 vs → match f d with | some y => R1 y S4 | none => R2 S4) → wg d ((S.norm vs).wipe vs) fun S2 => wt S2 fun b S3 => if b = true then we S3 R1 else R2 S3)
    (hO : ∀ d ∈ ds, ∀ y, f d = some y → y.isO = false) (hz : ds.length ≤ sizeLine) (q : Q (ds.filterMap f) (S.norm vs)) : lcGo wg wt we vs Q ds [] (S.norm vs) := by
  refine lcGo_of (fun rest acc S' => S' = S.norm vs ∧ ∃ done, ds = done ++ rest ∧ acc = done.filterMap f) (fun d rest acc S' ⟨e, done, e1, e2⟩ R hR => ?_) (fun acc S' ⟨e, done, e1, e2⟩ => ?_) ds [] (S.norm vs) ⟨rfl, [], rfl, rfl⟩
  · subst e
    have hd : d ∈ ds := by rw [e1]; simp
    refine h d hd _ _ fun S4 hb => ?_
    have la : acc.length ≤ done.length := by rw [e2]; exact List.length_filterMap_le f done
    have ld : done.length < ds.length := by rw [e1]; simp
    cases e : f d with
    | none => exact hR _ _ ⟨hb.back, done ++ [d], by simp [e1], by simp [e2, e]⟩
    | some y => exact ⟨hO d hd y e, by omega, hR _ _ ⟨hb.back, done ++ [d], by simp [e1], by simp [e2, e]⟩⟩
  · subst e
    rw [List.append_nil] at e1
    rw [e2, ← e1]
    exact q
theorem lc_map {wg : WG} {we : WE} {vs : List Nat} {Q : List Da → Sx → Prop} {S : Sx} {ds : List Da} (g : Da → Da)
    (h : ∀ d ∈ ds, ∀ (R1 : Da → Sx → Prop), (∀ S4, Agr (S.norm vs) S4 vs → R1 (g d) S4) → wg d ((S.norm vs).wipe vs) fun S2 => we S2 R1)
    (hO : ∀ d ∈ ds, (g d).isO = false) (hz : ds.length ≤ sizeLine) (q : Q (ds.map g) (S.norm vs)) : lcGo wg wYes we vs Q ds [] (S.norm vs) := by
  refine lc_pure (fun d => some (g d)) (fun d hd R1 R2 hR => ?_) (fun d hd y e => by cases e; exact hO d hd) hz ?_
  · exact h d hd R1 hR
  · rw [show ds.filterMap (fun d => some (g d)) = ds.map g from by rw [← List.filterMap_eq_map]; rfl]
    exact q
theorem map_erase {α β : Type} (f : α → β) : ∀ (l : List α) (r : Nat), (l.map f).eraseIdx r = (l.eraseIdx r).map f
  | [], _ => rfl
  | _ :: _, 0 => rfl
  | x :: l, r + 1 => by
    show f x :: (l.map f).eraseIdx r = f x :: (l.eraseIdx r).map f
    rw [map_erase f l r]
end VL
set_option Elab.async false
set_option linter.all false
set_option maxRecDepth 100000
set_option maxHeartbeats 1000000
namespace VL
open PySem PySem.Spec PyProof.Rows L2
/-! ### what == may be asked of -/
structure Pd (d : Da) (n : Nat) : Prop where
  pl : d.pl = true
  dp : d.py.depth ≤ n
theorem pls_of : ∀ {ds : List Da} {n : Nat}, (∀ d ∈ ds, Pd d n) → pls ds = true ∧ PyData.depthAll (pys ds) ≤ n
  | [], n, _ => ⟨rfl, Nat.zero_le _⟩
  | d :: ds, n, h => by
    obtain ⟨h1, h2⟩ := pls_of (ds := ds) (n := n) fun x hx => h x (List.mem_cons_of_mem _ hx)
    have h0 := h d (List.mem_cons_self ..)
    refine ⟨by rw [pls, h0.pl, h1]; rfl, ?_⟩
    rw [pys, PyData.depthAll]
    exact Nat.max_le.mpr ⟨h0.dp, h2⟩
theorem Pd.t {ds : List Da} {n : Nat} (h : ∀ d ∈ ds, Pd d n) : Pd (.t ds) (n + 1) := ⟨by rw [Da.pl]; exact (pls_of h).1, by rw [Da.py, PyData.depth]; exact Nat.succ_le_succ (pls_of h).2⟩
theorem Pd.l {ds : List Da} {n : Nat} (h : ∀ d ∈ ds, Pd d n) : Pd (.l ds) (n + 1) := ⟨by rw [Da.pl]; exact (pls_of h).1, by rw [Da.py, PyData.depth]; exact Nat.succ_le_succ (pls_of h).2⟩
theorem Pd.i {k : Int} {n : Nat} : Pd (.i k) n := ⟨rfl, Nat.zero_le _⟩
theorem Pd.n {n : Nat} : Pd .n n := ⟨rfl, Nat.zero_le _⟩
theorem Pd.b {z : Bool} {n : Nat} : Pd (.b z) n := ⟨rfl, Nat.zero_le _⟩
theorem Pd.s {z : Str} {n : Nat} (h : PyData.strOk z = true) : Pd (.s z) n := ⟨h, Nat.zero_le _⟩
theorem Pd.eqb {d : Da} {n : Nat} (h : Pd d n) (hn : n ≤ 64) : d.eqb = true := by
  unfold Da.eqb
  rw [h.pl, decide_eq_true (Nat.le_trans h.dp hn)]
  rfl
theorem eqv_self {d : Da} (h : d.eqb = true) : PyData.eqv d.py d.py = true := SeqAt.eqv_refl _ (canLay_py d (eqb_shaped h).2)
theorem rdEq_self {d : Da} {S : Sx} {Q : Da → Sx → Prop} (h : d.eqb = true) (q : Q (.b true) S) : rdEq d d S Q := .inr ⟨h, h, by rw [eqv_self h]; exact q⟩
theorem rdNe_self {d : Da} {S : Sx} {Q : Da → Sx → Prop} (h : d.eqb = true) (q : Q (.b false) S) : rdNe d d S Q := .inr ⟨h, h, by rw [eqv_self h]; exact q⟩
theorem eqb_ints {ns : List Int} : (Da.l (ns.map .i)).eqb = true := (Pd.l (n := 0) fun d hd => by obtain ⟨k, _, rfl⟩ := List.mem_map.mp hd; exact .i).eqb (by decide)
end VL
set_option Elab.async false
set_option linter.all false
set_option maxRecDepth 100000
set_option maxHeartbeats 1000000
namespace VL
open PySem PySem.Spec PyProof.Rows L2
/-! ### a law -/
def spLaw (K : PySem.W.Frag) : Sp := fun vs H Q _ => ∃ (a : Addr) (ns : List Int), vs = [.ref a] ∧ SqL K H a (ns.map V.int) ∧ ns.length ≤ 63 ∧ ∀ H', Q (.bl true) H'
def Scr (d : Da) (ns : List Int) : Prop := d = .l (ns.map .i) ∨ d = .sc ns
def dc_law : DC := fun ds M Q _ => ∃ (d : Da) (ns : List Int), ds = [d] ∧ Scr d ns ∧ ns.length ≤ 63 ∧ ∀ M', Q (.b true) M'
section
variable {P : Program} {w : World} {K : PySem.W.Frag} {mg : Str → Option Value} {base : Heap}
theorem law_sp {vs : List V} {H : Hp} {Q : V → Hp → Prop} {E E' : XK} (h : spLaw K vs H Q E) : spOf K dc_law vs H Q E' := by
  obtain ⟨a, ns, rfl, hS, hl, q⟩ := h
  have go : ∀ d, Rp K (fun a => (fun _ : Addr => False) a ∨ wM (fun _ => none) a) H (.ref a) d → Scr d ns → spOf K dc_law [.ref a] H Q E' := fun d rp hd => by
    refine ⟨fun _ => False, fun _ => none, [d], fun d _ => d = .b true, fun _ _ _ => False, .cons rp .nil, fun _ _ h => (by cases h), fun _ h => h.elim, ⟨d, ns, rfl, hd, hl, fun _ => rfl⟩, fun d M' e H' v _ _ hv => ?_, fun _ _ _ h => h.elim⟩
    subst e
    cases hv
    exact q _
  rcases hS with (h | ⟨o, h⟩) | h
  · refine go _ (.l h (fun z => ?_) (rpa_ofInts ns)) (.inl rfl)
    rcases z with z | z
    · exact z
    · exact z rfl
  · exact go _ (.sc (.inl ⟨o, h⟩)) (.inr rfl)
  · exact go _ (.sc (.inr (.inr h))) (.inr rfl)
theorem law_of {k : Nat} {f : Addr} {fd : FuncData} {ps : List Str} (F : FnOk P w K mg base (L2.CX P w) k f fd ps (spOf K dc_law)) : FnOk P w K mg base CX0 k f fd ps (spLaw K) :=
  have G := FnOk.c0 F
  ⟨fun vs H Q E h => G.len vs H Q E (law_sp h), fun A outer s H args us vs Q E hr e0 hb hv h => G.run A outer s H args us vs Q E hr e0 hb hv (law_sp h)⟩
end
end VL
set_option Elab.async false
set_option linter.all false
set_option maxRecDepth 100000
set_option maxHeartbeats 1000000
namespace VL
open PySem PySem.Spec PyProof.Rows L2
def topS (i : Nat) : Stmt := PySem.Challenge.pw_kindnotes_k14_what_a_node_needs.main.body.getD i (.Pass ⟨0, 0, 0, 0⟩)
abbrev sNodePrices : Stmt := topS 1
abbrev NNodePrices : List Str := ["ways", "names", "parts", "around", "told", "found", "whole", "steps", "noted", "price", "place", "direction"]
theorem scNodePrices : FnScope NNodePrices ["ways", "names", "parts", "around"] (defScope sNodePrices) := ⟨rfl, rfl, rfl, by decide +kernel, rfl, by decide +kernel, by decide +kernel⟩
abbrev sOwnNeed : Stmt := topS 3
abbrev NOwnNeed : List Str := ["ways", "differences", "_", "difference"]
theorem scOwnNeed : FnScope NOwnNeed ["ways", "differences"] (defScope sOwnNeed) := ⟨rfl, rfl, rfl, by decide +kernel, rfl, by decide +kernel, by decide +kernel⟩
abbrev sLCell : Stmt := topS 5
abbrev NLCell : List Str := ["_law_script", "_law_k"]
theorem scLCell : FnScope NLCell ["_law_script", "_law_k"] (defScope sLCell) := ⟨rfl, rfl, rfl, by decide +kernel, rfl, by decide +kernel, by decide +kernel⟩
abbrev sLTape : Stmt := topS 6
abbrev NLTape : List Str := ["_law_script", "_law_k", "_law_size", "_law_cell_here", "_law_left", "_law_tape_here", "_law_j", "_law_mixed"]
theorem scLTape : FnScope NLTape ["_law_script", "_law_k", "_law_size"] (defScope sLTape) := ⟨rfl, rfl, rfl, by decide +kernel, rfl, by decide +kernel, by decide +kernel⟩
abbrev sLTake : Stmt := topS 7
abbrev NLTake : List Str := ["_law_tape_here", "_law_many"]
theorem scLTake : FnScope NLTake ["_law_tape_here", "_law_many"] (defScope sLTake) := ⟨rfl, rfl, rfl, by decide +kernel, rfl, by decide +kernel, by decide +kernel⟩
abbrev sLAdds : Stmt := topS 8
abbrev NLAdds : List Str := ["_law_ways", "_law_differences", "_law_given", "_law_low", "_law_high", "_law_chosen", "_law_many", "_law_place", "_law_step"]
theorem scLAdds : FnScope NLAdds ["_law_ways", "_law_differences", "_law_given"] (defScope sLAdds) := ⟨rfl, rfl, rfl, by decide +kernel, rfl, by decide +kernel, by decide +kernel⟩
abbrev sLSomeWay : Stmt := topS 9
abbrev NLSomeWay : List Str := ["_law_tape_here", "_law_many", "_law_only", "_law_left", "_law_steps", "_law_marked", "_law_k"]
theorem scLSomeWay : FnScope NLSomeWay ["_law_tape_here", "_law_many", "_law_only"] (defScope sLSomeWay) := ⟨rfl, rfl, rfl, by decide +kernel, rfl, by decide +kernel, by decide +kernel⟩
abbrev sLAnswer : Stmt := topS 10
abbrev NLAnswer : List Str := ["_law_ways", "_law_row", "_law_passed", "_law_answer_here", "_law_number"]
theorem scLAnswer : FnScope NLAnswer ["_law_ways", "_law_row"] (defScope sLAnswer) := ⟨rfl, rfl, rfl, by decide +kernel, rfl, by decide +kernel, by decide +kernel⟩
abbrev sLaw : Stmt := topS 11
abbrev NLaw : List Str := ["_law_script", "_law_tape_here", "_law_many", "_law_only", "_law_ways", "_law_row", "_law_k"]
theorem scLaw : FnScope NLaw ["_law_script"] (defScope sLaw) := ⟨rfl, rfl, rfl, by decide +kernel, rfl, by decide +kernel, by decide +kernel⟩
structure Dfn (K : PySem.W.Frag) (mg : Str → Option Value) (x : Str) (st : Stmt) (ps : List Str) (f : Addr) (fd : FuncData) : Prop where
  F : Fun K x x st f fd
  b : Binds K fd ps []
  g : mg x = some (.ref f)
structure ErrC (K : PySem.W.Frag) (mg : Str → Option Value) (x : Str) (C : Addr) : Prop where
  g : mg x = some (.ref C)
  kp : PySem.W.keepIn K (.ref C) = true
  ex : PySem.W.excIn K C [.type "ValueError", .type "Exception", .type "BaseException", .type "object"] "ValueError.__new__" = true
  sb : PySem.W.subIn K (.ref C) (.type "BaseException") = some true
  ty : PySem.W.typeIn K (.ref C) = some (.type "type")
  hd : PySem.W.hasDictIn K C = true
  ec : ExcC K C
structure Tx (K : PySem.W.Frag) (mg : Str → Option Value) where
  f_node_prices : Addr
  fd_node_prices : FuncData
  d_node_prices : Dfn K mg "node_prices" sNodePrices ["ways", "names", "parts", "around"] f_node_prices fd_node_prices
  f_own_need : Addr
  fd_own_need : FuncData
  d_own_need : Dfn K mg "own_need" sOwnNeed ["ways", "differences"] f_own_need fd_own_need
  f_l_cell : Addr
  fd_l_cell : FuncData
  d_l_cell : Dfn K mg "_law_cell" sLCell ["_law_script", "_law_k"] f_l_cell fd_l_cell
  f_l_tape : Addr
  fd_l_tape : FuncData
  d_l_tape : Dfn K mg "_law_tape" sLTape ["_law_script", "_law_k", "_law_size"] f_l_tape fd_l_tape
  f_l_take : Addr
  fd_l_take : FuncData
  d_l_take : Dfn K mg "_law_take" sLTake ["_law_tape_here", "_law_many"] f_l_take fd_l_take
  f_l_adds : Addr
  fd_l_adds : FuncData
  d_l_adds : Dfn K mg "_law_adds" sLAdds ["_law_ways", "_law_differences", "_law_given"] f_l_adds fd_l_adds
  f_l_some_way : Addr
  fd_l_some_way : FuncData
  d_l_some_way : Dfn K mg "_law_some_way" sLSomeWay ["_law_tape_here", "_law_many", "_law_only"] f_l_some_way fd_l_some_way
  f_l_answer : Addr
  fd_l_answer : FuncData
  d_l_answer : Dfn K mg "_law_answer" sLAnswer ["_law_ways", "_law_row"] f_l_answer fd_l_answer
  f_law : Addr
  fd_law : FuncData
  d_law : Dfn K mg "law" sLaw ["_law_script"] f_law fd_law
  n_bool : mg "bool" = none
  n_int : mg "int" = none
  n_isinstance : mg "isinstance" = none
  n_len : mg "len" = none
  n_list : mg "list" = none
  n_min : mg "min" = none
  n_range : mg "range" = none
  n_sum : mg "sum" = none
  n_tuple : mg "tuple" = none
section
variable {P : Program} {w : World} {K : PySem.W.Frag} {mg : Str → Option Value} {base : Heap}
/-! ### the script and the tape -/
theorem lst_r {S : Sx} {p : Addr} {ds : List Da} (h : S.M p = some (.lst ds)) : S.lst (.r p) = some ds := by
  show (match S.M p with | some (.lst ds) => some ds | _ => none) = _
  rw [h]
theorem putL_r {S : Sx} {p : Addr} {ds es : List Da} (h : S.M p = some (.lst ds)) : S.putL (.r p) es = some ⟨S.ρ, updM S.M p (.lst es)⟩ := by
  show (match S.M p with | some (.lst _) => some _ | _ => none) = _
  rw [h]
theorem updM_id {M : Mx} {p : Addr} {m : MO} (h : M p = some m) : updM M p m = M := by
  funext b
  by_cases e : b = p
  · rw [e, updM_same, h]
  · rw [updM_ne e]
theorem updM_upd {M : Mx} {p : Addr} {m m' : MO} : updM (updM M p m) p m' = updM M p m' := by
  funext b
  by_cases e : b = p
  · rw [e, updM_same, updM_same]
  · rw [updM_ne e, updM_ne e, updM_ne e]
theorem fmod_small (c : Int) : -(2 ^ 64) < c.fmod 9973 ∧ c.fmod 9973 < 2 ^ 64 := by
  have h : c.fmod 9973 = c % 9973 := Int.fmod_eq_emod_of_nonneg c (by decide)
  rw [h]
  have h1 := Int.emod_nonneg c (show (9973 : Int) ≠ 0 by decide)
  have h2 := Int.emod_lt_of_pos c (show (0 : Int) < 9973 by decide)
  constructor <;> omega
theorem st_upd {X : List Slx} {M : Mx} {p : Addr} {m m' : MO} : Sx.mk X (updM (updM M p m) p m') = Sx.mk X (updM M p m') := by rw [updM_upd]
theorem seq0 {n : Nat} (h : 0 < n) (h2 : n < 2 ^ 62) : seqIndex? 0 n = some 0 := seqIndex_of (by decide) (by omega)
def dc_l_cell : DC := fun ds M Q _ => ∃ (s : Da) (ns : List Int) (k : Nat), ds = [s, .i k] ∧ Scr s ns ∧ ns.length ≤ 63 ∧ ∀ v : Int, Q (.i v) M
/-- a tape stands at p -/
def Tp (M : Mx) (p : Addr) : Prop := ∃ ts : List Int, M p = some (.lst (ts.map .i)) ∧ ts.length ≤ 1000
/-- the tape at p may have changed, all else is as it was -/
structure Tto (p : Addr) (M M' : Mx) : Prop where
  tp : Tp M' p
  out : ∀ b, b ≠ p → M' b = M b
theorem Tto.trans {p : Addr} {M M1 M2 : Mx} (a : Tto p M M1) (b : Tto p M1 M2) : Tto p M M2 := ⟨b.tp, fun x h => (b.out x h).trans (a.out x h)⟩
theorem Tto.refl {p : Addr} {M : Mx} (h : Tp M p) : Tto p M M := ⟨h, fun _ _ => rfl⟩
theorem Tto.upd {p : Addr} {M : Mx} {ts : List Int} (h : ts.length ≤ 1000) : Tto p M (updM M p (.lst (ts.map .i))) := ⟨⟨ts, updM_same, h⟩, fun _ h => updM_ne h⟩
def dc_l_tape : DC := fun ds M Q _ => ∃ (s : Da) (ns : List Int) (k m : Nat), ds = [s, .i k, .i m] ∧ Scr s ns ∧ ns.length ≤ 63 ∧ m ≤ 1000 ∧ ∀ (p : Addr) (M' : Mx), M p = none → Tto p M M' → Q (.r p) M'
def dc_l_take : DC := fun ds M Q _ => ∃ (p : Addr) (m : Nat), ds = [.r p, .i m] ∧ Tp M p ∧ 1 ≤ m ∧ ∀ (r : Nat) (M' : Mx), r < m → Tto p M M' → Q (.i r) M'
theorem atI_some {α : Type} {xs : List α} {k : Nat} (h : k < xs.length) : atI xs ((k : Nat) : Int) = some xs[k] := atI_nat (by simp [h])
theorem ok_l_cell (T : Tx K mg)  : FnOk P w K mg base (L2.CX P w) 1 T.f_l_cell T.fd_l_cell ["_law_script", "_law_k"] (spOf K dc_l_cell) := by
  have sc := scLCell
  refine okD T.d_l_cell.F sc (fun ds M Q X h => ?_) (fun cdv A outer s H E c ds M Qd Xd hn hr h hX => ?_)
  · obtain ⟨s, ns, k, rfl, _⟩ := h
    rfl
  have tk := takes_of (X := cxOf (L2.CX P w) P w K mg base NLCell "_law_cell" (defScope sLCell) T.f_l_cell cdv A outer s H E) rfl rfl rfl rfl
  refine ⟨_, (ss_cons (s_if (vt_cmp op_lt lC (nomark _) (vv 1) (v_cb1 call_lenA lLen (by rfl) T.n_len (by decide +kernel) (vv 0)))
  (ss_one (s_ret (v_ix (vv 0) (vv 1) (fun _ _ => rfl))))
  ss_nil)
  (ss_one (s_ret vi))), ?_⟩
  obtain ⟨s, ns, k, rfl, hs, hl, q⟩ := h
  have small : ns.length ≤ sizeLine := by rw [sizeLine_eq]; omega
  rcases hs with rfl | rfl
  · refine ite2 (fun z => ?_) (fun _ => ⟨rfl, q 0⟩)
    have hk : k < (ns.map Da.i).length := by
      have : (k : Int) < ((ns.map Da.i).length : Int) := of_decide_eq_true z
      omega
    refine ⟨_, _, rfl, atI_some hk, ?_, ?_⟩
    · rw [List.getElem_map]; rfl
    · rw [List.getElem_map]; exact q _
  · refine ite2 (fun z => ?_) (fun _ => ⟨rfl, q 0⟩)
    have hk : k < ns.length := by
      have : (k : Int) < (ns.length : Int) := of_decide_eq_true z
      omega
    exact ⟨_, atI_some hk, rfl, q _⟩
theorem ok_l_tape (T : Tx K mg) (G_l_cell : FnOk P w K mg base (L2.CX P w) 1 T.f_l_cell T.fd_l_cell ["_law_script", "_law_k"] (spOf K dc_l_cell)) : FnOk P w K mg base (L2.CX P w) 2 T.f_l_tape T.fd_l_tape ["_law_script", "_law_k", "_law_size"] (spOf K dc_l_tape) := by
  have sc := scLTape
  refine okD T.d_l_tape.F sc (fun ds M Q X h => ?_) (fun cdv A outer s H E c ds M Qd Xd hn hr h hX => ?_)
  · obtain ⟨s, ns, k, m, rfl, _⟩ := h
    rfl
  have tk := takes_of (X := cxOf (L2.CX P w) P w K mg base NLTape "_law_tape" (defScope sLTape) T.f_l_tape cdv A outer s H E) rfl rfl rfl rfl
  refine ⟨_, (ss_cons (s_set (i := 3) sc.nd rfl (by first | exact .inl rfl | exact .inr rfl) (by rw [hn]; decide) (v_call G_l_cell (hr.mono (by decide)) (by rfl) T.d_l_cell.g T.d_l_cell.F.kp T.d_l_cell.b tk hX (v_cons (vv 0) (v_cons (vv 1) v_nil))))
  (ss_cons (s_set (i := 4) sc.nd rfl (by first | exact .inl rfl | exact .inr rfl) (by rw [hn]; decide) (vv 3))
  (ss_cons (s_own (i := 5) sc.nd rfl (by first | exact .inl rfl | exact .inr rfl) (by rw [hn]; decide) (v_lst v_nil))
  (ss_cons (s_for (passes_of rfl) rfl (i_rng1 (by rfl) T.n_range (vv 2)) (pg_name (i := 6) sc.nd rfl (by first | exact .inl rfl | exact .inr rfl)) (lgN (i := 6) (by rw [hn]; decide))
  (ss_one (s_if (PW.pt (v_and (vt_cmp op_ge lC (nomark _) (vv 3) (v_op op_pow lI vi vi)) (pw_and1 (vt_cmp op_gt lC (nomark _) (vv 4) vi))))
  (ss_cons (s_expr (v_met PySem.F.plainAttrs_list PySem.F.slot_list_append PySem.F.type_list_append mt_append tyL_ok lAppend (vv 5) (v_op op_modN lI (v_ct1 call_int1 lInt (by rfl) T.n_int (by decide +kernel) (vv 4)) vi)))
  (ss_one (s_set (i := 4) sc.nd rfl (by first | exact .inl rfl | exact .inr rfl) (by rw [hn]; decide) (v_op op_fdivN lI (vv 4) vi))))
  (ss_cons (s_set (i := 7) sc.nd rfl (by first | exact .inl rfl | exact .inr rfl) (by rw [hn]; decide) (v_op op_modN lI (v_ct1 call_int1 lInt (by rfl) T.n_int (by decide +kernel) (v_op op_addA lAdd (v_op op_mul lI (v_op op_modN lI (v_ct1 call_int1 lInt (by rfl) T.n_int (by decide +kernel) (vv 3)) vi) (v_op op_addA lAdd vi (v_op op_mul lI vi (vv 6)))) (v_op op_mul lI vi (vv 6)))) vi))
  (ss_one (s_expr (v_met PySem.F.plainAttrs_list PySem.F.slot_list_append PySem.F.type_list_append mt_append tyL_ok lAppend (vv 5) (v_op op_addA lAdd (vv 7) (v_op op_fdivN lI (vv 7) vi)))))))))
  (ss_one (s_ret (vSh (vv 5)))))))), ?_⟩
  obtain ⟨s, ns, k, m, rfl, hs, hl, hm, q⟩ := h
  refine ⟨?_, ?_, s, ns, k, rfl, hs, hl, fun v => ⟨rfl, rfl, by show 0 ≤ sizeLine; decide, fun p np => ⟨by omega, by omega, ?_⟩⟩⟩
  · rcases hs with rfl | rfl <;> rfl
  · rfl
  · refine forGo_of (fun rest S => ∃ (ts : List Int) (x4 : Int) (y6 y7 : Slx), S = ⟨[.val s, .val (.i k), .val (.i m), .val (.i v), .val (.i x4), .own p (ts.map .i), y6, y7], M⟩ ∧ ts.length + rest.length = m ∧ ∀ x ∈ rest, ∃ j : Int, x = .i j)
      (fun d ds S h R hR => ?_) (fun S h => ?_) _ _ ⟨[], v, .no, .no, rfl, by simp [rngD], fun x hx => ?_⟩
    · obtain ⟨ts, x4, y6, y7, rfl, hl, hj⟩ := h
      obtain ⟨j, rfl⟩ := hj d (by simp)
      have small : ts.length < sizeLine := by rw [sizeLine_eq]; rw [List.length_cons] at hl; omega
      have go : ∀ (x x4 : Int) (y6 y7 : Slx), R ⟨[.val s, .val (.i k), .val (.i m), .val (.i v), .val (.i x4), .own p (ts.map .i ++ [.i x]), y6, y7], M⟩ := fun x x4 y6 y7 => hR _ ⟨ts ++ [x], x4, y6, y7, by rw [List.map_append]; rfl, by rw [List.length_append]; rw [List.length_cons] at hl; simp; omega, fun z hz => hj z (by simp [hz])⟩
      refine ⟨⟨by decide, by decide, by decide⟩, ite2 (fun _ => ite2 (fun _ => ?t) (fun _ => ?e1)) (fun _ => ?e2)⟩
      case t => exact ⟨⟨_, rfl⟩, by show (5040 : Int) ≠ 0; decide, _, _, rfl, rfl, by rw [List.length_map]; exact small, rfl, ⟨by decide, by decide⟩, rfl, go _ _ _ _⟩
      all_goals exact ⟨by show (9973 : Int) ≠ 0; decide, .inl ⟨by decide, by decide⟩, .inl (fmod_small v), .inl ⟨by decide, by decide⟩, by show (1009 : Int) ≠ 0; decide, rfl, ⟨_, rfl⟩, ⟨by decide, by decide⟩, _, _, rfl, rfl, by rw [List.length_map]; exact small, rfl, go _ _ _ _⟩
    · obtain ⟨ts, x4, y6, y7, rfl, hl, hj⟩ := h
      exact ⟨rfl, q p _ np (.upd (by simp at hl; omega))⟩
    · unfold rngD at hx
      obtain ⟨j, _, rfl⟩ := List.mem_map.mp hx
      exact ⟨_, rfl⟩
theorem ok_l_take (T : Tx K mg)  : FnOk P w K mg base (L2.CX P w) 1 T.f_l_take T.fd_l_take ["_law_tape_here", "_law_many"] (spOf K dc_l_take) := by
  have sc := scLTake
  refine okD T.d_l_take.F sc (fun ds M Q X h => ?_) (fun cdv A outer s H E c ds M Qd Xd hn hr h hX => ?_)
  · obtain ⟨p, m, rfl, _⟩ := h
    rfl
  have tk := takes_of (X := cxOf (L2.CX P w) P w K mg base NLTake "_law_take" (defScope sLTake) T.f_l_take cdv A outer s H E) rfl rfl rfl rfl
  refine ⟨_, (ss_cons (s_if (vt_cmp (op_eqA hr.units) lEq (nomark _) (v_cb1 call_lenA lLen (by rfl) T.n_len (by decide +kernel) (vv 0)) vi)
  (ss_one (s_ret vi))
  ss_nil)
  (ss_one (s_ret (v_op op_modN lI (v_ct1 call_int1 lInt (by rfl) T.n_int (by decide +kernel) (v_met PySem.F.plainAttrs_list PySem.F.slot_list_pop PySem.F.type_list_pop mt_popAt tyL_ok lPopAt (vv 0) vi)) (vv 1))))), ?_⟩
  obtain ⟨p, m, rfl, ⟨ts, hp, hz⟩, hm, q⟩ := h
  refine ⟨ts.map .i, lst_r hp, .inl ⟨rfl, rfl, rfl, ite2 (fun z => ?_) (fun z => ?_)⟩⟩
  · exact ⟨rfl, q 0 M (by omega) (.refl ⟨ts, hp, hz⟩)⟩
  · cases ts with
    | nil => exact absurd rfl z
    | cons x r =>
      refine ⟨⟨_, lst_r hp⟩, by decide, by decide, _, 0, .i x, _, lst_r hp, seq0 (by simp) (by simp at hz ⊢; omega), rfl, putL_r hp, ?_, rfl, ?_⟩
      · show (m : Int) ≠ 0
        omega
      · have e1 : x.fmod (m : Int) = x % (m : Int) := Int.fmod_eq_emod_of_nonneg x (by omega)
        have h1 := Int.emod_nonneg x (show (m : Int) ≠ 0 by omega)
        have h2 := Int.emod_lt_of_pos x (show (0 : Int) < (m : Int) by omega)
        have z := q (x % (m : Int)).toNat _ (by omega) (.upd (ts := r) (by simp at hz; omega))
        rw [Int.toNat_of_nonneg h1] at z
        show Qd (.i (x.fmod (m : Int))) _
        rw [e1]
        exact z
end
end VL
set_option Elab.async false
set_option linter.all false
set_option maxRecDepth 100000
set_option maxHeartbeats 1000000
namespace VL
open PySem PySem.Spec PyProof.Rows L2
/-! ### ways -/
def dirS (d : Bool) : Str := if d then Str.ofString "found" else Str.ofString "told"
structure Wy where
  whole : Bool
  steps : List (Nat × Bool)
  noted : List Nat
def stD (s : Nat × Bool) : Da := .t [.i (s.1 : Int), .s (dirS s.2)]
def nD (k : Nat) : Da := .i (k : Int)
def wD (w : Wy) : Da := .t [.s (dirS w.whole), .t (w.steps.map stD), .t (w.noted.map nD)]
structure Wy.ok (w : Wy) (n : Nat) : Prop where
  st : ∀ s ∈ w.steps, s.1 < n
  nt : ∀ k ∈ w.noted, k < n
  l1 : w.steps.length ≤ 3
  l2 : w.noted.length ≤ 3
def stepP (parts : List (Int × Int)) (s : Nat × Bool) : Int := if s.2 then (parts.getD s.1 (0, 0)).2 else (parts.getD s.1 (0, 0)).1
def price (names : List Int) (parts : List (Int × Int)) (w : Wy) : Int := (w.noted.map fun k => names.getD k 0).sum + (w.steps.map (stepP parts)).sum
def lessO (p : Int) : Option Int → Bool
  | none => true
  | some t => decide (p < t)
def upT (names : List Int) (parts : List (Int × Int)) (t : Option Int) (w : Wy) : Option Int := if lessO (price names parts w) t then some (price names parts w) else t
def upF (names : List Int) (parts : List (Int × Int)) (t : Option Int) (w : Wy) : Option Int := if w.whole && lessO (price names parts w) t then some (price names parts w) else t
def npT (names : List Int) (parts : List (Int × Int)) (ws : List Wy) : Option Int := ws.foldl (upT names parts) none
def npF (names : List Int) (parts : List (Int × Int)) (ws : List Wy) : Option Int := ws.foldl (upF names parts) none
def optD : Option Int → Da
  | none => .n
  | some k => .i k
def pD (x : Int × Int) : Da := .t [.i x.1, .i x.2]
theorem dirS_found (d : Bool) : decide (dirS d = Str.ofString "found") = d := by cases d <;> decide +kernel
theorem dirS_told (d : Bool) : decide (dirS d = Str.ofString "told") = !d := by cases d <;> decide +kernel
theorem upT_some {names : List Int} {parts : List (Int × Int)} {t : Option Int} {w : Wy} : ∃ k, upT names parts t w = some k := by
  unfold upT
  cases t with
  | none => exact ⟨_, rfl⟩
  | some t => split <;> exact ⟨_, rfl⟩
theorem npT_some {names : List Int} {parts : List (Int × Int)} : ∀ {ws : List Wy} (t : Option Int), (ws ≠ [] ∨ ∃ k, t = some k) → ∃ k, ws.foldl (upT names parts) t = some k
  | [], t, h => by rcases h with h | h; exact absurd rfl h; exact h
  | w :: r, t, _ => npT_some (upT names parts t w) (.inr upT_some)
def fin (t : Int) (f : Option Int) (a : Int) : Int := if lessO (t + a) f then t + a else f.getD 0
section
variable {P : Program} {w : World} {K : PySem.W.Frag} {mg : Str → Option Value} {base : Heap}
def dc_node_prices : DC := fun ds M Q _ => ∃ (ws : List Wy) (names : List Int) (parts : List (Int × Int)) (a t : Int), ds = [.t (ws.map wD), .l (names.map .i), .l (parts.map pD), .i a] ∧ (∀ w ∈ ws, w.ok names.length) ∧ parts.length = names.length ∧ npT names parts ws = some t ∧
  Q (.t [.i t, .i (fin t (npF names parts ws) a)]) M
theorem ix_names {names : List Int} {k : Nat} (h : k < names.length) : atI (names.map Da.i) (k : Int) = some (.i (names.getD k 0)) := by
  rw [atI_some (by rw [List.length_map]; exact h), List.getElem_map, List.getD_eq_getElem?_getD, List.getElem?_eq_getElem h]
  rfl
theorem ix_parts {parts : List (Int × Int)} {k : Nat} (h : k < parts.length) : atI (parts.map pD) (k : Int) = some (pD (parts.getD k (0, 0))) := by
  rw [atI_some (by rw [List.length_map]; exact h), List.getElem_map, List.getD_eq_getElem?_getD, List.getElem?_eq_getElem h]
  rfl
def gN' (names : List Int) : Da → Da
  | .i k => .i (names.getD k.toNat 0)
  | d => d
theorem ok_node_prices (T : Tx K mg)  : FnOk P w K mg base (L2.CX P w) 1 T.f_node_prices T.fd_node_prices ["ways", "names", "parts", "around"] (spOf K dc_node_prices) := by
  have sc := scNodePrices
  refine okD T.d_node_prices.F sc (fun ds M Q X h => ?_) (fun cdv A outer s H E c ds M Qd Xd hn hr h hX => ?_)
  · obtain ⟨ws, names, parts, a, t, rfl, _⟩ := h
    rfl
  have tk := takes_of (X := cxOf (L2.CX P w) P w K mg base NNodePrices "node_prices" (defScope sNodePrices) T.f_node_prices cdv A outer s H E) rfl rfl rfl rfl
  refine ⟨_, (ss_cons (s_set (i := 4) sc.nd rfl (by first | exact .inl rfl | exact .inr rfl) (by rw [hn]; decide) vn)
  (ss_cons (s_set (i := 5) sc.nd rfl (by first | exact .inl rfl | exact .inr rfl) (by rw [hn]; decide) vn)
  (ss_cons (s_for (passes_of rfl) rfl (i_sq (vv 0)) (pg_tup (by rfl) (pgs_cons (pg_name (i := 6) sc.nd rfl (by first | exact .inl rfl | exact .inr rfl)) (pgs_cons (pg_name (i := 7) sc.nd rfl (by first | exact .inl rfl | exact .inr rfl)) (pgs_cons (pg_name (i := 8) sc.nd rfl (by first | exact .inl rfl | exact .inr rfl)) pgs_nil)))) (lgT (n := 3) (lgs_cons (lgN (i := 6) (by rw [hn]; decide)) (lgs_cons (lgN (i := 7) (by rw [hn]; decide)) (lgs_cons (lgN (i := 8) (by rw [hn]; decide)) lgs_nil))) (lenN (lenN (lenN len0))))
  (ss_cons (s_set (i := 9) sc.nd rfl (by first | exact .inl rfl | exact .inr rfl) (by rw [hn]; decide) (v_cb1 (cr_sum rfl) lSum (by rfl) T.n_sum (by decide +kernel) (vOf (v_lc rfl sc.nd (i_sq (vv 8)) (blkOk_by (own := [("place", 10)]) (N := NNodePrices) (sc := defScope sNodePrices) (by decide +kernel)) (fun c1 e1 => (lgN (i := 10) (by rw [e1, hn]; decide))) (fun _ _ _ _ _ => (pg_name (i := 10) sc.nd rfl (by first | exact .inl rfl | exact .inr rfl))) (fun _ _ _ _ _ _ _ => ts_nil) (fun _ _ _ _ _ c1 e1 => (v_ix (vv 1) (vv 10) (fun _ _ => rfl))) (by decide)))))
  (ss_cons (s_for (passes_of rfl) rfl (i_sq (vv 7)) (pg_tup (by rfl) (pgs_cons (pg_name (i := 10) sc.nd rfl (by first | exact .inl rfl | exact .inr rfl)) (pgs_cons (pg_name (i := 11) sc.nd rfl (by first | exact .inl rfl | exact .inr rfl)) pgs_nil))) (lgT (n := 2) (lgs_cons (lgN (i := 10) (by rw [hn]; decide)) (lgs_cons (lgN (i := 11) (by rw [hn]; decide)) lgs_nil)) (lenN (lenN len0)))
  (ss_one (s_set (i := 9) sc.nd rfl (by first | exact .inl rfl | exact .inr rfl) (by rw [hn]; decide) (v_op op_addA lAdd (vv 9) (v_ix (v_ix (vv 2) (vv 10) (fun _ _ => rfl)) (v_ite (vt_cmp (op_eqA hr.units) lEq (nomark _) (vv 11) vs) vi vi) (fun _ _ => rfl))))))
  (ss_cons (s_if (PW.pt (v_or (vt_cmp op_isN lIs (nomark _) (vv 4) vn) (pw_or1 (vt_cmp op_lt lC (nomark _) (vv 9) (vv 4)))))
  (ss_one (s_set (i := 4) sc.nd rfl (by first | exact .inl rfl | exact .inr rfl) (by rw [hn]; decide) (vv 9)))
  ss_nil)
  (ss_one (s_if (PW.pt (v_and (vt_cmp (op_eqA hr.units) lEq (nomark _) (vv 6) vs) (pw_and1 (PW.pt (v_or (vt_cmp op_isN lIs (nomark _) (vv 5) vn) (pw_or1 (vt_cmp op_lt lC (nomark _) (vv 9) (vv 5))))))))
  (ss_one (s_set (i := 5) sc.nd rfl (by first | exact .inl rfl | exact .inr rfl) (by rw [hn]; decide) (vv 9)))
  ss_nil))))))
  (ss_cons (s_if (PW.pt (v_or (vt_cmp op_isN lIs (nomark _) (vv 5) vn) (pw_or1 (vt_cmp op_lt lC (nomark _) (v_op op_addA lAdd (vv 4) (vv 3)) (vv 5)))))
  (ss_one (s_set (i := 5) sc.nd rfl (by first | exact .inl rfl | exact .inr rfl) (by rw [hn]; decide) (v_op op_addA lAdd (vv 4) (vv 3))))
  ss_nil)
  (ss_one (s_ret (v_tup (v_cons (vv 4) (v_cons (vv 5) v_nil))))))))), ?_⟩
  obtain ⟨ws, names, parts, a, t, rfl, hw, hp, ht, q⟩ := h
  refine ⟨rfl, rfl, ?_⟩
  refine forGo_of (fun rest S => ∃ (done rw : List Wy) (y6 y7 y8 y9 y10 y11 : Slx), rest = rw.map wD ∧ ws = done ++ rw ∧ S = ⟨[.val (.t (ws.map wD)), .val (.l (names.map .i)), .val (.l (parts.map pD)), .val (.i a), .val (optD (npT names parts done)), .val (optD (npF names parts done)), y6, y7, y8, y9, y10, y11], M⟩)
    (fun d ds S h R hR => ?_) (fun S h => ?_) _ _ ⟨[], ws, .no, .no, .no, .no, .no, .no, rfl, rfl, rfl⟩
  · obtain ⟨done, rw', y6, y7, y8, y9, y10, y11, e1, e2, rfl⟩ := h
    cases rw' with
    | nil => cases e1
    | cons w r =>
    cases e1
    have wok := hw w (by rw [e2]; simp)
    refine lc_map (gN' names) (fun d hd R1 hR1 => ?_) (fun d hd => ?_) ?_ ?_
    · obtain ⟨k, hk, rfl⟩ := List.mem_map.mp hd
      refine ⟨_, _, rfl, ix_names (wok.nt k hk), hR1 _ (Agr.wipe.set (by decide))⟩
    · obtain ⟨k, hk, rfl⟩ := List.mem_map.mp hd
      rfl
    · rw [List.length_map, sizeLine_eq]
      have := wok.l2
      omega
    refine ⟨_, w.noted.map fun k => names.getD k 0, rfl, ?_, rfl, ?_⟩
    · rw [List.map_map, ← intsD_map, List.map_map]
      congr 1
    refine forGo_of (fun rest S => ∃ (dn rs : List (Nat × Bool)) (y10 y11 : Slx), rest = rs.map stD ∧ w.steps = dn ++ rs ∧ S = ⟨[.val (.t (ws.map wD)), .val (.l (names.map .i)), .val (.l (parts.map pD)), .val (.i a), .val (optD (npT names parts done)), .val (optD (npF names parts done)), .val (.s (dirS w.whole)), .val (.t (w.steps.map stD)), .val (.t (w.noted.map nD)), .val (.i ((w.noted.map fun k => names.getD k 0).sum + (dn.map (stepP parts)).sum)), y10, y11], M⟩)
      (fun d ds S h R2 hR2 => ?_) (fun S h => ?_) _ _ ⟨[], w.steps, _, _, rfl, rfl, by rw [List.map_nil, List.sum_nil, Int.add_zero]; rfl⟩
    · obtain ⟨dn, rs, y10, y11, e3, e4, rfl⟩ := h
      cases rs with
      | nil => cases e3
      | cons st rs =>
      cases e3
      have hst : st.1 < parts.length := by rw [hp]; exact wok.st st (by rw [e4]; simp)
      refine ⟨_, _, rfl, ix_parts hst, .inl ⟨rfl, rfl, rfl, ite2 (fun z => ?_) (fun z => ?_)⟩⟩
      · have hd : st.2 = false := by
          have z' : decide (dirS st.2 = Str.ofString "told") = true := z
          rw [dirS_told] at z'
          simpa using z'
        refine ⟨_, atI_nat (j := 0) rfl, rfl, hR2 _ ⟨dn ++ [st], rs, .val (.i (st.1 : Int)), .val (.s (dirS st.2)), rfl, by rw [e4, List.append_assoc]; rfl, ?_⟩⟩
        have : stepP parts st = (parts.getD st.1 (0, 0)).1 := by unfold stepP; rw [hd]; rfl
        rw [List.map_append, List.sum_append, List.map_cons, List.map_nil, List.sum_cons, List.sum_nil, this, Int.add_zero, ← Int.add_assoc]
        rfl
      · have hd : st.2 = true := by
          have z' : ¬ decide (dirS st.2 = Str.ofString "told") = true := z
          rw [dirS_told] at z'
          simpa using z'
        refine ⟨_, atI_nat (j := 1) rfl, rfl, hR2 _ ⟨dn ++ [st], rs, .val (.i (st.1 : Int)), .val (.s (dirS st.2)), rfl, by rw [e4, List.append_assoc]; rfl, ?_⟩⟩
        have : stepP parts st = (parts.getD st.1 (0, 0)).2 := by unfold stepP; rw [hd]; rfl
        rw [List.map_append, List.sum_append, List.map_cons, List.map_nil, List.sum_cons, List.sum_nil, this, Int.add_zero, ← Int.add_assoc]
        rfl
    · obtain ⟨dn, rs, y10, y11, e3, e4, rfl⟩ := h
      cases rs with
      | cons _ _ => cases e3
      | nil =>
      rw [List.append_nil] at e4
      rw [← e4]
      rw [show (w.noted.map fun k => names.getD k 0).sum + (w.steps.map (stepP parts)).sum = price names parts w from rfl]
      have ends : ∀ t' f', t' = upT names parts (npT names parts done) w → f' = upF names parts (npF names parts done) w → ∀ y6 y7 y8 y9 y10 y11, R ⟨[.val (.t (ws.map wD)), .val (.l (names.map .i)), .val (.l (parts.map pD)), .val (.i a), .val (optD t'), .val (optD f'), y6, y7, y8, y9, y10, y11], M⟩ :=
        fun t' f' h1 h2 y6 y7 y8 y9 y10 y11 => hR _ ⟨done ++ [w], r, y6, y7, y8, y9, y10, y11, rfl, by rw [e2, List.append_assoc]; rfl, by rw [h1, h2]; unfold npT npF; rw [List.foldl_append, List.foldl_append]; rfl⟩
      generalize npT names parts done = t0 at ends ⊢
      generalize npF names parts done = f0 at ends ⊢
      have second : ∀ t', t' = upT names parts t0 w → wIf (wAnd (wB (wOp rdEq (wVar 6) (wC (.s (Str.ofString "found"))))) (wOr (wB (wOp (rdIs false) (wVar 5) (wC .n))) (wB (wOp (rdC fun i j => decide (i < j)) (wVar 9) (wVar 5))))) (wSet 5 (wVar 9)) wNx
          { nx := R, rt := fun d S' => Qd d S'.M, bk := R, ct := R } ⟨[.val (.t (ws.map wD)), .val (.l (names.map .i)), .val (.l (parts.map pD)), .val (.i a), .val (optD t'), .val (optD f0), .val (.s (dirS w.whole)), .val (.t (w.steps.map stD)), .val (.t (w.noted.map nD)), .val (.i (price names parts w)), y10, y11], M⟩ := fun t' h1 => by
        refine .inl ⟨rfl, rfl, rfl, ite2 (fun y => ?_) (fun y => ?_)⟩
        · have hd : w.whole = true := by
            have y' : decide (dirS w.whole = Str.ofString "found") = true := y
            rwa [dirS_found] at y'
          cases f0 with
          | none => exact ⟨rfl, ends t' (some (price names parts w)) h1 (by simp [upF, lessO, hd]) _ _ _ _ _ _⟩
          | some f0 => exact ite2 (fun x => ⟨rfl, ends t' (some (price names parts w)) h1 (by have x' : decide (price names parts w < f0) = true := x; simp [upF, lessO, hd, x']) _ _ _ _ _ _⟩) (fun x => ends t' (some f0) h1 (by have x' : ¬ decide (price names parts w < f0) = true := x; simp [upF, lessO, hd, x']) _ _ _ _ _ _)
        · have hd : w.whole = false := by
            have y' : ¬ decide (dirS w.whole = Str.ofString "found") = true := y
            rw [dirS_found] at y'
            simpa using y'
          exact ends t' f0 h1 (by simp [upF, hd]) _ _ _ _ _ _
      cases t0 with
      | none => exact ⟨rfl, second (some (price names parts w)) (by simp [upT, lessO])⟩
      | some t0 => exact ite2 (fun x => ⟨rfl, second (some (price names parts w)) (by have x' : decide (price names parts w < t0) = true := x; simp [upT, lessO, x'])⟩) (fun x => second (some t0) (by have x' : ¬ decide (price names parts w < t0) = true := x; simp [upT, lessO, x']))
  · obtain ⟨done, rw', y6, y7, y8, y9, y10, y11, e1, e2, rfl⟩ := h
    cases rw' with
    | cons _ _ => cases e1
    | nil =>
    rw [List.append_nil] at e2
    rw [← e2, ht]
    have last : ∀ f', f' = fin t (npF names parts ws) a → ∀ y6 y7 y8 y9 y10 y11 x0 x1 x2 x3, wRet (wTup (wCons (wVar 4) (wCons (wVar 5) wNil))) { nx := fun S' => Qd Da.n S'.M, rt := fun d S' => Qd d S'.M } ⟨[x0, x1, x2, x3, .val (.i t), .val (.i f'), y6, y7, y8, y9, y10, y11], M⟩ :=
      fun f' e y6 y7 y8 y9 y10 y11 x0 x1 x2 x3 => ⟨rfl, rfl, by show 2 ≤ sizeLine; decide, rfl, by rw [e]; exact q⟩
    generalize npF names parts ws = f0 at last ⊢
    cases f0 with
    | none => exact ⟨rfl, last (t + a) (by simp [fin, lessO]) _ _ _ _ _ _ _ _ _ _⟩
    | some f0 => exact ite2 (fun x => ⟨rfl, last (t + a) (by have x' : decide (t + a < f0) = true := x; simp [fin, lessO, x']) _ _ _ _ _ _ _ _ _ _⟩) (fun x => last f0 (by have x' : ¬ decide (t + a < f0) = true := x; simp [fin, lessO, x']) _ _ _ _ _ _ _ _ _ _)
end
end VL
set_option Elab.async false
set_option linter.all false
set_option maxRecDepth 100000
set_option maxHeartbeats 1000000
namespace VL
open PySem PySem.Spec PyProof.Rows L2
section
variable {P : Program} {w : World} {K : PySem.W.Frag} {mg : Str → Option Value} {base : Heap}
def ones (ds : List Int) : List Int := ds.map fun _ => 1
def pairs (ds : List Int) : List (Int × Int) := ds.map fun d => (0, d)
theorem small3 {n : Nat} (h : n ≤ 1000) : n ≤ sizeLine := by rw [sizeLine_eq]; omega
def dc_own_need : DC := fun ds M Q _ => ∃ (ws : List Wy) (fs : List Int) (t : Int), ds = [.t (ws.map wD), .l (fs.map .i)] ∧ (∀ w ∈ ws, w.ok fs.length) ∧ fs.length ≤ 3 ∧ npT (ones fs) (pairs fs) ws = some t ∧ Q (.t [.i t, .i (fin t (npF (ones fs) (pairs fs) ws) 1)]) M
def zD : Da → Da := fun d => .t [.i 0, d]
theorem ok_own_need (T : Tx K mg) (G_node_prices : FnOk P w K mg base (L2.CX P w) 1 T.f_node_prices T.fd_node_prices ["ways", "names", "parts", "around"] (spOf K dc_node_prices)) : FnOk P w K mg base (L2.CX P w) 2 T.f_own_need T.fd_own_need ["ways", "differences"] (spOf K dc_own_need) := by
  have sc := scOwnNeed
  refine okD T.d_own_need.F sc (fun ds M Q X h => ?_) (fun cdv A outer s H E c ds M Qd Xd hn hr h hX => ?_)
  · obtain ⟨ws, fs, t, rfl, _⟩ := h
    rfl
  have tk := takes_of (X := cxOf (L2.CX P w) P w K mg base NOwnNeed "own_need" (defScope sOwnNeed) T.f_own_need cdv A outer s H E) rfl rfl rfl rfl
  refine ⟨_, (ss_one (s_ret (v_call G_node_prices (hr.mono (by decide)) (by rfl) T.d_node_prices.g T.d_node_prices.F.kp T.d_node_prices.b tk hX (v_cons (vv 0) (v_cons (vOf (v_lc rfl sc.nd (i_sq (vv 1)) (blkOk_by (own := [("_", 2)]) (N := NOwnNeed) (sc := defScope sOwnNeed) (by decide +kernel)) (fun c1 e1 => (lgN (i := 2) (by rw [e1, hn]; decide))) (fun _ _ _ _ _ => (pg_name (i := 2) sc.nd rfl (by first | exact .inl rfl | exact .inr rfl))) (fun _ _ _ _ _ _ _ => ts_nil) (fun _ _ _ _ _ c1 e1 => vi) (by decide))) (v_cons (vOf (v_lc rfl sc.nd (i_sq (vv 1)) (blkOk_by (own := [("difference", 3)]) (N := NOwnNeed) (sc := defScope sOwnNeed) (by decide +kernel)) (fun c1 e1 => (lgN (i := 3) (by rw [e1, hn]; decide))) (fun _ _ _ _ _ => (pg_name (i := 3) sc.nd rfl (by first | exact .inl rfl | exact .inr rfl))) (fun _ _ _ _ _ _ _ => ts_nil) (fun _ _ _ _ _ c1 e1 => (v_tup (v_cons vi (v_cons (vv 3) v_nil)))) (by decide))) (v_cons vi v_nil))))))), ?_⟩
  obtain ⟨ws, fs, t, rfl, hw, h3, ht, q⟩ := h
  have hz : (fs.map Da.i).length ≤ sizeLine := by rw [List.length_map]; exact small3 (by omega)
  refine ⟨rfl, lc_map (fun _ => .i 1) (fun d hd R1 hR1 => hR1 _ (Agr.wipe.set (by decide))) (fun d hd => rfl) hz ⟨rfl, lc_map zD (fun d hd R1 hR1 => ?_) (fun d hd => rfl) hz ⟨rfl, rfl, ?_⟩⟩⟩
  · obtain ⟨k, _, rfl⟩ := List.mem_map.mp hd
    exact ⟨rfl, rfl, by show 2 ≤ sizeLine; decide, hR1 _ (Agr.wipe.set (by decide))⟩
  · refine ⟨ws, ones fs, pairs fs, 1, t, ?_, fun w hw' => ?_, by simp [ones, pairs], ht, rfl, q⟩
    · unfold ones pairs
      rw [List.map_map, List.map_map, List.map_map, List.map_map]
      rfl
    · have : (ones fs).length = fs.length := by simp [ones]
      rw [this]
      exact hw w hw'
/-! ### the law's own sums -/
def stepF (fs : List Int) (s : Nat × Bool) : Option Int := if s.2 then some (fs.getD s.1 0) else none
def many (fs : List Int) (w : Wy) : Int := (w.noted.length : Int) + (w.steps.filterMap (stepF fs)).sum
def lowUp (fs : List Int) (l : Int) (w : Wy) : Int := if many fs w < l then many fs w else l
def highUp (fs : List Int) (l : Int) (w : Wy) : Int := if w.whole then (if many fs w < l then many fs w else l) else l
def low (fs : List Int) (ws : List Wy) : Int := ws.foldl (lowUp fs) 99
def high (fs : List Int) (ws : List Wy) : Int := ws.foldl (highUp fs) 99
def addsR (fs : List Int) (ws : List Wy) : Da := .t [.i (low fs ws), .i (if low fs ws + 1 < high fs ws then low fs ws + 1 else high fs ws)]
def dc_l_adds : DC := fun ds M Q _ => ∃ (ws : List Wy) (fs : List Int), ds = [.t (ws.map wD), .l (fs.map .i), .l []] ∧ (∀ w ∈ ws, w.ok fs.length) ∧ Q (addsR fs ws) M
def fAdd (fs : List Int) : Da → Option Da
  | .t [.i p, .s z] => if decide (z = Str.ofString "found") then some (.i (fs.getD p.toNat 0)) else none
  | _ => none
theorem fAdd_st (fs : List Int) (s : Nat × Bool) : fAdd fs (stD s) = (stepF fs s).map Da.i := by
  show (if decide (dirS s.2 = Str.ofString "found") = true then some (Da.i (fs.getD ((s.1 : Nat) : Int).toNat 0)) else none) = _
  rw [dirS_found]
  unfold stepF
  cases s.2 <;> rfl
theorem ix_ints {fs : List Int} {k : Nat} (h : k < fs.length) : atI (fs.map Da.i) (k : Int) = some (.i (fs.getD k 0)) := ix_names h
theorem ok_l_adds (T : Tx K mg)  : FnOk P w K mg base (L2.CX P w) 1 T.f_l_adds T.fd_l_adds ["_law_ways", "_law_differences", "_law_given"] (spOf K dc_l_adds) := by
  have sc := scLAdds
  refine okD T.d_l_adds.F sc (fun ds M Q X h => ?_) (fun cdv A outer s H E c ds M Qd Xd hn hr h hX => ?_)
  · obtain ⟨ws, fs, rfl, _⟩ := h
    rfl
  have tk := takes_of (X := cxOf (L2.CX P w) P w K mg base NLAdds "_law_adds" (defScope sLAdds) T.f_l_adds cdv A outer s H E) rfl rfl rfl rfl
  refine ⟨_, (ss_cons (s_set (i := 3) sc.nd rfl (by first | exact .inl rfl | exact .inr rfl) (by rw [hn]; decide) vi)
  (ss_cons (s_set (i := 4) sc.nd rfl (by first | exact .inl rfl | exact .inr rfl) (by rw [hn]; decide) vi)
  (ss_cons (s_for (passes_of rfl) rfl (i_sq (vv 0)) (pg_name (i := 5) sc.nd rfl (by first | exact .inl rfl | exact .inr rfl)) (lgN (i := 5) (by rw [hn]; decide))
  (ss_cons (s_set (i := 6) sc.nd rfl (by first | exact .inl rfl | exact .inr rfl) (by rw [hn]; decide) (v_cb1 call_lenA lLen (by rfl) T.n_len (by decide +kernel) (vOf (v_lc rfl sc.nd (i_sq (v_ix (vv 5) vi (fun _ _ => rfl))) (blkOk_by (own := [("_law_place", 7)]) (N := NLAdds) (sc := defScope sLAdds) (by decide +kernel)) (fun c1 e1 => (lgN (i := 7) (by rw [e1, hn]; decide))) (fun _ _ _ _ _ => (pg_name (i := 7) sc.nd rfl (by first | exact .inl rfl | exact .inr rfl))) (fun _ _ _ _ _ c1 e1 => ts_one (vt_cmp op_notInA lNotIn (by rfl) (vv 7) (vv 2))) (fun _ _ _ _ _ c1 e1 => (vv 7)) (by decide)))))
  (ss_cons (s_set (i := 6) sc.nd rfl (by first | exact .inl rfl | exact .inr rfl) (by rw [hn]; decide) (v_op op_addA lAdd (vv 6) (v_cb1 (cr_sum rfl) lSum (by rfl) T.n_sum (by decide +kernel) (vOf (v_lc rfl sc.nd (i_sq (v_ix (vv 5) vi (fun _ _ => rfl))) (blkOk_by (own := [("_law_step", 8)]) (N := NLAdds) (sc := defScope sLAdds) (by decide +kernel)) (fun c1 e1 => (lgN (i := 8) (by rw [e1, hn]; decide))) (fun _ _ _ _ _ => (pg_name (i := 8) sc.nd rfl (by first | exact .inl rfl | exact .inr rfl))) (fun _ _ _ _ _ c1 e1 => ts_one (vt_cmp (op_eqA hr.units) lEq (nomark _) (v_ix (vv 8) vi (fun _ _ => rfl)) vs)) (fun _ _ _ _ _ c1 e1 => (v_ix (vv 1) (v_ix (vv 8) vi (fun _ _ => rfl)) (fun _ _ => rfl))) (by decide))))))
  (ss_cons (s_set (i := 3) sc.nd rfl (by first | exact .inl rfl | exact .inr rfl) (by rw [hn]; decide) (v_cb (call_min2 rfl) lMin (by rfl) T.n_min (by decide +kernel) (v_cons (vv 3) (v_cons (v_ct1 call_int1 lInt (by rfl) T.n_int (by decide +kernel) (vv 6)) v_nil))))
  (ss_one (s_if (vt_cmp (op_eqA hr.units) lEq (nomark _) (v_ix (vv 5) vi (fun _ _ => rfl)) vs)
  (ss_one (s_set (i := 4) sc.nd rfl (by first | exact .inl rfl | exact .inr rfl) (by rw [hn]; decide) (v_cb (call_min2 rfl) lMin (by rfl) T.n_min (by decide +kernel) (v_cons (vv 4) (v_cons (v_ct1 call_int1 lInt (by rfl) T.n_int (by decide +kernel) (vv 6)) v_nil)))))
  ss_nil))))))
  (ss_one (s_ret (v_tup (v_cons (vv 3) (v_cons (v_cb (call_min2 rfl) lMin (by rfl) T.n_min (by decide +kernel) (v_cons (vv 4) (v_cons (v_ct1 call_int1 lInt (by rfl) T.n_int (by decide +kernel) (v_op op_addA lAdd (vv 3) vi)) v_nil))) v_nil)))))))), ?_⟩
  obtain ⟨ws, fs, rfl, hw, q⟩ := h
  refine ⟨rfl, rfl, ?_⟩
  refine forGo_of (fun rest S => ∃ (done rw : List Wy) (y5 y6 y7 y8 : Slx), rest = rw.map wD ∧ ws = done ++ rw ∧ S = ⟨[.val (.t (ws.map wD)), .val (.l (fs.map .i)), .val (.l []), .val (.i (low fs done)), .val (.i (high fs done)), y5, y6, y7, y8], M⟩)
    (fun d ds S h R hR => ?_) (fun S h => ?_) _ _ ⟨[], ws, .no, .no, .no, .no, rfl, rfl, rfl⟩
  · obtain ⟨done, rw', y5, y6, y7, y8, e1, e2, rfl⟩ := h
    cases rw' with
    | nil => cases e1
    | cons w r =>
    cases e1
    have wok := hw w (by rw [e2]; simp)
    have l1 := wok.l1
    have l2 := wok.l2
    have ends : ∀ l h', l = lowUp fs (low fs done) w → h' = highUp fs (high fs done) w → ∀ y5 y6 y7 y8, R ⟨[.val (.t (ws.map wD)), .val (.l (fs.map .i)), .val (.l []), .val (.i l), .val (.i h'), y5, y6, y7, y8], M⟩ :=
      fun l h' h1 h2 y5 y6 y7 y8 => hR _ ⟨done ++ [w], r, y5, y6, y7, y8, rfl, by rw [e2, List.append_assoc]; rfl, by rw [h1, h2]; unfold low high; rw [List.foldl_append, List.foldl_append]; rfl⟩
    refine ⟨_, atI_nat (j := 2) rfl, ?_⟩
    refine lc_pure some (fun d hd R1 R2 hR1 => ?_) (fun d hd y e => ?_) (by rw [List.length_map]; exact small3 (by omega)) ?_
    · obtain ⟨k, hk, rfl⟩ := List.mem_map.mp hd
      exact ⟨_, rfl, rfl, rfl, hR1 _ (Agr.wipe.set (by decide))⟩
    · obtain ⟨k, hk, rfl⟩ := List.mem_map.mp hd
      cases e
      rfl
    refine ⟨rfl, _, atI_nat (j := 1) rfl, ?_⟩
    refine lc_pure (fAdd fs) (fun d hd R1 R2 hR1 => ?_) (fun d hd y e => ?_) (by rw [List.length_map]; exact small3 (by omega)) ?_
    · obtain ⟨s, hs, rfl⟩ := List.mem_map.mp hd
      have hR1 := hR1 _ (Agr.wipe.set (i := 8) (x := .val (stD s)) (by decide))
      rw [fAdd_st] at hR1
      refine ⟨_, atI_nat (j := 1) rfl, .inl ⟨rfl, rfl, rfl, ite2 (fun z => ?_) (fun z => ?_)⟩⟩
      · have hd : s.2 = true := by
          have z' : decide (dirS s.2 = Str.ofString "found") = true := z
          rwa [dirS_found] at z'
        have : stepF fs s = some (fs.getD s.1 0) := by unfold stepF; rw [hd]; rfl
        rw [this] at hR1
        exact ⟨_, atI_nat (j := 0) rfl, _, _, rfl, ix_ints (wok.st s hs), hR1⟩
      · have hd : s.2 = false := by
          have z' : ¬ decide (dirS s.2 = Str.ofString "found") = true := z
          rw [dirS_found] at z'
          simpa using z'
        have : stepF fs s = none := by unfold stepF; rw [hd]; rfl
        rw [this] at hR1
        exact hR1
    · obtain ⟨s, hs, rfl⟩ := List.mem_map.mp hd
      rw [fAdd_st] at e
      cases h : stepF fs s with
      | none => rw [h] at e; cases e
      | some k => rw [h] at e; cases e; rfl
    refine ⟨_, w.steps.filterMap (stepF fs), rfl, ?_, rfl, ?_⟩
    · rw [List.filterMap_map, show (fAdd fs ∘ stD) = fun s => (stepF fs s).map Da.i from funext (fAdd_st fs), ← intsD_map, List.map_filterMap]
    · rw [show ((w.noted.map nD).filterMap some).length = w.noted.length by rw [List.filterMap_some, List.length_map]]
      rw [show (w.noted.length : Int) + (w.steps.filterMap (stepF fs)).sum = many fs w from rfl]
      refine ⟨rfl, rfl, rfl, _, atI_nat (j := 0) rfl, .inl ⟨rfl, rfl, rfl, ite2 (fun z => ?_) (fun z => ?_)⟩⟩
      · have hd : w.whole = true := by
          have z' : decide (dirS w.whole = Str.ofString "found") = true := z
          rwa [dirS_found] at z'
        exact ⟨rfl, rfl, rfl, ends _ _ rfl (by unfold highUp; rw [hd]; rfl) _ _ _ _⟩
      · have hd : w.whole = false := by
          have z' : ¬ decide (dirS w.whole = Str.ofString "found") = true := z
          rw [dirS_found] at z'
          simpa using z'
        exact ends _ _ rfl (by unfold highUp; rw [hd]; rfl) _ _ _ _
  · obtain ⟨done, rw', y5, y6, y7, y8, e1, e2, rfl⟩ := h
    cases rw' with
    | cons _ _ => cases e1
    | nil =>
    rw [List.append_nil] at e2
    rw [← e2]
    exact ⟨rfl, rfl, rfl, rfl, by show 2 ≤ sizeLine; decide, rfl, q⟩
end
end VL
set_option Elab.async false
set_option linter.all false
set_option maxRecDepth 100000
set_option maxHeartbeats 1000000
namespace VL
open PySem PySem.Spec PyProof.Rows L2
section
variable {P : Program} {w : World} {K : PySem.W.Frag} {mg : Str → Option Value} {base : Heap}
def dc_l_some_way : DC := fun ds M Q _ => ∃ (p : Addr) (m : Nat) (o : Bool), ds = [.r p, .i m, .s (dirS o)] ∧ Tp M p ∧ m ≤ 3 ∧ ∀ (w : Wy) (M' : Mx), w.ok m → Tto p M M' → Q (wD w) M'
theorem dir_pick {r : Nat} (h : r < 2) : atI [Da.s (Str.ofString "told"), Da.s (Str.ofString "found")] (r : Int) = some (.s (dirS (decide (r = 1)))) := by
  match r, h with
  | 0, _ => rfl
  | 1, _ => rfl
theorem dir_pick2 {r : Nat} (o : Bool) (h : r < 2) : ∃ d, atI [Da.s (dirS o), Da.s (Str.ofString "told")] (r : Int) = some (.s (dirS d)) := by
  match r, h with
  | 0, _ => exact ⟨o, rfl⟩
  | 1, _ => exact ⟨false, rfl⟩
theorem nD_app (ls : List Nat) (k : Nat) : ls.map nD ++ [nD k] = (ls ++ [k]).map nD := by simp
theorem stD_app (ls : List (Nat × Bool)) (k : Nat × Bool) : ls.map stD ++ [stD k] = (ls ++ [k]).map stD := by simp
theorem ok_l_some_way (T : Tx K mg) (G_l_take : FnOk P w K mg base (L2.CX P w) 1 T.f_l_take T.fd_l_take ["_law_tape_here", "_law_many"] (spOf K dc_l_take)) : FnOk P w K mg base (L2.CX P w) 2 T.f_l_some_way T.fd_l_some_way ["_law_tape_here", "_law_many", "_law_only"] (spOf K dc_l_some_way) := by
  have sc := scLSomeWay
  refine okD T.d_l_some_way.F sc (fun ds M Q X h => ?_) (fun cdv A outer s H E c ds M Qd Xd hn hr h hX => ?_)
  · obtain ⟨p, m, o, rfl, _⟩ := h
    rfl
  have tk := takes_of (X := cxOf (L2.CX P w) P w K mg base NLSomeWay "_law_some_way" (defScope sLSomeWay) T.f_l_some_way cdv A outer s H E) rfl rfl rfl rfl
  refine ⟨_, (ss_cons (s_ownLc (i := 3) rfl sc.nd rfl rfl (by rw [hn]; decide) (sw_true rfl rfl rfl (by decide +kernel)) (i_rng1 (by rfl) T.n_range (vv 1)) (blkOk_by (own := [("_law_k", 6)]) (N := NLSomeWay) (sc := defScope sLSomeWay) (by decide +kernel)) (fun c1 e1 => (lgN (i := 6) (by rw [e1, hn]; decide))) (fun _ _ _ _ _ => (pg_name (i := 6) sc.nd rfl (by first | exact .inl rfl | exact .inr rfl))) (fun _ _ _ _ _ _ _ => ts_nil) (fun _ _ _ _ _ c1 e1 => (vv 6)) (by decide))
  (ss_cons (s_own (i := 4) sc.nd rfl (by first | exact .inl rfl | exact .inr rfl) (by rw [hn]; decide) (v_lst v_nil))
  (ss_cons (s_own (i := 5) sc.nd rfl (by first | exact .inl rfl | exact .inr rfl) (by rw [hn]; decide) (v_lst v_nil))
  (ss_cons (s_for (passes_of rfl) rfl (i_rng1 (by rfl) T.n_range (vv 1)) (pg_name (i := 6) sc.nd rfl (by first | exact .inl rfl | exact .inr rfl)) (lgN (i := 6) (by rw [hn]; decide))
  (ss_cons (s_if (vt_cmp (op_eqA hr.units) lEq (nomark _) (v_call G_l_take (hr.mono (by decide)) (by rfl) T.d_l_take.g T.d_l_take.F.kp T.d_l_take.b tk hX (v_cons (vv 0) (v_cons vi v_nil))) vi)
  (ss_one (s_expr (v_met PySem.F.plainAttrs_list PySem.F.slot_list_append PySem.F.type_list_append mt_append tyL_ok lAppend (vv 5) (vv 6))))
  ss_nil)
  (ss_one (s_expr (v_met PySem.F.plainAttrs_list PySem.F.slot_list_append PySem.F.type_list_append mt_append tyL_ok lAppend (vv 4) (v_tup (v_cons (v_met PySem.F.plainAttrs_list PySem.F.slot_list_pop PySem.F.type_list_pop mt_popAt tyL_ok lPopAt (vv 3) (v_call G_l_take (hr.mono (by decide)) (by rfl) T.d_l_take.g T.d_l_take.F.kp T.d_l_take.b tk hX (v_cons (vv 0) (v_cons (v_cb1 call_lenA lLen (by rfl) T.n_len (by decide +kernel) (vv 3)) v_nil)))) (v_cons (v_ix (vOf (v_lst (v_cons vs (v_cons vs v_nil)))) (v_call G_l_take (hr.mono (by decide)) (by rfl) T.d_l_take.g T.d_l_take.F.kp T.d_l_take.b tk hX (v_cons (vv 0) (v_cons vi v_nil))) (fun _ _ => rfl)) v_nil))))))))
  (ss_one (s_ret (v_tup (v_cons (v_ix (vOf (v_lst (v_cons (vv 2) (v_cons vs v_nil)))) (v_call G_l_take (hr.mono (by decide)) (by rfl) T.d_l_take.g T.d_l_take.F.kp T.d_l_take.b tk hX (v_cons (vv 0) (v_cons vi v_nil))) (fun _ _ => rfl)) (v_cons (v_ct1 call_tupleA lTuple (by rfl) T.n_tuple (by decide +kernel) (vv 4)) (v_cons (v_ct1 call_tupleA lTuple (by rfl) T.n_tuple (by decide +kernel) (vv 5)) v_nil)))))))))), ?_⟩
  obtain ⟨p, m, o, rfl, hp, hm, q⟩ := h
  refine ⟨by omega, by omega, lc_map id (fun d hd R1 hR1 => hR1 _ (Agr.wipe.set (by decide))) (fun d hd => ?_) (by rw [show (rngD 0 (m : Int).toNat).length = m by simp [rngD]]; exact small3 (by omega)) ?_⟩
  · obtain ⟨k, _, rfl⟩ := List.mem_map.mp hd
    rfl
  rw [List.map_id]
  refine fun p3 n3 => ⟨by show 0 ≤ sizeLine; decide, fun p4 n4 => ⟨by show 0 ≤ sizeLine; decide, fun p5 n5 => ⟨by omega, by omega, ?_⟩⟩⟩
  refine forGo_of (fun rest S => ∃ (ls : List Nat) (sts : List (Nat × Bool)) (ms : List Nat) (y6 : Slx) (M1 : Mx), Tto p M M1 ∧ (∀ d ∈ rest, ∃ k : Nat, d = nD k ∧ k < m) ∧ ls.length = rest.length ∧ rest.length + sts.length = m ∧ ms.length ≤ sts.length ∧ (∀ k ∈ ls, k < m) ∧ (∀ s ∈ sts, s.1 < m) ∧ (∀ k ∈ ms, k < m) ∧
      S = ⟨[.val (.r p), .val (.i m), .val (.s (dirS o)), .own p3 (ls.map nD), .own p4 (sts.map stD), .own p5 (ms.map nD), y6], M1⟩)
    (fun d ds S h R hR => ?_) (fun S h => ?_) _ _ ⟨List.range m, [], [], .no, M, .refl hp, fun d hd => ?_, by simp [rngD], by simp [rngD], Nat.le_refl _, fun k hk => List.mem_range.mp hk, by simp, by simp, ?_⟩
  · obtain ⟨ls, sts, ms, y6, M1, t1, hr, h1, h2, h3, h4, h5, h6, rfl⟩ := h
    obtain ⟨k, rfl, hk⟩ := hr d (by simp)
    rw [List.length_cons] at h1 h2
    have small : ∀ {n : Nat}, n ≤ 3 → n < sizeLine := fun h => by rw [sizeLine_eq]; omega
    -- behind the notes
    have B : ∀ (ms' : List Nat) (M2 : Mx) (D' : Dn), D'.nx = R → ms'.length ≤ sts.length + 1 → (∀ k ∈ ms', k < m) → Tto p M M2 → (wDrop (wMet tyL rdAppend (wVar 4) (wTup (wCons (wMet tyL rdPopAt (wVar 3) (wCall dc_l_take [] (fun cls ofs S' => Xd cls ofs S'.M) (wCons (wVar 0) (wCons (wUn rdLen (wVar 3)) wNil)))) (wCons (wOp rdIx (wOf (wLst (wCons (wC (.s (Str.ofString "told"))) (wCons (wC (.s (Str.ofString "found"))) wNil)))) (wCall dc_l_take [] (fun cls ofs S' => Xd cls ofs S'.M) (wCons (wVar 0) (wCons (wC (.i 2)) wNil)))) wNil)))))
        D' ⟨[.val (.r p), .val (.i m), .val (.s (dirS o)), .own p3 (ls.map nD), .own p4 (sts.map stD), .own p5 (ms'.map nD), .val (nD k)], M2⟩ := fun ms' M2 D' eD g1 g2 t2 => by
      refine ⟨⟨_, rfl⟩, ⟨_, rfl⟩, rfl, _, rfl, rfl, p, _, rfl, t2.tp, by rw [List.length_map]; omega, fun r2 M3 hr3 t3 => ?_⟩
      rw [List.length_map] at hr3
      refine ⟨by omega, by omega, _, r2, nD ls[r2], _, rfl, ?_, ?_, rfl, rfl, rfl, rfl, by show 2 ≤ sizeLine; decide, rfl, rfl, p, 2, rfl, t3.tp, by decide, fun r3 M4 hr4 t4 => ?_⟩
      · rw [seqIndex_of (by omega) (by rw [List.length_map]; omega)]
        rfl
      · rw [List.getElem?_map, List.getElem?_eq_getElem hr3]
        rfl
      refine ⟨_, _, rfl, dir_pick hr4, rfl, by show 2 ≤ sizeLine; decide, _, _, rfl, rfl, by rw [List.length_map]; exact small (by omega), rfl, ?_⟩
      rw [eD]
      refine hR _ ⟨ls.eraseIdx r2, sts ++ [(ls[r2], decide (r3 = 1))], ms', .val (nD k), M4, (t2.trans t3).trans t4, fun d hd => hr d (by simp [hd]), by rw [List.length_eraseIdx_of_lt hr3]; omega, by rw [List.length_append]; simp; omega, by rw [List.length_append]; simp; omega, fun k hk => h4 k (List.mem_of_mem_eraseIdx hk), fun s hs => ?_, g2, ?_⟩
      · rcases List.mem_append.mp hs with hs | hs
        · exact h5 s hs
        · rw [List.mem_singleton.mp hs]
          exact h4 _ (List.getElem_mem hr3)
      · rw [← stD_app, ← map_erase]
        rfl
    refine ⟨rfl, rfl, p, 2, rfl, t1.tp, by decide, fun r2 M2 hr2 t2 => ?_⟩
    have t12 := t1.trans t2
    refine .inl ⟨rfl, rfl, rfl, ite2 (fun _ => ?_) (fun _ => ?_)⟩
    · refine ⟨⟨_, rfl⟩, _, _, rfl, rfl, by rw [List.length_map]; exact small (by omega), rfl, ?_⟩
      rw [nD_app]
      refine B (ms ++ [k]) M2 _ rfl (by rw [List.length_append]; simp; omega) (fun k' hk' => ?_) t12
      rcases List.mem_append.mp hk' with hk' | hk'
      · exact h6 k' hk'
      · rw [List.mem_singleton.mp hk']
        exact hk
    · exact B ms M2 _ rfl (by omega) h6 t12
  · obtain ⟨ls, sts, ms, y6, M1, t1, hr, h1, h2, h3, h4, h5, h6, rfl⟩ := h
    rw [List.length_nil] at h2
    refine ⟨rfl, rfl, by show 2 ≤ sizeLine; decide, rfl, rfl, p, 2, rfl, t1.tp, by decide, fun r M2 hr2 t2 => ?_⟩
    obtain ⟨d, hd⟩ := dir_pick2 o hr2
    refine ⟨_, _, rfl, hd, rfl, _, rfl, rfl, _, rfl, rfl, by show 3 ≤ sizeLine; decide, rfl, ?_⟩
    exact q ⟨d, sts, ms⟩ M2 ⟨h5, h6, by show sts.length ≤ 3; omega, by show ms.length ≤ 3; omega⟩ (t1.trans t2)
  · unfold rngD at hd
    obtain ⟨j, hj, rfl⟩ := List.mem_map.mp hd
    exact ⟨j, by show Da.i (0 + (j : Int)) = _; rw [Int.zero_add]; rfl, by simpa using hj⟩
  · have : rngD 0 (m : Int).toNat = (List.range m).map nD := by
      unfold rngD
      rw [Int.toNat_natCast]
      refine List.map_congr_left fun k _ => ?_
      rw [Int.zero_add]
      rfl
    rw [this]
    rfl
end
end VL
set_option Elab.async false
set_option linter.all false
set_option maxRecDepth 100000
set_option maxHeartbeats 1000000
namespace VL
open PySem PySem.Spec PyProof.Rows L2
section
variable {P : Program} {w : World} {K : PySem.W.Frag} {mg : Str → Option Value} {base : Heap}
/-! ### both sums are one -/
theorem getD_ones {fs : List Int} {k : Nat} (h : k < fs.length) : (ones fs).getD k 0 = 1 := by
  unfold ones
  rw [List.getD_eq_getElem?_getD, List.getElem?_map, List.getElem?_eq_getElem h]
  rfl
theorem stepP_pairs {fs : List Int} {s : Nat × Bool} (h : s.1 < fs.length) : stepP (pairs fs) s = (stepF fs s).getD 0 := by
  unfold stepP stepF pairs
  rw [List.getD_eq_getElem?_getD, List.getElem?_map, List.getElem?_eq_getElem h]
  cases s.2
  · rfl
  · show fs[s.1] = fs.getD s.1 0
    rw [List.getD_eq_getElem?_getD, List.getElem?_eq_getElem h]
    rfl
theorem sum_steps {fs : List Int} : ∀ {l : List (Nat × Bool)}, (∀ s ∈ l, s.1 < fs.length) → (l.map (stepP (pairs fs))).sum = (l.filterMap (stepF fs)).sum
  | [], _ => rfl
  | s :: l, h => by
    rw [List.map_cons, List.sum_cons, stepP_pairs (h s (by simp)), sum_steps fun x hx => h x (by simp [hx])]
    cases e : stepF fs s with
    | none => rw [List.filterMap_cons_none e]; exact Int.zero_add _
    | some v => rw [List.filterMap_cons_some e, List.sum_cons]; rfl
theorem sum_names {fs : List Int} : ∀ {l : List Nat}, (∀ k ∈ l, k < fs.length) → (l.map fun k => (ones fs).getD k 0).sum = (l.length : Int)
  | [], _ => rfl
  | k :: l, h => by
    rw [List.map_cons, List.sum_cons, getD_ones (h k (by simp)), sum_names fun x hx => h x (by simp [hx]), List.length_cons]
    omega
theorem price_many {fs : List Int} {w : Wy} (h : w.ok fs.length) : price (ones fs) (pairs fs) w = many fs w := by
  unfold price many
  rw [sum_names h.nt, sum_steps h.st]
theorem sum_le {fs : List Int} (hf : ∀ f ∈ fs, f = 0 ∨ f = 1) : ∀ {l : List (Nat × Bool)}, (∀ s ∈ l, s.1 < fs.length) → (l.filterMap (stepF fs)).sum ≤ (l.length : Int)
  | [], _ => by simp
  | s :: l, h => by
    have ih := sum_le hf (l := l) fun x hx => h x (List.mem_cons_of_mem _ hx)
    have hs := h s (by simp)
    have hv : fs.getD s.1 0 ≤ 1 := by
      rw [List.getD_eq_getElem?_getD, List.getElem?_eq_getElem hs]
      rcases hf _ (List.getElem_mem hs) with e | e <;> (show fs[s.1] ≤ 1) <;> omega
    rw [List.length_cons]
    cases e : s.2
    · rw [List.filterMap_cons_none (by unfold stepF; rw [e]; rfl)]
      omega
    · rw [List.filterMap_cons_some (by unfold stepF; rw [e]; rfl), List.sum_cons]
      omega
theorem many_lt {fs : List Int} {w : Wy} (h : w.ok fs.length) (hf : ∀ f ∈ fs, f = 0 ∨ f = 1) : many fs w < 99 := by
  unfold many
  have := sum_le hf h.st
  have := h.l1
  have := h.l2
  omega
def Lo (o : Option Int) (l : Int) : Prop := (o = none ∧ l = 99) ∨ (o = some l ∧ l < 99)
theorem lo_T {fs : List Int} (hf : ∀ f ∈ fs, f = 0 ∨ f = 1) : ∀ {ws : List Wy} {o : Option Int} {l : Int}, (∀ w ∈ ws, w.ok fs.length) → Lo o l → Lo (ws.foldl (upT (ones fs) (pairs fs)) o) (ws.foldl (lowUp fs) l)
  | [], _, _, _, h => h
  | w :: ws, o, l, hw, h => by
    have wok := hw w (by simp)
    refine lo_T hf (o := upT (ones fs) (pairs fs) o w) (l := lowUp fs l w) (fun x hx => hw x (by simp [hx])) ?_
    have hm := many_lt wok hf
    unfold upT lowUp
    rw [price_many wok]
    rcases h with ⟨rfl, rfl⟩ | ⟨rfl, h⟩
    · rw [if_pos (show lessO (many fs w) none = true from rfl), if_pos hm]
      exact .inr ⟨rfl, hm⟩
    · by_cases e : many fs w < l
      · rw [if_pos (show lessO (many fs w) (some l) = true from decide_eq_true e), if_pos e]
        exact .inr ⟨rfl, hm⟩
      · rw [if_neg (show ¬ lessO (many fs w) (some l) = true from fun x => e (of_decide_eq_true x)), if_neg e]
        exact .inr ⟨rfl, h⟩
theorem lo_F {fs : List Int} (hf : ∀ f ∈ fs, f = 0 ∨ f = 1) : ∀ {ws : List Wy} {o : Option Int} {l : Int}, (∀ w ∈ ws, w.ok fs.length) → Lo o l → Lo (ws.foldl (upF (ones fs) (pairs fs)) o) (ws.foldl (highUp fs) l)
  | [], _, _, _, h => h
  | w :: ws, o, l, hw, h => by
    have wok := hw w (by simp)
    refine lo_F hf (o := upF (ones fs) (pairs fs) o w) (l := highUp fs l w) (fun x hx => hw x (by simp [hx])) ?_
    have hm := many_lt wok hf
    unfold upF highUp
    rw [price_many wok]
    cases w.whole with
    | false => exact h
    | true =>
    rw [Bool.true_and, if_pos rfl]
    rcases h with ⟨rfl, rfl⟩ | ⟨rfl, h⟩
    · rw [if_pos (show lessO (many fs w) none = true from rfl), if_pos hm]
      exact .inr ⟨rfl, hm⟩
    · by_cases e : many fs w < l
      · rw [if_pos (show lessO (many fs w) (some l) = true from decide_eq_true e), if_pos e]
        exact .inr ⟨rfl, hm⟩
      · rw [if_neg (show ¬ lessO (many fs w) (some l) = true from fun x => e (of_decide_eq_true x)), if_neg e]
        exact .inr ⟨rfl, h⟩
theorem fin_adds {fs : List Int} {ws : List Wy} {t : Int} (hf : ∀ f ∈ fs, f = 0 ∨ f = 1) (hw : ∀ w ∈ ws, w.ok fs.length) (ht : npT (ones fs) (pairs fs) ws = some t) :
    Da.t [.i t, .i (fin t (npF (ones fs) (pairs fs) ws) 1)] = addsR fs ws := by
  have h1 : Lo (npT (ones fs) (pairs fs) ws) (low fs ws) := lo_T hf hw (.inl ⟨rfl, rfl⟩)
  have h2 : Lo (npF (ones fs) (pairs fs) ws) (high fs ws) := lo_F hf hw (.inl ⟨rfl, rfl⟩)
  rw [ht] at h1
  unfold addsR fin
  generalize low fs ws = l at h1 ⊢
  generalize high fs ws = g at h2 ⊢
  generalize npF (ones fs) (pairs fs) ws = f at h2 ⊢
  rcases h1 with ⟨h, _⟩ | ⟨h, hl⟩
  · cases h
  rw [← Option.some.inj h]
  have hl : t < 99 := by rw [Option.some.inj h]; exact hl
  rcases h2 with ⟨rfl, rfl⟩ | ⟨rfl, hg⟩
  · rw [if_pos (show lessO (t + 1) none = true from rfl)]
    by_cases e : t + 1 < 99
    · rw [if_pos e]
    · rw [if_neg e, show t + 1 = 99 by omega]
  · by_cases e : t + 1 < g
    · rw [if_pos e, if_pos (show lessO (t + 1) (some g) = true from decide_eq_true e)]
    · rw [if_neg e, if_neg (show ¬ lessO (t + 1) (some g) = true from fun x => e (of_decide_eq_true x))]
      rfl
def dc_l_answer : DC := fun ds M Q _ => ∃ (ws : List Wy) (fs : List Int), ds = [.t (ws.map wD), .l (fs.map .i)] ∧ ws ≠ [] ∧ (∀ w ∈ ws, w.ok fs.length) ∧ fs.length ≤ 3 ∧ (∀ f ∈ fs, f = 0 ∨ f = 1) ∧ Q (.b true) M
theorem ok_l_answer (T : Tx K mg) (G_l_adds : FnOk P w K mg base (L2.CX P w) 1 T.f_l_adds T.fd_l_adds ["_law_ways", "_law_differences", "_law_given"] (spOf K dc_l_adds)) (G_own_need : FnOk P w K mg base (L2.CX P w) 2 T.f_own_need T.fd_own_need ["ways", "differences"] (spOf K dc_own_need)) : FnOk P w K mg base (L2.CX P w) 3 T.f_l_answer T.fd_l_answer ["_law_ways", "_law_row"] (spOf K dc_l_answer) := by
  have sc := scLAnswer
  refine okD T.d_l_answer.F sc (fun ds M Q X h => ?_) (fun cdv A outer s H E c ds M Qd Xd hn hr h hX => ?_)
  · obtain ⟨ws, fs, rfl, _⟩ := h
    rfl
  have tk := takes_of (X := cxOf (L2.CX P w) P w K mg base NLAnswer "_law_answer" (defScope sLAnswer) T.f_l_answer cdv A outer s H E) rfl rfl rfl rfl
  refine ⟨_, (ss_cons (s_set (i := 2) sc.nd rfl (by first | exact .inl rfl | exact .inr rfl) (by rw [hn]; decide) (vOf (v_list (by rfl) T.n_list (by decide +kernel) (vv 1))))
  (ss_cons (s_set (i := 3) sc.nd rfl (by first | exact .inl rfl | exact .inr rfl) (by rw [hn]; decide) (v_call G_own_need (hr.mono (by decide)) (by rfl) T.d_own_need.g T.d_own_need.F.kp T.d_own_need.b tk hX (v_cons (vv 0) (v_cons (vv 2) v_nil))))
  (ss_cons (s_if (PW.pt (v_or (v_not (vB (v_isi isi_tuple (by rfl) T.n_isinstance (by rfl) T.n_tuple (by decide +kernel) (vv 3)))) (v_or (vt_cmp (op_neA hr.units) lNe (nomark _) (v_cb1 call_lenA lLen (by rfl) T.n_len (by decide +kernel) (vv 3)) vi) (pw_or1 (vt_cmp (op_neA hr.units) lNe (nomark _) (vv 2) (vv 1))))))
  (ss_one (s_ret vb))
  ss_nil)
  (ss_cons (s_for (passes_of rfl) rfl (i_sq (vv 3)) (pg_name (i := 4) sc.nd rfl (by first | exact .inl rfl | exact .inr rfl)) (lgN (i := 4) (by rw [hn]; decide))
  (ss_one (s_if (PW.pt (v_or (v_not (vB (v_isi isi_int (by rfl) T.n_isinstance (by rfl) T.n_int (by decide +kernel) (vv 4)))) (pw_or1 (vB (v_isi isi_bool (by rfl) T.n_isinstance (by rfl) T.n_bool (by decide +kernel) (vv 4))))))
  (ss_one (s_ret vb))
  ss_nil)))
  (ss_one (s_ret (v_cmp (op_eqA hr.units) lEq (nomark _) (vv 3) (v_call G_l_adds (hr.mono (by decide)) (by rfl) T.d_l_adds.g T.d_l_adds.F.kp T.d_l_adds.b tk hX (v_cons (vv 0) (v_cons (vv 1) (v_cons (vOf (v_lst v_nil)) v_nil))))))))))), ?_⟩
  obtain ⟨ws, fs, rfl, hne, hw, h3, hf, q⟩ := h
  obtain ⟨t, ht⟩ : ∃ t, npT (ones fs) (pairs fs) ws = some t := npT_some none (.inl hne)
  refine ⟨_, rfl, by rw [List.length_map]; exact small3 (by omega), rfl, rfl, rfl, ws, fs, t, rfl, hw, h3, ht, ?_⟩
  rw [fin_adds hf hw ht]
  refine ⟨rfl, .inl ⟨rfl, rfl, rfl, .inr ⟨eqb_ints, eqb_ints, ite2 (fun z => ?_) (fun _ => ?_)⟩⟩⟩
  · rw [eqv_self eqb_ints] at z
    cases z
  have eb : (addsR fs ws).eqb = true := (Pd.t (n := 0) fun d hd => by
    rcases List.mem_cons.mp hd with rfl | hd
    · exact .i
    · rw [List.mem_singleton.mp hd]
      exact .i).eqb (by decide)
  refine ⟨rfl, rfl, by decide, rfl, ws, fs, rfl, hw, .inr ⟨eb, eb, ?_⟩⟩
  rw [eqv_self eb]
  exact ⟨rfl, q⟩
end
end VL
set_option Elab.async false
set_option linter.all false
set_option maxRecDepth 100000
set_option maxHeartbeats 1000000
namespace VL
open PySem PySem.Spec PyProof.Rows L2
section
variable {P : Program} {w : World} {K : PySem.W.Frag} {mg : Str → Option Value} {base : Heap}
theorem ok_law (T : Tx K mg) (G_l_answer : FnOk P w K mg base (L2.CX P w) 3 T.f_l_answer T.fd_l_answer ["_law_ways", "_law_row"] (spOf K dc_l_answer)) (G_l_some_way : FnOk P w K mg base (L2.CX P w) 2 T.f_l_some_way T.fd_l_some_way ["_law_tape_here", "_law_many", "_law_only"] (spOf K dc_l_some_way)) (G_l_take : FnOk P w K mg base (L2.CX P w) 1 T.f_l_take T.fd_l_take ["_law_tape_here", "_law_many"] (spOf K dc_l_take)) (G_l_tape : FnOk P w K mg base (L2.CX P w) 2 T.f_l_tape T.fd_l_tape ["_law_script", "_law_k", "_law_size"] (spOf K dc_l_tape)) : FnOk P w K mg base (L2.CX P w) 4 T.f_law T.fd_law ["_law_script"] (spOf K dc_law) := by
  have sc := scLaw
  refine okD T.d_law.F sc (fun ds M Q X h => ?_) (fun cdv A outer s H E c ds M Qd Xd hn hr h hX => ?_)
  · obtain ⟨d, ns, rfl, _⟩ := h
    rfl
  have tk := takes_of (X := cxOf (L2.CX P w) P w K mg base NLaw "law" (defScope sLaw) T.f_law cdv A outer s H E) rfl rfl rfl rfl
  refine ⟨_, (ss_cons (s_set (i := 1) sc.nd rfl (by first | exact .inl rfl | exact .inr rfl) (by rw [hn]; decide) (v_call G_l_tape (hr.mono (by decide)) (by rfl) T.d_l_tape.g T.d_l_tape.F.kp T.d_l_tape.b tk hX (v_cons (vv 0) (v_cons vi (v_cons vi v_nil)))))
  (ss_cons (s_set (i := 2) sc.nd rfl (by first | exact .inl rfl | exact .inr rfl) (by rw [hn]; decide) (v_call G_l_take (hr.mono (by decide)) (by rfl) T.d_l_take.g T.d_l_take.F.kp T.d_l_take.b tk hX (v_cons (vv 1) (v_cons vi v_nil))))
  (ss_cons (s_set (i := 3) sc.nd rfl (by first | exact .inl rfl | exact .inr rfl) (by rw [hn]; decide) vs)
  (ss_cons (s_if (vt_cmp (op_eqA hr.units) lEq (nomark _) (v_call G_l_take (hr.mono (by decide)) (by rfl) T.d_l_take.g T.d_l_take.F.kp T.d_l_take.b tk hX (v_cons (vv 1) (v_cons vi v_nil))) vi)
  (ss_one (s_set (i := 3) sc.nd rfl (by first | exact .inl rfl | exact .inr rfl) (by rw [hn]; decide) vs))
  ss_nil)
  (ss_cons (s_set (i := 4) sc.nd rfl (by first | exact .inl rfl | exact .inr rfl) (by rw [hn]; decide) (v_ct1 call_tupleA lTuple (by rfl) T.n_tuple (by decide +kernel) (vOf (v_lc rfl sc.nd (i_rng1 (by rfl) T.n_range (v_op op_addA lAdd vi (v_call G_l_take (hr.mono (by decide)) (by rfl) T.d_l_take.g T.d_l_take.F.kp T.d_l_take.b tk hX (v_cons (vv 1) (v_cons vi v_nil))))) (blkOk_by (own := [("_law_k", 6)]) (N := NLaw) (sc := defScope sLaw) (by decide +kernel)) (fun c1 e1 => (lgN (i := 6) (by rw [e1, hn]; decide))) (fun _ _ _ _ _ => (pg_name (i := 6) sc.nd rfl (by first | exact .inl rfl | exact .inr rfl))) (fun _ _ _ _ _ _ _ => ts_nil) (fun _ _ _ _ _ c1 e1 => (v_call G_l_some_way (hr.mono (by decide)) (by rfl) T.d_l_some_way.g T.d_l_some_way.F.kp T.d_l_some_way.b takes0 xno (v_cons (vv 1) (v_cons (vv 2) (v_cons (vv 3) v_nil))))) (by decide)))))
  (ss_cons (s_valLc (i := 5) rfl sc.nd rfl rfl (by rw [hn]; decide) (sw_true rfl rfl rfl (by decide +kernel)) (i_rng1 (by rfl) T.n_range (vv 2)) (blkOk_by (own := [("_law_k", 6)]) (N := NLaw) (sc := defScope sLaw) (by decide +kernel)) (fun c1 e1 => (lgN (i := 6) (by rw [e1, hn]; decide))) (fun _ _ _ _ _ => (pg_name (i := 6) sc.nd rfl (by first | exact .inl rfl | exact .inr rfl))) (fun _ _ _ _ _ _ _ => ts_nil) (fun _ _ _ _ _ c1 e1 => (v_call G_l_take (hr.mono (by decide)) (by rfl) T.d_l_take.g T.d_l_take.F.kp T.d_l_take.b takes0 xno (v_cons (vv 1) (v_cons vi v_nil)))) (by decide))
  (ss_cons (s_if (PW.pt (v_or (v_not (vTr (v_call G_l_answer (hr.mono (by decide)) (by rfl) T.d_l_answer.g T.d_l_answer.F.kp T.d_l_answer.b tk hX (v_cons (vv 4) (v_cons (vv 5) v_nil))))) (pw_or1 (v_not (vTr (v_call G_l_answer (hr.mono (by decide)) (by rfl) T.d_l_answer.g T.d_l_answer.F.kp T.d_l_answer.b tk hX (v_cons (vv 4) (v_cons (vOf (v_lc rfl sc.nd (i_rng1 (by rfl) T.n_range (vv 2)) (blkOk_by (own := [("_law_k", 6)]) (N := NLaw) (sc := defScope sLaw) (by decide +kernel)) (fun c1 e1 => (lgN (i := 6) (by rw [e1, hn]; decide))) (fun _ _ _ _ _ => (pg_name (i := 6) sc.nd rfl (by first | exact .inl rfl | exact .inr rfl))) (fun _ _ _ _ _ _ _ => ts_nil) (fun _ _ _ _ _ c1 e1 => vi) (by decide))) v_nil))))))))
  (ss_one (s_ret vb))
  ss_nil)
  (ss_one (s_ret (ve_and (v_call G_l_answer (hr.mono (by decide)) (by rfl) T.d_l_answer.g T.d_l_answer.F.kp T.d_l_answer.b tk hX (v_cons (vv 4) (v_cons (vOf (v_lc rfl sc.nd (i_rng1 (by rfl) T.n_range (vv 2)) (blkOk_by (own := [("_law_k", 6)]) (N := NLaw) (sc := defScope sLaw) (by decide +kernel)) (fun c1 e1 => (lgN (i := 6) (by rw [e1, hn]; decide))) (fun _ _ _ _ _ => (pg_name (i := 6) sc.nd rfl (by first | exact .inl rfl | exact .inr rfl))) (fun _ _ _ _ _ _ _ => ts_nil) (fun _ _ _ _ _ c1 e1 => vi) (by decide))) v_nil))) (pe_one (v_call G_l_answer (hr.mono (by decide)) (by rfl) T.d_l_answer.g T.d_l_answer.F.kp T.d_l_answer.b tk hX (v_cons (v_rev (vv 4)) (v_cons (vv 5) v_nil)))))))))))))), ?_⟩
  obtain ⟨d, ns, rfl, hs, hl, q⟩ := h
  have dO : d.isO = false := by rcases hs with rfl | rfl <;> rfl
  refine ⟨dO, rfl, rfl, d, ns, 0, 60, rfl, hs, hl, by decide, fun p M1 n1 t1 => ?_⟩
  refine ⟨rfl, rfl, rfl, p, 4, rfl, t1.tp, by decide, fun m M2 hm t2 => ?_⟩
  have tail : ∀ (o : Bool) (M3 : Mx), Tp M3 p →
      (wSeq (wSet 4 (wUn rdTuple (wOf (wLc (wRng1 (wOp rdAdd (wC (Da.i 1)) (wCall dc_l_take [] (fun cls ofs S' => Xd cls ofs S'.M) (wCons (wVar 1) (wCons (wC (Da.i 4)) wNil))))) (wgN 6) wYes (wCall dc_l_some_way [] Xno (wCons (wVar 1) (wCons (wVar 2) (wCons (wVar 3) wNil)))) (List.map (fun x => x.snd) [(Str.ofString "_law_k", 6)])))))
      (wSeq (wSet 5 (wOf (wLc (wRng1 (wVar 2)) (wgN 6) wYes (wCall dc_l_take [] Xno (wCons (wVar 1) (wCons (wC (Da.i 2)) wNil))) (List.map (fun x => x.snd) [(Str.ofString "_law_k", 6)]))))
      (wSeq (wIf (wOr (wNot (wTr (wCall dc_l_answer [] (fun cls ofs S' => Xd cls ofs S'.M) (wCons (wVar 4) (wCons (wVar 5) wNil))))) (wNot (wTr (wCall dc_l_answer [] (fun cls ofs S' => Xd cls ofs S'.M) (wCons (wVar 4) (wCons (wOf (wLc (wRng1 (wVar 2)) (wgN 6) wYes (wC (Da.i 0)) (List.map (fun x => x.snd) [(Str.ofString "_law_k", 6)]))) wNil)))))) (wRet (wC (Da.b false))) wNx)
      (wRet (wAndV (wCall dc_l_answer [] (fun cls ofs S' => Xd cls ofs S'.M) (wCons (wVar 4) (wCons (wOf (wLc (wRng1 (wVar 2)) (wgN 6) wYes (wC (Da.i 1)) (List.map (fun x => x.snd) [(Str.ofString "_law_k", 6)]))) wNil))) (wCall dc_l_answer [] (fun cls ofs S' => Xd cls ofs S'.M) (wCons (wDown false (wVar 4)) (wCons (wVar 5) wNil))))))))
      { nx := fun S' => Qd Da.n S'.M, rt := fun d S' => Qd d S'.M } ⟨[.val d, .val (.r p), .val (.i m), .val (.s (dirS o)), .no, .no, .no], M3⟩ := fun o M3 t3 => by
    refine ⟨rfl, rfl, p, 4, rfl, t3, by decide, fun r M4 hr t4 => ?_⟩
    refine ⟨by omega, by omega, ?_⟩
    refine lcGo_of (fun rest acc S => ∃ (ws : List Wy) (M5 : Mx), acc = ws.map wD ∧ (∀ w ∈ ws, w.ok m) ∧ ws.length + rest.length = 1 + r ∧ Tp M5 p ∧ S = ⟨[.val d, .val (.r p), .val (.i m), .val (.s (dirS o)), .no, .no, .no], M5⟩)
      (fun k ds acc S h R hR => ?_) (fun acc S h => ?_) _ _ _ ⟨[], M4, rfl, by simp, ?_, t4.tp, rfl⟩
    · obtain ⟨ws, M5, rfl, hw, hl, t5, rfl⟩ := h
      refine ⟨rfl, rfl, rfl, p, m, o, rfl, t5, by omega, fun w M6 wok t6 => ?_⟩
      refine ⟨rfl, ?_, ?_⟩
      · rw [List.length_map, sizeLine_eq]
        omega
      · refine hR _ _ ⟨ws ++ [w], M6, by rw [List.map_append]; rfl, fun x hx => ?_, by rw [List.length_append]; simp at hl ⊢; omega, t6.tp, rfl⟩
        rcases List.mem_append.mp hx with hx | hx
        · exact hw x hx
        · rw [List.mem_singleton.mp hx]
          exact wok
    · obtain ⟨ws, M5, rfl, hw, hl, t5, rfl⟩ := h
      rw [List.length_nil] at hl
      have hne : ws ≠ [] := by
        intro e
        rw [e] at hl
        simp at hl
        omega
      refine ⟨rfl, by omega, by omega, ?_⟩
      refine lcGo_of (fun rest acc S => ∃ (fs : List Int) (M6 : Mx), acc = fs.map .i ∧ (∀ f ∈ fs, f = 0 ∨ f = 1) ∧ fs.length + rest.length = m ∧ Tp M6 p ∧ S = ⟨[.val d, .val (.r p), .val (.i m), .val (.s (dirS o)), .val (.t (ws.map wD)), .no, .no], M6⟩)
        (fun k ds acc S h R hR => ?_) (fun acc S h => ?_) _ _ _ ⟨[], M5, rfl, by simp, ?_, t5, rfl⟩
      · obtain ⟨fs, M6, rfl, hf, hl, t6, rfl⟩ := h
        refine ⟨rfl, rfl, p, 2, rfl, t6, by decide, fun r M7 hr t7 => ?_⟩
        refine ⟨rfl, ?_, ?_⟩
        · rw [List.length_map, sizeLine_eq]
          simp at hl
          omega
        · refine hR _ _ ⟨fs ++ [(r : Int)], M7, by rw [List.map_append]; rfl, fun x hx => ?_, by rw [List.length_append]; simp at hl ⊢; omega, t7.tp, rfl⟩
          rcases List.mem_append.mp hx with hx | hx
          · exact hf x hx
          · rw [List.mem_singleton.mp hx]
            omega
      · obtain ⟨fs, M6, rfl, hf, hl, t6, rfl⟩ := h
        rw [List.length_nil, Nat.add_zero] at hl
        subst hl
        refine ⟨rfl, rfl, rfl, ws, fs, rfl, hne, hw, by omega, hf, ?_⟩
        have L : (rngD 0 ((fs.length : Nat) : Int).toNat).length = fs.length := by simp [rngD]
        have zs : ∀ k : Int, ((rngD 0 ((fs.length : Nat) : Int).toNat).map fun _ => Da.i k) = ((List.replicate fs.length k).map .i) := fun k => by
          rw [List.map_const', L, List.map_replicate]
        refine ⟨rfl, by omega, by omega, lc_map (fun _ => .i 0) (fun d hd R1 hR1 => hR1 _ (Agr.wipe.set (by decide))) (fun d hd => rfl) (by rw [L]; exact small3 (by omega)) ?_⟩
        rw [zs 0]
        refine ⟨rfl, ws, List.replicate fs.length 0, rfl, hne, by rw [List.length_replicate]; exact hw, by rw [List.length_replicate]; omega, fun f hf => .inl (List.eq_of_mem_replicate hf), ?_⟩
        refine ⟨rfl, by omega, by omega, lc_map (fun _ => .i 1) (fun d hd R1 hR1 => hR1 _ (Agr.wipe.set (by decide))) (fun d hd => rfl) (by rw [L]; exact small3 (by omega)) ?_⟩
        rw [zs 1]
        refine ⟨rfl, ws, List.replicate fs.length 1, rfl, hne, by rw [List.length_replicate]; exact hw, by rw [List.length_replicate]; omega, fun f hf => .inr (List.eq_of_mem_replicate hf), ?_⟩
        have e : cutR false (ws.map wD) = ws.reverse.map wD := by
          unfold cutR downN
          simp
        exact ⟨rfl, rfl, ws.reverse, fs, by rw [← e]; rfl, fun z => hne (List.reverse_eq_nil_iff.mp z), fun w hw' => hw w (List.mem_reverse.mp hw'), by omega, hf, rfl, q _⟩
      · simp [rngD]
    · show 0 + (rngD 0 (1 + (r : Int)).toNat).length = 1 + r
      unfold rngD
      rw [List.length_map, List.length_range]
      omega
  refine ⟨rfl, rfl, rfl, rfl, p, 4, rfl, t2.tp, by decide, fun r M3 hr t3 => .inl ⟨rfl, rfl, rfl, ite2 (fun _ => ?_) (fun _ => ?_)⟩⟩
  · exact ⟨rfl, tail false M3 t3.tp⟩
  · exact tail true M3 t3.tp
end
end VL
set_option Elab.async false
set_option linter.all false
set_option maxRecDepth 100000
set_option maxHeartbeats 1000000
namespace VL
open PySem PySem.Spec PyProof.Rows L2
/-! ### what the top has written -/
theorem all_mk {l : PySem.W.OpenLaw} {w : World} {K : PySem.W.Frag} {h : Heap} {mg : Str → Option Value} {fa  f1 f2 f3 f4 f5 f6 f7 f8 f9 : Addr} (X : K.In h) (G : h.Ns mainGlobals mg) (hfa : mg "law" = some (.ref fa))
    {od1 an1 od2 an2 od3 an3 od4 an4 od5 an5 od6 an6 od7 an7 od8 an8 od9 an9 : Option Addr} {sl1 sl2 sl3 sl4 sl5 sl6 sl7 sl8 sl9 : Array (Option Value)} {oc1 kV1 dc1 pm1 cd1 ct1 oc2 kV2 dc2 pm2 cd2 ct2 oc3 kV3 dc3 pm3 cd3 ct3 oc4 kV4 dc4 pm4 cd4 ct4 oc5 kV5 dc5 pm5 cd5 ct5 oc6 kV6 dc6 pm6 cd6 ct6 oc7 kV7 dc7 pm7 cd7 ct7 oc8 kV8 dc8 pm8 cd8 ct8 oc9 kV9 dc9 pm9 cd9 ct9 : Value}
    (a1 : PySem.W.nsIn K mainGlobals "node_prices" = some (some (.ref f1)))
    (l1 : K.lookup f1 = some ⟨oc1, od1, .func (PySem.W.fnOf "node_prices" "node_prices" (defArgs sNodePrices) (defBody sNodePrices) (defScope sNodePrices) .none kV1 dc1 pm1 an1 cd1 ct1), sl1⟩)
    (c1 : PySem.W.codeIn K cd1 "node_prices" = true)
    (k1 : PySem.W.keepIn K (.ref f1) = true)
    (a2 : PySem.W.nsIn K mainGlobals "own_need" = some (some (.ref f2)))
    (l2 : K.lookup f2 = some ⟨oc2, od2, .func (PySem.W.fnOf "own_need" "own_need" (defArgs sOwnNeed) (defBody sOwnNeed) (defScope sOwnNeed) .none kV2 dc2 pm2 an2 cd2 ct2), sl2⟩)
    (c2 : PySem.W.codeIn K cd2 "own_need" = true)
    (k2 : PySem.W.keepIn K (.ref f2) = true)
    (a3 : PySem.W.nsIn K mainGlobals "_law_cell" = some (some (.ref f3)))
    (l3 : K.lookup f3 = some ⟨oc3, od3, .func (PySem.W.fnOf "_law_cell" "_law_cell" (defArgs sLCell) (defBody sLCell) (defScope sLCell) .none kV3 dc3 pm3 an3 cd3 ct3), sl3⟩)
    (c3 : PySem.W.codeIn K cd3 "_law_cell" = true)
    (k3 : PySem.W.keepIn K (.ref f3) = true)
    (a4 : PySem.W.nsIn K mainGlobals "_law_tape" = some (some (.ref f4)))
    (l4 : K.lookup f4 = some ⟨oc4, od4, .func (PySem.W.fnOf "_law_tape" "_law_tape" (defArgs sLTape) (defBody sLTape) (defScope sLTape) .none kV4 dc4 pm4 an4 cd4 ct4), sl4⟩)
    (c4 : PySem.W.codeIn K cd4 "_law_tape" = true)
    (k4 : PySem.W.keepIn K (.ref f4) = true)
    (a5 : PySem.W.nsIn K mainGlobals "_law_take" = some (some (.ref f5)))
    (l5 : K.lookup f5 = some ⟨oc5, od5, .func (PySem.W.fnOf "_law_take" "_law_take" (defArgs sLTake) (defBody sLTake) (defScope sLTake) .none kV5 dc5 pm5 an5 cd5 ct5), sl5⟩)
    (c5 : PySem.W.codeIn K cd5 "_law_take" = true)
    (k5 : PySem.W.keepIn K (.ref f5) = true)
    (a6 : PySem.W.nsIn K mainGlobals "_law_adds" = some (some (.ref f6)))
    (l6 : K.lookup f6 = some ⟨oc6, od6, .func (PySem.W.fnOf "_law_adds" "_law_adds" (defArgs sLAdds) (defBody sLAdds) (defScope sLAdds) .none kV6 dc6 pm6 an6 cd6 ct6), sl6⟩)
    (c6 : PySem.W.codeIn K cd6 "_law_adds" = true)
    (k6 : PySem.W.keepIn K (.ref f6) = true)
    (a7 : PySem.W.nsIn K mainGlobals "_law_some_way" = some (some (.ref f7)))
    (l7 : K.lookup f7 = some ⟨oc7, od7, .func (PySem.W.fnOf "_law_some_way" "_law_some_way" (defArgs sLSomeWay) (defBody sLSomeWay) (defScope sLSomeWay) .none kV7 dc7 pm7 an7 cd7 ct7), sl7⟩)
    (c7 : PySem.W.codeIn K cd7 "_law_some_way" = true)
    (k7 : PySem.W.keepIn K (.ref f7) = true)
    (a8 : PySem.W.nsIn K mainGlobals "_law_answer" = some (some (.ref f8)))
    (l8 : K.lookup f8 = some ⟨oc8, od8, .func (PySem.W.fnOf "_law_answer" "_law_answer" (defArgs sLAnswer) (defBody sLAnswer) (defScope sLAnswer) .none kV8 dc8 pm8 an8 cd8 ct8), sl8⟩)
    (c8 : PySem.W.codeIn K cd8 "_law_answer" = true)
    (k8 : PySem.W.keepIn K (.ref f8) = true)
    (a9 : PySem.W.nsIn K mainGlobals "law" = some (some (.ref f9)))
    (l9 : K.lookup f9 = some ⟨oc9, od9, .func (PySem.W.fnOf "law" "law" (defArgs sLaw) (defBody sLaw) (defScope sLaw) .none kV9 dc9 pm9 an9 cd9 ct9), sl9⟩)
    (c9 : PySem.W.codeIn K cd9 "law" = true)
    (k9 : PySem.W.keepIn K (.ref f9) = true)
    (z_bool : PySem.W.nsIn K mainGlobals "bool" = some none)
    (z_int : PySem.W.nsIn K mainGlobals "int" = some none)
    (z_isinstance : PySem.W.nsIn K mainGlobals "isinstance" = some none)
    (z_len : PySem.W.nsIn K mainGlobals "len" = some none)
    (z_list : PySem.W.nsIn K mainGlobals "list" = some none)
    (z_min : PySem.W.nsIn K mainGlobals "min" = some none)
    (z_range : PySem.W.nsIn K mainGlobals "range" = some none)
    (z_sum : PySem.W.nsIn K mainGlobals "sum" = some none)
    (z_tuple : PySem.W.nsIn K mainGlobals "tuple" = some none) :
    ∃ fd : FuncData, (∀ (s : Shared) (v : Value), BindsTo s fd ⟨[v], []⟩ [("_law_script", v)]) ∧ ∀ base : Heap, K.In base → base.Ns mainGlobals mg → FnOk l.prog w K mg base CX0 4 fa fd ["_law_script"] (spLaw K) := by
  have e := hfa.symm.trans (PySem.W.mg_of X G a9)
  cases e
  have F1 := fun_mk (st := sNodePrices) l1 c1 k1
  have b1 := F1.binds (ps := ["ways", "names", "parts", "around"]) fun _ _ _ _ _ _ us hl => match us, hl with | [_, _, _, _], _ => rfl
  have g1 := PySem.W.mg_of X G a1
  have F2 := fun_mk (st := sOwnNeed) l2 c2 k2
  have b2 := F2.binds (ps := ["ways", "differences"]) fun _ _ _ _ _ _ us hl => match us, hl with | [_, _], _ => rfl
  have g2 := PySem.W.mg_of X G a2
  have F3 := fun_mk (st := sLCell) l3 c3 k3
  have b3 := F3.binds (ps := ["_law_script", "_law_k"]) fun _ _ _ _ _ _ us hl => match us, hl with | [_, _], _ => rfl
  have g3 := PySem.W.mg_of X G a3
  have F4 := fun_mk (st := sLTape) l4 c4 k4
  have b4 := F4.binds (ps := ["_law_script", "_law_k", "_law_size"]) fun _ _ _ _ _ _ us hl => match us, hl with | [_, _, _], _ => rfl
  have g4 := PySem.W.mg_of X G a4
  have F5 := fun_mk (st := sLTake) l5 c5 k5
  have b5 := F5.binds (ps := ["_law_tape_here", "_law_many"]) fun _ _ _ _ _ _ us hl => match us, hl with | [_, _], _ => rfl
  have g5 := PySem.W.mg_of X G a5
  have F6 := fun_mk (st := sLAdds) l6 c6 k6
  have b6 := F6.binds (ps := ["_law_ways", "_law_differences", "_law_given"]) fun _ _ _ _ _ _ us hl => match us, hl with | [_, _, _], _ => rfl
  have g6 := PySem.W.mg_of X G a6
  have F7 := fun_mk (st := sLSomeWay) l7 c7 k7
  have b7 := F7.binds (ps := ["_law_tape_here", "_law_many", "_law_only"]) fun _ _ _ _ _ _ us hl => match us, hl with | [_, _, _], _ => rfl
  have g7 := PySem.W.mg_of X G a7
  have F8 := fun_mk (st := sLAnswer) l8 c8 k8
  have b8 := F8.binds (ps := ["_law_ways", "_law_row"]) fun _ _ _ _ _ _ us hl => match us, hl with | [_, _], _ => rfl
  have g8 := PySem.W.mg_of X G a8
  have F9 := fun_mk (st := sLaw) l9 c9 k9
  have b9 := F9.binds (ps := ["_law_script"]) fun _ _ _ _ _ _ us hl => match us, hl with | [_], _ => rfl
  have g9 := PySem.W.mg_of X G a9
  let T : Tx K mg := { f_node_prices := f1, fd_node_prices := _, d_node_prices := ⟨F1, b1, g1⟩, f_own_need := f2, fd_own_need := _, d_own_need := ⟨F2, b2, g2⟩, f_l_cell := f3, fd_l_cell := _, d_l_cell := ⟨F3, b3, g3⟩, f_l_tape := f4, fd_l_tape := _, d_l_tape := ⟨F4, b4, g4⟩, f_l_take := f5, fd_l_take := _, d_l_take := ⟨F5, b5, g5⟩, f_l_adds := f6, fd_l_adds := _, d_l_adds := ⟨F6, b6, g6⟩, f_l_some_way := f7, fd_l_some_way := _, d_l_some_way := ⟨F7, b7, g7⟩, f_l_answer := f8, fd_l_answer := _, d_l_answer := ⟨F8, b8, g8⟩, f_law := fa, fd_law := _, d_law := ⟨F9, b9, g9⟩, n_bool := PySem.W.mg_none_of X G z_bool, n_int := PySem.W.mg_none_of X G z_int, n_isinstance := PySem.W.mg_none_of X G z_isinstance, n_len := PySem.W.mg_none_of X G z_len, n_list := PySem.W.mg_none_of X G z_list, n_min := PySem.W.mg_none_of X G z_min, n_range := PySem.W.mg_none_of X G z_range, n_sum := PySem.W.mg_none_of X G z_sum, n_tuple := PySem.W.mg_none_of X G z_tuple }
  refine ⟨PySem.W.fnOf "law" "law" (defArgs sLaw) (defBody sLaw) (defScope sLaw) .none kV9 dc9 pm9 an9 cd9 ct9, fun s v => .of_eq rfl, fun base _ _ => ?_⟩
  have G_node_prices := ok_node_prices (P := l.prog) (w := w) (base := base) T
  have G_own_need := ok_own_need (P := l.prog) (w := w) (base := base) T G_node_prices
  have G_l_cell := ok_l_cell (P := l.prog) (w := w) (base := base) T
  have G_l_tape := ok_l_tape (P := l.prog) (w := w) (base := base) T G_l_cell
  have G_l_take := ok_l_take (P := l.prog) (w := w) (base := base) T
  have G_l_adds := ok_l_adds (P := l.prog) (w := w) (base := base) T
  have G_l_some_way := ok_l_some_way (P := l.prog) (w := w) (base := base) T G_l_take
  have G_l_answer := ok_l_answer (P := l.prog) (w := w) (base := base) T G_l_adds G_own_need
  have G_law := ok_law (P := l.prog) (w := w) (base := base) T G_l_answer G_l_some_way G_l_take G_l_tape
  exact law_of G_law
end VL
open PySem PySem.W PyProof.Rows
set_option Elab.async false
set_option maxRecDepth 100000 in
set_option maxHeartbeats 0 in
theorem PySem.Challenge.cw_kindnotes_k14_what_a_node_needs_holds : PySem.Challenge.rw_kindnotes_k14_what_a_node_needs.Holds := by
  w_on; o_law; k_head; (case hw => w_witness2)
  k_fill
  refine L2.walk_of (l := PySem.Challenge.rw_kindnotes_k14_what_a_node_needs) (n := 63) (k := 4) (x := "_law_script") (CX := fun _ => L2.CX0) (sp := fun w => VL.spLaw _) rfl (by decide) rfl ⟨rfl, by decide, by decide⟩ (fun w h Y => PySem.W.kIn_of Y) ?F (fun _ _ a ns hl _ hS => ⟨a, ns, rfl, hS, hl, fun _ => rfl⟩) (fun _ _ _ _ _ h => h)
  case F =>
    intro w mg fa h KX G hmg
    refine' VL.all_mk KX G hmg ?a1 ?l1 ?c1 ?k1 ?a2 ?l2 ?c2 ?k2 ?a3 ?l3 ?c3 ?k3 ?a4 ?l4 ?c4 ?k4 ?a5 ?l5 ?c5 ?k5 ?a6 ?l6 ?c6 ?k6 ?a7 ?l7 ?c7 ?k7 ?a8 ?l8 ?c8 ?k8 ?a9 ?l9 ?c9 ?k9 ?z_bool ?z_int ?z_isinstance ?z_len ?z_list ?z_min ?z_range ?z_sum ?z_tuple
    (case a1 => k_is)
    (case l1 => k_is)
    (case c1 => k_is)
    (case k1 => k_is)
    (case a2 => k_is)
    (case l2 => k_is)
    (case c2 => k_is)
    (case k2 => k_is)
    (case a3 => k_is)
    (case l3 => k_is)
    (case c3 => k_is)
    (case k3 => k_is)
    (case a4 => k_is)
    (case l4 => k_is)
    (case c4 => k_is)
    (case k4 => k_is)
    (case a5 => k_is)
    (case l5 => k_is)
    (case c5 => k_is)
    (case k5 => k_is)
    (case a6 => k_is)
    (case l6 => k_is)
    (case c6 => k_is)
    (case k6 => k_is)
    (case a7 => k_is)
    (case l7 => k_is)
    (case c7 => k_is)
    (case k7 => k_is)
    (case a8 => k_is)
    (case l8 => k_is)
    (case c8 => k_is)
    (case k8 => k_is)
    (case a9 => k_is)
    (case l9 => k_is)
    (case c9 => k_is)
    (case k9 => k_is)
    (case z_bool => k_is)
    (case z_int => k_is)
    (case z_isinstance => k_is)
    (case z_len => k_is)
    (case z_list => k_is)
    (case z_min => k_is)
    (case z_range => k_is)
    (case z_sum => k_is)
    (case z_tuple => k_is)
