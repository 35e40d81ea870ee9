import PyProof.Rows.All
import Wide.All
import OpenK.AllK
import Wide.FinOn
import HandS.ForMost
import HandS.Exc
import HandS.ExcOwn
import HandS.ExcIs
import HandS.TryOnly
import HandS.WordsExc
import HandS.IsInst
import HandS.Star
import HandS.Walk
import HandS.FStr
import HandS.Deep
import HandS.SetFor
import HandS.Defaults
import HandS.TupAny
import HandS.Flow
import HandS.RaiseOp
import KE.KeyNested
import KE.KDictKeyed
import HandS.CallSlots
import HandS.RaiseMore
import KE.GoesEnum
import OpenK.KMeth
import HandS.Property
import HandS.DictComp
import HandS.Nested
import HandS.ExcInit
import KE.KExcSuper
import HandS.ExcField
import KE.KEqDict
import HandS.Text
import HandS.Rev
import HandS.IterVal
import KE.KxField
import HandS.Zip
import KE.GoesMore
import HandS.Finally
import KE.RegKSuper
import PySem.Challenge.RW_kindnotes_k03_stocks
set_option Elab.async false
set_option linter.all false
set_option maxRecDepth 100000
set_option maxHeartbeats 1000000
namespace VL
open PySem PySem.Spec PyProof.Rows L2
/-! ### data -/
inductive Da where
  | n | b (x : Bool) | i (k : Int) | s (z : Str) | t (ds : List Da) | l (ds : List Da)
  | dk (kvs : List (Key × Da)) | ins (C : Addr) (fs : List (Str × Da)) | r (a : Addr) | ty (nm : String) | sc (ns : List Int) | o (j : Nat)
/-- a list of ints that nobody changes -/
def Scl (K : PySem.W.Frag) (H : Hp) (a : Addr) (ns : List Int) : Prop := (∃ o, H a = some (.frz o (.lst (ns.map V.int)))) ∨ SqL K (fun _ => none) a (ns.map V.int)
section
variable (K : PySem.W.Frag) (A : Addr → Prop) (H : Hp)
mutual
/-- the value v is the data d; A: what may change -/
inductive Rp : V → Da → Prop
  | n : Rp .non .n
  | b (x : Bool) : Rp (.bl x) (.b x)
  | i (k : Int) : Rp (.int k) (.i k)
  | s (z : Str) : Rp (.str z) (.s z)
  | r (a : Addr) : Rp (.ref a) (.r a)
  | ty (nm : String) : Rp (.ty nm) (.ty nm)
  | sc {a : Addr} {ns : List Int} : Scl K H a ns → Rp (.ref a) (.sc ns)
  | t {a : Addr} {vs : List V} {ds : List Da} : SqT K H a vs → RpA vs ds → Rp (.ref a) (.t ds)
  | l {a : Addr} {vs : List V} {ds : List Da} : H a = some (.lst vs) → ¬ A a → RpA vs ds → Rp (.ref a) (.l ds)
  | dk {a : Addr} {kvs : List (Key × V)} {kds : List (Key × Da)} : H a = some (.dK kvs) → ¬ A a → RpK kvs kds → Rp (.ref a) (.dk kds)
  | ins {a C dx : Addr} {fs : List (Str × V)} {gs : List (Str × Da)} : H a = some (.ins C dx fs) → ¬ A a → RpF fs gs → Rp (.ref a) (.ins C gs)
inductive RpA : List V → List Da → Prop
  | nil : RpA [] []
  | cons {v : V} {vs : List V} {d : Da} {ds : List Da} : Rp v d → RpA vs ds → RpA (v :: vs) (d :: ds)
inductive RpK : List (Key × V) → List (Key × Da) → Prop
  | nil : RpK [] []
  | cons {k : Key} {v : V} {vs : List (Key × V)} {d : Da} {ds : List (Key × Da)} : Rp v d → RpK vs ds → RpK ((k, v) :: vs) ((k, d) :: ds)
inductive RpF : List (Str × V) → List (Str × Da) → Prop
  | nil : RpF [] []
  | cons {k : Str} {v : V} {vs : List (Str × V)} {d : Da} {ds : List (Str × Da)} : Rp v d → RpF vs ds → RpF ((k, v) :: vs) ((k, d) :: ds)
end
end
/-! keys that are tuples, nested -/
mutual
def Da.nk : Da → NestedKey
  | .b x => .num (if x = true then 1 else 0)
  | .i k => .num k
  | .s z => .text z
  | .t ds => .tup (nks ds)
  | _ => .none
def nks : List Da → List NestedKey
  | [] => []
  | d :: ds => d.nk :: nks ds
end
mutual
def Da.nkB : Da → Bool
  | .n => true
  | .b _ => true
  | .i _ => true
  | .s _ => true
  | .t ds => nkBs ds
  | _ => false
def nkBs : List Da → Bool
  | [] => true
  | d :: ds => d.nkB && nkBs ds
end
def Da.isT : Da → Bool
  | .t _ => true
  | _ => false
/-- the data is a key -/
def Da.key8 (d : Da) : Bool := d.isT && (d.nkB && decide (d.nk.depth ≤ 8))
/-- a dict with such keys, as it stands; their tuples stand at the second places -/
def rawN (P : Program) (w : World) (a : Addr) (kas : List (NestedKey × Addr × V)) : Heap → Prop := fun h => kas.length ≤ sizeLine ∧ (a == sysModules) = false ∧ ∃ xs : List (NestedKey × Addr × Value),
  Paired (fun (p : NestedKey × Addr × V) (q : NestedKey × Addr × Value) => p.1 = q.1 ∧ p.2.1 = q.2.1 ∧ RelV p.2.2 q.2.2) kas xs ∧
  ∃ o es ep, h.get? a = some o ∧ o.ExactDict ∧ o.data = .dict es ep ∧ es.toList = xs.map (entryOfKey (nestedKind P w)) ∧ (xs.map (·.1)).Nodup
def dnO (P : Program) (w : World) (a : Addr) : Option Obj → List (NestedKey × Addr × V) → HO
  | none, kas => .ext (rawN P w a kas)
  | some o, kas => .frz o (.ext (rawN P w a kas))
inductive RpN (K : PySem.W.Frag) (A : Addr → Prop) (H : Hp) : List (NestedKey × Addr × V) → List (Da × Da) → Prop
  | nil : RpN K A H [] []
  | cons {b : Addr} {v : V} {dk dv : Da} {kas : List (NestedKey × Addr × V)} {kds : List (Da × Da)} (hk : dk.key8 = true) (hb : Rp K A H (.ref b) dk) (hv : Rp K A H v dv) (t : RpN K A H kas kds) : RpN K A H ((dk.nk, b, v) :: kas) ((dk, dv) :: kds)
/-- what stands outside W, and what never changes, stands; what may change behind is old or new -/
structure Kp (W W' : Addr → Prop) (H H' : Hp) : Prop where
  keep : ∀ b o, H b = some o → (¬ W b ∨ ¬ Mut (some o)) → H' b = some o
  mono : ∀ b, W' b → W b ∨ H b = none
section
variable {K : PySem.W.Frag} {W W1 W2 A A' : Addr → Prop} {H H1 H2 H' : Hp}
theorem Kp.refl : Kp W W H H := ⟨fun _ _ h _ => h, fun _ h => .inl h⟩
theorem Kp.trans (a : Kp W W1 H H1) (b : Kp W1 W2 H1 H2) : Kp W W2 H H2 := by
  refine ⟨fun x o h z => ?_, fun x h => ?_⟩
  · refine b.keep x o (a.keep x o h z) ?_
    rcases z with z | z
    · refine .inl fun q => ?_
      rcases a.mono x q with q | q
      · exact z q
      · rw [h] at q; cases q
    · exact .inr z
  · rcases b.mono x h with q | q
    · exact a.mono x q
    · cases e : H x with
      | none => exact .inr rfl
      | some o =>
        refine .inl (Classical.byContradiction fun z => ?_)
        rw [a.keep x o e (.inl z)] at q
        cases q
theorem Kp.same (s : Same H H') : Kp W W H H' := ⟨fun b o h _ => s b o h, fun _ h => .inl h⟩
theorem Kp.sub (a : Kp W W1 H H1) (h : ∀ b, W2 b → W1 b) : Kp W W2 H H1 := ⟨a.keep, fun b z => a.mono b (h b z)⟩
theorem Kp.or {Z : Addr → Prop} (a : Kp W W1 H H1) : Kp (fun b => Z b ∨ W b) (fun b => Z b ∨ W1 b) H H1 :=
  ⟨fun b o h z => a.keep b o h (z.imp (fun q r => q (.inr r)) id), fun b z => by
    rcases z with z | z
    · exact .inl (.inl z)
    · exact (a.mono b z).imp .inr id⟩
theorem sqt_kp {a : Addr} {vs : List V} (k : Kp W W1 H H1) (h : SqT K H a vs) : SqT K H1 a vs := by
  rcases h with h | h
  · refine .inl ?_
    rcases h with h | ⟨o, h⟩
    · exact .inl (k.keep _ _ h (.inr id))
    · exact .inr ⟨o, k.keep _ _ h (.inr id)⟩
  · exact .inr h
theorem scl_kp {a : Addr} {ns : List Int} (k : Kp W W1 H H1) (h : Scl K H a ns) : Scl K H1 a ns := h.imp (fun ⟨o, h⟩ => ⟨o, k.keep _ _ h (.inr id)⟩) id
theorem Scl.sq {a : Addr} {ns : List Int} (h : Scl K H a ns) : SqL K H a (ns.map V.int) := by
  rcases h with ⟨o, h⟩ | h
  · exact .inl (.inr ⟨o, h⟩)
  · rcases h with (h | ⟨o, h⟩) | h
    · cases h
    · cases h
    · exact .inr h
theorem old_new (k : Kp A A' H H') {a : Addr} {o : HO} (h : H a = some o) (n : ¬ A a) : H' a = some o ∧ ¬ A' a :=
  ⟨k.keep a o h (.inl n), fun z => (k.mono a z).elim n fun q => by rw [h] at q; cases q⟩
mutual
theorem Rp.kp (k : Kp A A' H H') : ∀ {v : V} {d : Da}, Rp K A H v d → Rp K A' H' v d
  | _, _, .n => .n
  | _, _, .b x => .b x
  | _, _, .i x => .i x
  | _, _, .s x => .s x
  | _, _, .r x => .r x
  | _, _, .ty x => .ty x
  | _, _, .sc h => .sc (scl_kp k h)
  | _, _, .t h a => .t (sqt_kp k h) (RpA.kp k a)
  | _, _, .l h n a => .l (old_new k h n).1 (old_new k h n).2 (RpA.kp k a)
  | _, _, .dk h n a => .dk (old_new k h n).1 (old_new k h n).2 (RpK.kp k a)
  | _, _, .ins h n a => .ins (old_new k h n).1 (old_new k h n).2 (RpF.kp k a)
theorem RpA.kp (k : Kp A A' H H') : ∀ {vs : List V} {ds : List Da}, RpA K A H vs ds → RpA K A' H' vs ds
  | _, _, .nil => .nil
  | _, _, .cons h a => .cons (Rp.kp k h) (RpA.kp k a)
theorem RpK.kp (k : Kp A A' H H') : ∀ {vs : List (Key × V)} {ds : List (Key × Da)}, RpK K A H vs ds → RpK K A' H' vs ds
  | _, _, .nil => .nil
  | _, _, .cons h a => .cons (Rp.kp k h) (RpK.kp k a)
theorem RpF.kp (k : Kp A A' H H') : ∀ {vs : List (Str × V)} {ds : List (Str × Da)}, RpF K A H vs ds → RpF K A' H' vs ds
  | _, _, .nil => .nil
  | _, _, .cons h a => .cons (Rp.kp k h) (RpF.kp k a)
end
theorem Rp.anti (h : ∀ b, A' b → A b) {v : V} {d : Da} (r : Rp K A H v d) : Rp K A' H v d := r.kp ⟨fun _ _ e _ => e, fun b z => .inl (h b z)⟩
theorem RpA.anti (h : ∀ b, A' b → A b) {v : List V} {d : List Da} (r : RpA K A H v d) : RpA K A' H v d := r.kp ⟨fun _ _ e _ => e, fun b z => .inl (h b z)⟩
theorem RpA.length : ∀ {vs : List V} {ds : List Da}, RpA K A H vs ds → vs.length = ds.length
  | _, _, .nil => rfl
  | _, _, .cons h a => by rw [List.length_cons, List.length_cons, RpA.length a]
theorem RpA.append : ∀ {vs us : List V} {ds es : List Da}, RpA K A H vs ds → RpA K A H us es → RpA K A H (vs ++ us) (ds ++ es)
  | _, _, _, _, .nil, h => h
  | _, _, _, _, .cons h a, h2 => .cons h (RpA.append a h2)
theorem RpA.snoc {vs : List V} {ds : List Da} {v : V} {d : Da} (a : RpA K A H vs ds) (h : Rp K A H v d) : RpA K A H (vs ++ [v]) (ds ++ [d]) := a.append (.cons h .nil)
theorem RpA.set : ∀ {vs : List V} {ds : List Da} {j : Nat} {v : V} {d : Da}, RpA K A H vs ds → Rp K A H v d → RpA K A H (vs.set j v) (ds.set j d)
  | _, _, _, _, _, .nil, _ => .nil
  | _, _, 0, _, _, .cons _ a, h => .cons h a
  | _, _, j + 1, _, _, .cons h0 a, h => .cons h0 (RpA.set a h)
theorem RpA.take : ∀ {vs : List V} {ds : List Da} (j : Nat), RpA K A H vs ds → RpA K A H (vs.take j) (ds.take j)
  | _, _, 0, _ => .nil
  | _, _, _ + 1, .nil => .nil
  | _, _, j + 1, .cons h a => .cons h (RpA.take j a)
theorem RpA.drop : ∀ {vs : List V} {ds : List Da} (j : Nat), RpA K A H vs ds → RpA K A H (vs.drop j) (ds.drop j)
  | _, _, 0, r => r
  | _, _, _ + 1, .nil => .nil
  | _, _, j + 1, .cons h a => RpA.drop j a
theorem RpA.get : ∀ {vs : List V} {ds : List Da} {j : Nat} {d : Da}, RpA K A H vs ds → ds[j]? = some d → ∃ v, vs[j]? = some v ∧ Rp K A H v d
  | _, _, _, _, .nil, h => by simp at h
  | _, _, 0, _, .cons h0 a, h => ⟨_, rfl, by
    have := Option.some.inj h
    rw [← this]
    exact h0⟩
  | _, _, j + 1, _, .cons h0 a, h => RpA.get (j := j) a h
theorem RpA.get' : ∀ {vs : List V} {ds : List Da} {j : Nat} {v : V}, RpA K A H vs ds → vs[j]? = some v → ∃ d, ds[j]? = some d ∧ Rp K A H v d
  | _, _, _, _, .nil, h => by simp at h
  | _, _, 0, _, .cons h0 a, h => ⟨_, rfl, by
    have := Option.some.inj h
    rw [← this]
    exact h0⟩
  | _, _, j + 1, _, .cons h0 a, h => RpA.get' (j := j) a h
theorem RpA.reverse {vs : List V} {ds : List Da} (a : RpA K A H vs ds) : RpA K A H vs.reverse ds.reverse := by
  induction a using RpA.rec (motive_1 := fun _ _ _ => True) (motive_3 := fun _ _ _ => True) (motive_4 := fun _ _ _ => True) with
  | nil => exact .nil
  | cons h a _ ih => rw [List.reverse_cons, List.reverse_cons]; exact ih.snoc h
  | _ => trivial
end
theorem same_upd {H : Hp} {p : Addr} {o : HO} (h : H p = none) : Same H (upd H p o) := fun b x e => by
  rw [upd_ne (ne_of_none e h)]
  exact e
/-! ### states -/
inductive Slx where
  | no | val (d : Da) | own (p : Addr) (ds : List Da)
inductive MO where
  | lst (ds : List Da) | dk (lk : Option Obj) (kvs : List (Key × Da)) | ins (C : Addr) (fs : List (Str × Da)) | dn (P : Program) (w : World) (lk : Option Obj) (kvs : List (Da × Da)) | rg (lo hi : Int)
abbrev Mx := Addr → Option MO
structure Sx where
  ρ : List Slx
  M : Mx
structure Cq where
  A0 : Addr → Prop
  W0 : Addr → Prop
  H0 : Hp
  n : Nat
def wM (M : Mx) : Addr → Prop := fun a => M a ≠ none
def Sx.W (S : Sx) : Addr → Prop := fun a => (∃ (i : Nat) (ds : List Da), S.ρ[i]? = some (Slx.own a ds)) ∨ S.M a ≠ none
def Sx.A (S : Sx) (c : Cq) : Addr → Prop := fun a => c.A0 a ∨ S.W a
def Sx.set (S : Sx) (i : Nat) (x : Slx) : Sx := ⟨S.ρ.set i x, S.M⟩
/-- a dict, locked while it is walked -/
def dkO : Option Obj → List (Key × V) → HO
  | none, kvs => .dK kvs
  | some o, kvs => .frz o (.dK kvs)
def MOk (K : PySem.W.Frag) (A : Addr → Prop) (H : Hp) (a : Addr) : MO → Prop
  | .lst ds => ∃ vs, H a = some (.lst vs) ∧ RpA K A H vs ds
  | .dk lk kds => ∃ kvs, H a = some (dkO lk kvs) ∧ RpK K A H kvs kds
  | .ins C gs => ∃ dx fs, H a = some (.ins C dx fs) ∧ RpF K A H fs gs
  | .dn P w lk kds => ∃ kas, H a = some (dnO P w a lk kas) ∧ RpN K A H kas kds
  | .rg lo hi => H a = some (.rng lo hi)
structure Rel (K : PySem.W.Frag) (c : Cq) (S : Sx) (σ : L2.St) (H : Hp) : Prop where
  len : σ.length = S.ρ.length
  cn : S.ρ.length = c.n
  val : ∀ (i : Nat) d, S.ρ[i]? = some (Slx.val d) → ∃ v, σ[i]? = some (some v) ∧ Rp K (S.A c) H v d
  own : ∀ (i : Nat) p ds, S.ρ[i]? = some (Slx.own p ds) → σ[i]? = some (some (V.ref p)) ∧ ∃ vs, H p = some (.lst vs) ∧ RpA K (S.A c) H vs ds
  inj : ∀ (i j : Nat) p ds es, S.ρ[i]? = some (Slx.own p ds) → S.ρ[j]? = some (Slx.own p es) → i = j
  sep : ∀ (i : Nat) p ds, S.ρ[i]? = some (Slx.own p ds) → S.M p = none
  mem : ∀ a m, S.M a = some m → MOk K (S.A c) H a m
  a0 : ∀ a, c.A0 a → H a ≠ none ∧ ¬ S.W a
  kp : Kp c.W0 S.W c.H0 H
section
variable {K : PySem.W.Frag} {c : Cq} {S S' : Sx} {σ σ' : L2.St} {H H' : Hp}
theorem RpN.kp {A A' : Addr → Prop} (k : Kp A A' H H') {kas : List (NestedKey × Addr × V)} {kds : List (Da × Da)} (h : RpN K A H kas kds) : RpN K A' H' kas kds := by
  induction h with
  | nil => exact .nil
  | cons hk hb hv _ ih => exact .cons hk (hb.kp k) (hv.kp k) ih
theorem MOk.kp {A A' : Addr → Prop} {a : Addr} {m : MO} (k : Kp A A' H H') (hx : ∀ o, H a = some o → H' a = some o) (h : MOk K A H a m) : MOk K A' H' a m := by
  cases m with
  | lst ds => obtain ⟨vs, e, r⟩ := h; exact ⟨vs, hx _ e, r.kp k⟩
  | dk _ ds => obtain ⟨vs, e, r⟩ := h; exact ⟨vs, hx _ e, r.kp k⟩
  | ins C ds => obtain ⟨dx, vs, e, r⟩ := h; exact ⟨dx, vs, hx _ e, r.kp k⟩
  | dn P w lk ds => obtain ⟨vs, e, r⟩ := h; exact ⟨vs, hx _ e, r.kp k⟩
  | rg lo hi => exact hx _ h
theorem Rel.next (r : Rel K c S σ H) (k : Kp S.W S'.W H H') (len : σ'.length = S'.ρ.length) (cn : S'.ρ.length = S.ρ.length)
    (val : ∀ (i : Nat) d, S'.ρ[i]? = some (Slx.val d) → ∃ v, σ'[i]? = some (some v) ∧ Rp K (S'.A c) H' v d)
    (own : ∀ (i : Nat) p ds, S'.ρ[i]? = some (Slx.own p ds) → σ'[i]? = some (some (V.ref p)) ∧ ∃ vs, H' p = some (.lst vs) ∧ RpA K (S'.A c) H' vs ds)
    (inj : ∀ (i j : Nat) p ds es, S'.ρ[i]? = some (Slx.own p ds) → S'.ρ[j]? = some (Slx.own p es) → i = j)
    (sep : ∀ (i : Nat) p ds, S'.ρ[i]? = some (Slx.own p ds) → S'.M p = none)
    (mem : ∀ a m, S'.M a = some m → MOk K (S'.A c) H' a m) : Rel K c S' σ' H' := by
  refine ⟨len, cn.trans r.cn, val, own, inj, sep, mem, fun a z => ?_, r.kp.trans k⟩
  obtain ⟨h1, h2⟩ := r.a0 a z
  cases e : H a with
  | none => exact absurd e h1
  | some o =>
    have q := k.keep a o e (.inl h2)
    refine ⟨(fun z => by rw [q] at z; cases z), fun w => ?_⟩
    rcases k.mono a w with w | w
    · exact h2 w
    · exact h1 w
theorem kA (k : Kp S.W S'.W H H') : Kp (S.A c) (S'.A c) H H' := k.or
theorem Rel.same (r : Rel K c S σ H) (s : Same H H') : Rel K c S σ H' := by
  have k : Kp S.W S.W H H' := .same s
  refine r.next k r.len rfl (fun i d e => ?_) (fun i p ds e => ?_) r.inj r.sep (fun a m e => ?_)
  · obtain ⟨v, h1, h2⟩ := r.val i d e
    exact ⟨v, h1, h2.kp (kA k)⟩
  · obtain ⟨h1, vs, h2, h3⟩ := r.own i p ds e
    exact ⟨h1, vs, s _ _ h2, h3.kp (kA k)⟩
  · exact (r.mem a m e).kp (kA k) (s a)
theorem Rel.new (r : Rel K c S σ H) {p : Addr} {o : HO} (n : H p = none) : Rel K c S σ (upd H p o) := r.same (same_upd n)
theorem get_set {α : Type} {l : List α} {i j : Nat} {x y : α} (h : (l.set i x)[j]? = some y) : (i = j ∧ x = y) ∨ (i ≠ j ∧ l[j]? = some y) := by
  rw [List.getElem?_set] at h
  by_cases e : i = j
  · subst e
    simp only [if_true] at h
    split at h
    · exact .inl ⟨rfl, Option.some.inj h⟩
    · cases h
  · rw [if_neg e] at h
    exact .inr ⟨e, h⟩
theorem set_get {α : Type} {l : List α} {i : Nat} {x : α} (h : i < l.length) : (l.set i x)[i]? = some x := List.getElem?_set_self h
/-- a slot gets a value -/
theorem Rel.setV (r : Rel K c S σ H) {i : Nat} {v : V} {d : Da} (h : Rp K (S.A c) H v d) (hi : i < S.ρ.length) : Rel K c (S.set i (.val d)) (σ.set i (some v)) H ∧ Kp S.W (S.set i (.val d)).W H H := by
  have k : Kp S.W (S.set i (.val d)).W H H := by
    refine Kp.refl.sub fun b z => ?_
    rcases z with ⟨j, ds, z⟩ | z
    · rcases get_set z with ⟨_, q⟩ | ⟨_, q⟩
      · cases q
      · exact .inl ⟨j, ds, q⟩
    · exact .inr z
  refine ⟨r.next k (by simp [Sx.set, r.len]) (by simp [Sx.set]) (fun j e he => ?_) (fun j p ds he => ?_) (fun j j' p ds es h1 h2 => ?_) (fun j p ds he => ?_) (fun a m e => ?_), k⟩
  · rcases get_set he with ⟨rfl, q⟩ | ⟨ne, q⟩
    · cases q
      exact ⟨v, set_get (by rw [r.len]; exact hi), h.kp (kA k)⟩
    · obtain ⟨v', h1, h2⟩ := r.val j e q
      exact ⟨v', by rw [List.getElem?_set_ne ne]; exact h1, h2.kp (kA k)⟩
  · rcases get_set he with ⟨rfl, q⟩ | ⟨ne, q⟩
    · cases q
    · obtain ⟨h1, vs, h2, h3⟩ := r.own j p ds q
      exact ⟨by rw [List.getElem?_set_ne ne]; exact h1, vs, h2, h3.kp (kA k)⟩
  · rcases get_set h1 with ⟨rfl, q⟩ | ⟨ne, q⟩
    · cases q
    · rcases get_set h2 with ⟨rfl, q'⟩ | ⟨ne', q'⟩
      · cases q'
      · exact r.inj j j' p ds es q q'
  · rcases get_set he with ⟨rfl, q⟩ | ⟨ne, q⟩
    · cases q
    · exact r.sep j p ds q
  · exact (r.mem a m e).kp (kA k) fun _ z => z
/-- a slot gets a new list -/
theorem Rel.setO (r : Rel K c S σ H) {i : Nat} {p : Addr} {vs : List V} {ds : List Da} (np : H p = none) (h : RpA K (S.A c) H vs ds) (hi : i < S.ρ.length) :
    Rel K c (S.set i (.own p ds)) (σ.set i (some (.ref p))) (upd H p (.lst vs)) ∧ Kp S.W (S.set i (.own p ds)).W H (upd H p (.lst vs)) := by
  have k : Kp S.W (S.set i (.own p ds)).W H (upd H p (.lst vs)) := by
    refine ⟨fun b o e _ => by rw [upd_ne (ne_of_none e np)]; exact e, fun b z => ?_⟩
    rcases z with ⟨j, ds', z⟩ | z
    · rcases get_set z with ⟨_, q⟩ | ⟨_, q⟩
      · cases q
        exact .inr np
      · exact .inl (.inl ⟨j, ds', q⟩)
    · exact .inl (.inr z)
  have s : Same H (upd H p (.lst vs)) := same_upd np
  have pn : ∀ {j : Nat} {q : Addr} {es : List Da}, S.ρ[j]? = some (Slx.own q es) → q ≠ p := fun {j q es} e => by
    obtain ⟨_, _, h2, _⟩ := r.own j q es e
    exact ne_of_none h2 np
  refine ⟨r.next k (by simp [Sx.set, r.len]) (by simp [Sx.set]) (fun j e he => ?_) (fun j q es he => ?_) (fun j j' q ds' es h1 h2 => ?_) (fun j q es he => ?_) (fun a m e => ?_), k⟩
  · rcases get_set he with ⟨rfl, q⟩ | ⟨ne, q⟩
    · cases q
    · obtain ⟨v', h1, h2⟩ := r.val j e q
      exact ⟨v', by rw [List.getElem?_set_ne ne]; exact h1, h2.kp (kA k)⟩
  · rcases get_set he with ⟨rfl, z⟩ | ⟨ne, z⟩
    · cases z
      exact ⟨set_get (by rw [r.len]; exact hi), vs, upd_same, h.kp (kA k)⟩
    · obtain ⟨h1, vs', h2, h3⟩ := r.own j q es z
      exact ⟨by rw [List.getElem?_set_ne ne]; exact h1, vs', s _ _ h2, h3.kp (kA k)⟩
  · rcases get_set h1 with ⟨e1, q1⟩ | ⟨ne, q1⟩
    · rcases get_set h2 with ⟨e2, q2⟩ | ⟨ne', q2⟩
      · rw [← e1, ← e2]
      · cases q1
        exact absurd rfl (pn q2)
    · rcases get_set h2 with ⟨e2, q2⟩ | ⟨ne', q2⟩
      · cases q2
        exact absurd rfl (pn q1)
      · exact r.inj j j' q ds' es q1 q2
  · rcases get_set he with ⟨rfl, z⟩ | ⟨ne, z⟩
    · cases z
      cases e : S.M p with
      | none => exact e
      | some m =>
        have := r.mem p m e
        cases m with
        | lst ds => obtain ⟨vs, e, r⟩ := this; rw [np] at e; cases e
        | dk _ ds => obtain ⟨vs, e, r⟩ := this; rw [np] at e; cases e
        | ins C ds => obtain ⟨dx, vs, e, r⟩ := this; rw [np] at e; cases e
        | dn P w lk ds => obtain ⟨vs, e, r⟩ := this; rw [np] at e; cases e
        | rg lo hi => have e : H p = some (.rng lo hi) := this; rw [np] at e; cases e
    · exact r.sep j q es z
  · exact (r.mem a m e).kp (kA k) fun o z => s a o z
/-- a list of one's own changes -/
theorem Rel.updO (r : Rel K c S σ H) {i : Nat} {p : Addr} {es : List Da} {vs : List V} {ds : List Da} (e : S.ρ[i]? = some (Slx.own p es)) (h : RpA K (S.A c) H vs ds) :
    Rel K c (S.set i (.own p ds)) σ (upd H p (.lst vs)) ∧ Kp S.W (S.set i (.own p ds)).W H (upd H p (.lst vs)) := by
  obtain ⟨hσ, ws, hp, _⟩ := r.own i p es e
  have hi : i < S.ρ.length := by
    rw [List.getElem?_eq_some_iff] at e
    exact e.1
  have k : Kp S.W (S.set i (.own p ds)).W H (upd H p (.lst vs)) := by
    refine ⟨fun b o eb z => ?_, fun b z => ?_⟩
    · have : b ≠ p := fun q => by
        subst q
        rcases z with z | z
        · exact z (.inl ⟨i, es, e⟩)
        · rw [hp] at eb
          cases eb
          exact z trivial
      rw [upd_ne this]
      exact eb
    · rcases z with ⟨j, ds', z⟩ | z
      · rcases get_set z with ⟨_, q⟩ | ⟨_, q⟩
        · cases q
          exact .inl (.inl ⟨i, es, e⟩)
        · exact .inl (.inl ⟨j, ds', q⟩)
      · exact .inl (.inr z)
  have pn : ∀ {j : Nat} {q : Addr} {es' : List Da}, i ≠ j → S.ρ[j]? = some (Slx.own q es') → q ≠ p := fun {j q es'} ne z1 z2 => by
    subst z2
    exact ne (r.inj i j q es es' e z1)
  refine ⟨r.next k (by simp [Sx.set, r.len]) (by simp [Sx.set]) (fun j d he => ?_) (fun j q es' he => ?_) (fun j j' q ds' es' h1 h2 => ?_) (fun j q es' he => ?_) (fun a m em => ?_), k⟩
  · rcases get_set he with ⟨rfl, q⟩ | ⟨ne, q⟩
    · cases q
    · obtain ⟨v', h1, h2⟩ := r.val j d q
      exact ⟨v', h1, h2.kp (kA k)⟩
  · rcases get_set he with ⟨rfl, z⟩ | ⟨ne, z⟩
    · cases z
      exact ⟨hσ, vs, upd_same, h.kp (kA k)⟩
    · obtain ⟨h1, vs', h2, h3⟩ := r.own j q es' z
      exact ⟨h1, vs', by rw [upd_ne (pn ne z)]; exact h2, h3.kp (kA k)⟩
  · rcases get_set h1 with ⟨e1, q1⟩ | ⟨ne, q1⟩
    · rcases get_set h2 with ⟨e2, q2⟩ | ⟨ne', q2⟩
      · rw [← e1, ← e2]
      · cases q1
        exact absurd rfl (pn ne' q2)
    · rcases get_set h2 with ⟨e2, q2⟩ | ⟨ne', q2⟩
      · cases q2
        exact absurd rfl (pn ne q1)
      · exact r.inj j j' q ds' es' q1 q2
  · rcases get_set he with ⟨rfl, z⟩ | ⟨ne, z⟩
    · cases z
      exact r.sep i p es e
    · exact r.sep j q es' z
  · refine (r.mem a m em).kp (kA k) fun o z => ?_
    have : a ≠ p := fun q => by
      have em' : S.M a = some m := em
      rw [q, r.sep i p es e] at em'
      cases em'
    rw [upd_ne this]
    exact z
/-- a list of one's own is not changed any more -/
theorem Rel.frz (r : Rel K c S σ H) {i : Nat} {p : Addr} {es : List Da} (e : S.ρ[i]? = some (Slx.own p es)) :
    Rel K c (S.set i (.val (.l es))) σ H ∧ Kp S.W (S.set i (.val (.l es))).W H H ∧ Rp K ((S.set i (.val (.l es))).A c) H (.ref p) (.l es) := by
  obtain ⟨hσ, ws, hp, hw⟩ := r.own i p es e
  have sub : ∀ b, (S.set i (.val (.l es))).W b → S.W b ∧ b ≠ p := fun b z => by
    rcases z with ⟨j, ds', z⟩ | z
    · rcases get_set z with ⟨_, q⟩ | ⟨ne, q⟩
      · cases q
      · exact ⟨.inl ⟨j, ds', q⟩, fun z => by subst z; exact ne (r.inj i j b es ds' e q)⟩
    · exact ⟨.inr z, fun w => z (by rw [w]; exact r.sep i p es e)⟩
  have k : Kp S.W (S.set i (.val (.l es))).W H H := Kp.refl.sub fun b z => (sub b z).1
  have nA : ¬ (S.set i (.val (.l es))).A c p := fun z => by
    rcases z with z | z
    · exact (r.a0 p z).2 (.inl ⟨i, es, e⟩)
    · exact (sub p z).2 rfl
  have rp : Rp K ((S.set i (.val (.l es))).A c) H (.ref p) (.l es) := .l hp nA (hw.kp (kA k))
  refine ⟨r.next k (by simp [Sx.set, r.len]) (by simp [Sx.set]) (fun j d he => ?_) (fun j q es' he => ?_) (fun j j' q ds' es' h1 h2 => ?_) (fun j q es' he => ?_) (fun a m em => ?_), k, rp⟩
  · rcases get_set he with ⟨rfl, q⟩ | ⟨ne, q⟩
    · cases q
      exact ⟨_, hσ, rp⟩
    · obtain ⟨v', h1, h2⟩ := r.val j d q
      exact ⟨v', h1, h2.kp (kA k)⟩
  · rcases get_set he with ⟨rfl, z⟩ | ⟨ne, z⟩
    · cases z
    · obtain ⟨h1, vs', h2, h3⟩ := r.own j q es' z
      exact ⟨h1, vs', h2, h3.kp (kA k)⟩
  · rcases get_set h1 with ⟨e1, q1⟩ | ⟨ne, q1⟩
    · cases q1
    · rcases get_set h2 with ⟨e2, q2⟩ | ⟨ne', q2⟩
      · cases q2
      · exact r.inj j j' q ds' es' q1 q2
  · rcases get_set he with ⟨rfl, z⟩ | ⟨ne, z⟩
    · cases z
    · exact r.sep j q es' z
  · exact (r.mem a m em).kp (kA k) fun o z => z
end
end VL
set_option Elab.async false
set_option linter.all false
set_option maxRecDepth 100000
set_option maxHeartbeats 1000000
namespace VL
open PySem PySem.Spec PyProof.Rows L2
abbrev WE := Sx → (Da → Sx → Prop) → Prop
abbrev WA := Sx → (List Da → Sx → Prop) → Prop
abbrev WT := Sx → (Bool → Sx → Prop) → Prop
structure Dn where
  nx : Sx → Prop
  rt : Da → Sx → Prop
  bk : Sx → Prop := fun _ => False
  ct : Sx → Prop := fun _ => False
abbrev WS := Dn → Sx → Prop
def Da.isO : Da → Bool
  | .o _ => true
  | _ => false
def RpS (K : PySem.W.Frag) (A : Addr → Prop) (σ : L2.St) (H : Hp) (v : V) (d : Da) : Prop := Rp K A H v d ∨ ∃ j, d = .o j ∧ σ[j]? = some (some v)
section
variable (K : PySem.W.Frag) (c : Cq)
def Pst (S : Sx) (σ : L2.St) (H : Hp) (Qd : Da → Sx → Prop) (Q : VK) : Prop :=
  ∀ d S', Qd d S' → ∀ H' v, Rel K c S' σ H' → Kp S.W S'.W H H' → RpS K (S'.A c) σ H' v d → Q v H'
def PstL (S : Sx) (σ : L2.St) (H : Hp) (Qd : List Da → Sx → Prop) (Q : VK) : Prop :=
  ∀ ds S', Qd ds S' → ∀ H' p vs, Rel K c S' σ H' → Kp S.W S'.W H H' → H' p = none → RpA K (S'.A c) H' vs ds → ds.length ≤ sizeLine → Q (.ref p) (upd H' p (.lst vs))
def PstA (S : Sx) (σ : L2.St) (H : Hp) (Qd : List Da → Sx → Prop) (Q : List V → Hp → Prop) : Prop :=
  ∀ ds S', Qd ds S' → ∀ H' vs, Rel K c S' σ H' → Kp S.W S'.W H H' → RpA K (S'.A c) H' vs ds → Q vs H'
def PstT (S : Sx) (σ : L2.St) (H : Hp) (Qd : Bool → Sx → Prop) (Q : Bool → Hp → Prop) : Prop :=
  ∀ b S', Qd b S' → ∀ H', Rel K c S' σ H' → Kp S.W S'.W H H' → Q b H'
structure PstS (S : Sx) (H : Hp) (Dd : Dn) (D : Ends) : Prop where
  nx : ∀ S', Dd.nx S' → ∀ σ' H', Rel K c S' σ' H' → Kp S.W S'.W H H' → D.nx σ' H'
  rt : ∀ d S', Dd.rt d S' → ∀ σ' H' v, Rel K c S' σ' H' → Kp S.W S'.W H H' → Rp K (S'.A c) H' v d → D.rt v H'
  bk : ∀ S', Dd.bk S' → ∀ σ' H', Rel K c S' σ' H' → Kp S.W S'.W H H' → D.bk σ' H'
  ct : ∀ S', Dd.ct S' → ∀ σ' H', Rel K c S' σ' H' → Kp S.W S'.W H H' → D.ct σ' H'
def lE (w : WE) : TE := fun σ H Q => ∃ S Qd, Rel K c S σ H ∧ w S Qd ∧ Pst K c S σ H Qd Q
/-- a new list -/
def lL (w : WA) : TE := fun σ H Q => ∃ S Qd, Rel K c S σ H ∧ w S Qd ∧ PstL K c S σ H Qd Q
def lA (w : WA) : TA := fun σ H Q => ∃ S Qd, Rel K c S σ H ∧ w S Qd ∧ PstA K c S σ H Qd Q
def lT (w : WT) : TT := fun σ H Q => ∃ S Qd, Rel K c S σ H ∧ w S Qd ∧ PstT K c S σ H Qd Q
def lS (w : WS) : TS := fun D σ H => ∃ S Dd, Rel K c S σ H ∧ w Dd S ∧ PstS K c S H Dd D
end
theorem pe_imp {X : Cx} {e : Expr} {t t' : TE} (h : PE X e t) (i : ∀ σ H Q, t' σ H Q → t σ H Q) : PE X e t' := ⟨fun pins s σ H Q I hq => h.run pins s σ H Q I (i σ H Q hq)⟩
theorem pa_imp {X : Cx} {es : List Expr} {t t' : TA} (h : PA X es t) (i : ∀ σ H Q, t' σ H Q → t σ H Q) : PA X es t' := ⟨fun pos pins s σ H Q I hq => h.run pos pins s σ H Q I (i σ H Q hq)⟩
theorem pt_imp {X : Cx} {e : Expr} {t t' : TT} (h : PT X e t) (i : ∀ σ H Q, t' σ H Q → t σ H Q) : PT X e t' := ⟨fun pins s σ H Q I hq => h.run pins s σ H Q I (i σ H Q hq)⟩
theorem pw_imp {X : Cx} {e : Expr} {t t' : TT} (h : PW X e t) (i : ∀ σ H Q, t' σ H Q → t σ H Q) : PW X e t' := ⟨fun wh pins s σ H Q I hq => h.run wh pins s σ H Q I (i σ H Q hq)⟩
theorem ps_imp {X : Cx} {e : Stmt} {t t' : TS} (h : PS X e t) (i : ∀ D σ H, t' D σ H → t D σ H) : PS X e t' := ⟨fun pins s σ H D I hq => h.run pins s σ H D I (i D σ H hq)⟩
theorem pss_imp {X : Cx} {e : List Stmt} {t t' : TS} (h : PSs X e t) (i : ∀ D σ H, t' D σ H → t D σ H) : PSs X e t' := ⟨fun pins s σ H D I hq => h.run pins s σ H D I (i D σ H hq)⟩
section
variable {K : PySem.W.Frag} {c : Cq} {S S1 S' : Sx} {σ : L2.St} {H H1 H' : Hp} {A : Addr → Prop} {v x y : V} {d e : Da} {ds es : List Da}
theorem RpS.pure (h : RpS K A σ H v d) (n : d.isO = false) : Rp K A H v d := by
  rcases h with h | ⟨j, rfl, _⟩
  · exact h
  · cases n
theorem RpS.kp {A' : Addr → Prop} (k : Kp A A' H H') (h : RpS K A σ H v d) : RpS K A' σ H' v d := h.imp (·.kp k) id
theorem PstS.at {Dd : Dn} {D : Ends} (p : PstS K c S H Dd D) (k : Kp S.W S1.W H H1) : PstS K c S1 H1 Dd D :=
  ⟨fun S' h σ' H' r k' => p.nx S' h σ' H' r (k.trans k'), fun d S' h σ' H' v r k' => p.rt d S' h σ' H' v r (k.trans k'), fun S' h σ' H' r k' => p.bk S' h σ' H' r (k.trans k'), fun S' h σ' H' r k' => p.ct S' h σ' H' r (k.trans k')⟩
theorem Rel.notA (r : Rel K c S σ H) {p : Addr} (n : H p = none) : ¬ S.A c p := fun z => by
  rcases z with z | ⟨i, ds, z⟩ | z
  · exact (r.a0 p z).1 n
  · obtain ⟨_, vs, h, _⟩ := r.own i p ds z
    rw [n] at h; cases h
  · cases e : S.M p with
    | none => exact z e
    | some m =>
      have := r.mem p m e
      cases m with
      | lst ds => obtain ⟨vs, e, r⟩ := this; rw [n] at e; cases e
      | dk _ ds => obtain ⟨vs, e, r⟩ := this; rw [n] at e; cases e
      | ins C ds => obtain ⟨dx, vs, e, r⟩ := this; rw [n] at e; cases e
      | dn P w lk ds => obtain ⟨vs, e, r⟩ := this; rw [n] at e; cases e
      | rg lo hi => have e : H p = some (.rng lo hi) := this; rw [n] at e; cases e
/-- a new object, its value -/
theorem Rel.alloc (r : Rel K c S σ H) {p : Addr} {o : HO} (n : H p = none) : Rel K c S σ (upd H p o) ∧ Kp S.W S.W H (upd H p o) ∧ ¬ S.A c p := ⟨r.new n, .same (same_upd n), r.notA n⟩
/-! lists and tuples of data -/
def Sx.lst (S : Sx) : Da → Option (List Da)
  | .l ds => some ds
  | .o j => match S.ρ[j]? with
    | some (.own _ ds) => some ds
    | _ => none
  | .r a => match S.M a with
    | some (.lst ds) => some ds
    | _ => none
  | _ => none
theorem lst_ok (r : Rel K c S σ H) (h : RpS K (S.A c) σ H v d) (e : S.lst d = some ds) : ∃ p vs, v = .ref p ∧ H p = some (.lst vs) ∧ RpA K (S.A c) H vs ds := by
  rcases h with h | ⟨j, rfl, hj⟩
  · cases h with
    | l h1 h2 h3 => cases e; exact ⟨_, _, rfl, h1, h3⟩
    | r a =>
      simp only [Sx.lst] at e
      split at e
      · rename_i q
        cases e
        obtain ⟨vs, h1, h2⟩ := r.mem a _ q
        exact ⟨_, _, rfl, h1, h2⟩
      · cases e
    | _ => cases e
  · simp only [Sx.lst] at e
    split at e
    · rename_i q
      cases e
      obtain ⟨h1, vs, h2, h3⟩ := r.own j _ _ q
      rw [hj] at h1
      cases h1
      exact ⟨_, _, rfl, h2, h3⟩
    · cases e
theorem tup_ok (h : RpS K A σ H v (.t ds)) : ∃ p vs, v = .ref p ∧ SqT K H p vs ∧ RpA K A H vs ds := by
  rcases h with h | ⟨j, e, _⟩
  · cases h with
    | t h1 h2 => exact ⟨_, _, rfl, h1, h2⟩
  · cases e
end
/-! ### names and constants -/
section
variable {X : Cx} {c : Cq} {pos : Pos}
def wVar (i : Nat) : WE := fun S Q => match S.ρ[i]? with
  | some (.val d) => Q d S
  | some (.own _ _) => Q (.o i) S
  | _ => False
def wC (d : Da) : WE := fun S Q => Q d S
theorem vv (i : Nat) {x : Str} (hN : X.N[i]? = some x := by rfl) (hv : Vis X.env.scope x := by first | exact Or.inl rfl | exact Or.inr (Or.inl rfl) | exact Or.inr (Or.inr rfl)) (hd : (x == ("__debug__" : Str)) = false := by decide)
    (hcd : (x == ("__classdict__" : Str)) = false := by decide) : PE X (.Name x pos) (lE X.K c (wVar i)) := by
  refine pe_imp (pe_var hN hv hd hcd) fun σ H Q h => ?_
  obtain ⟨S, Qd, r, h, p⟩ := h
  unfold wVar at h
  split at h
  · rename_i d q
    obtain ⟨v, h1, h2⟩ := r.val i d q
    exact ⟨v, h1, p _ _ h _ _ r .refl (.inl h2)⟩
  · rename_i a ds q
    obtain ⟨h1, vs, h2, h3⟩ := r.own i _ _ q
    exact ⟨_, h1, p _ _ h _ _ r .refl (.inr ⟨i, rfl, h1⟩)⟩
  · exact h.elim
theorem vc {e : Expr} {v : V} {d : Da} (h : PE X e (tC v)) (r : ∀ K A H, Rp K A H v d) : PE X e (lE X.K c (wC d)) := pe_imp h fun σ H Q h => by
  obtain ⟨S, Qd, rr, h, p⟩ := h
  exact p _ _ h _ _ rr .refl (.inl (r _ _ _))
theorem vi {i : Int} {j : Nat} : PE X (.Constant (.int i) j pos) (lE X.K c (wC (.i i))) := vc pe_int fun _ _ _ => .i i
theorem vb {b : Bool} {j : Nat} : PE X (.Constant (.bool b) j pos) (lE X.K c (wC (.b b))) := vc pe_bl fun _ _ _ => .b b
theorem vn {j : Nat} : PE X (.Constant .none j pos) (lE X.K c (wC .n)) := vc pe_non fun _ _ _ => .n
theorem vs {z : Str} {j : Nat} : PE X (.Constant (.str z) j pos) (lE X.K c (wC (.s z))) := vc pe_str fun _ _ _ => .s z
theorem vgs {x z : Str} {t : Tok} (hg : Gl X x) (hm : X.mg x = some (.str z t)) (hd : (x == ("__debug__" : Str)) = false := by decide) : PE X (.Name x pos) (lE X.K c (wC (.s z))) := vc (pe_glob hg hm (v := .str z) ⟨_, rfl⟩ hd) fun _ _ _ => .s z
theorem vgi {x : Str} {z : Int} {t : Tok} (hg : Gl X x) (hm : X.mg x = some (.int z t)) (hd : (x == ("__debug__" : Str)) = false := by decide) : PE X (.Name x pos) (lE X.K c (wC (.i z))) := vc (pe_glob hg hm (v := .int z) ⟨_, rfl⟩ hd) fun _ _ _ => .i z
theorem vgr {x : Str} {z : Addr} (hg : Gl X x) (hm : X.mg x = some (.ref z)) (hd : (x == ("__debug__" : Str)) = false := by decide) : PE X (.Name x pos) (lE X.K c (wC (.r z))) := vc (pe_glob hg hm (v := .ref z) rfl hd) fun _ _ _ => .r z
end
/-! ### by values -/
section
variable {X : Cx} {c : Cq} {pos : Pos} {a b : Expr} {wa wb : WE}
abbrev RD := Da → Da → Sx → (Da → Sx → Prop) → Prop
abbrev RU := Da → Sx → (Da → Sx → Prop) → Prop
def wOp (rd : RD) (wa wb : WE) : WE := fun S Q => wa S fun x S1 => wb S1 fun y S2 => rd x y S2 Q
def wUn (rd : RU) (wa : WE) : WE := fun S Q => wa S fun x S1 => rd x S1 Q
/-- a rule by values says what the data's rule asks -/
def OpL (K : PySem.W.Frag) (c : Cq) (r : R2) (rd : RD) : Prop := ∀ σ H S x y dx dy Qd Q, Rel K c S σ H → RpS K (S.A c) σ H x dx → RpS K (S.A c) σ H y dy → rd dx dy S Qd → Pst K c S σ H Qd Q → r x y H Q
def UnL (K : PySem.W.Frag) (c : Cq) (r : V → Hp → VK → Prop) (rd : RU) : Prop := ∀ σ H S x dx Qd Q, Rel K c S σ H → RpS K (S.A c) σ H x dx → rd dx S Qd → Pst K c S σ H Qd Q → r x H Q
theorem Pst.at {K : PySem.W.Frag} {c : Cq} {S S1 : Sx} {σ : L2.St} {H H1 : Hp} {Qd : Da → Sx → Prop} {Q : VK} (p : Pst K c S σ H Qd Q) (k : Kp S.W S1.W H H1) : Pst K c S1 σ H1 Qd Q :=
  fun d S' h H' v r k' rp => p d S' h H' v r (k.trans k') rp
theorem PstA.at {K : PySem.W.Frag} {c : Cq} {S S1 : Sx} {σ : L2.St} {H H1 : Hp} {Qd : List Da → Sx → Prop} {Q : List V → Hp → Prop} (p : PstA K c S σ H Qd Q) (k : Kp S.W S1.W H H1) : PstA K c S1 σ H1 Qd Q :=
  fun d S' h H' v r k' rp => p d S' h H' v r (k.trans k') rp
theorem PstL.at {K : PySem.W.Frag} {c : Cq} {S S1 : Sx} {σ : L2.St} {H H1 : Hp} {Qd : List Da → Sx → Prop} {Q : VK} (p : PstL K c S σ H Qd Q) (k : Kp S.W S1.W H H1) : PstL K c S1 σ H1 Qd Q :=
  fun d S' h H' v vs r k' n rp => p d S' h H' v vs r (k.trans k') n rp
theorem PstT.at {K : PySem.W.Frag} {c : Cq} {S S1 : Sx} {σ : L2.St} {H H1 : Hp} {Qd : Bool → Sx → Prop} {Q : Bool → Hp → Prop} (p : PstT K c S σ H Qd Q) (k : Kp S.W S1.W H H1) : PstT K c S1 σ H1 Qd Q :=
  fun d S' h H' r k' => p d S' h H' r (k.trans k')
theorem lop {r : R2} {rd : RD} {K : PySem.W.Frag} (L : OpL K c r rd) : ∀ σ H Q, lE K c (wOp rd wa wb) σ H Q → tOp r (lE K c wa) (lE K c wb) σ H Q := fun σ H Q h => by
  obtain ⟨S, Qd, rr, h, p⟩ := h
  refine ⟨S, _, rr, h, fun x S1 h1 H1 v1 r1 k1 p1 => ⟨S1, _, r1, h1, fun y S2 h2 H2 v2 r2 k2 p2 => ?_⟩⟩
  exact L σ H2 S2 v1 v2 x y Qd Q r2 (p1.kp (kA k2)) p2 h2 (p.at (k1.trans k2))
theorem lun {r : V → Hp → VK → Prop} {rd : RU} {K : PySem.W.Frag} (L : UnL K c r rd) : ∀ σ H Q, lE K c (wUn rd wa) σ H Q → tUn r (lE K c wa) σ H Q := fun σ H Q h => by
  obtain ⟨S, Qd, rr, h, p⟩ := h
  exact ⟨S, _, rr, h, fun x S1 h1 H1 v1 r1 k1 p1 => L σ H1 S1 v1 x Qd Q r1 p1 h1 (p.at k1)⟩
theorem v_op {op : Operator} {r : R2} {rd : RD} (ho : OpR X (binaryOp op) r) (L : OpL X.K c r rd) (ha : PE X a (lE X.K c wa)) (hb : PE X b (lE X.K c wb)) : PE X (.BinOp a op b pos) (lE X.K c (wOp rd wa wb)) := pe_imp (pe_op ho ha hb) (lop L)
theorem v_cmp {op : CmpOp} {r : R2} {rd : RD} (ho : OpR X (compareOp op) r) (L : OpL X.K c r rd) (hm : behindInMarks op b = false) (ha : PE X a (lE X.K c wa)) (hb : PE X b (lE X.K c wb)) : PE X (.Compare a [op] [b] pos) (lE X.K c (wOp rd wa wb)) := pe_imp (pe_cmpR ho ha hb hm) (lop L)
theorem OpR.or {f : Value → Value → Sem Value} {r r' : R2} (h : OpR X f r) (h' : OpR X f r') : OpR X f (fun x y H Q => r x y H Q ∨ r' x y H Q) := fun pins s σ H x y v u Q I rx ry q => q.elim (h pins s σ H x y v u Q I rx ry) (h' pins s σ H x y v u Q I rx ry)
end
end VL
set_option Elab.async false
set_option linter.all false
set_option maxRecDepth 100000
set_option maxHeartbeats 1000000
namespace VL
open PySem PySem.Spec PyProof.Rows L2
section
variable {K : PySem.W.Frag} {c : Cq} {A : Addr → Prop} {H : Hp} {σ : L2.St} {v x y : V} {d : Da} {ds : List Da}
theorem rs_i {k : Int} (h : RpS K A σ H v (.i k)) : v = .int k := by
  rcases h with h | ⟨_, e, _⟩
  · cases h; rfl
  · cases e
theorem rs_s {k : Str} (h : RpS K A σ H v (.s k)) : v = .str k := by
  rcases h with h | ⟨_, e, _⟩
  · cases h; rfl
  · cases e
theorem rs_b {k : Bool} (h : RpS K A σ H v (.b k)) : v = .bl k := by
  rcases h with h | ⟨_, e, _⟩
  · cases h; rfl
  · cases e
theorem rs_n (h : RpS K A σ H v .n) : v = .non := by
  rcases h with h | ⟨_, e, _⟩
  · cases h; rfl
  · cases e
theorem pure1 {H : Hp} (h : Rp K A H v d) : RpS K A σ H v d := .inl h
/-! ### numbers -/
def rdI (C : Int → Int → Prop) (g : Int → Int → Int) : RD := fun x y S Q => match x, y with
  | .i a, .i b => C a b ∧ Q (.i (g a b)) S
  | _, _ => False
def rdI0 (g : Int → Int → Int) : RD := fun x y S Q => match x, y with
  | .i a, .i b => Q (.i (g a b)) S
  | _, _ => False
def rdC (g : Int → Int → Bool) : RD := fun x y S Q => match x, y with
  | .i a, .i b => Q (.b (g a b)) S
  | _, _ => False
theorem lI {C : Int → Int → Prop} {g : Int → Int → Int} : OpL K c (rI C fun i j => .int (g i j)) (rdI C g) := fun σ H S x y dx dy Qd Q r rx ry h p => by
  cases dx <;> cases dy <;> try exact h.elim
  obtain ⟨h1, h2⟩ := h
  exact ⟨_, _, rs_i rx, rs_i ry, h1, p _ _ h2 _ _ r .refl (.inl (.i _))⟩
theorem lI0 {g : Int → Int → Int} : OpL K c (rI0 fun i j => .int (g i j)) (rdI0 g) := fun σ H S x y dx dy Qd Q r rx ry h p => by
  cases dx <;> cases dy <;> try exact h.elim
  exact ⟨_, _, rs_i rx, rs_i ry, p _ _ h _ _ r .refl (.inl (.i _))⟩
theorem lC {g : Int → Int → Bool} : OpL K c (rI0 fun i j => .bl (g i j)) (rdC g) := fun σ H S x y dx dy Qd Q r rx ry h p => by
  cases dx <;> cases dy <;> try exact h.elim
  exact ⟨_, _, rs_i rx, rs_i ry, p _ _ h _ _ r .refl (.inl (.b _))⟩
/-! ### plus -/
def rdAdd : RD := fun x y S Q => match x, y with
  | .i a, .i b => Q (.i (a + b)) S
  | .s a, .s b => a.length + b.length ≤ sizeLine ∧ Q (.s (a ++ b)) S
  | .t a, .t b => a.length + b.length ≤ sizeLine ∧ Q (.t (a ++ b)) S
  | _, _ => False
def rAddA (K : PySem.W.Frag) : R2 := fun x y H Q => (rI0 fun i j => .int (i + j)) x y H Q ∨ (∃ i j, x = .str i ∧ y = .str j ∧ i.length + j.length ≤ sizeLine ∧ Q (.str (i ++ j)) H) ∨ rCatA K x y H Q
theorem op_addA {X : Cx} : OpR X (binaryOp .Add) (rAddA X.K) := op_add.or (op_add_str.or op_catA)
theorem lAdd : OpL K c (rAddA K) rdAdd := fun σ H S x y dx dy Qd Q r rx ry h p => by
  cases dx <;> cases dy <;> try exact h.elim
  · exact .inl ⟨_, _, rs_i rx, rs_i ry, p _ _ h _ _ r .refl (.inl (.i _))⟩
  · exact .inr (.inl ⟨_, _, rs_s rx, rs_s ry, h.1, p _ _ h.2 _ _ r .refl (.inl (.s _))⟩)
  · rename_i ds es
    obtain ⟨a, vs, ea, ha, ra⟩ := tup_ok rx
    obtain ⟨b, us, eb, hb, rb⟩ := tup_ok ry
    have l1 := ra.length
    have l2 := rb.length
    obtain ⟨h1, h2⟩ := h
    refine .inr (.inr ⟨a, b, vs, us, ea, eb, ha, hb, by omega, fun e => ?_, fun _ e => ?_, fun _ _ q nq => ?_⟩)
    · subst e
      have : ds = [] := List.length_eq_zero_iff.mp (by simpa using l1.symm)
      subst this
      exact p _ _ h2 _ _ r .refl (.inl (.t hb rb))
    · subst e
      have : es = [] := List.length_eq_zero_iff.mp (by simpa using l2.symm)
      subst this
      rw [List.append_nil] at h2
      exact p _ _ h2 _ _ r .refl (.inl (.t ha ra))
    · obtain ⟨r', k, nA⟩ := r.alloc (o := .tup (vs ++ us)) nq
      exact p _ _ h2 _ _ r' k (.inl (.t (.inl (.inl upd_same)) ((ra.append rb).kp (kA k))))
/-! ### == and in -/
mutual
def Da.py : Da → PyData
  | .n => .none
  | .b x => .bool x
  | .i k => .int k
  | .s z => .str z
  | .t ds => .tuple (pys ds)
  | .l ds => .list (pys ds)
  | _ => .none
def pys : List Da → List PyData
  | [] => []
  | d :: ds => d.py :: pys ds
end
mutual
/-- plain data, that == knows -/
def Da.pl : Da → Bool
  | .n => true
  | .b _ => true
  | .i _ => true
  | .s z => PyData.strOk z
  | .t ds => pls ds
  | .l ds => pls ds
  | _ => false
def pls : List Da → Bool
  | [] => true
  | d :: ds => d.pl && pls ds
end
mutual
theorem Rp.dp : ∀ {v : V} {d : Da}, d.pl = true → Rp K A H v d → Dp K H v d.py
  | _, _, _, .n => .non
  | _, _, _, .b x => .bl x
  | _, _, _, .i x => .int x
  | _, _, _, .s x => .str x
  | _, _, h, .t h1 h2 => .tup h1 (RpA.dp (by simpa [Da.pl] using h) h2)
  | _, _, h, .l h1 _ h2 => .lst (SqL.of h1) (RpA.dp (by simpa [Da.pl] using h) h2)
  | _, _, h, .r _ => by simp [Da.pl] at h
  | _, _, h, .ty _ => by simp [Da.pl] at h
  | _, _, h, .sc _ => by simp [Da.pl] at h
  | _, _, h, .dk _ _ _ => by simp [Da.pl] at h
  | _, _, h, .ins _ _ _ => by simp [Da.pl] at h
theorem RpA.dp : ∀ {vs : List V} {ds : List Da}, pls ds = true → RpA K A H vs ds → DpAll K H vs (pys ds)
  | _, _, _, .nil => .nil
  | _, _, h, .cons h1 h2 => by
    simp only [pls, Bool.and_eq_true] at h
    exact .cons (Rp.dp h.1 h1) (RpA.dp h.2 h2)
end
mutual
theorem canLay_py : ∀ d : Da, d.pl = true → d.py.canLay0 = true
  | .n, _ => rfl
  | .b _, _ => rfl
  | .i _, _ => rfl
  | .s z, h => by simpa [Da.py, PyData.canLay0, Da.pl] using h
  | .t ds, h => by
    simp only [Da.py, PyData.canLay0]
    exact canLay_pys ds (by simpa [Da.pl] using h)
  | .l ds, h => by
    simp only [Da.py, PyData.canLay0]
    exact canLay_pys ds (by simpa [Da.pl] using h)
  | .dk _, _ => rfl
  | .ins _ _, _ => rfl
  | .r _, _ => rfl
  | .ty _, _ => rfl
  | .sc _, _ => rfl
  | .o _, _ => rfl
theorem canLay_pys : ∀ ds : List Da, pls ds = true → PyData.canLayAll0 (pys ds) = true
  | [], _ => rfl
  | d :: ds, h => by
    simp only [pls, Bool.and_eq_true] at h
    simp only [pys, PyData.canLayAll0, Bool.and_eq_true]
    exact ⟨canLay_py d h.1, canLay_pys ds h.2⟩
end
/-- == can be asked of it -/
def Da.eqb (d : Da) : Bool := d.pl && decide (d.py.depth ≤ 64)
theorem eqb_shaped (h : d.eqb = true) : SeqAt.shaped d.py = true ∧ d.pl = true := by
  unfold Da.eqb at h
  rw [Bool.and_eq_true] at h
  refine ⟨?_, h.1⟩
  show (d.py.canLay0 && decide (d.py.depth ≤ 64)) = true
  rw [canLay_py d h.1, h.2]
  rfl
/-- the scalars -/
def Da.va : Da → V
  | .b x => .bl x
  | .i k => .int k
  | .s z => .str z
  | _ => .non
def Da.fl : Da → Bool
  | .n => true
  | .b _ => true
  | .i _ => true
  | .s _ => true
  | _ => false
theorem rs_fl (f : d.fl = true) (h : RpS K A σ H v d) : v = d.va := by
  cases d <;> first
    | exact rs_n h
    | exact rs_b h
    | exact rs_i h
    | exact rs_s h
    | exact Bool.noConfusion f
theorem fl_flat (f : d.fl = true) : flatV d.va = true := by
  cases d <;> first | rfl | exact Bool.noConfusion f
theorem rpa_fl : ∀ {ds : List Da} {vs : List V}, ds.all Da.fl = true → RpA K A H vs ds → vs = ds.map Da.va ∧ vs.all flatV = true
  | _, _, _, .nil => ⟨rfl, rfl⟩
  | _, _, f, .cons h a => by
    rw [List.all_cons, Bool.and_eq_true] at f
    obtain ⟨e1, e2⟩ := rpa_fl f.2 a
    have e := rs_fl (σ := []) f.1 (.inl h)
    subst e
    rw [List.map_cons, ← e1, List.all_cons, e2, fl_flat f.1]
    exact ⟨rfl, rfl⟩
/-- an own list, a shared list, by its items -/
def Sx.res (S : Sx) (d : Da) : Da := match S.lst d with
  | some ds => .l ds
  | none => d
/-- == of scalars -/
def eqF : Da → Da → Bool
  | .n, .n => true
  | .b x, .b y => decide (x = y)
  | .i x, .i y => decide (x = y)
  | .s x, .s y => decide (x = y)
  | _, _ => false
theorem dec_of {p q : Prop} [Decidable p] [Decidable q] (h : p ↔ q) : decide p = decide q := by
  by_cases hp : p
  · rw [decide_eq_true hp, decide_eq_true (h.mp hp)]
  · rw [decide_eq_false hp, decide_eq_false fun z => hp (h.mpr z)]
theorem eqF_ok {x y : Da} (hx : x.fl = true) (hy : y.fl = true) : decide (x.va = y.va) = eqF x y := by
  cases x <;> cases y <;> first
    | exact Bool.noConfusion hx
    | exact Bool.noConfusion hy
    | exact decide_eq_false (fun e => by cases e)
    | exact decide_eq_true rfl
    | exact dec_of ⟨fun e => by injection e, fun e => by rw [e]⟩
def rdEq : RD := fun x y S Q => (x.fl = true ∧ y.fl = true ∧ scal x.va y.va = true ∧ Q (.b (eqF x y)) S) ∨ (x.eqb = true ∧ y.eqb = true ∧ Q (.b (PyData.eqv x.py y.py)) S)
def rdNe : RD := fun x y S Q => (x.fl = true ∧ y.fl = true ∧ scal x.va y.va = true ∧ Q (.b (!eqF x y)) S) ∨ (x.eqb = true ∧ y.eqb = true ∧ Q (.b (!PyData.eqv x.py y.py)) S)
def rEqA (K : PySem.W.Frag) : R2 := fun x y H Q => rEq x y H Q ∨ rEqD K x y H Q
def rNeA (K : PySem.W.Frag) : R2 := fun x y H Q => rNe x y H Q ∨ rNeD K x y H Q
theorem op_eqA {X : Cx} (hu : X.A.units + 64 < cLine) : OpR X (compareOp .Eq) (rEqA X.K) := op_eq.or (op_eqD hu)
theorem op_neA {X : Cx} (hu : X.A.units + 64 < cLine) : OpR X (compareOp .NotEq) (rNeA X.K) := op_ne.or (op_neD hu)
theorem eqb_no (h : d.eqb = true) : d.isO = false := by
  cases d <;> first | rfl | (simp [Da.eqb, Da.pl] at h)
theorem lEq : OpL K c (rEqA K) rdEq := fun σ H S x y dx dy Qd Q r rx ry h p => by
  rcases h with ⟨f1, f2, f3, h⟩ | ⟨f1, f2, h⟩
  · rw [rs_fl f1 rx, rs_fl f2 ry]
    exact .inl ⟨f3, by rw [eqF_ok f1 f2]; exact p _ _ h _ _ r .refl (.inl (.b _))⟩
  · exact .inr ⟨_, _, (rx.pure (eqb_no f1)).dp (eqb_shaped f1).2, (ry.pure (eqb_no f2)).dp (eqb_shaped f2).2, (eqb_shaped f1).1, (eqb_shaped f2).1, p _ _ h _ _ r .refl (.inl (.b _))⟩
theorem lNe : OpL K c (rNeA K) rdNe := fun σ H S x y dx dy Qd Q r rx ry h p => by
  rcases h with ⟨f1, f2, f3, h⟩ | ⟨f1, f2, h⟩
  · rw [rs_fl f1 rx, rs_fl f2 ry]
    exact .inl ⟨f3, by rw [eqF_ok f1 f2]; exact p _ _ h _ _ r .refl (.inl (.b _))⟩
  · exact .inr ⟨_, _, (rx.pure (eqb_no f1)).dp (eqb_shaped f1).2, (ry.pure (eqb_no f2)).dp (eqb_shaped f2).2, (eqb_shaped f1).1, (eqb_shaped f2).1, p _ _ h _ _ r .refl (.inl (.b _))⟩
def Sx.sq (S : Sx) : Da → Option (List Da)
  | .t ds => some ds
  | .sc ns => some (ns.map Da.i)
  | d => S.lst d
theorem rpa_ofInts {K : PySem.W.Frag} {A : Addr → Prop} {H : Hp} : ∀ ns : List Int, RpA K A H (ns.map V.int) (ns.map Da.i)
  | [] => .nil
  | n :: r => .cons (.i n) (rpa_ofInts r)
theorem sc_ok {ns : List Int} (h : RpS K A σ H v (.sc ns)) : ∃ p, v = .ref p ∧ SqL K H p (ns.map V.int) := by
  rcases h with h | ⟨j, e, _⟩
  · cases h with
    | sc h1 => exact ⟨_, rfl, h1.sq⟩
  · cases e
theorem sq_ok {S : Sx} (r : Rel K c S σ H) (h : RpS K (S.A c) σ H v d) (e : S.sq d = some ds) : ∃ p vs, v = .ref p ∧ (SqL K H p vs ∨ SqT K H p vs) ∧ RpA K (S.A c) H vs ds := by
  cases d with
  | t es =>
    cases e
    obtain ⟨p, vs, e1, h1, h2⟩ := tup_ok h
    exact ⟨p, vs, e1, .inr h1, h2⟩
  | sc ns =>
    cases e
    obtain ⟨p, e1, h1⟩ := sc_ok h
    exact ⟨p, _, e1, .inl h1, rpa_ofInts ns⟩
  | _ =>
    obtain ⟨p, vs, e1, h1, h2⟩ := lst_ok r h e
    exact ⟨p, vs, e1, .inl (SqL.of h1), h2⟩
def inD (x : Da) (ds : List Da) : Bool := inV x.va (ds.map Da.va)
/-- x in a list or tuple of flat things; in a text -/
def rdIn (neg : Bool) : RD := fun x y S Q => match x, y with
  | .s a, .s b => Q (.b (if neg then !(!(Builtin.Str.occurrences b a 0 b.length 1).isEmpty) else !(Builtin.Str.occurrences b a 0 b.length 1).isEmpty)) S
  | x, y => ∃ ds, S.sq y = some ds ∧ x.fl = true ∧ ds.all Da.fl = true ∧ Q (.b (if neg then !inD x ds else inD x ds)) S
def rInA (K : PySem.W.Frag) : R2 := fun x y H Q => rIn K false x y H Q ∨ (∃ i j, x = .str i ∧ y = .str j ∧ Q (.bl (!(Builtin.Str.occurrences j i 0 j.length 1).isEmpty)) H)
def rNotInA (K : PySem.W.Frag) : R2 := fun x y H Q => rIn K true x y H Q ∨ (∃ i j, x = .str i ∧ y = .str j ∧ Q (.bl (!(!(Builtin.Str.occurrences j i 0 j.length 1).isEmpty))) H)
theorem op_inA {X : Cx} : OpR X (compareOp .In) (rInA X.K) := op_in_seq.or op_in_str
theorem op_notInA {X : Cx} : OpR X (compareOp .NotIn) (rNotInA X.K) := op_notIn_seq.or op_notin_str
theorem lInL {neg : Bool} {S : Sx} {dx dy : Da} {Qd : Da → Sx → Prop} {Q : VK} (r : Rel K c S σ H) (rx : RpS K (S.A c) σ H x dx) (ry : RpS K (S.A c) σ H y dy)
    (h : ∃ ds, S.sq dy = some ds ∧ dx.fl = true ∧ ds.all Da.fl = true ∧ Qd (.b (if neg then !inD dx ds else inD dx ds)) S) (p : Pst K c S σ H Qd Q) : rIn K neg x y H Q := by
  obtain ⟨ds, e, f1, f2, h⟩ := h
  obtain ⟨a, vs, e1, h1, h2⟩ := sq_ok r ry e
  obtain ⟨e3, f3⟩ := rpa_fl f2 h2
  have e2 := rs_fl f1 rx
  subst e2
  refine ⟨a, vs, e1, h1, fl_flat f1, f3, ?_⟩
  rw [e3]
  have h' : Qd (.b (if neg then !inV dx.va (ds.map Da.va) else inV dx.va (ds.map Da.va))) S := h
  cases neg
  · exact p _ _ h' _ _ r .refl (.inl (.b _))
  · exact p _ _ h' _ _ r .refl (.inl (.b _))
theorem lIn : OpL K c (rInA K) (rdIn false) := fun σ H S x y dx dy Qd Q r rx ry h p => by
  unfold rdIn at h
  split at h
  · exact .inr ⟨_, _, rs_s rx, rs_s ry, p _ _ h _ _ r .refl (.inl (.b _))⟩
  · exact .inl (lInL (neg := false) r rx ry h p)
theorem lNotIn : OpL K c (rNotInA K) (rdIn true) := fun σ H S x y dx dy Qd Q r rx ry h p => by
  unfold rdIn at h
  split at h
  · exact .inr ⟨_, _, rs_s rx, rs_s ry, p _ _ h _ _ r .refl (.inl (.b _))⟩
  · exact .inl (lInL (neg := true) r rx ry h p)
/-! ### is None -/
def Da.isN : Da → Bool
  | .n => true
  | _ => false
theorem isN_ok (r : Rp K A H v d) : decide (v = .non) = d.isN := by
  cases r <;> first | rfl | exact decide_eq_false (fun e => by cases e)
def rdIs (neg : Bool) : RD := fun x y S Q => match x, y with
  | .o _, _ => False
  | x, .n => Q (.b (if neg then !x.isN else x.isN)) S
  | _, _ => False
theorem lIs : OpL K c (fun x y H Q => y = .non ∧ Q (.bl (decide (x = .non))) H) (rdIs false) := fun σ H S x y dx dy Qd Q r rx ry h p => by
  unfold rdIs at h
  split at h
  · exact h.elim
  · rename_i no
    refine ⟨rs_n ry, ?_⟩
    rw [isN_ok (rx.pure (by cases dx <;> first | rfl | exact absurd rfl (no _)))]
    exact p _ _ h _ _ r .refl (.inl (.b _))
  · exact h.elim
theorem lIsNot : OpL K c (fun x y H Q => y = .non ∧ Q (.bl (!decide (x = .non))) H) (rdIs true) := fun σ H S x y dx dy Qd Q r rx ry h p => by
  unfold rdIs at h
  split at h
  · exact h.elim
  · rename_i no
    refine ⟨rs_n ry, ?_⟩
    rw [isN_ok (rx.pure (by cases dx <;> first | rfl | exact absurd rfl (no _)))]
    exact p _ _ h _ _ r .refl (.inl (.b _))
  · exact h.elim
end
end VL
set_option Elab.async false
set_option linter.all false
set_option maxRecDepth 100000
set_option maxHeartbeats 1000000
namespace VL
open PySem PySem.Spec PyProof.Rows L2
section
variable {X : Cx} {c : Cq} {pos p apos : Pos} {e a b : Expr} {es rest : List Expr} {we wa wb : WE} {wt wu : WT} {wl wr : WA}
/-! ### a list of one's own becomes a value -/
def wFz (we : WE) : WE := fun S Q => we S fun d S' => match d with
  | .o i => match S'.ρ[i]? with
    | some (.own _ ds) => Q (.l ds) (S'.set i (.val (.l ds)))
    | _ => False
  | d => Q d S'
theorem vFz (h : PE X e (lE X.K c we)) : PE X e (lE X.K c (wFz we)) := pe_imp h fun σ H Q h => by
  obtain ⟨S, Qd, r, h, p⟩ := h
  refine ⟨S, _, r, h, fun d S1 h1 H1 v r1 k1 p1 => ?_⟩
  split at h1
  · rename_i i
    split at h1
    · rename_i q ds e
      obtain ⟨r2, k2, p2⟩ := r1.frz e
      have : v = .ref q := by
        rcases p1 with p1 | ⟨j, e1, e2⟩
        · cases p1
        · cases e1
          rw [(r1.own _ _ _ e).1] at e2
          cases e2
          rfl
      subst this
      exact p _ _ h1 _ _ r2 (k1.trans k2) (.inl p2)
    · exact h1.elim
  · exact p _ _ h1 _ _ r1 k1 p1
/-! ### tests -/
def wB (we : WE) : WT := fun S Q => we S fun d S' => match d with
  | .b k => Q k S'
  | _ => False
theorem lB {K : PySem.W.Frag} : ∀ σ H Q, lT K c (wB we) σ H Q → tB (lE K c we) σ H Q := fun σ H Q h => by
  obtain ⟨S, Qd, r, h, p⟩ := h
  refine ⟨S, _, r, h, fun d S1 h1 H1 v r1 k1 p1 => ?_⟩
  cases d <;> try exact h1.elim
  exact ⟨_, rs_b p1, p _ _ h1 _ r1 k1⟩
theorem vB (h : PE X e (lE X.K c we)) (he : ∀ whole, isTrue e X.env whole = (do let v ← whole; standAt e.pos; holding [v] (truthy v)) := by intro _; rfl) : PT X e (lT X.K c (wB we)) := pt_imp (pt_val h he) lB
theorem lTest {K : PySem.W.Frag} {t : TE} (h : ∀ σ H Q, lE K c we σ H Q → t σ H Q) : ∀ σ H Q, lT K c (wB we) σ H Q → tTest t σ H Q := fun σ H Q h' => by
  obtain ⟨S, Qd, r, h', p⟩ := h'
  refine h _ _ _ ⟨S, _, r, h', fun d S1 h1 H1 v r1 k1 p1 => ?_⟩
  cases d <;> try exact h1.elim
  exact ⟨_, rs_b p1, p _ _ h1 _ r1 k1⟩
theorem vt_cmp {op : CmpOp} {r : R2} {rd : RD} (ho : OpR X (compareOp op) r) (L : OpL X.K c r rd) (hm : behindInMarks op b = false) (ha : PE X a (lE X.K c wa)) (hb : PE X b (lE X.K c wb)) : PT X (.Compare a [op] [b] pos) (lT X.K c (wB (wOp rd wa wb))) :=
  pt_imp (pt_cmpR ho ha hb hm) (lTest (lop L))
/-- truth -/
def trD (S : Sx) (d : Da) (Q : Bool → Prop) : Prop := match d with
  | .n => Q false
  | .b k => Q k
  | .i k => Q (k != 0)
  | .s z => z.length ≤ sizeLine ∧ Q ((z.length : Int) != 0)
  | .t ds => Q (!ds.isEmpty)
  | .dk ds => Q (!ds.isEmpty)
  | .l ds => Q (!ds.isEmpty)
  | d => ∃ ds, S.lst d = some ds ∧ Q (!ds.isEmpty)
def wTr (we : WE) : WT := fun S Q => we S fun d S' => trD S' d fun k => Q k S'
theorem rpa_empty {K : PySem.W.Frag} {A : Addr → Prop} {H : Hp} {vs : List V} {ds : List Da} (h : RpA K A H vs ds) : vs.isEmpty = ds.isEmpty := by cases h <;> rfl
theorem rpk_empty {K : PySem.W.Frag} {A : Addr → Prop} {H : Hp} {vs : List (Key × V)} {ds : List (Key × Da)} (h : RpK K A H vs ds) : vs.isEmpty = ds.isEmpty := by cases h <;> rfl
theorem tr_ok {K : PySem.W.Frag} {S : Sx} {σ : L2.St} {H : Hp} {v : V} {d : Da} {Q : Bool → Prop} (r : Rel K c S σ H) (h : RpS K (S.A c) σ H v d) (t : trD S d Q) : ∃ k, TruV K v H k ∧ Q k := by
  cases d with
  | n => rw [rs_n h]; exact ⟨_, rfl, t⟩
  | b x => rw [rs_b h]; exact ⟨_, rfl, t⟩
  | i x => rw [rs_i h]; exact ⟨_, rfl, t⟩
  | s x => rw [rs_s h]; exact ⟨_, ⟨t.1, rfl⟩, t.2⟩
  | t ds =>
    obtain ⟨q, vs, rfl, h1, h2⟩ := tup_ok h
    exact ⟨_, .inr (.inl ⟨vs, h1, rfl⟩), by rw [rpa_empty h2]; exact t⟩
  | l ds =>
    obtain ⟨q, vs, rfl, h1, h2⟩ := lst_ok r h rfl
    exact ⟨_, .inl ⟨vs, SqL.of h1, rfl⟩, by rw [rpa_empty h2]; exact t⟩
  | dk ds =>
    cases h.pure rfl with
    | dk h1 _ h2 => exact ⟨_, .inr (.inr ⟨_, h1, rfl⟩), by rw [rpk_empty h2]; exact t⟩
  | ins C fs => obtain ⟨ds, e, _⟩ := t; cases e
  | ty _ => obtain ⟨ds, e, _⟩ := t; cases e
  | sc _ => obtain ⟨ds, e, _⟩ := t; cases e
  | r x =>
    obtain ⟨ds, e, t⟩ := t
    obtain ⟨q, vs, rfl, h1, h2⟩ := lst_ok r h e
    exact ⟨_, .inl ⟨vs, SqL.of h1, rfl⟩, by rw [rpa_empty h2]; exact t⟩
  | o x =>
    obtain ⟨ds, e, t⟩ := t
    obtain ⟨q, vs, rfl, h1, h2⟩ := lst_ok r h e
    exact ⟨_, .inl ⟨vs, SqL.of h1, rfl⟩, by rw [rpa_empty h2]; exact t⟩
theorem vTr (h : PE X e (lE X.K c we)) (he : ∀ whole, isTrue e X.env whole = (do let v ← whole; standAt e.pos; holding [v] (truthy v)) := by intro _; rfl) : PT X e (lT X.K c (wTr we)) := pt_imp (pt_truth h he) fun σ H Q h => by
  obtain ⟨S, Qd, r, h, p⟩ := h
  refine ⟨S, _, r, h, fun d S1 h1 H1 v r1 k1 p1 => ?_⟩
  obtain ⟨k, t, q⟩ := tr_ok r1 p1 h1
  exact ⟨k, t, p _ _ q _ r1 k1⟩
def wAnd (wt wu : WT) : WT := fun S Q => wt S fun k S1 => if k = true then wu S1 Q else Q false S1
def wOr (wt wu : WT) : WT := fun S Q => wt S fun k S1 => if k = true then Q true S1 else wu S1 Q
def wNot (wt : WT) : WT := fun S Q => wt S fun k S1 => Q (!k) S1
theorem ite_of {k : Bool} {P Q P' Q' : Prop} (h : if k = true then P else Q) (h1 : P → P') (h2 : Q → Q') : if k = true then P' else Q' := by
  cases k
  · exact h2 h
  · exact h1 h
theorem v_and (ha : PT X a (lT X.K c wt)) (hb : PW X (.BoolOp .And (b :: rest) pos) (lT X.K c wu)) : PW X (.BoolOp .And (a :: b :: rest) pos) (lT X.K c (wAnd wt wu)) := pw_imp (pw_and ha hb) fun σ H Q h => by
  obtain ⟨S, Qd, r, h, p⟩ := h
  exact ⟨S, _, r, h, fun k S1 h1 H1 r1 k1 => ite_of h1 (fun h2 => ⟨S1, _, r1, h2, p.at k1⟩) fun h2 => p _ _ h2 _ r1 k1⟩
theorem v_or (ha : PT X a (lT X.K c wt)) (hb : PW X (.BoolOp .Or (b :: rest) pos) (lT X.K c wu)) : PW X (.BoolOp .Or (a :: b :: rest) pos) (lT X.K c (wOr wt wu)) := pw_imp (pw_or ha hb) fun σ H Q h => by
  obtain ⟨S, Qd, r, h, p⟩ := h
  exact ⟨S, _, r, h, fun k S1 h1 H1 r1 k1 => ite_of h1 (fun h2 => p _ _ h2 _ r1 k1) fun h2 => ⟨S1, _, r1, h2, p.at k1⟩⟩
theorem v_not (ha : PT X a (lT X.K c wt)) : PT X (.UnaryOp .Not a pos) (lT X.K c (wNot wt)) := pt_imp (pt_not ha) fun σ H Q h => by
  obtain ⟨S, Qd, r, h, p⟩ := h
  exact ⟨S, _, r, h, fun k S1 h1 H1 r1 k1 => p _ _ h1 _ r1 k1⟩
/-! .. as values -/
def wAndV (wa wb : WE) : WE := fun S Q => wa S fun d S1 => match d with
  | .b k => if k = true then wb S1 Q else Q (.b false) S1
  | _ => False
def wOrV (wa wb : WE) : WE := fun S Q => wa S fun d S1 => match d with
  | .b k => if k = true then Q (.b true) S1 else wb S1 Q
  | _ => False
def wNotV (wa : WE) : WE := fun S Q => wa S fun d S1 => match d with
  | .b k => Q (.b (!k)) S1
  | _ => False
theorem ve_and (ha : PE X a (lE X.K c wa)) (hb : PE X (.BoolOp .And (b :: rest) pos) (lE X.K c wb)) : PE X (.BoolOp .And (a :: b :: rest) pos) (lE X.K c (wAndV wa wb)) := pe_imp (pe_and ha hb) fun σ H Q h => by
  obtain ⟨S, Qd, r, h, p⟩ := h
  refine ⟨S, _, r, h, fun d S1 h1 H1 v r1 k1 p1 => ?_⟩
  cases d <;> try exact h1.elim
  exact ⟨_, rs_b p1, ite_of h1 (fun h2 => ⟨S1, _, r1, h2, p.at k1⟩) fun h2 => p _ _ h2 _ _ r1 k1 (.inl (.b _))⟩
theorem ve_or (ha : PE X a (lE X.K c wa)) (hb : PE X (.BoolOp .Or (b :: rest) pos) (lE X.K c wb)) : PE X (.BoolOp .Or (a :: b :: rest) pos) (lE X.K c (wOrV wa wb)) := pe_imp (pe_or ha hb) fun σ H Q h => by
  obtain ⟨S, Qd, r, h, p⟩ := h
  refine ⟨S, _, r, h, fun d S1 h1 H1 v r1 k1 p1 => ?_⟩
  cases d <;> try exact h1.elim
  exact ⟨_, rs_b p1, ite_of h1 (fun h2 => p _ _ h2 _ _ r1 k1 (.inl (.b _))) fun h2 => ⟨S1, _, r1, h2, p.at k1⟩⟩
theorem ve_not (ha : PE X a (lE X.K c wa)) : PE X (.UnaryOp .Not a pos) (lE X.K c (wNotV wa)) := pe_imp (pe_not ha) fun σ H Q h => by
  obtain ⟨S, Qd, r, h, p⟩ := h
  refine ⟨S, _, r, h, fun d S1 h1 H1 v r1 k1 p1 => ?_⟩
  cases d <;> try exact h1.elim
  exact ⟨_, rs_b p1, p _ _ h1 _ _ r1 k1 (.inl (.b _))⟩
def wIte (wt : WT) (wa wb : WE) : WE := fun S Q => wt S fun k S1 => if k = true then wa S1 Q else wb S1 Q
theorem v_ite {t : Expr} (ht : PT X t (lT X.K c wt)) (ha : PE X a (lE X.K c wa)) (hb : PE X b (lE X.K c wb)) : PE X (.IfExp t a b pos) (lE X.K c (wIte wt wa wb)) := pe_imp (pe_ifExp ht ha hb) fun σ H Q h => by
  obtain ⟨S, Qd, r, h, p⟩ := h
  exact ⟨S, _, r, h, fun k S1 h1 H1 r1 k1 => ite_of h1 (fun h2 => ⟨S1, _, r1, h2, p.at k1⟩) fun h2 => ⟨S1, _, r1, h2, p.at k1⟩⟩
/-- a <= b <= c -/
def wChain (rd rd' : RD) (wa wb wc : WE) : WE := fun S Q => wa S fun x S1 => wb S1 fun y S2 => rd x y S2 fun z S3 => match z with
  | .b k => if k = true then wc S3 fun u S4 => rd' y u S4 Q else Q (.b false) S3
  | _ => False
theorem lchain {K : PySem.W.Frag} {r r' : R2} {rd rd' : RD} {wc : WE} (L : OpL K c r rd) (L' : OpL K c r' rd') : ∀ σ H Q, lE K c (wChain rd rd' wa wb wc) σ H Q → tChain r r' (lE K c wa) (lE K c wb) (lE K c wc) σ H Q := fun σ H Q h => by
  obtain ⟨S, Qd, rr, h, p⟩ := h
  refine ⟨S, _, rr, h, fun x S1 h1 H1 v1 r1 k1 p1 => ⟨S1, _, r1, h1, fun y S2 h2 H2 v2 r2 k2 p2 => ?_⟩⟩
  refine L σ H2 S2 v1 v2 x y _ _ r2 (p1.kp (kA k2)) p2 h2 fun z S3 h3 H3 v3 r3 k3 p3 => ?_
  cases z <;> try exact h3.elim
  refine ⟨_, rs_b p3, ite_of h3 (fun h4 => ⟨S3, _, r3, h4, fun u S4 h4 H4 v4 r4 k4 p4 => ?_⟩) fun h4 => p _ _ h4 _ _ r3 ((k1.trans k2).trans k3) (.inl (.b _))⟩
  exact L' σ H4 S4 v2 v4 y u Qd Q r4 (p2.kp (kA (k3.trans k4))) p4 h4 (p.at (((k1.trans k2).trans k3).trans k4))
theorem v_chain {op op' : CmpOp} {r r' : R2} {rd rd' : RD} {d : Expr} {wc : WE} (ho : OpR X (compareOp op) r) (L : OpL X.K c r rd) (ho' : OpR X (compareOp op') r') (L' : OpL X.K c r' rd') (ha : PE X a (lE X.K c wa)) (hb : PE X b (lE X.K c wb)) (hc : PE X d (lE X.K c wc))
    (hm : lastMarks [op, op'] [b, d] = false := by with_unfolding_all rfl) : PE X (.Compare a [op, op'] [b, d] pos) (lE X.K c (wChain rd rd' wa wb wc)) := pe_imp (pe_chain ho ho' ha hb hc hm) (lchain L L')
theorem vt_chain {op op' : CmpOp} {r r' : R2} {rd rd' : RD} {d : Expr} {wc : WE} (ho : OpR X (compareOp op) r) (L : OpL X.K c r rd) (ho' : OpR X (compareOp op') r') (L' : OpL X.K c r' rd') (ha : PE X a (lE X.K c wa)) (hb : PE X b (lE X.K c wb)) (hc : PE X d (lE X.K c wc))
    (hm : lastMarks [op, op'] [b, d] = false := by with_unfolding_all rfl) : PT X (.Compare a [op, op'] [b, d] pos) (lT X.K c (wB (wChain rd rd' wa wb wc))) := pt_imp (pt_chain ho ho' ha hb hc hm) (lTest (lchain L L'))
/-! ### arguments, displays -/
def wNil : WA := fun S Q => Q [] S
def wCons (we : WE) (wr : WA) : WA := fun S Q => we S fun d S1 => d.isO = false ∧ wr S1 fun ds S2 => Q (d :: ds) S2
theorem v_nil : PA X [] (lA X.K c wNil) := pa_imp pa_nil fun σ H Q h => by
  obtain ⟨S, Qd, r, h, p⟩ := h
  exact p _ _ h _ _ r .refl .nil
theorem v_cons (he : PE X e (lE X.K c we)) (hr : PA X es (lA X.K c wr)) (hs : starEach (e :: es) X.env = (false, eval e X.env) :: starEach es X.env := by rfl) : PA X (e :: es) (lA X.K c (wCons we wr)) := pa_imp (pa_cons he hr hs) fun σ H Q h => by
  obtain ⟨S, Qd, r, h, p⟩ := h
  refine ⟨S, _, r, h, fun d S1 h1 H1 v r1 k1 p1 => ⟨S1, _, r1, h1.2, fun ds S2 h2 H2 vs r2 k2 p2 => ?_⟩⟩
  exact p _ _ h2 _ _ r2 (k1.trans k2) (.cons ((p1.pure h1.1).kp (kA k2)) p2)
def wTup (wl : WA) : WE := fun S Q => wl S fun ds S' => ds.length ≤ sizeLine ∧ Q (.t ds) S'
theorem v_tup {k : Nat} (h : PA X es (lA X.K c wl)) : PE X (.Tuple es k pos) (lE X.K c (wTup wl)) := pe_imp (pe_tup h) fun σ H Q h => by
  obtain ⟨S, Qd, r, h, p⟩ := h
  refine ⟨S, _, r, h, fun ds S1 h1 H1 vs r1 k1 p1 => ⟨by rw [p1.length]; exact h1.1, fun q nq => ?_⟩⟩
  obtain ⟨r2, k2, nA⟩ := r1.alloc (o := .tup vs) nq
  exact p _ _ h1.2 _ _ r2 (k1.trans k2) (.inl (.t (.inl (.inl upd_same)) (p1.kp (kA k2))))
def wLst (wl : WA) : WA := fun S Q => wl S fun ds S' => ds.length ≤ sizeLine ∧ Q ds S'
theorem v_lst (h : PA X es (lA X.K c wl)) : PE X (.List es pos) (lL X.K c (wLst wl)) := pe_imp (pe_lst h) fun σ H Q h => by
  obtain ⟨S, Qd, r, h, p⟩ := h
  exact ⟨S, _, r, h, fun ds S1 h1 H1 vs r1 k1 p1 => ⟨by rw [p1.length]; exact h1.1, fun q nq => p _ _ h1.2 _ _ _ r1 k1 nq p1 h1.1⟩⟩
/-- a new list as a value -/
def wOf (wl : WA) : WE := fun S Q => wl S fun ds S' => Q (.l ds) S'
theorem vOf (h : PE X e (lL X.K c wl)) : PE X e (lE X.K c (wOf wl)) := pe_imp h fun σ H Q h => by
  obtain ⟨S, Qd, r, h, p⟩ := h
  refine ⟨S, _, r, h, fun ds S1 h1 H1 q vs r1 k1 nq p1 _ => ?_⟩
  obtain ⟨r2, k2, nA⟩ := r1.alloc (o := .lst vs) nq
  exact p _ _ h1 _ _ r2 (k1.trans k2) (.inl (.l upd_same nA (p1.kp (kA k2))))
/-! ### calls of built-ins -/
def Un1 (K : PySem.W.Frag) (c : Cq) (r : List V → Hp → VK → Prop) (rd : RU) : Prop := UnL K c (fun x H Q => r [x] H Q) rd
theorem CallR.or {f : Value} {r r' : List V → Hp → VK → Prop} (h : CallR X f r) (h' : CallR X f r') : CallR X f (fun xs H Q => r xs H Q ∨ r' xs H Q) := fun pins s σ H xs us Q I rv q => q.elim (h pins s σ H xs us Q I rv) (h' pins s σ H xs us Q I rv)
theorem lcb1 {K : PySem.W.Frag} {r : List V → Hp → VK → Prop} {rd : RU} (L : Un1 K c r rd) : ∀ σ H Q, lE K c (wUn rd we) σ H Q → tCB r (tCons (lE K c we) tNil) σ H Q := fun σ H Q h => by
  obtain ⟨S, Qd, rr, h, p⟩ := h
  exact ⟨S, _, rr, h, fun x S1 h1 H1 v1 r1 k1 p1 => L σ H1 S1 v1 x Qd Q r1 p1 h1 (p.at k1)⟩
theorem v_cb1 {x : Str} {id : String} {r : List V → Hp → VK → Prop} {rd : RU} (hc : CallR X (.builtin id) r) (L : Un1 X.K c r rd) (hg : Gl X x) (hm : X.mg x = none) (hv : bootBuiltins x = some (.builtin id)) (he : PE X e (lE X.K c we)) (hs : starEach [e] X.env = (false, eval e X.env) :: starEach [] X.env := by rfl)
    (hn : x ≠ "__name__" := by decide) (hdb : (x == ("__debug__" : Str)) = false := by decide) (hpl : (backTo pos (starEach [] X.env)).any (·.1) = false := by rfl) : PE X (.Call (.Name x p) [e] [] pos) (lE X.K c (wUn rd we)) :=
  pe_imp (pe_callB hc hg hm hv (pa_cons he pa_nil hs) hn hdb hs hpl) (lcb1 L)
theorem v_ct1 {x : Str} {T : String} {r : List V → Hp → VK → Prop} {rd : RU} (hc : CallR X (.type T) r) (L : Un1 X.K c r rd) (hg : Gl X x) (hm : X.mg x = none) (hv : bootBuiltins x = some (.type T)) (he : PE X e (lE X.K c we)) (hs : starEach [e] X.env = (false, eval e X.env) :: starEach [] X.env := by rfl)
    (hn : x ≠ "__name__" := by decide) (hdb : (x == ("__debug__" : Str)) = false := by decide) (hpl : (backTo pos (starEach [] X.env)).any (·.1) = false := by rfl) : PE X (.Call (.Name x p) [e] [] pos) (lE X.K c (wUn rd we)) :=
  pe_imp (pe_callTy hc hg hm hv (pa_cons he pa_nil hs) hn hdb hs hpl) (lcb1 L)
def rdLen : RU := fun d S Q => match d with
  | .s z => z.length ≤ sizeLine ∧ Q (.i z.length) S
  | .t ds => Q (.i ds.length) S
  | .l ds => Q (.i ds.length) S
  | .dk ds => Q (.i ds.length) S
  | .sc ns => Q (.i ns.length) S
  | d => ∃ ds, S.lst d = some ds ∧ Q (.i ds.length) S
def rLenA (K : PySem.W.Frag) : List V → Hp → VK → Prop := fun xs H Q => (∃ x n, xs = [x] ∧ LenV K x H n ∧ Q (.int n) H) ∨ (∃ a kvs, xs = [V.ref a] ∧ H a = some (.dK kvs) ∧ Q (.int kvs.length) H)
theorem call_lenA : CallR X (.builtin "len") (rLenA X.K) := CallR.or call_len call_lenD
theorem rpk_len {K : PySem.W.Frag} {A : Addr → Prop} {H : Hp} : ∀ {vs : List (Key × V)} {ds : List (Key × Da)}, RpK K A H vs ds → vs.length = ds.length
  | _, _, .nil => rfl
  | _, _, .cons _ a => by rw [List.length_cons, List.length_cons, rpk_len a]
theorem lLen {K : PySem.W.Frag} : Un1 K c (rLenA K) rdLen := fun σ H S x d Qd Q r rx h p => by
  have lst : ∀ ds, S.lst d = some ds → Qd (.i ds.length) S → rLenA K [x] H Q := fun ds e q => by
    obtain ⟨b, vs, rfl, h1, h2⟩ := lst_ok r rx e
    exact .inl ⟨_, _, rfl, .inl ⟨vs, SqL.of h1, rfl⟩, by rw [h2.length]; exact p _ _ q _ _ r .refl (.inl (.i _))⟩
  cases d with
  | s z => rw [rs_s rx]; exact .inl ⟨_, _, rfl, ⟨h.1, rfl⟩, p _ _ h.2 _ _ r .refl (.inl (.i _))⟩
  | t ds =>
    obtain ⟨b, vs, rfl, h1, h2⟩ := tup_ok rx
    exact .inl ⟨_, _, rfl, .inr ⟨vs, h1, rfl⟩, by rw [h2.length]; exact p _ _ h _ _ r .refl (.inl (.i _))⟩
  | dk ds =>
    cases rx.pure rfl with
    | dk h1 _ h2 => exact .inr ⟨_, _, rfl, h1, by rw [rpk_len h2]; exact p _ _ h _ _ r .refl (.inl (.i _))⟩
  | l ds => exact lst ds rfl h
  | sc ns =>
    obtain ⟨b, rfl, h1⟩ := sc_ok rx
    exact .inl ⟨_, _, rfl, .inl ⟨_, h1, rfl⟩, by rw [List.length_map]; exact p _ _ h _ _ r .refl (.inl (.i _))⟩
  | n => obtain ⟨ds, e, q⟩ := h; exact lst ds e q
  | b _ => obtain ⟨ds, e, q⟩ := h; exact lst ds e q
  | i _ => obtain ⟨ds, e, q⟩ := h; exact lst ds e q
  | ins _ _ => obtain ⟨ds, e, q⟩ := h; exact lst ds e q
  | r _ => obtain ⟨ds, e, q⟩ := h; exact lst ds e q
  | ty _ => obtain ⟨ds, e, q⟩ := h; exact lst ds e q
  | o _ => obtain ⟨ds, e, q⟩ := h; exact lst ds e q
def rdInt : RU := fun d S Q => match d with
  | .i k => Q (.i k) S
  | .b k => Q (.i (if k then 1 else 0)) S
  | _ => False
theorem lInt {K : PySem.W.Frag} : Un1 K c (fun xs H Q => (∃ i, xs = [.int i] ∧ Q (.int i) H) ∨ ∃ k, xs = [.bl k] ∧ Q (.int (if k then 1 else 0)) H) rdInt := fun σ H S x d Qd Q r rx h p => by
  cases d <;> try exact h.elim
  · rw [rs_b rx]
    exact .inr ⟨_, rfl, p _ _ h _ _ r .refl (.inl (.i _))⟩
  · rw [rs_i rx]
    exact .inl ⟨_, rfl, p _ _ h _ _ r .refl (.inl (.i _))⟩
def rdStr : RU := fun d S Q => match d with
  | .i k => k.natAbs.log2 < 1920 ∧ Q (.s (toString k)) S
  | _ => False
theorem lStr {K : PySem.W.Frag} : Un1 K c (fun xs H Q => ∃ i : Int, xs = [.int i] ∧ i.natAbs.log2 < 1920 ∧ Q (.str (toString i)) H) rdStr := fun σ H S x d Qd Q r rx h p => by
  cases d <;> try exact h.elim
  rw [rs_i rx]
  exact ⟨_, rfl, h.1, p _ _ h.2 _ _ r .refl (.inl (.s _))⟩
/-- tuple(list), tuple(tuple) -/
def rdTuple : RU := fun d S Q => match d with
  | .t ds => Q (.t ds) S
  | .l ds => Q (.t ds) S
  | d => ∃ ds, S.lst d = some ds ∧ Q (.t ds) S
def rTupleA (K : PySem.W.Frag) : List V → Hp → VK → Prop := fun xs H Q => ∃ p ys, xs = [.ref p] ∧ ((SqL K H p ys ∧ ∀ l, H l = none → Q (.ref l) (upd H l (.tup ys))) ∨ (SqT K H p ys ∧ Q (.ref p) H))
theorem call_tupleA : CallR X (.type "tuple") (rTupleA X.K) := call_tuple_of
theorem lTuple {K : PySem.W.Frag} : Un1 K c (rTupleA K) rdTuple := fun σ H S x d Qd Q r rx h p => by
  have lst : ∀ ds, S.lst d = some ds → Qd (.t ds) S → rTupleA K [x] H Q := fun ds e q => by
    obtain ⟨b, vs, rfl, h1, h2⟩ := lst_ok r rx e
    refine ⟨b, vs, rfl, .inl ⟨SqL.of h1, fun l nl => ?_⟩⟩
    obtain ⟨r2, k2, nA⟩ := r.alloc (o := .tup vs) nl
    exact p _ _ q _ _ r2 k2 (.inl (.t (.inl (.inl upd_same)) (h2.kp (kA k2))))
  cases d with
  | t ds =>
    obtain ⟨b, vs, rfl, h1, h2⟩ := tup_ok rx
    exact ⟨b, vs, rfl, .inr ⟨h1, p _ _ h _ _ r .refl (.inl (.t h1 h2))⟩⟩
  | l ds => exact lst ds rfl h
  | s _ => obtain ⟨ds, e, q⟩ := h; exact lst ds e q
  | dk _ => obtain ⟨ds, e, q⟩ := h; exact lst ds e q
  | n => obtain ⟨ds, e, q⟩ := h; exact lst ds e q
  | b _ => obtain ⟨ds, e, q⟩ := h; exact lst ds e q
  | i _ => obtain ⟨ds, e, q⟩ := h; exact lst ds e q
  | ins _ _ => obtain ⟨ds, e, q⟩ := h; exact lst ds e q
  | r _ => obtain ⟨ds, e, q⟩ := h; exact lst ds e q
  | ty _ => obtain ⟨ds, e, q⟩ := h; exact lst ds e q
  | sc _ => obtain ⟨ds, e, q⟩ := h; exact lst ds e q
  | o _ => obtain ⟨ds, e, q⟩ := h; exact lst ds e q
/-- all, any of bools -/
def bools : List Da → Option (List Bool)
  | [] => some []
  | .b x :: r => (bools r).map (x :: ·)
  | _ => none
theorem bools_map : ∀ (bs : List Bool), bools (bs.map Da.b) = some bs
  | [] => rfl
  | b :: r => by rw [List.map_cons, bools, bools_map r]; rfl
theorem bools_ok {K : PySem.W.Frag} {A : Addr → Prop} {H : Hp} : ∀ {ds : List Da} {vs : List V} {bs : List Bool}, bools ds = some bs → RpA K A H vs ds → vs = bs.map V.bl
  | [], _, _, e, h => by cases e; cases h; rfl
  | .b x :: r, _, _, e, h => by
    rw [bools] at e
    cases q : bools r with
    | none => rw [q] at e; cases e
    | some bs =>
      rw [q] at e
      cases e
      cases h with
      | cons h1 h2 =>
        cases h1
        rw [bools_ok q h2]
        rfl
  | .n :: _, _, _, e, _ => by cases e
  | .i _ :: _, _, _, e, _ => by cases e
  | .s _ :: _, _, _, e, _ => by cases e
  | .t _ :: _, _, _, e, _ => by cases e
  | .l _ :: _, _, _, e, _ => by cases e
  | .dk _ :: _, _, _, e, _ => by cases e
  | .ins _ _ :: _, _, _, e, _ => by cases e
  | .r _ :: _, _, _, e, _ => by cases e
  | .ty _ :: _, _, _, e, _ => by cases e
  | .sc _ :: _, _, _, e, _ => by cases e
  | .o _ :: _, _, _, e, _ => by cases e
def rdAll : RU := fun d S Q => ∃ ds bs, S.lst d = some ds ∧ bools ds = some bs ∧ Q (.b (bs.all id)) S
def rdAny : RU := fun d S Q => ∃ ds bs, S.lst d = some ds ∧ bools ds = some bs ∧ Q (.b (bs.any id)) S
theorem lAll {K : PySem.W.Frag} : Un1 K c (rAll K) rdAll := fun σ H S x d Qd Q r rx h p => by
  obtain ⟨ds, bs, e, e2, q⟩ := h
  obtain ⟨b, vs, rfl, h1, h2⟩ := lst_ok r rx e
  rw [bools_ok e2 h2] at h1
  exact ⟨b, bs, rfl, SqL.of h1, p _ _ q _ _ r .refl (.inl (.b _))⟩
theorem lAny {K : PySem.W.Frag} : Un1 K c (rAny K) rdAny := fun σ H S x d Qd Q r rx h p => by
  obtain ⟨ds, bs, e, e2, q⟩ := h
  obtain ⟨b, vs, rfl, h1, h2⟩ := lst_ok r rx e
  rw [bools_ok e2 h2] at h1
  exact ⟨b, bs, rfl, SqL.of h1, p _ _ q _ _ r .refl (.inl (.b _))⟩
def intsD : List Da → Option (List Int)
  | [] => some []
  | .i x :: r => (intsD r).map (x :: ·)
  | _ => none
theorem intsD_map : ∀ (bs : List Int), intsD (bs.map Da.i) = some bs
  | [] => rfl
  | b :: r => by rw [List.map_cons, intsD, intsD_map r]; rfl
theorem intsD_eq : ∀ {ds : List Da} {ns : List Int}, intsD ds = some ns → ds = ns.map Da.i
  | [], _, e => by cases e; rfl
  | .i x :: r, _, e => by
    rw [intsD] at e
    cases q : intsD r with
    | none => rw [q] at e; cases e
    | some bs =>
      rw [q] at e
      cases e
      rw [intsD_eq q]
      rfl
  | .n :: _, _, e => by cases e
  | .b _ :: _, _, e => by cases e
  | .s _ :: _, _, e => by cases e
  | .t _ :: _, _, e => by cases e
  | .l _ :: _, _, e => by cases e
  | .dk _ :: _, _, e => by cases e
  | .ins _ _ :: _, _, e => by cases e
  | .r _ :: _, _, e => by cases e
  | .ty _ :: _, _, e => by cases e
  | .sc _ :: _, _, e => by cases e
  | .o _ :: _, _, e => by cases e
theorem rpa_ints {K : PySem.W.Frag} {A : Addr → Prop} {H : Hp} : ∀ {ns : List Int} {vs : List V}, RpA K A H vs (ns.map Da.i) → vs = ns.map V.int
  | [], _, h => by cases h; rfl
  | n :: r, _, h => by
    cases h with
    | cons h1 h2 =>
      cases h1
      rw [rpa_ints h2]
      rfl
def rdSum : RU := fun d S Q => ∃ ds ns, S.lst d = some ds ∧ intsD ds = some ns ∧ Q (.i ns.sum) S
theorem lSum {K : PySem.W.Frag} : Un1 K c (rSum K) rdSum := fun σ H S x d Qd Q r rx h p => by
  obtain ⟨ds, bs, e, e2, q⟩ := h
  obtain ⟨b, vs, rfl, h1, h2⟩ := lst_ok r rx e
  have := intsD_eq e2
  subst this
  rw [rpa_ints h2] at h1
  exact ⟨b, bs, rfl, SqL.of h1, p _ _ q _ _ r .refl (.inl (.i _))⟩
end
end VL
set_option Elab.async false
set_option linter.all false
set_option maxRecDepth 100000
set_option maxHeartbeats 1000000
namespace VL
open PySem PySem.Spec PyProof.Rows
theorem extend_tup (l : Addr) (items : Array Value) (n : Nat) (b : Addr) (dd : Option Addr) (sl : Array (Option Value)) (items2 : Array Value) (n2 : Nat) (hs0 : ¬(!items.isEmpty && Builtin.List.listTooLong (items.size + items2.size)) = true) (hs1 : items.size ≤ sizeLine) (hs2 : items.size + items2.size ≤ sizeLine + 1) :
    Meets (Builtin.«list.extend» ⟨[.ref l, .ref b], []⟩) (fun _ R s => s.heap.get? l = some { cls := .type "list", dict := none, data := .seq items n, slots := #[] } ∧ s.heap.get? b = some { cls := .type "tuple", dict := dd, data := .seq items2 n2, slots := sl } ∧ R (.ok (.ret Value.none)) { s with heap := s.heap.update l (Obj.mapSeq fun x => x ++ items2), toks := s.toks }) :=
  .of_wp fun prog w A R s h => by
    obtain ⟨hp, g, d, tk, os⟩ := s; obtain ⟨hl, hb, h⟩ := h; have f1 := AutoSeq1.idx_int; have f2 := AutoSeq1.sub_tuple_tuple; have f3 := AutoSeq1.sub_list_list; have f4 := AutoSeq1.sub_tuple_list; have f5 := AutoSeq1.sub_list_tuple
    have hz' : (items ++ items2).size ≤ sizeLine + 1 := by rw [Array.size_append]; exact hs2
    wp_walk using (wpAny_updateSeq hl rfl (hz := hs1) (_hz' := hz')), AutoSeq1.wpAny_loadPart' hl, AutoSeq1.wpAny_loadPart' hb; exact ⟨_, rfl, h⟩
end VL
namespace L2
open PySem PySem.Spec PyProof.Rows
section
variable {X : Cx}
def rExtendT (K : PySem.W.Frag) : V → List V → Hp → VK → Prop := fun x vs H Q => ∃ l b xs zs, x = .ref l ∧ vs = [.ref b] ∧ H l = some (.lst xs) ∧ SqT K H b zs ∧ xs.length + zs.length ≤ sizeLine ∧ Q .non (upd H l (.lst (xs ++ zs)))
theorem mt_extendT : MtM X "list.extend" (rExtendT X.K) := by
  intro pins s σ H x vs v us Q I rx rv h
  obtain ⟨l, b, xs, zs, rfl, rfl, hH, hB, hz, q⟩ := h
  cases rx
  obtain ⟨u, rfl, ru⟩ := rv.one
  cases ru
  obtain ⟨z, its, n, r, hl, e⟩ := I.lstM hH
  obtain ⟨its2, r2, ⟨o2, ho2, hc2, n2, hd2⟩, hl2⟩ := I.tuple hB
  obtain ⟨oc, od, oda, osl⟩ := o2
  dsimp only at hc2 hd2
  subst hc2 hd2
  have e1 := r.length
  have e2 := r2.length
  have hsz : its.toArray.size + its2.toArray.size ≤ sizeLine := by rw [List.size_toArray, List.size_toArray]; omega
  have hlong : ¬ (!its.toArray.isEmpty && Builtin.List.listTooLong (its.toArray.size + its2.toArray.size)) = true := by
    rw [notLongL hsz, Bool.and_false]
    exact Bool.false_ne_true
  refine call_meets F.slot_list_extend ⟨_, e, rfl⟩ F.entry_list_extend (F.args_list_extend_2 _ _)
    (VL.extend_tup l its.toArray n b od osl its2.toArray n2 hlong (by rw [List.size_toArray]; omega) (by omega)) ⟨e, ho2, ?_⟩
  refine ⟨.non, _, I.lset (its' := its ++ its2) hH e (by simp) (r.append r2) ?_, rfl, q⟩
  rw [List.length_append]
  omega
end
end L2
namespace VL
open PySem PySem.Spec PyProof.Rows L2
section
variable {K : PySem.W.Frag} {c : Cq} {S S' : Sx} {σ : L2.St} {H H' : Hp} {A : Addr → Prop} {v : V} {d : Da} {ds es : List Da}
/-! ### a shared list changes -/
def updM (M : Mx) (a : Addr) (m : MO) : Mx := fun b => if b = a then some m else M b
theorem updM_same {M : Mx} {a : Addr} {m : MO} : updM M a m a = some m := by unfold updM; rw [if_pos rfl]
theorem updM_ne {M : Mx} {a b : Addr} {m : MO} (h : b ≠ a) : updM M a m b = M b := by unfold updM; rw [if_neg h]
theorem Rel.updM (r : Rel K c S σ H) {a : Addr} {m m' : MO} {o o' : HO} (e : S.M a = some m) (ha : H a = some o) (mu : Mut (some o)) (new : ∀ A, Kp (S.A c) A H (upd H a o') → MOk K A (upd H a o') a m') :
    Rel K c ⟨S.ρ, VL.updM S.M a m'⟩ σ (upd H a o') ∧ Kp S.W (Sx.W ⟨S.ρ, VL.updM S.M a m'⟩) H (upd H a o') := by
  have eq : ∀ b, Sx.W ⟨S.ρ, VL.updM S.M a m'⟩ b ↔ S.W b := fun b => by
    unfold Sx.W
    refine or_congr Iff.rfl ?_
    show VL.updM S.M a m' b ≠ none ↔ _
    by_cases q : b = a
    · subst q
      rw [updM_same, e]
      simp
    · rw [updM_ne q]
  have k : Kp S.W (Sx.W ⟨S.ρ, VL.updM S.M a m'⟩) H (upd H a o') := by
    refine ⟨fun b u eb z => ?_, fun b z => .inl ((eq b).1 z)⟩
    have : b ≠ a := fun q => by
      subst q
      rcases z with z | z
      · exact z (.inr (by rw [e]; exact fun q => by cases q))
      · rw [ha] at eb
        cases eb
        exact z mu
    rw [upd_ne this]
    exact eb
  refine ⟨r.next k r.len rfl (fun i d he => ?_) (fun i p ds he => ?_) r.inj (fun i p ds he => ?_) (fun b u eb => ?_), k⟩
  · obtain ⟨w, h1, h2⟩ := r.val i d he
    exact ⟨w, h1, h2.kp (kA k)⟩
  · obtain ⟨h1, vs, h2, h3⟩ := r.own i p ds he
    have : p ≠ a := fun q => by
      subst q
      rw [r.sep i p ds he] at e
      cases e
    exact ⟨h1, vs, by rw [upd_ne this]; exact h2, h3.kp (kA k)⟩
  · have : p ≠ a := fun q => by
      subst q
      rw [r.sep i p ds he] at e
      cases e
    show VL.updM S.M a m' p = none
    rw [updM_ne this]
    exact r.sep i p ds he
  · by_cases q : b = a
    · subst q
      have e' : VL.updM S.M b m' b = some u := eb
      rw [updM_same] at e'
      cases e'
      exact new _ (kA k)
    · have e' : VL.updM S.M a m' b = some u := eb
      rw [updM_ne q] at e'
      exact (r.mem b u e').kp (kA k) fun o z => by rw [upd_ne q]; exact z
/-- the list d with other items -/
def Sx.putL (S : Sx) (d : Da) (ds : List Da) : Option Sx := match d with
  | .o j => match S.ρ[j]? with
    | some (.own p _) => some (S.set j (.own p ds))
    | _ => none
  | .r a => match S.M a with
    | some (.lst _) => some ⟨S.ρ, VL.updM S.M a (.lst ds)⟩
    | _ => none
  | _ => none
theorem putL_ok {S' : Sx} (r : Rel K c S σ H) (h : RpS K (S.A c) σ H v d) (e : S.putL d ds = some S') : ∃ p old, v = .ref p ∧ H p = some (.lst old) ∧
    ∀ vs, RpA K (S.A c) H vs ds → Rel K c S' σ (upd H p (.lst vs)) ∧ Kp S.W S'.W H (upd H p (.lst vs)) := by
  rcases h with h | ⟨j, rfl, hj⟩
  · cases h with
    | r a =>
      simp only [Sx.putL] at e
      split at e
      · rename_i q
        cases e
        obtain ⟨ws, h1, h2⟩ := r.mem a _ q
        exact ⟨a, ws, rfl, h1, fun vs rv => r.updM q h1 trivial fun A k => ⟨vs, upd_same, rv.kp k⟩⟩
      · cases e
    | _ => cases e
  · simp only [Sx.putL] at e
    split at e
    · rename_i q
      cases e
      obtain ⟨h1, ws, h2, h3⟩ := r.own j _ _ q
      rw [hj] at h1
      cases h1
      exact ⟨_, ws, rfl, h2, fun vs rv => r.updO q rv⟩
    · cases e
end
section
variable {X : Cx} {c : Cq} {pos p apos : Pos} {e a b : Expr} {es rest : List Expr} {we wa wb : WE} {wt wu : WT} {wl wr : WA}
/-! ### items -/
def rdIx : RD := fun x y S Q => match x, y with
  | .s z, .i k => z.length ≤ sizeLine ∧ ∃ ch, atI z.cps.toList k = some ch ∧ Q (.s ⟨#[ch]⟩) S
  | .t ds, .i k => ∃ d, atI ds k = some d ∧ Q d S
  | .sc ns, .i k => ∃ v, atI ns k = some v ∧ Q (.i v) S
  | x, .i k => ∃ ds d, S.lst x = some ds ∧ atI ds k = some d ∧ Q d S
  | _, _ => False
theorem atI_rp {K : PySem.W.Frag} {A : Addr → Prop} {H : Hp} {vs : List V} {ds : List Da} {k : Int} {d : Da} (h : RpA K A H vs ds) (e : atI ds k = some d) : ∃ v, atI vs k = some v ∧ Rp K A H v d := by
  unfold atI at e ⊢
  rw [h.length]
  cases q : ixN ds.length k with
  | none => rw [q] at e; cases e
  | some j =>
    rw [q] at e
    exact h.get (show ds[j]? = some d from e)
theorem lIx {K : PySem.W.Frag} : OpL K c (rIx K) rdIx := fun σ H S x y dx dy Qd Q r rx ry h p => by
  unfold rdIx at h
  split at h
  · obtain ⟨h1, ch, h2, h3⟩ := h
    exact .inr (.inr ⟨_, _, ch, rs_s rx, rs_i ry, h1, h2, p _ _ h3 _ _ r .refl (.inl (.s _))⟩)
  · obtain ⟨d, h1, h2⟩ := h
    obtain ⟨q, vs, e1, g1, g2⟩ := tup_ok rx
    obtain ⟨v, g3, g4⟩ := atI_rp g2 h1
    exact .inr (.inl ⟨q, vs, _, v, e1, rs_i ry, g1, g3, p _ _ h2 _ _ r .refl (.inl g4)⟩)
  · obtain ⟨w, h1, h2⟩ := h
    obtain ⟨q, e1, g1⟩ := sc_ok rx
    refine .inl ⟨q, _, _, .int w, e1, rs_i ry, g1, ?_, p _ _ h2 _ _ r .refl (.inl (.i _))⟩
    unfold atI at h1 ⊢
    rw [List.length_map]
    cases e : ixN _ _ with
    | none => rw [e] at h1; cases h1
    | some j =>
      rw [e] at h1
      show (List.map V.int _)[j]? = _
      have h1' : _ = some w := h1
      rw [List.getElem?_map]
      simp only [Option.bind_some] at h1'
      rw [h1']
      rfl
  · obtain ⟨ds, d, h0, h1, h2⟩ := h
    obtain ⟨q, vs, e1, g1, g2⟩ := lst_ok r rx h0
    obtain ⟨v, g3, g4⟩ := atI_rp g2 h1
    exact .inl ⟨q, vs, _, v, e1, rs_i ry, SqL.of g1, g3, p _ _ h2 _ _ r .refl (.inl g4)⟩
  · exact h.elim
theorem v_ix (ha : PE X a (lE X.K c wa)) (hb : PE X b (lE X.K c wb)) (hs : PlainIx b) : PE X (.Subscript a b pos) (lE X.K c (wOp rdIx wa wb)) := pe_imp (pe_ix ix_seq ha hb hs) (lop lIx)
/-! ### slices -/
abbrev WO := Sx → (Option Int → Sx → Prop) → Prop
def lO (K : PySem.W.Frag) (c : Cq) (w : WO) : L2.St → Hp → (Option Int → Hp → Prop) → Prop := fun σ H Q => ∃ S Qd, Rel K c S σ H ∧ w S Qd ∧ ∀ o S', Qd o S' → ∀ H', Rel K c S' σ H' → Kp S.W S'.W H H' → Q o H'
theorem po_imp {o : Option Expr} {t t' : L2.St → Hp → (Option Int → Hp → Prop) → Prop} (h : PO X o t) (i : ∀ σ H Q, t' σ H Q → t σ H Q) : PO X o t' := ⟨fun pins s σ H Q I hq => h.run pins s σ H Q I (i σ H Q hq)⟩
def wNo : WO := fun S Q => Q none S
def wPart (we : WE) : WO := fun S Q => we S fun d S' => match d with
  | .i k => Q (some k) S'
  | _ => False
theorem v_no : PO X none (lO X.K c wNo) := po_imp po_none fun σ H Q h => by
  obtain ⟨S, Qd, r, h, p⟩ := h
  exact p _ _ h _ r .refl
theorem v_part (h : PE X e (lE X.K c we)) : PO X (some e) (lO X.K c (wPart we)) := po_imp (po_some h) fun σ H Q h => by
  obtain ⟨S, Qd, r, h, p⟩ := h
  refine ⟨S, _, r, h, fun d S1 h1 H1 v r1 k1 p1 => ?_⟩
  cases d <;> try exact h1.elim
  exact ⟨_, rs_i p1, p _ _ h1 _ r1 k1⟩
def cutD (xs : List Da) (lo hi : Option Int) : List Da := (xs.drop (HT.sIx xs.length 0 lo)).take (HT.sIx xs.length xs.length hi - HT.sIx xs.length 0 lo)
theorem cut_rp {K : PySem.W.Frag} {A : Addr → Prop} {H : Hp} {vs : List V} {ds : List Da} {lo hi : Option Int} (h : RpA K A H vs ds) : RpA K A H (cutV vs lo hi) (cutD ds lo hi) := by
  unfold cutV cutD
  rw [h.length]
  exact (h.drop _).take _
def rdSl (x : Da) (lo hi : Option Int) (S : Sx) (Q : Da → Sx → Prop) : Prop := match x with
  | .s z => z.length ≤ sizeLine ∧ Q (.s (cutS z lo hi)) S
  | .t ds => Q (.t (cutD ds lo hi)) S
  | x => ∃ ds, S.lst x = some ds ∧ Q (.l (cutD ds lo hi)) S
def wSl (we : WE) (wl wh : WO) : WE := fun S Q => we S fun x S1 => wl S1 fun lo S2 => wh S2 fun hi S3 => rdSl x lo hi S3 Q
def rSlU (K : PySem.W.Frag) : V → Option Int → Option Int → Hp → VK → Prop := fun x lo hi H Q => rSlL K x lo hi H Q ∨ rSlA K x lo hi H Q ∨ rSlS x lo hi H Q
theorem sl_any : SlR X (rSlU X.K) := SlR.or sl_list (SlR.or sl_tupA sl_str)
theorem cut_all {vs : List V} {lo hi : Option Int} (h : HT.sIx vs.length 0 lo = 0 ∧ HT.sIx vs.length vs.length hi = vs.length) : cutV vs lo hi = vs := by
  unfold cutV
  rw [h.1, h.2, List.drop_zero, Nat.sub_zero, List.take_length]
theorem v_sl {lo hi : Option Expr} {p2 : Pos} {w1 w2 : WO} (he : PE X e (lE X.K c we)) (hl : PO X lo (lO X.K c w1)) (hh : PO X hi (lO X.K c w2)) : PE X (.Subscript e (.Slice lo hi none p2) pos) (lE X.K c (wSl we w1 w2)) := pe_imp (pe_slice sl_any he hl hh) fun σ H Q h => by
  obtain ⟨S, Qd, r, h, p⟩ := h
  refine ⟨S, _, r, h, fun x S1 h1 H1 v r1 k1 p1 => ⟨S1, _, r1, h1, fun l S2 h2 H2 r2 k2 => ⟨S2, _, r2, h2, fun u S3 h3 H3 r3 k3 => ?_⟩⟩⟩
  have px := p1.kp (kA (c := c) (k2.trans k3))
  have k := (k1.trans k2).trans k3
  unfold rdSl at h3
  split at h3
  · rw [rs_s px]
    exact .inr (.inr ⟨_, rfl, h3.1, p _ _ h3.2 _ _ r3 k (.inl (.s _))⟩)
  · obtain ⟨q, vs, rfl, g1, g2⟩ := tup_ok px
    refine .inr (.inl ⟨q, vs, rfl, g1, fun w => ?_, fun w q' nq => ?_⟩)
    · have := cut_rp (lo := l) (hi := u) g2
      rw [cut_all w] at this
      exact p _ _ h3 _ _ r3 k (.inl (.t g1 this))
    · obtain ⟨r4, k4, nA⟩ := r3.alloc (o := .tup (cutV vs l u)) nq
      exact p _ _ h3 _ _ r4 (k.trans k4) (.inl (.t (.inl (.inl upd_same)) ((cut_rp g2).kp (kA k4))))
  · obtain ⟨ds, h0, h3⟩ := h3
    obtain ⟨q, vs, rfl, g1, g2⟩ := lst_ok r3 px h0
    refine .inl ⟨q, vs, rfl, SqL.of g1, fun q' nq => ?_⟩
    obtain ⟨r4, k4, nA⟩ := r3.alloc (o := .lst (cutV vs l u)) nq
    exact p _ _ h3 _ _ r4 (k.trans k4) (.inl (.l upd_same nA ((cut_rp g2).kp (kA k4))))
/-! ### lists change -/
def wPop (we : WE) : WE := fun S Q => we S fun d S1 => ∃ ds x S2, S1.lst d = some ds ∧ ds[ds.length - 1]? = some x ∧ S1.putL d ds.dropLast = some S2 ∧ Q x S2
theorem rpa_dropLast {K : PySem.W.Frag} {A : Addr → Prop} {H : Hp} {vs : List V} {ds : List Da} (h : RpA K A H vs ds) : RpA K A H vs.dropLast ds.dropLast := by
  rw [List.dropLast_eq_take, List.dropLast_eq_take, h.length]
  exact h.take _
theorem rpa_eraseIdx {K : PySem.W.Frag} {A : Addr → Prop} {H : Hp} {vs : List V} {ds : List Da} (h : RpA K A H vs ds) (k : Nat) : RpA K A H (vs.eraseIdx k) (ds.eraseIdx k) := by
  rw [List.eraseIdx_eq_take_drop_succ, List.eraseIdx_eq_take_drop_succ]
  exact (h.take _).append (h.drop _)
theorem v_pop (hb : attributeBase e "pop" X.env (eval e X.env) = eval e X.env := by rfl) (hl : (apos.endLine == pos.line) = true := by rfl) (he : PE X e (lE X.K c we)) : PE X (.Call (.Attribute e "pop" apos) [] [] pos) (lE X.K c (wPop we)) :=
  pe_imp (pe_bm0 PySem.F.plainAttrs_list PySem.F.slot_list_pop PySem.F.type_list_pop mt_pop he hb hl) fun σ H Q h => by
  obtain ⟨S, Qd, r, h, p⟩ := h
  refine ⟨S, _, r, h, fun d S1 h1 H1 v r1 k1 p1 => ?_⟩
  obtain ⟨ds, x, S2, h2, h3, h4, h5⟩ := h1
  obtain ⟨q, vs, rfl, g1, g2⟩ := lst_ok r1 p1 h2
  obtain ⟨q', old, e', g3, g4⟩ := putL_ok r1 p1 h4
  cases e'
  rw [g1] at g3
  cases g3
  obtain ⟨y, g5, g6⟩ := g2.get h3
  obtain ⟨r2, k2⟩ := g4 _ (rpa_dropLast g2)
  exact ⟨.inl ⟨rfl, _, SqL.of g1⟩, q, vs, y, rfl, rfl, g1, by rw [g2.length]; exact g5, p _ _ h5 _ _ r2 (k1.trans k2) (.inl (g6.kp (kA k2)))⟩
/-- a method of one argument, by values; ty: the receiver's type is known -/
def wMet (ty : Da → Sx → Prop) (rd : RD) (we wi : WE) : WE := fun S Q => we S fun d S0 => ty d S0 ∧ wi S0 fun i S1 => rd d i S1 Q
def MetL (K : PySem.W.Frag) (c : Cq) (r : V → List V → Hp → VK → Prop) (rd : RD) : Prop := OpL K c (fun x y H Q => r x [y] H Q) rd
def tyL (d : Da) (S : Sx) : Prop := ∃ ds, S.lst d = some ds
def TyL (K : PySem.W.Frag) (c : Cq) (T : String) (ty : Da → Sx → Prop) : Prop := ∀ σ H S x d, Rel K c S σ H → RpS K (S.A c) σ H x d → ty d S → tyV K T x H
theorem tyL_ok {K : PySem.W.Frag} : TyL K c "list" tyL := fun σ H S x d r h t => by
  obtain ⟨ds, e⟩ := t
  obtain ⟨q, vs, rfl, g1, _⟩ := lst_ok r h e
  exact .inl ⟨rfl, _, SqL.of g1⟩
theorem lmet {K : PySem.W.Frag} {T : String} {ty : Da → Sx → Prop} {r : V → List V → Hp → VK → Prop} {rd : RD} (ht : TyL K c T ty) (L : MetL K c r rd) : ∀ σ H Q, lE K c (wMet ty rd we wa) σ H Q → tBM K T r (lE K c we) (tCons (lE K c wa) tNil) σ H Q := fun σ H Q h => by
  obtain ⟨S, Qd, rr, h, p⟩ := h
  refine ⟨S, _, rr, h, fun d S0 h0 H0 v r0 k0 p0 => ⟨ht _ _ _ _ _ r0 p0 h0.1, S0, _, r0, h0.2, fun y S1 h1 H1 u r1 k1 p1 => ?_⟩⟩
  exact L σ H1 S1 v u d y Qd Q r1 (p0.kp (kA k1)) p1 h1 (p.at (k0.trans k1))
theorem v_met {T id : String} {nm : Str} {ty : Da → Sx → Prop} {r : V → List V → Hp → VK → Prop} {rd : RD} {i : Expr} {wi : WE} (pa : PlainAttrs T) (slot : Slot T nm id) (hty : typeOf (.builtin id) = pure (.type "method_descriptor")) (hm : MtR X id r)
    (ht : TyL X.K c T ty) (L : MetL X.K c r rd) (he : PE X e (lE X.K c we)) (hi : PE X i (lE X.K c wi)) (hs : starEach [i] X.env = (false, eval i X.env) :: starEach [] X.env := by rfl)
    (hbase : attributeBase e nm X.env (eval e X.env) = eval e X.env := by rfl)
    (hfew : ((backTo pos (starEach [i] X.env)).all (fun x => !x.1) && (backToKw pos (keywordEach [] X.env)).all (fun x => x.1.isSome) && decide (([i] : List Expr).length + ([] : List Keyword).length + (if ([] : List Keyword).isEmpty then 0 else 1) < 30)) = true := by rfl)
    (hline : (apos.endLine == pos.line) = true := by rfl) (hplain : (backTo pos (starEach [] X.env)).any (·.1) = false := by rfl) :
    PE X (.Call (.Attribute e nm apos) [i] [] pos) (lE X.K c (wMet ty rd we wi)) := pe_imp (pe_bm pa slot hty hm he (pa_cons hi pa_nil hs) hbase hfew hline hs hplain) (lmet ht L)
def rdPopAt : RD := fun d i S Q => match i with
  | .i k => -(2 ^ 63) ≤ k ∧ k < 2 ^ 63 ∧ ∃ ds j x S2, S.lst d = some ds ∧ seqIndex? k ds.length = some j ∧ ds[j]? = some x ∧ S.putL d (ds.eraseIdx j) = some S2 ∧ Q x S2
  | _ => False
theorem lPopAt {K : PySem.W.Frag} : MetL K c rPopAt rdPopAt := fun σ H S x y d i Qd Q r rx ry h p => by
  cases i <;> try exact h.elim
  obtain ⟨b1, b2, ds, j, z, S2, h2, h3, h4, h5, h6⟩ := h
  obtain ⟨q, vs, rfl, g1, g2⟩ := lst_ok r rx h2
  obtain ⟨q', old, e', g3, g4⟩ := putL_ok r rx h5
  cases e'
  obtain ⟨w, g5, g6⟩ := g2.get h4
  obtain ⟨r2, k2⟩ := g4 _ (rpa_eraseIdx g2 j)
  rw [rs_i ry]
  exact ⟨q, vs, _, j, w, rfl, rfl, g1, b1, b2, by rw [g2.length]; exact h3, g5, p _ _ h6 _ _ r2 k2 (.inl (g6.kp (kA k2)))⟩
def rdAppend : RD := fun d y S Q => ∃ ds S2, S.lst d = some ds ∧ y.isO = false ∧ ds.length < sizeLine ∧ S.putL d (ds ++ [y]) = some S2 ∧ Q .n S2
theorem lAppend {K : PySem.W.Frag} : MetL K c rAppend rdAppend := fun σ H S x y d i Qd Q r rx ry h p => by
  obtain ⟨ds, S2, h2, h3, h4, h5, h6⟩ := h
  obtain ⟨q, vs, rfl, g1, g2⟩ := lst_ok r rx h2
  obtain ⟨q', old, e', g3, g4⟩ := putL_ok r rx h5
  cases e'
  obtain ⟨r2, k2⟩ := g4 _ (g2.snoc (ry.pure h3))
  exact ⟨q, vs, y, rfl, rfl, g1, by rw [g2.length]; exact h4, p _ _ h6 _ _ r2 k2 (.inl .n)⟩
def Sx.xq (S : Sx) : Da → Option (List Da)
  | .t ds => some ds
  | d => S.lst d
def rdExtend : RD := fun d y S Q => ∃ ds es S2, S.lst d = some ds ∧ S.xq y = some es ∧ ds.length + es.length ≤ sizeLine ∧ S.putL d (ds ++ es) = some S2 ∧ Q .n S2
def rExtA (K : PySem.W.Frag) : V → List V → Hp → VK → Prop := fun x vs H Q => rExtend x vs H Q ∨ rExtendT K x vs H Q
theorem mt_extA : MtM X "list.extend" (rExtA X.K) := fun pins s σ H x vs v us Q I rx rv h => h.elim (mt_extend pins s σ H x vs v us Q I rx rv) (mt_extendT pins s σ H x vs v us Q I rx rv)
theorem lExtend {K : PySem.W.Frag} : MetL K c (rExtA K) rdExtend := fun σ H S x y d i Qd Q r rx ry h p => by
  obtain ⟨ds, es, S2, h2, h3, h4, h5, h6⟩ := h
  obtain ⟨q, vs, rfl, g1, g2⟩ := lst_ok r rx h2
  obtain ⟨q', old, e', g3, g4⟩ := putL_ok r rx h5
  cases e'
  cases i with
  | t es' =>
    cases h3
    obtain ⟨b, us, rfl, g5, g6⟩ := tup_ok ry
    obtain ⟨r2, k2⟩ := g4 _ (g2.append g6)
    exact .inr ⟨q, b, vs, us, rfl, rfl, g1, g5, by rw [g2.length, g6.length]; exact h4, p _ _ h6 _ _ r2 k2 (.inl .n)⟩
  | _ =>
    obtain ⟨b, us, rfl, g5, g6⟩ := lst_ok r ry h3
    obtain ⟨r2, k2⟩ := g4 _ (g2.append g6)
    exact .inl ⟨q, b, vs, us, rfl, rfl, g1, g5, by rw [g2.length, g6.length]; exact h4, p _ _ h6 _ _ r2 k2 (.inl .n)⟩
/-! ### statements -/
def wSet (i : Nat) (we : WE) : WS := fun D S => we S fun d S' => d.isO = false ∧ D.nx (S'.set i (.val d))
/-- a new list in a slot: to be changed there -/
def wOwn (i : Nat) (wl : WA) : WS := fun D S => wl S fun ds S' => ∀ q, S'.M q = none → D.nx (S'.set i (.own q ds))
theorem lset {K : PySem.W.Frag} {t : TE} {i : Nat} (hi : i < c.n) (h : ∀ σ H Q, lE K c we σ H Q → t σ H Q) : ∀ D σ H, lS K c (wSet i we) D σ H → tAsg t (gName i) D σ H := fun D σ H h' => by
  obtain ⟨S, Dd, r, h', p⟩ := h'
  refine h _ _ _ ⟨S, _, r, h', fun d S1 h1 H1 v r1 k1 p1 => ?_⟩
  obtain ⟨r2, k2⟩ := r1.setV (i := i) (p1.pure h1.1) (by rw [r1.cn]; exact hi)
  exact p.nx _ h1.2 _ _ r2 (k1.trans k2)
theorem lown {K : PySem.W.Frag} {t : TE} {i : Nat} (hi : i < c.n) (h : ∀ σ H Q, lL K c wl σ H Q → t σ H Q) : ∀ D σ H, lS K c (wOwn i wl) D σ H → tAsg t (gName i) D σ H := fun D σ H h' => by
  obtain ⟨S, Dd, r, h', p⟩ := h'
  refine h _ _ _ ⟨S, _, r, h', fun ds S1 h1 H1 q vs r1 k1 nq p1 _ => ?_⟩
  obtain ⟨r2, k2⟩ := r1.setO (i := i) nq p1 (by rw [r1.cn]; exact hi)
  refine p.nx _ (h1 q ?_) _ _ r2 (k1.trans k2)
  cases e : S1.M q with
  | none => rfl
  | some m => exact absurd (Or.inr (Or.inr (by rw [e]; exact fun z => by cases z))) (r1.notA nq)
theorem s_set {i : Nat} {x : Str} {pos' : Pos} (hN : X.N.Nodup) (hi : X.N[i]? = some x) (hx : Loc X.env.scope x) (hn : i < c.n) (he : PE X e (lE X.K c we)) (hs : swapsWith e (some (.Name x pos')) pos.line X.env = pure false := by rfl)
    (hf : X.fn x = true ∨ X.env.scope.names.lookup x = some .local := by first | exact .inl rfl | exact .inr rfl) : PS X (.Assign [.Name x pos'] e pos) (lS X.K c (wSet i we)) := ps_imp (ps_set hN hi hx he hs hf) (lset hn fun _ _ _ h => h)
theorem s_own {i : Nat} {x : Str} {pos' : Pos} (hN : X.N.Nodup) (hi : X.N[i]? = some x) (hx : Loc X.env.scope x) (hn : i < c.n) (he : PE X e (lL X.K c wl)) (hs : swapsWith e (some (.Name x pos')) pos.line X.env = pure false := by rfl)
    (hf : X.fn x = true ∨ X.env.scope.names.lookup x = some .local := by first | exact .inl rfl | exact .inr rfl) : PS X (.Assign [.Name x pos'] e pos) (lS X.K c (wOwn i wl)) := ps_imp (ps_set hN hi hx he hs hf) (lown hn fun _ _ _ h => h)
def wDrop (we : WE) : WS := fun D S => we S fun _ S' => D.nx S'
theorem s_expr (he : PE X e (lE X.K c we)) (hs : swapsWith e none pos.line X.env = pure false := by rfl) : PS X (.Expr e pos) (lS X.K c (wDrop we)) := ps_imp (ps_expr he hs) fun D σ H h => by
  obtain ⟨S, Dd, r, h, p⟩ := h
  exact ⟨S, _, r, h, fun d S1 h1 H1 v r1 k1 p1 => p.nx _ h1 _ _ r1 k1⟩
def wRet (we : WE) : WS := fun D S => we S fun d S' => d.isO = false ∧ D.rt d S'
theorem s_ret (he : PE X e (lE X.K c we)) : PS X (.Return (some e) pos) (lS X.K c (wRet we)) := ps_imp (ps_ret he) fun D σ H h => by
  obtain ⟨S, Dd, r, h, p⟩ := h
  exact ⟨S, _, r, h, fun d S1 h1 H1 v r1 k1 p1 => p.rt _ _ h1.2 _ _ _ r1 k1 (p1.pure h1.1)⟩
def wRetN : WS := fun D S => D.rt .n S
theorem s_retN : PS X (.Return none pos) (lS X.K c wRetN) := ps_imp ps_retN fun D σ H h => by
  obtain ⟨S, Dd, r, h, p⟩ := h
  exact p.rt _ _ h _ _ _ r .refl .n
def wSeq (w1 w2 : WS) : WS := fun D S => w1 { D with nx := w2 D } S
def wNx : WS := fun D S => D.nx S
def wBk : WS := fun D S => D.bk S
def wCt : WS := fun D S => D.ct S
theorem ss_nil : PSs X [] (lS X.K c wNx) := pss_imp pss_nil fun D σ H h => by
  obtain ⟨S, Dd, r, h, p⟩ := h
  exact p.nx _ h _ _ r .refl
theorem s_pass : PS X (.Pass pos) (lS X.K c wNx) := ps_imp ps_pass fun D σ H h => by
  obtain ⟨S, Dd, r, h, p⟩ := h
  exact p.nx _ h _ _ r .refl
theorem s_break : PS X (.Break pos) (lS X.K c wBk) := ps_imp ps_break fun D σ H h => by
  obtain ⟨S, Dd, r, h, p⟩ := h
  exact p.bk _ h _ _ r .refl
theorem s_cont : PS X (.Continue pos) (lS X.K c wCt) := ps_imp ps_continue fun D σ H h => by
  obtain ⟨S, Dd, r, h, p⟩ := h
  exact p.ct _ h _ _ r .refl
theorem ss_cons {st : Stmt} {sts : List Stmt} {w1 w2 : WS} (h1 : PS X st (lS X.K c w1)) (h2 : PSs X sts (lS X.K c w2)) : PSs X (st :: sts) (lS X.K c (wSeq w1 w2)) := pss_imp (pss_cons h1 h2) fun D σ H h => by
  obtain ⟨S, Dd, r, h, p⟩ := h
  exact ⟨S, _, r, h, ⟨fun S' h' σ' H' r' k' => ⟨S', Dd, r', h', p.at k'⟩, p.rt, p.bk, p.ct⟩⟩
theorem ss_one {st : Stmt} {w1 : WS} (h1 : PS X st (lS X.K c w1)) : PSs X [st] (lS X.K c w1) := pss_one h1
def wIf (wt : WT) (w1 w2 : WS) : WS := fun D S => wt S fun k S' => if k = true then w1 D S' else w2 D S'
theorem s_if {t : Expr} {l1 l2 : List Stmt} {w1 w2 : WS} (ht : PT X t (lT X.K c wt)) (h1 : PSs X l1 (lS X.K c w1)) (h2 : PSs X l2 (lS X.K c w2)) : PS X (.If t l1 l2 pos) (lS X.K c (wIf wt w1 w2)) := ps_imp (ps_if ht h1 h2) fun D σ H h => by
  obtain ⟨S, Dd, r, h, p⟩ := h
  exact ⟨S, _, r, h, fun k S1 h1 H1 r1 k1 => ite_of h1 (fun h2 => ⟨S1, Dd, r1, h2, p.at k1⟩) fun h2 => ⟨S1, Dd, r1, h2, p.at k1⟩⟩
def wWhile (wt : WT) (wb : WS) : WS := fun D S => ∃ W : Nat → Sx → Prop, (∃ m, W m S) ∧ ∀ m S, W m S → wt S fun k S1 => if k = true then wb { D with nx := fun S' => ∃ m', m' < m ∧ W m' S', ct := fun S' => ∃ m', m' < m ∧ W m' S', bk := D.nx } S1 else D.nx S1
theorem s_while {t : Expr} {l1 : List Stmt} {wb : WS} (hp : PassesOwn (model X.prog X.w) X.A X.env X.xe) (ht : PT X t (lT X.K c wt)) (h1 : PSs X l1 (lS X.K c wb)) : PS X (.While t l1 [] pos) (lS X.K c (wWhile wt wb)) := ps_imp (ps_while hp ht h1) fun D σ H h => by
  obtain ⟨S, Dd, r, ⟨W, ⟨m0, h0⟩, turn⟩, p⟩ := h
  refine ⟨fun m σ' H' => ∃ S', Rel X.K c S' σ' H' ∧ Kp S.W S'.W H H' ∧ W m S', ⟨m0, S, r, .refl, h0⟩, fun m σ1 H1 ⟨S1, r1, k1, h1⟩ => ⟨S1, _, r1, turn m S1 h1, fun k S2 h2 H2 r2 k2 => ?_⟩⟩
  have pk := p.at (k1.trans k2)
  refine ite_of h2 (fun h3 => ⟨fun σ' H' => ∃ S' m', Rel X.K c S' σ' H' ∧ Kp S.W S'.W H H' ∧ m' < m ∧ W m' S', fun σ' H' ⟨S', m', a1, a2, a3, a4⟩ => ⟨m', a3, S', a1, a2, a4⟩, S2, _, r2, h3, ?_⟩) fun h3 => p.nx _ h3 _ _ r2 (k1.trans k2)
  exact ⟨fun S' ⟨m', l, w⟩ σ' H' r' k' => ⟨S', m', r', (k1.trans k2).trans k', l, w⟩, pk.rt, pk.nx, fun S' ⟨m', l, w⟩ σ' H' r' k' => ⟨S', m', r', (k1.trans k2).trans k', l, w⟩⟩
end
end VL
set_option Elab.async false
set_option linter.all false
set_option maxRecDepth 100000
set_option maxHeartbeats 1000000
namespace VL
open PySem PySem.Spec PyProof.Rows L2
/-! ### targets -/
abbrev WG := Da → Sx → (Sx → Prop) → Prop
structure LG (K : PySem.W.Frag) (c : Cq) (g : TG) (wg : WG) (is : List Nat) : Prop where
  run : ∀ x d S σ H (Qd : Sx → Prop) (Q : L2.St → Hp → Prop), Rel K c S σ H → Rp K (S.A c) H x d → wg d S Qd →
    (∀ S' σ', Qd S' → Rel K c S' σ' H → Kp S.W S'.W H H → (∀ j, j ∉ is → σ'[j]? = σ[j]?) → σ'.length = σ.length → Q σ' H) → g x σ H Q
structure LGs (K : PySem.W.Frag) (c : Cq) (g : TGs) (wg : List Da → Sx → (Sx → Prop) → Prop) (is : List Nat) : Prop where
  run : ∀ xs ds S σ H (Qd : Sx → Prop) (Q : L2.St → Hp → Prop), Rel K c S σ H → RpA K (S.A c) H xs ds → wg ds S Qd →
    (∀ S' σ', Qd S' → Rel K c S' σ' H → Kp S.W S'.W H H → (∀ j, j ∉ is → σ'[j]? = σ[j]?) → σ'.length = σ.length → Q σ' H) → g xs σ H Q
section
variable {K : PySem.W.Frag} {c : Cq}
def wgN (i : Nat) : WG := fun d S Q => Q (S.set i (.val d))
theorem lgN {i : Nat} (hi : i < c.n) : LG K c (gName i) (wgN i) [i] := ⟨fun x d S σ H Qd Q r rp h q => by
  obtain ⟨r2, k2⟩ := r.setV (i := i) rp (by rw [r.cn]; exact hi)
  exact q _ _ h r2 k2 (fun j hj => by rw [List.getElem?_set_ne (fun e => hj (by simp [e]))]) (by simp)⟩
def wgNil : List Da → Sx → (Sx → Prop) → Prop := fun ds S Q => match ds with
  | [] => Q S
  | _ => False
def wgCons (wg : WG) (wr : List Da → Sx → (Sx → Prop) → Prop) : List Da → Sx → (Sx → Prop) → Prop := fun ds S Q => match ds with
  | d :: ds => wg d S fun S1 => wr ds S1 Q
  | _ => False
theorem lgs_nil : LGs K c gNil wgNil [] := ⟨fun xs ds S σ H Qd Q r rp h q => by
  cases rp with
  | nil => exact ⟨rfl, q _ _ h r .refl (fun _ _ => rfl) rfl⟩
  | cons _ _ => exact h.elim⟩
theorem lgs_cons {g : TG} {gr : TGs} {wg : WG} {wr : List Da → Sx → (Sx → Prop) → Prop} {is js : List Nat} (L : LG K c g wg is) (R : LGs K c gr wr js) : LGs K c (gCons g gr) (wgCons wg wr) (is ++ js) := ⟨fun xs ds S σ H Qd Q r rp h q => by
  cases rp with
  | nil => exact h.elim
  | cons h1 h2 =>
    refine ⟨_, _, rfl, L.run _ _ S σ H _ _ r h1 h fun S1 σ1 e1 r1 k1 s1 l1 => ?_⟩
    refine R.run _ _ S1 σ1 H _ _ r1 (h2.kp (kA k1)) e1 fun S2 σ2 e2 r2 k2 s2 l2 => ?_
    exact q _ _ e2 r2 (k1.trans k2) (fun j hj => by
      rw [List.mem_append] at hj
      rw [s2 j (fun z => hj (.inr z)), s1 j (fun z => hj (.inl z))]) (l2.trans l1)⟩
def wgT (wr : List Da → Sx → (Sx → Prop) → Prop) : WG := fun d S Q => match d with
  | .t ds => wr ds S Q
  | _ => False
theorem lgT {n : Nat} {gr : TGs} {wr : List Da → Sx → (Sx → Prop) → Prop} {js : List Nat} (R : LGs K c gr wr js) (hl : ∀ ds S Q, wr ds S Q → ds.length = n) : LG K c (gTup K n gr) (wgT wr) js := ⟨fun x d S σ H Qd Q r rp h q => by
  cases rp <;> try exact h.elim
  rename_i h1 h2
  refine ⟨_, _, rfl, h1, by rw [h2.length]; exact hl _ _ _ h, ?_⟩
  exact R.run _ _ S σ H _ _ r h2 h q⟩
theorem len0 : ∀ ds S Q, wgNil ds S Q → ds.length = 0 := fun ds S Q h => by
  cases ds with
  | nil => rfl
  | cons _ _ => exact h.elim
end
/-! ### what is walked -/
abbrev WI := WA
def ItOk (K : PySem.W.Frag) (c : Cq) (J : It) (ds : List Da) (W : Addr → Prop) (H : Hp) : Prop := ∀ H2 (W2 : Addr → Prop), Kp W W2 H H2 → ∀ i,
  (∀ d, ds[i]? = some d → J.go i H2 ∧ ∀ x H3, J.yld i H2 x H3 → Same H2 H3 ∧ Rp K (fun a => c.A0 a ∨ W2 a) H3 x d) ∧ (ds.length ≤ i → J.stop i H2)
def lWk (K : PySem.W.Frag) (c : Cq) (wi : WI) : TI := fun σ H R => ∃ S Qd, Rel K c S σ H ∧ wi S Qd ∧ ∀ ds S', Qd ds S' → ∀ H' J, Rel K c S' σ H' → Kp S.W S'.W H H' → ItOk K c J ds S'.W H' → R J H'
theorem pi_imp {X : Cx} {tg e : Expr} {t t' : TI} (h : PI X tg e t) (i : ∀ σ H Q, t' σ H Q → t σ H Q) : PI X tg e t' := ⟨fun pins s σ H Q I hq => h.run pins s σ H Q I (i σ H Q hq)⟩
section
variable {X : Cx} {c : Cq} {pos p apos : Pos} {e a b tg : Expr} {es rest : List Expr} {we wa wb : WE} {wt wu : WT} {wl wr : WA}
/-- a list or a tuple that stands still -/
def wSq (we : WE) : WI := fun S Q => we S fun d S' => match d with
  | .l ds => Q ds S'
  | .t ds => Q ds S'
  | _ => False
theorem it_list {K : PySem.W.Frag} {q : Addr} {vs : List V} {ds : List Da} {W A : Addr → Prop} {H : Hp} (hq : H q = some (.lst vs)) (nW : ¬ (c.A0 q ∨ W q)) (ha : RpA K (fun a => c.A0 a ∨ W a) H vs ds) : ItOk K c (Itl K q) ds W H := fun H2 W2 k i => by
  have e2 : H2 q = some (.lst vs) := k.keep _ _ hq (.inl fun z => nW (.inr z))
  refine ⟨fun d hd => ?_, fun hl => ⟨vs, SqL.of e2, by rw [ha.length]; exact hl⟩⟩
  obtain ⟨v, hv, rv⟩ := ha.get hd
  refine ⟨⟨vs, v, SqL.of e2, hv⟩, fun x H3 hy => ?_⟩
  obtain ⟨rfl, hy⟩ := hy
  have := hy vs (SqL.of e2)
  rw [hv] at this
  cases this
  exact ⟨Same.refl _, rv.kp k.or⟩
theorem it_tup {K : PySem.W.Frag} {q : Addr} {vs : List V} {ds : List Da} {W A : Addr → Prop} {H : Hp} (hq : SqT K H q vs) (ha : RpA K (fun a => c.A0 a ∨ W a) H vs ds) : ItOk K c (Itt K q) ds W H := fun H2 W2 k i => by
  have e2 := sqt_kp k hq
  refine ⟨fun d hd => ?_, fun hl => ⟨vs, e2, by rw [ha.length]; exact hl⟩⟩
  obtain ⟨v, hv, rv⟩ := ha.get hd
  refine ⟨⟨vs, v, e2, hv⟩, fun x H3 hy => ?_⟩
  obtain ⟨rfl, hy⟩ := hy
  have := hy vs e2
  rw [hv] at this
  cases this
  exact ⟨Same.refl _, rv.kp k.or⟩
/-- of one value: a list or a tuple -/
theorem pi_lt {l : Expr} {tl : TE} (hl : PE X l tl) : PI X tg l (fun σ H R => tl σ H fun x H1 => ∃ a, x = .ref a ∧ (((∃ xs, SqL X.K H1 a xs) ∧ R (Itl X.K a) H1) ∨ ((∃ xs, SqT X.K H1 a xs) ∧ R (Itt X.K a) H1))) := by
  refine ⟨fun pins s σ H R I h => ?_⟩
  refine thn (hl.run pins s σ H _ I h) fun v s1 ⟨x, H1, I1, r1, a, e, q1⟩ => ?_
  subst e
  cases r1
  rcases q1 with ⟨⟨xs, hq⟩, q⟩ | ⟨⟨xs, hq⟩, q⟩
  · obtain ⟨its, rv, pl, hz⟩ := I1.list hq
    refine wpAny_pyIter_list pl.isList ⟨_, [s1.heap.objs.size], _, _, H1, rfl, I1.kept (t' := s1.toks) fun b o e => Heap.get?_push_of_some _ e, turn_list a _, ⟨_, Heap.get?_push_size _ rfl, rfl, rfl⟩, fun b hb => ?_, q⟩
    obtain rfl := List.mem_singleton.mp hb
    exact I1.fpOk (Nat.le_refl _) (I1.hok.fresh (Nat.le_refl _))
  · obtain ⟨its, rv, pl, hz⟩ := I1.tuple hq
    refine wpAny_pyIter_tuple (show s1.heap.IsTuple a its.toArray from pl) ⟨_, [s1.heap.objs.size], _, _, H1, rfl, I1.kept (t' := s1.toks) fun b o e => Heap.get?_push_of_some _ e, turn_tuple a _, ⟨_, Heap.get?_push_size _ rfl, rfl, rfl⟩, fun b hb => ?_, q⟩
    obtain rfl := List.mem_singleton.mp hb
    exact I1.fpOk (Nat.le_refl _) (I1.hok.fresh (Nat.le_refl _))
theorem i_sq (he : PE X e (lE X.K c we)) : PI X tg e (lWk X.K c (wSq we)) := pi_imp (pi_lt he) fun σ H R h => by
  obtain ⟨S, Qd, r, h, p⟩ := h
  refine ⟨S, _, r, h, fun d S1 h1 H1 v r1 k1 p1 => ?_⟩
  cases d <;> try exact h1.elim
  · obtain ⟨q, vs, rfl, g1, g2⟩ := tup_ok p1
    exact ⟨q, rfl, .inr ⟨⟨vs, g1⟩, p _ _ h1 _ _ r1 k1 (it_tup (A := fun _ => False) g1 g2)⟩⟩
  · cases p1.pure rfl with
    | l g1 g2 g3 => exact ⟨_, rfl, .inl ⟨⟨_, SqL.of g1⟩, p _ _ h1 _ _ r1 k1 (it_list (A := fun _ => False) g1 g2 g3)⟩⟩
/-- range(n) -/
def rngD (lo : Int) (n : Nat) : List Da := (List.range n).map fun (k : Nat) => Da.i (lo + (k : Int))
def wRng1 (we : WE) : WI := fun S Q => we S fun d S' => match d with
  | .i k => -(2 ^ 62) ≤ k ∧ k < 2 ^ 62 ∧ Q (rngD 0 k.toNat) S'
  | _ => False
def wRng2 (wa wb : WE) : WI := fun S Q => wa S fun d S1 => wb S1 fun e S2 => match d, e with
  | .i i, .i j => (-(2 ^ 62) ≤ i ∧ i < 2 ^ 62 ∧ -(2 ^ 62) ≤ j ∧ j < 2 ^ 62) ∧ Q (rngD i (j - i).toNat) S2
  | _, _ => False
theorem it_rng {K : PySem.W.Frag} {lo : Int} {n : Nat} {W : Addr → Prop} {H : Hp} : ItOk K c (Itr lo n) (rngD lo n) W H := fun H2 W2 k i => by
  refine ⟨fun d hd => ?_, fun hl => by
    show n ≤ i
    simpa [rngD] using hl⟩
  unfold rngD at hd
  rw [List.getElem?_map] at hd
  cases q : (List.range n)[i]? with
  | none => rw [q] at hd; cases hd
  | some j =>
    rw [q] at hd
    cases hd
    have hi : i < n := by
      have := (List.getElem?_eq_some_iff.mp q).1
      simpa using this
    have hj : j = i := by
      rw [List.getElem?_range hi] at q
      exact (Option.some.inj q).symm
    subst hj
    exact ⟨hi, fun x H3 ⟨e1, e2⟩ => ⟨by rw [e1]; exact Same.refl _, by rw [e2]; exact .i _⟩⟩
theorem i_rng1 (hg : Gl X "range") (hm : X.mg "range" = none) (ha : PE X a (lE X.K c wa)) (hs0 : starEach [a] X.env = (false, eval a X.env) :: starEach [] X.env := by rfl) (hs : starEach [a] X.env = [(false, eval a X.env)] := by rfl) : PI X tg (.Call (.Name "range" p) [a] [] pos) (lWk X.K c (wRng1 wa)) :=
  pi_imp (pi_range1 hg hm (pa_cons ha pa_nil hs0) hs) fun σ H R h => by
  obtain ⟨S, Qd, r, h, p⟩ := h
  refine ⟨S, _, r, h, fun d S1 h1 H1 v r1 k1 p1 => ?_⟩
  cases d <;> try exact h1.elim
  rw [rs_i p1]
  exact ⟨_, rfl, h1.1, h1.2.1, p _ _ h1.2.2 _ _ r1 k1 it_rng⟩
theorem i_rng2 (hg : Gl X "range") (hm : X.mg "range" = none) (ha : PE X a (lE X.K c wa)) (hb : PE X b (lE X.K c wb)) (hs0 : starEach [a, b] X.env = (false, eval a X.env) :: starEach [b] X.env := by rfl) (hs1 : starEach [b] X.env = (false, eval b X.env) :: starEach [] X.env := by rfl)
    (hs : starEach [a, b] X.env = [(false, eval a X.env), (false, eval b X.env)] := by rfl) (hs2 : starEach [b] X.env = [(false, eval b X.env)] := by rfl) : PI X tg (.Call (.Name "range" p) [a, b] [] pos) (lWk X.K c (wRng2 wa wb)) :=
  pi_imp (pi_range2 hg hm (pa_cons ha (pa_cons hb pa_nil hs1) hs0) hs hs2) fun σ H R h => by
  obtain ⟨S, Qd, r, h, p⟩ := h
  refine ⟨S, _, r, h, fun d S1 h1 H1 v r1 k1 p1 => ⟨S1, _, r1, h1, fun e S2 h2 H2 u r2 k2 p2 => ?_⟩⟩
  cases d <;> cases e <;> try exact h2.elim
  rw [rs_i p1, rs_i p2]
  exact ⟨_, _, rfl, h2.1, p _ _ h2.2 _ _ r2 (k1.trans k2) it_rng⟩
/-! ### for -/
def forGo (wg : WG) (wb : WS) (D : Dn) : List Da → Sx → Prop
  | [], S => D.nx S
  | d :: ds, S => wg d S fun S2 => wb { D with nx := forGo wg wb D ds, ct := forGo wg wb D ds, bk := D.nx } S2
def wFor (wi : WI) (wg : WG) (wb : WS) : WS := fun D S => wi S fun ds S1 => forGo wg wb D ds S1
theorem s_for {iter : Expr} {body : List Stmt} {wi : WI} {g : TG} {wg : WG} {wb : WS} {is : List Nat} (hp : PassesOwn (model X.prog X.w) X.A X.env X.xe) (hc : X.calm = true) (hi : PI X tg iter (lWk X.K c wi)) (hg : PG X tg g) (L : LG X.K c g wg is) (hb : PSs X body (lS X.K c wb))
    (hs : ∀ x, foldedSetIterable iter X.env x = pure x := by intro _; rfl) : PS X (.For tg iter body [] pos) (lS X.K c (wFor wi wg wb)) := ps_imp (ps_for hp hc hi hg hb hs) fun D σ H h => by
  obtain ⟨S, Dd, r, h, p⟩ := h
  refine ⟨S, _, r, h, fun ds S1 h1 H1 J r1 k1 ok => ?_⟩
  refine ⟨fun i m σ2 H2 => m = ds.length - i ∧ i ≤ ds.length ∧ ∃ S2, Rel X.K c S2 σ2 H2 ∧ Kp S1.W S2.W H1 H2 ∧ forGo wg wb Dd (ds.drop i) S2, ⟨ds.length, by simp, Nat.zero_le _, S1, r1, .refl, by simpa using h1⟩, ?_⟩
  rintro i m σ2 H2 ⟨rfl, hi, S2, r2, k2, h2⟩
  obtain ⟨go, stop⟩ := ok H2 S2.W k2 i
  by_cases hlt : i < ds.length
  · refine .inr ⟨(go ds[i] (List.getElem?_eq_getElem hlt)).1, fun σ' H' => ∃ S', Rel X.K c S' σ' H' ∧ Kp S1.W S'.W H1 H' ∧ forGo wg wb Dd (ds.drop (i + 1)) S', fun σ' H' ⟨S', a1, a2, a3⟩ => ⟨ds.length - (i + 1), by omega, rfl, hlt, S', a1, a2, a3⟩, fun x H3 hy => ?_⟩
    obtain ⟨sm, rx⟩ := (go ds[i] (List.getElem?_eq_getElem hlt)).2 x H3 hy
    rw [List.drop_eq_getElem_cons hlt] at h2
    have r3 := r2.same sm
    have k3 : Kp S2.W S2.W H2 H3 := .same sm
    refine L.run x ds[i] S2 σ2 H3 _ _ r3 rx h2 fun S4 σ4 h4 r4 k4 _ _ => ⟨S4, _, r4, h4, ?_⟩
    have kk := (k2.trans k3).trans k4
    have pk := p.at (k1.trans kk)
    exact ⟨fun S' h' σ' H' r' k' => ⟨S', r', kk.trans k', h'⟩, pk.rt, pk.nx, fun S' h' σ' H' r' k' => ⟨S', r', kk.trans k', h'⟩⟩
  · have e : i = ds.length := by omega
    subst e
    rw [List.drop_length] at h2
    exact .inl ⟨stop (Nat.le_refl _), p.nx _ h2 _ _ r2 (k1.trans k2)⟩
end
end VL
set_option Elab.async false
set_option linter.all false
set_option maxRecDepth 100000
set_option maxHeartbeats 1000000
namespace VL
open PySem PySem.Spec PyProof.Rows L2
def wipeR (ρ : List Slx) : List Nat → List Slx
  | [] => ρ
  | v :: vs => (wipeR ρ vs).set v .no
def kept (ρ : List Slx) (v : Nat) : Slx := match ρ[v]? with
  | some (.val d) => .val d
  | _ => .no
def backR (ρ0 ρ : List Slx) : List Nat → List Slx
  | [] => ρ
  | v :: vs => (backR ρ0 ρ vs).set v (kept ρ0 v)
def Sx.wipe (S : Sx) (vs : List Nat) : Sx := ⟨wipeR S.ρ vs, S.M⟩
def Sx.back (S S4 : Sx) (vs : List Nat) : Sx := ⟨backR S.ρ S4.ρ vs, S4.M⟩
/-- the block's names are no lists of one's own -/
def Sx.norm (S : Sx) (vs : List Nat) : Sx := S.back S vs
section
variable {K : PySem.W.Frag} {c : Cq} {S S1 S' : Sx} {σ σ' : L2.St} {H H1 H' : Hp}
theorem wipeR_length (ρ : List Slx) : ∀ vs, (wipeR ρ vs).length = ρ.length
  | [] => rfl
  | v :: vs => by unfold wipeR; rw [List.length_set, wipeR_length ρ vs]
theorem backR_length (ρ0 ρ : List Slx) : ∀ vs, (backR ρ0 ρ vs).length = ρ.length
  | [] => rfl
  | v :: vs => by unfold backR; rw [List.length_set, backR_length ρ0 ρ vs]
theorem wipeR_get {ρ : List Slx} {j : Nat} {x : Slx} : ∀ {vs : List Nat}, (wipeR ρ vs)[j]? = some x → x = .no ∨ (ρ[j]? = some x ∧ j ∉ vs)
  | [], h => .inr ⟨h, by simp⟩
  | v :: vs, h => by
    unfold wipeR at h
    rcases get_set h with ⟨_, e⟩ | ⟨ne, e⟩
    · exact .inl e.symm
    · rcases wipeR_get e with e | ⟨e1, e2⟩
      · exact .inl e
      · exact .inr ⟨e1, by rw [List.mem_cons, not_or]; exact ⟨Ne.symm ne, e2⟩⟩
theorem backR_get {ρ0 ρ : List Slx} {j : Nat} {x : Slx} : ∀ {vs : List Nat}, (backR ρ0 ρ vs)[j]? = some x → (j ∈ vs ∧ x = kept ρ0 j) ∨ (j ∉ vs ∧ ρ[j]? = some x)
  | [], h => .inr ⟨by simp, h⟩
  | v :: vs, h => by
    unfold backR at h
    rcases get_set h with ⟨e1, e⟩ | ⟨ne, e⟩
    · subst e1
      exact .inl ⟨by simp, e.symm⟩
    · rcases backR_get e with ⟨e1, e2⟩ | ⟨e1, e2⟩
      · exact .inl ⟨by simp [e1], e2⟩
      · exact .inr ⟨by rw [List.mem_cons, not_or]; exact ⟨Ne.symm ne, e1⟩, e2⟩
theorem wipe_get {σ : L2.St} {j : Nat} : ∀ {vs : List Nat}, j ∉ vs → (wipe σ vs)[j]? = σ[j]?
  | [], _ => rfl
  | v :: vs, h => by
    rw [List.mem_cons, not_or] at h
    unfold wipe
    rw [List.getElem?_set_ne (Ne.symm h.1), wipe_get h.2]
theorem wipe_in {σ : L2.St} {j : Nat} : ∀ {vs : List Nat}, j ∈ vs → j < σ.length → (wipe σ vs)[j]? = some none
  | [], h, _ => by simp at h
  | v :: vs, h, hl => by
    unfold wipe
    by_cases e : v = j
    · subst e
      rw [List.getElem?_set_self (by rw [wipe_length]; exact hl)]
    · rw [List.getElem?_set_ne e]
      exact wipe_in ((List.mem_cons.mp h).resolve_left (fun z => e z.symm)) hl
theorem wipe_eq {vs : List Nat} (hl : σ'.length = σ.length) (h : ∀ j, j ∉ vs → σ'[j]? = σ[j]?) : wipe σ' vs = wipe σ vs := by
  refine List.ext_getElem? fun j => ?_
  by_cases hj : j ∈ vs
  · by_cases hlt : j < σ.length
    · rw [wipe_in hj hlt, wipe_in hj (by rw [hl]; exact hlt)]
    · rw [List.getElem?_eq_none (by rw [wipe_length]; omega), List.getElem?_eq_none (by rw [wipe_length]; omega)]
  · rw [wipe_get hj, wipe_get hj, h j hj]
theorem Rel.wipe (r : Rel K c S σ H) (vs : List Nat) : Rel K c (S.wipe vs) (L2.wipe σ vs) H ∧ Kp S.W (S.wipe vs).W H H := by
  have k : Kp S.W (S.wipe vs).W H H := by
    refine Kp.refl.sub fun b z => ?_
    rcases z with ⟨j, ds, z⟩ | z
    · rcases wipeR_get z with e | ⟨e, _⟩
      · cases e
      · exact .inl ⟨j, ds, e⟩
    · exact .inr z
  refine ⟨r.next k (by rw [wipe_length]; exact r.len.trans (wipeR_length _ _).symm) (wipeR_length _ _) (fun j d he => ?_) (fun j p ds he => ?_) (fun i j p ds es h1 h2 => ?_) (fun j p ds he => ?_) (fun a m e => (r.mem a m e).kp (kA k) fun _ z => z), k⟩
  · rcases wipeR_get he with e | ⟨e, nj⟩
    · cases e
    · obtain ⟨v, h1, h2⟩ := r.val j d e
      exact ⟨v, by rw [wipe_get nj]; exact h1, h2.kp (kA k)⟩
  · rcases wipeR_get he with e | ⟨e, nj⟩
    · cases e
    · obtain ⟨h1, vs, h2, h3⟩ := r.own j p ds e
      exact ⟨by rw [wipe_get nj]; exact h1, vs, h2, h3.kp (kA k)⟩
  · rcases wipeR_get h1 with e | ⟨e1, _⟩
    · cases e
    · rcases wipeR_get h2 with e | ⟨e2, _⟩
      · cases e
      · exact r.inj i j p ds es e1 e2
  · rcases wipeR_get he with e | ⟨e, nj⟩
    · cases e
    · exact r.sep j p ds e
/-- behind a comprehension's turn -/
theorem Rel.back {S4 : Sx} {vs : List Nat} (r : Rel K c S σ H) (r4 : Rel K c S4 σ' H') (k : Kp S.W S4.W H H') (hl : σ'.length = σ.length) (hs : ∀ j, j ∉ vs → σ'[j]? = σ[j]?) : Rel K c (S.back S4 vs) σ H' ∧ Kp S4.W (S.back S4 vs).W H' H' := by
  have k4 : Kp S4.W (S.back S4 vs).W H' H' := by
    refine Kp.refl.sub fun b z => ?_
    rcases z with ⟨j, ds, z⟩ | z
    · rcases backR_get z with ⟨_, e⟩ | ⟨_, e⟩
      · unfold kept at e
        split at e <;> cases e
      · exact .inl ⟨j, ds, e⟩
    · exact .inr z
  have no : ∀ {j : Nat} {p : Addr} {ds : List Da}, (backR S.ρ S4.ρ vs)[j]? = some (Slx.own p ds) → j ∉ vs ∧ S4.ρ[j]? = some (Slx.own p ds) := fun {j p ds} e => by
    rcases backR_get e with ⟨_, e⟩ | ⟨nj, e⟩
    · unfold kept at e
      split at e <;> cases e
    · exact ⟨nj, e⟩
  refine ⟨r4.next k4 (by rw [← hl]; exact r4.len.trans (backR_length _ _ _).symm) (backR_length _ _ _) (fun j d he => ?_) (fun j p ds he => ?_) (fun i j p ds es h1 h2 => r4.inj i j p ds es (no h1).2 (no h2).2) (fun j p ds he => r4.sep j p ds (no he).2) (fun a m e => (r4.mem a m e).kp (kA k4) fun _ z => z), k4⟩
  · rcases backR_get he with ⟨hj, e⟩ | ⟨nj, e⟩
    · unfold kept at e
      split at e
      · rename_i d' q
        cases e
        obtain ⟨v, h1, h2⟩ := r.val j d q
        exact ⟨v, h1, h2.kp (kA (k.trans k4))⟩
      · cases e
    · obtain ⟨v, h1, h2⟩ := r4.val j d e
      exact ⟨v, by rw [← hs j nj]; exact h1, h2.kp (kA k4)⟩
  · obtain ⟨nj, e⟩ := no he
    obtain ⟨h1, ws, h2, h3⟩ := r4.own j p ds e
    exact ⟨by rw [← hs j nj]; exact h1, ws, h2, h3.kp (kA k4)⟩
/-- with a new object that nothing knows -/
def Cq.plus (c : Cq) (D : Addr) : Cq := ⟨fun a => c.A0 a ∨ a = D, c.W0, c.H0, c.n⟩
theorem Rel.plus (r : Rel K c S σ H) {D : Addr} {o : HO} (nD : H D = none) : Rel K (c.plus D) S σ (upd H D o) ∧ Kp S.W S.W H (upd H D o) := by
  have s : Same H (upd H D o) := same_upd nD
  have k : Kp (S.A c) (S.A (c.plus D)) H (upd H D o) := by
    refine ⟨fun b u e _ => s b u e, fun b z => ?_⟩
    rcases z with (z | z) | z
    · exact .inl (.inl z)
    · subst z
      exact .inr nD
    · exact .inl (.inr z)
  refine ⟨⟨r.len, r.cn, fun i d e => ?_, fun i p ds e => ?_, r.inj, r.sep, fun a m e => (r.mem a m e).kp k (s a), fun a z => ?_, r.kp.trans (.same s)⟩, .same s⟩
  · obtain ⟨v, h1, h2⟩ := r.val i d e
    exact ⟨v, h1, h2.kp k⟩
  · obtain ⟨h1, vs, h2, h3⟩ := r.own i p ds e
    exact ⟨h1, vs, s _ _ h2, h3.kp k⟩
  · rcases z with z | z
    · obtain ⟨h1, h2⟩ := r.a0 a z
      refine ⟨fun q => ?_, h2⟩
      cases e : H a with
      | none => exact h1 e
      | some u => rw [s _ _ e] at q; cases q
    · subst z
      exact ⟨(fun q => by rw [upd_same] at q; cases q), fun z => r.notA nD (.inr z)⟩
/-- the unknown object changes -/
theorem Rel.upD {D : Addr} (r : Rel K (c.plus D) S σ H) {o o' : HO} (e : H D = some o) (mu : Mut (some o)) (nk : ∀ u, c.H0 D = some u → ¬ (¬ c.W0 D ∨ ¬ Mut (some u))) : Rel K (c.plus D) S σ (upd H D o') := by
  have nW : ¬ S.W D := (r.a0 D (.inr rfl)).2
  have keep : ∀ b u, H b = some u → (¬ S.A (c.plus D) b ∨ ¬ Mut (some u)) → upd H D o' b = some u := fun b u eb z => by
    have : b ≠ D := fun q => by
      subst q
      rcases z with z | z
      · exact z (.inl (.inr rfl))
      · rw [e] at eb
        cases eb
        exact z mu
    rw [upd_ne this]
    exact eb
  have k : Kp (S.A (c.plus D)) (S.A (c.plus D)) H (upd H D o') := ⟨keep, fun b z => .inl z⟩
  have ne : ∀ {a : Addr}, S.W a → a ≠ D := fun z q => by subst q; exact nW z
  refine ⟨r.len, r.cn, fun i d he => ?_, fun i p ds he => ?_, r.inj, r.sep, fun a m em => (r.mem a m em).kp k fun u z => ?_, fun a z => ⟨?_, (r.a0 a z).2⟩, ?_⟩
  · obtain ⟨v, h1, h2⟩ := r.val i d he
    exact ⟨v, h1, h2.kp k⟩
  · obtain ⟨h1, vs, h2, h3⟩ := r.own i p ds he
    exact ⟨h1, vs, by rw [upd_ne (ne (.inl ⟨i, ds, he⟩))]; exact h2, h3.kp k⟩
  · rw [upd_ne (ne (.inr (by rw [em]; exact fun q => by cases q)))]
    exact z
  · by_cases q : a = D
    · rw [q, upd_same]
      exact fun q => by cases q
    · rw [upd_ne q]
      exact (r.a0 a z).1
  · refine ⟨fun b u eb z => ?_, fun b z => ?_⟩
    · have : b ≠ D := fun q => by
        subst q
        exact nk u eb z
      rw [upd_ne this]
      exact r.kp.keep b u eb z
    · exact r.kp.mono b z
theorem Rel.nk (r : Rel K c S σ H) {D : Addr} (n : H D = none) : ∀ u, c.H0 D = some u → ¬ (¬ c.W0 D ∨ ¬ Mut (some u)) := fun u e z => by
  have := r.kp.keep D u e z
  rw [n] at this
  cases this
def offH (H : Hp) (D : Addr) : Hp := fun b => if b = D then none else H b
theorem offH_ne {H : Hp} {D b : Addr} (h : b ≠ D) : offH H D b = H b := by unfold offH; rw [if_neg h]
theorem offH_same {H : Hp} {D : Addr} : offH H D D = none := by unfold offH; rw [if_pos rfl]
theorem upd_offH {H : Hp} {D : Addr} {o : HO} (e : H D = some o) : upd (offH H D) D o = H := by
  funext b
  by_cases q : b = D
  · rw [q, upd_same, e]
  · rw [upd_ne q, offH_ne q]
/-- as if the unknown object were not there -/
theorem Rel.minus {D : Addr} (r : Rel K (c.plus D) S σ H) {o : HO} (e : H D = some o) (mu : Mut (some o)) (nA : ¬ c.A0 D) (nk : ∀ u, c.H0 D = some u → ¬ (¬ c.W0 D ∨ ¬ Mut (some u))) :
    Rel K c S σ (offH H D) ∧ Kp (S.A (c.plus D)) (S.A c) H (offH H D) := by
  have nW : ¬ S.W D := (r.a0 D (.inr rfl)).2
  have k : Kp (S.A (c.plus D)) (S.A c) H (offH H D) := by
    refine ⟨fun b u eb z => ?_, fun b z => .inl (z.imp .inl id)⟩
    have : b ≠ D := fun q => by
      subst q
      rcases z with z | z
      · exact z (.inl (.inr rfl))
      · rw [e] at eb
        cases eb
        exact z mu
    rw [offH_ne this]
    exact eb
  have ne : ∀ {a : Addr}, S.W a → a ≠ D := fun z q => by subst q; exact nW z
  refine ⟨⟨r.len, r.cn, fun i d he => ?_, fun i p ds he => ?_, r.inj, r.sep, fun a m em => (r.mem a m em).kp k fun u z => ?_, fun a z => ⟨?_, (r.a0 a (.inl z)).2⟩, ?_⟩, k⟩
  · obtain ⟨v, h1, h2⟩ := r.val i d he
    exact ⟨v, h1, h2.kp k⟩
  · obtain ⟨h1, vs, h2, h3⟩ := r.own i p ds he
    exact ⟨h1, vs, by rw [offH_ne (ne (.inl ⟨i, ds, he⟩))]; exact h2, h3.kp k⟩
  · rw [offH_ne (ne (.inr (by rw [em]; exact fun q => by cases q)))]
    exact z
  · rw [offH_ne (fun q => nA (by rw [← q]; exact z))]
    exact (r.a0 a (.inl z)).1
  · refine ⟨fun b u eb z => ?_, fun b z => ?_⟩
    · have : b ≠ D := fun q => by
        subst q
        exact nk u eb z
      rw [offH_ne this]
      exact r.kp.keep b u eb z
    · exact r.kp.mono b z
end
section
variable {X : Cx} {c : Cq} {pos p apos : Pos} {e a b tg : Expr} {es rest : List Expr} {we wa wb : WE} {wt wu : WT} {wl wr : WA}
/-! ### comprehensions -/
def wYes : WT := fun S Q => Q true S
theorem t_yes {K : PySem.W.Frag} : ∀ σ H Q, lT K c wYes σ H Q → tYes σ H Q := fun σ H Q h => by
  obtain ⟨S, Qd, r, h, p⟩ := h
  exact p _ _ h _ r .refl
theorem pts_imp {X : Cx} {l : List Expr} {t t' : TT} (h : PTs X l t) (i : ∀ σ H Q, t' σ H Q → t σ H Q) : PTs X l t' := ⟨fun pins s σ H Q I hq => h.run pins s σ H Q I (i σ H Q hq)⟩
theorem ts_nil : PTs X [] (lT X.K c wYes) := pts_imp pts_nil t_yes
theorem ts_one {t : Expr} (h : PT X t (lT X.K c wt)) : PTs X [t] (lT X.K c wt) := pts_one h
def lcGo (wg : WG) (wt : WT) (we : WE) (vs : List Nat) (Q : List Da → Sx → Prop) : List Da → List Da → Sx → Prop
  | [], acc, S => Q acc S
  | d :: ds, acc, S => wg d (S.wipe vs) fun S2 => wt S2 fun b S3 => if b = true then we S3 fun y S4 => y.isO = false ∧ acc.length < sizeLine ∧ lcGo wg wt we vs Q ds (acc ++ [y]) (S.back S4 vs) else lcGo wg wt we vs Q ds acc (S.back S3 vs)
def wLc (wi : WI) (wg : WG) (wt : WT) (we : WE) (vs : List Nat) : WA := fun S Q => wi S fun ds S1 => lcGo wg wt we vs Q ds [] (S1.norm vs)
theorem llc {K : PySem.W.Frag} {wi : WI} {g : TG} {wg : WG} {tt : TT} {te : TE} {is vs : List Nat} (L : ∀ c' : Cq, c'.n = c.n → LG K c' g wg is) (hv : ∀ i ∈ is, i ∈ vs) (ht : ∀ c' : Cq, c'.n = c.n → ∀ σ H Q, lT K c' wt σ H Q → tt σ H Q)
    (he : ∀ c' : Cq, c'.n = c.n → ∀ σ H Q, lE K c' we σ H Q → te σ H Q) : ∀ σ H Q, lL K c (wLc wi wg wt we vs) σ H Q → tLc (lWk K c wi) g tt te vs σ H Q := fun σ H Q h => by
  obtain ⟨S, Qd, r, h, p⟩ := h
  refine ⟨S, _, r, h, fun ds S1 h1 H1 J r1 k1 ok D nD => ?_⟩
  have nk := r1.nk nD
  have nA : ¬ c.A0 D := fun z => (r1.a0 D z).1 nD
  obtain ⟨r1', _⟩ := r1.plus (o := .lst []) nD
  have sm1 : Same H1 (upd H1 D (.lst [])) := same_upd nD
  refine ⟨fun i m H2 => m = ds.length - i ∧ i ≤ ds.length ∧ ∃ S2 acc vacc, Rel K (c.plus D) S2 σ H2 ∧ Kp S1.W S2.W H1 H2 ∧ H2 D = some (.lst vacc) ∧ RpA K (S2.A (c.plus D)) H2 vacc acc ∧ acc.length ≤ sizeLine ∧ lcGo wg wt we vs Qd (ds.drop i) acc S2,
    ⟨ds.length, by simp, Nat.zero_le _, S1.norm vs, [], [], (r1'.back r1' .refl rfl fun _ _ => rfl).1, (Kp.same sm1).trans (r1'.back r1' .refl rfl fun _ _ => rfl).2, upd_same, .nil, Nat.zero_le _, by simpa using h1⟩, ?_⟩
  rintro i m H2 ⟨rfl, hi, S2, acc, vacc, r2, k2, eD, ra, hz, h2⟩
  obtain ⟨go, stop⟩ := ok H2 (fun a => S2.W a ∨ a = D) ⟨k2.keep, fun b z => z.elim (k2.mono b) fun q => .inr (by rw [q]; exact nD)⟩ i
  by_cases hlt : i < ds.length
  · refine .inr ⟨(go ds[i] (List.getElem?_eq_getElem hlt)).1, fun H' => ∃ S2 acc vacc, Rel K (c.plus D) S2 σ H' ∧ Kp S1.W S2.W H1 H' ∧ H' D = some (.lst vacc) ∧ RpA K (S2.A (c.plus D)) H' vacc acc ∧ acc.length ≤ sizeLine ∧ lcGo wg wt we vs Qd (ds.drop (i + 1)) acc S2,
      fun H' q => ⟨ds.length - (i + 1), by omega, rfl, hlt, q⟩, fun x H3 hy => ?_⟩
    obtain ⟨sm, rx⟩ := (go ds[i] (List.getElem?_eq_getElem hlt)).2 x H3 hy
    rw [List.drop_eq_getElem_cons hlt] at h2
    have r3 := r2.same sm
    have k3 : Kp S2.W S2.W H2 H3 := .same sm
    obtain ⟨rw3, kw3⟩ := r3.wipe vs
    -- the item does not know the new list
    have rx' : Rp K ((S2.wipe vs).A (c.plus D)) H3 x ds[i] := rx.kp ⟨fun b u e _ => e, fun b z => by
      rcases z with (z | z) | z
      · exact .inl (.inl z)
      · exact .inl (.inr (.inr z))
      · exact (kw3.mono b z).imp (fun q => .inr (.inl q)) id⟩
    refine (L (c.plus D) rfl).run x ds[i] _ _ H3 _ _ rw3 rx' h2 fun S4 σ4 h4 r4 k4 s4 l4 => ?_
    have l4' : σ4.length = σ.length := by rw [l4, wipe_length]
    have s4' : ∀ j, j ∉ vs → σ4[j]? = σ[j]? := fun j hj => by
      rw [s4 j (fun z => hj (hv j z)), wipe_get hj]
    refine ⟨wipe_eq l4' s4', ht (c.plus D) rfl _ _ _ ⟨S4, _, r4, h4, fun b S5 h5 H5 r5 k5 => ?_⟩⟩
    have k25 : Kp S2.W S5.W H2 H5 := ((k3.trans kw3).trans k4).trans k5
    have D5 : H5 D = some (.lst vacc) := k25.keep D _ eD (.inl (r2.a0 D (.inr rfl)).2)
    refine ite_of h5 (fun h6 => he (c.plus D) rfl _ _ _ ⟨S5, _, r5, h6, fun y S6 h7 H6 v r6 k6 py => ?_⟩) fun h6 => ?_
    · obtain ⟨py0, hz2, h8⟩ := h7
      have k26 := k25.trans k6
      have D6 : H6 D = some (.lst vacc) := k26.keep D _ eD (.inl (r2.a0 D (.inr rfl)).2)
      obtain ⟨rb, kb⟩ := r2.back r6 k26 l4' s4'
      have kab := kA (c := c.plus D) (k26.trans kb)
      have ra6 := ra.kp kab
      refine ⟨vacc, D6, by rw [ra.length]; exact hz2, S2.back S6 vs, acc ++ [y], vacc ++ [v], rb.upD D6 trivial nk, ?_, upd_same, ?_, by rw [List.length_append]; exact hz2, h8⟩
      · refine ⟨fun b u eb z => ?_, (k2.trans (k26.trans kb)).mono⟩
        rw [upd_ne (ne_of_none eb nD)]
        exact (k2.trans (k26.trans kb)).keep b u eb z
      · refine (ra6.snoc ((py.pure py0).kp (kA kb))).kp ⟨fun b u eb z => ?_, fun b z => .inl z⟩
        have : b ≠ D := fun q => by
          subst q
          rcases z with z | z
          · exact z (.inl (.inr rfl))
          · rw [D6] at eb
            cases eb
            exact z trivial
        rw [upd_ne this]
        exact eb
    · obtain ⟨rb, kb⟩ := r2.back r5 k25 l4' s4'
      exact ⟨S2.back S5 vs, acc, vacc, rb, k2.trans (k25.trans kb), D5, ra.kp (kA (k25.trans kb)), hz, h6⟩
  · have e : i = ds.length := by omega
    subst e
    rw [List.drop_length] at h2
    obtain ⟨rm, km⟩ := r2.minus eD trivial nA nk
    have q := p acc S2 h2 (offH H2 D) D vacc rm ?_ offH_same (ra.kp km) hz
    · rw [upd_offH eD] at q
      exact .inl ⟨stop (Nat.le_refl _), q⟩
    · refine k1.trans ⟨fun b u eb z => ?_, fun b z => k2.mono b z⟩
      rw [offH_ne (ne_of_none eb nD)]
      exact k2.keep b u eb z
theorem v_lc {elt tg iter : Expr} {ifs : List Expr} {scope : Scope} {own : List (Str × Nat)} {wi : WI} {g : TG} {wg : WG} {is : List Nat} (hc : X.calm = true) (hN : X.N.Nodup) (hi : PI X tg iter (lWk X.K c wi)) (ok : BlkOk X.N X.env.scope scope own)
    (L : ∀ c' : Cq, c'.n = c.n → LG X.K c' g wg is) (hg : ∀ (s : Shared) (H : Hp) (C : Addr) (cl : List (Str × Addr)) (fp : List Addr), PG (X.blk s H scope (compEnvC scope cl C X.env) fp) tg g)
    (ht : ∀ (s : Shared) (H : Hp) (C : Addr) (cl : List (Str × Addr)) (fp : List Addr) (c' : Cq), c'.n = c.n → PTs (X.blk s H scope (compEnvC scope cl C X.env) fp) ifs (lT X.K c' wt))
    (he : ∀ (s : Shared) (H : Hp) (C : Addr) (cl : List (Str × Addr)) (fp : List Addr) (c' : Cq), c'.n = c.n → PE (X.blk s H scope (compEnvC scope cl C X.env) fp) elt (lE X.K c' we))
    (hv : ∀ i ∈ is, i ∈ own.map (·.2)) (hs : ∀ x, foldedSetIterable iter X.env x = pure x := by intro _; rfl) : PE X (.ListComp elt [⟨tg, iter, ifs, 0⟩] scope pos) (lL X.K c (wLc wi wg wt we (own.map (·.2)))) :=
  pe_imp (pe_lc (tt := fun σ H Q => ∃ c' : Cq, c'.n = c.n ∧ lT X.K c' wt σ H Q) (te := fun σ H Q => ∃ c' : Cq, c'.n = c.n ∧ lE X.K c' we σ H Q) hc hN hi ok hg
    (fun s H C cl fp => ⟨fun pins s' σ H' Q I ⟨c', hc', h⟩ => (ht s H C cl fp c' hc').run pins s' σ H' Q I h⟩)
    (fun s H C cl fp => ⟨fun pins s' σ H' Q I ⟨c', hc', h⟩ => (he s H C cl fp c' hc').run pins s' σ H' Q I h⟩) hs)
    (llc L hv (fun c' e _ _ _ h => ⟨c', e, h⟩) (fun c' e _ _ _ h => ⟨c', e, h⟩))
/-- y = [..] -/
theorem s_ownLc {i : Nat} {y : Str} {py spos : Pos} {elt tg iter : Expr} {ifs : List Expr} {scope : Scope} {own : List (Str × Nat)} {wi : WI} {g : TG} {wg : WG} {is : List Nat} (hc : X.calm = true) (hN : X.N.Nodup) (hy : X.N[i]? = some y) (hyl : X.env.scope.names.lookup y = some .local) (hn : i < c.n)
    (hsw : swapsWith (.ListComp elt [⟨tg, iter, ifs, 0⟩] scope pos) (some (.Name y py)) spos.line X.env = pure true) (hi : PI X tg iter (lWk X.K c wi)) (ok : BlkOk X.N X.env.scope scope own)
    (L : ∀ c' : Cq, c'.n = c.n → LG X.K c' g wg is) (hg : ∀ (s : Shared) (H : Hp) (C : Addr) (cl : List (Str × Addr)) (fp : List Addr), PG (X.blk s H scope (compEnvC scope cl C X.env) fp) tg g)
    (ht : ∀ (s : Shared) (H : Hp) (C : Addr) (cl : List (Str × Addr)) (fp : List Addr) (c' : Cq), c'.n = c.n → PTs (X.blk s H scope (compEnvC scope cl C X.env) fp) ifs (lT X.K c' wt))
    (he : ∀ (s : Shared) (H : Hp) (C : Addr) (cl : List (Str × Addr)) (fp : List Addr) (c' : Cq), c'.n = c.n → PE (X.blk s H scope (compEnvC scope cl C X.env) fp) elt (lE X.K c' we))
    (hv : ∀ i ∈ is, i ∈ own.map (·.2)) (hs : ∀ x, foldedSetIterable iter X.env x = pure x := by intro _; rfl) : PS X (.Assign [.Name y py] (.ListComp elt [⟨tg, iter, ifs, 0⟩] scope pos) spos) (lS X.K c (wOwn i (wLc wi wg wt we (own.map (·.2))))) :=
  ps_imp (ps_setLc (i := i) (tt := fun σ H Q => ∃ c' : Cq, c'.n = c.n ∧ lT X.K c' wt σ H Q) (te := fun σ H Q => ∃ c' : Cq, c'.n = c.n ∧ lE X.K c' we σ H Q) hc hN hy hyl hsw hi ok hg
    (fun s H C cl fp => ⟨fun pins s' σ H' Q I ⟨c', hc', h⟩ => (ht s H C cl fp c' hc').run pins s' σ H' Q I h⟩)
    (fun s H C cl fp => ⟨fun pins s' σ H' Q I ⟨c', hc', h⟩ => (he s H C cl fp c' hc').run pins s' σ H' Q I h⟩) hs)
    (lown hn (llc L hv (fun c' e _ _ _ h => ⟨c', e, h⟩) (fun c' e _ _ _ h => ⟨c', e, h⟩)))
end
end VL
set_option Elab.async false
set_option linter.all false
set_option maxRecDepth 100000
set_option maxHeartbeats 1000000
namespace VL
open PySem PySem.Spec PyProof.Rows L2
/-! ### promises by data -/
abbrev DX := Value → Option (List (Str × Da)) → Mx → Prop
abbrev DC := List Da → Mx → (Da → Mx → Prop) → DX → Prop
def Mem (K : PySem.W.Frag) (A0 : Addr → Prop) (M : Mx) (H : Hp) : Prop := ∀ a m, M a = some m → MOk K (fun b => A0 b ∨ wM M b) H a m
def XdOk (K : PySem.W.Frag) (A : Addr → Prop) (H : Hp) (ofs : Option (List (Str × Da))) (d : Option Addr) : Prop := match ofs with
  | none => d = none
  | some gs => ∃ a fs, d = some a ∧ H a = some (.xd fs) ∧ RpF K A H fs gs
def spOf (K : PySem.W.Frag) (dc : DC) : Sp := fun vs H Q E => ∃ (A0 : Addr → Prop) (M : Mx) (ds : List Da) (Qd : Da → Mx → Prop) (Xd : DX),
  RpA K (fun a => A0 a ∨ wM M a) H vs ds ∧ Mem K A0 M H ∧ (∀ a, A0 a → H a ≠ none ∧ M a = none) ∧ dc ds M Qd Xd ∧
  (∀ d M', Qd d M' → ∀ H' v, Kp (wM M) (wM M') H H' → Mem K A0 M' H' → Rp K (fun a => A0 a ∨ wM M' a) H' v d → Q v H') ∧
  (∀ cls ofs M', Xd cls ofs M' → ∀ H' d, Kp (wM M) (wM M') H H' → Mem K A0 M' H' → XdOk K (fun a => A0 a ∨ wM M' a) H' ofs d → E cls d H')
def XOk (K : PySem.W.Frag) (c : Cq) (Xs : Value → Option (List (Str × Da)) → Sx → Prop) (W : WX) : Prop := ∀ cls ofs S', Xs cls ofs S' → ∀ σ' H' d, Rel K c S' σ' H' → XdOk K (S'.A c) H' ofs d → W cls d σ' H'
abbrev Xno : Value → Option (List (Str × Da)) → Sx → Prop := fun _ _ _ => False
theorem xno {K : PySem.W.Frag} {c : Cq} {W : WX} : XOk K c Xno W := fun _ _ _ h => h.elim
def wCall (dc : DC) (dd : List Da) (Xs : Value → Option (List (Str × Da)) → Sx → Prop) (wa : WA) : WE := fun S Q => wa S fun ds S1 => dc (ds ++ dd) S1.M (fun d M' => Q d ⟨S1.ρ, M'⟩) fun cls ofs M' => Xs cls ofs ⟨S1.ρ, M'⟩
section
variable {K : PySem.W.Frag} {c : Cq} {S : Sx} {σ : L2.St} {H H' : Hp} {A : Addr → Prop}
theorem Rel.memM (r : Rel K c S σ H) {A1 : Addr → Prop} (h : ∀ b, A1 b → c.A0 b ∨ ∃ (i : Nat) (ds : List Da), S.ρ[i]? = some (Slx.own b ds)) : Mem K A1 S.M H := fun a m e => (r.mem a m e).kp ⟨fun _ _ z _ => z, fun b z => by
  rcases z with z | z
  · rcases h b z with q | q
    · exact .inl (.inl q)
    · exact .inl (.inr (.inl q))
  · exact .inl (.inr (.inr z))⟩ fun _ z => z
/-- what a call asks of the heap, and what it leaves -/
theorem sp_call {dc : DC} {ds : List Da} {vs : List V} {Qd : Da → Sx → Prop} {Q : VK} {Xs : Value → Option (List (Str × Da)) → Sx → Prop} {W : WX} (r : Rel K c S σ H) (rv : RpA K (S.A c) H vs ds) (h : dc ds S.M (fun d M' => Qd d ⟨S.ρ, M'⟩) fun cls ofs M' => Xs cls ofs ⟨S.ρ, M'⟩)
    (p : Pst K c S σ H Qd Q) (hX : XOk K c Xs W) : spOf K dc vs H Q (fun cls d H' => W cls d σ H') := by
  let A1 : Addr → Prop := fun a => c.A0 a ∨ ∃ (i : Nat) (ds : List Da), S.ρ[i]? = some (Slx.own a ds)
  have mk : ∀ (M' : Mx) (H' : Hp), Kp (wM S.M) (wM M') H H' → Mem K A1 M' H' → Rel K c ⟨S.ρ, M'⟩ σ H' ∧ Kp S.W (Sx.W ⟨S.ρ, M'⟩) H H' := fun M' H' k hm => by
    have k' : Kp S.W (Sx.W ⟨S.ρ, M'⟩) H H' := by
      refine ⟨fun b o e z => k.keep b o e (z.imp (fun q w => q (.inr w)) id), fun b z => ?_⟩
      rcases z with z | z
      · exact .inl (.inl z)
      · exact (k.mono b z).imp .inr id
    refine ⟨r.next k' r.len rfl (fun i d e => ?_) (fun i q es e => ?_) r.inj (fun i q es e => ?_) (fun a m e => (hm a m e).kp ⟨fun _ _ z _ => z, fun b z => ?_⟩ fun _ z => z), k'⟩
    · obtain ⟨v, h1, h2⟩ := r.val i d e
      exact ⟨v, h1, h2.kp (kA k')⟩
    · obtain ⟨h1, ws, h2, h3⟩ := r.own i q es e
      exact ⟨h1, ws, k.keep _ _ h2 (.inl fun z => z (r.sep i q es e)), h3.kp (kA k')⟩
    · cases e2 : M' q with
      | none => exact e2
      | some m =>
        obtain ⟨h1, ws, h2, h3⟩ := r.own i q es e
        rcases k.mono q (by show M' q ≠ none; rw [e2]; exact fun z => by cases z) with z | z
        · exact absurd (r.sep i q es e) z
        · rw [h2] at z
          cases z
    · rcases z with z | z | z
      · exact .inl (.inl (.inl z))
      · exact .inl (.inl (.inr z))
      · exact .inl (.inr z)
  refine ⟨A1, S.M, ds, _, _, rv.anti fun b z => ?_, r.memM fun b z => z, fun a z => ?_, h, fun d M' hq H' v k hm rp => ?_, fun cls ofs M' hx H' d k hm hd => ?_⟩
  · rcases z with (z | z) | z
    · exact .inl z
    · exact .inr (.inl z)
    · exact .inr (.inr z)
  · rcases z with z | ⟨i, es, z⟩
    · obtain ⟨h1, h2⟩ := r.a0 a z
      refine ⟨h1, ?_⟩
      cases e : S.M a with
      | none => rfl
      | some m => exact absurd (Or.inr (by rw [e]; exact fun q => by cases q)) h2
    · obtain ⟨_, ws, h2, _⟩ := r.own i a es z
      exact ⟨by rw [h2]; exact fun q => (by cases q), r.sep i a es z⟩
  · obtain ⟨r', k'⟩ := mk M' H' k hm
    refine p _ _ hq _ _ r' k' (.inl (rp.anti fun b z => ?_))
    rcases z with z | z | z
    · exact .inl (.inl z)
    · exact .inl (.inr z)
    · exact .inr z
  · obtain ⟨r', k'⟩ := mk M' H' k hm
    refine hX _ _ _ hx _ _ _ r' ?_
    cases ofs with
    | none => exact hd
    | some gs =>
      obtain ⟨a, fs, e1, e2, e3⟩ := hd
      refine ⟨a, fs, e1, e2, e3.kp ⟨fun _ _ z _ => z, fun b z => ?_⟩⟩
      rcases z with z | z | z
      · exact .inl (.inl (.inl z))
      · exact .inl (.inl (.inr z))
      · exact .inl (.inr z)
end
section
variable {X : Cx} {c : Cq} {k : Nat} {f : Addr} {fd : FuncData} {ps : List Str} {dc : DC} {dvs : List V} {dvs' : List Value} {dd : List Da} {x m : Str} {p pos apos : Pos} {e o : Expr} {es : List Expr} {wl wr : WA} {we : WE} {Xs : Value → Option (List (Str × Da)) → Sx → Prop} {W : WX}
theorem v_callD (F : FnOk X.prog X.w X.K X.mg X.base (L2.CX X.prog X.w) k f fd ps (spOf X.K dc)) (hr : Room k X.A) (hg : Gl X x) (hm : X.mg x = some (.ref f)) (hk : PySem.W.keepIn X.K (.ref f) = true) (hb : Binds X.K fd ps dvs') (hd : Vals dvs dvs') (hdd : ∀ A H, RpA X.K A H dvs dd)
    (tk : Takes X W) (hX : XOk X.K c Xs W) (ha : PA X (e :: es) (lA X.K c wl)) (hdb : (x == ("__debug__" : Str)) = false := by decide) (he : starEach (e :: es) X.env = (false, eval e X.env) :: starEach es X.env := by rfl) (hpl : (backTo pos (starEach es X.env)).any (·.1) = false := by rfl) :
    PE X (.Call (.Name x p) (e :: es) [] pos) (lE X.K c (wCall dc dd Xs wl)) := pe_imp (pe_callSD F hr hg hm hk hb hd (fun σ => passAt tk σ) ha hdb he hpl) fun σ H Q h => by
  obtain ⟨S, Qd, r, h, p⟩ := h
  exact ⟨S, _, r, h, fun ds S1 h1 H1 vs r1 k1 p1 => sp_call r1 (p1.append (hdd _ _)) h1 (p.at k1) hX⟩
theorem v_call (F : FnOk X.prog X.w X.K X.mg X.base (L2.CX X.prog X.w) k f fd ps (spOf X.K dc)) (hr : Room k X.A) (hg : Gl X x) (hm : X.mg x = some (.ref f)) (hk : PySem.W.keepIn X.K (.ref f) = true) (hb : Binds X.K fd ps [])
    (tk : Takes X W) (hX : XOk X.K c Xs W) (ha : PA X (e :: es) (lA X.K c wl)) (hdb : (x == ("__debug__" : Str)) = false := by decide) (he : starEach (e :: es) X.env = (false, eval e X.env) :: starEach es X.env := by rfl) (hpl : (backTo pos (starEach es X.env)).any (·.1) = false := by rfl) :
    PE X (.Call (.Name x p) (e :: es) [] pos) (lE X.K c (wCall dc [] Xs wl)) := v_callD F hr hg hm hk hb .nil (fun _ _ => .nil) tk hX ha hdb he hpl
/-! ### raise -/
def wRaise (cls : Value) (Xs : Value → Option (List (Str × Da)) → Sx → Prop) : WS := fun _ S => Xs cls none S
theorem s_raise {C : Addr} {bmB : List Value} {B newId initId : String} {msg : Str} {j : Nat} {p2 : Pos} (hc : X.calm = true) (tk : Takes X W) (hX : XOk X.K c Xs W) (F : ExcBaseFacts B newId initId bmB) (q : PySem.W.excIn X.K C bmB newId = true) (gC : X.mg x = some (.ref C)) (kC : PySem.W.keepIn X.K (.ref C) = true) (r : Raises X (.ref C)) (hg : Gl X x)
    (hdb : (x == ("__debug__" : Str)) = false := by decide) : PS X (.Raise (some (.Call (.Name x p) [.Constant (.str msg) j p2] [] apos)) none pos) (lS X.K c (wRaise (.ref C) Xs)) := ps_imp (ps_raise hc tk (pmk_own F q gC kC r hg hdb)) fun D σ H h => by
  obtain ⟨S, Dd, r, h, p⟩ := h
  exact hX _ _ _ h _ _ _ r rfl
end
/-! ### defs -/
section
variable {P : Program} {w : World} {K : PySem.W.Frag} {mg : Str → Option Value} {base : Heap}
theorem FnOk.cx {k : Nat} {f : Addr} {fd : FuncData} {ps : List Str} {sp : Sp} (F : FnOk P w K mg base CX0 k f fd ps sp) : FnOk P w K mg base (L2.CX P w) k f fd ps sp :=
  ⟨F.len, fun A outer s H args us vs Q E hr e0 hb hv h => codeAny_mono (F.run A outer s H args us vs Q E hr e0 hb hv h) fun r s' hq => by
    cases r with
    | error e => exact False.elim hq
    | ok fl => cases fl <;> first | exact hq | exact False.elim hq⟩
/-- .. that lets nothing out -/
theorem FnOk.c0 {k : Nat} {f : Addr} {fd : FuncData} {ps : List Str} {sp : Sp} (F : FnOk P w K mg base (L2.CX P w) k f fd ps sp) : FnOk P w K mg base CX0 k f fd ps (fun vs H Q _ => sp vs H Q E0) :=
  ⟨fun vs H Q E h => F.len vs H Q E0 h, fun A outer s H args us vs Q E hr e0 hb hv h => codeAny_mono (F.run A outer s H args us vs Q E0 hr e0 hb hv h) fun r s' hq => by
    cases r with
    | error e =>
      obtain ⟨_, _, _, _, _, _, _, _, _, _, _, _, z⟩ := hq
      exact z
    | ok fl => cases fl <;> first | exact hq | exact False.elim hq⟩
def startD (n : Nat) (ds : List Da) : List Slx := ds.map .val ++ List.replicate (n - ds.length) .no
theorem start_rel {c : Cq} {N : List Str} {vs : List V} {ds : List Da} {M : Mx} {H : Hp} (hn : c.n = N.length) (hl : vs.length ≤ N.length) (rp : RpA K (fun a => c.A0 a ∨ wM M a) H vs ds) (mem : Mem K c.A0 M H) (a0 : ∀ a, c.A0 a → H a ≠ none ∧ M a = none) (e1 : c.W0 = wM M) (e2 : c.H0 = H) :
    Rel K c ⟨startD N.length ds, M⟩ (L2.start N vs) H := by
  have l := rp.length
  have get : ∀ (i : Nat) (x : Slx), (startD N.length ds)[i]? = some x → x = .no ∨ ∃ d, x = .val d ∧ ds[i]? = some d := fun i x h => by
    unfold startD at h
    by_cases hi : i < (ds.map Slx.val).length
    · rw [List.getElem?_append_left hi, List.getElem?_map] at h
      cases q : ds[i]? with
      | none => rw [q] at h; cases h
      | some d => rw [q] at h; cases h; exact .inr ⟨d, rfl, rfl⟩
    · rw [List.getElem?_append_right (by omega), List.getElem?_replicate] at h
      split at h
      · cases h; exact .inl rfl
      · cases h
  have no : ∀ (i : Nat) (p : Addr) (es : List Da), (startD N.length ds)[i]? = some (Slx.own p es) → False := fun i p es h => by
    rcases get i _ h with z | ⟨d, z, _⟩ <;> cases z
  have sub : ∀ b, (Sx.W ⟨startD N.length ds, M⟩) b → wM M b := fun b z => by
    rcases z with ⟨i, es, z⟩ | z
    · exact (no i b es z).elim
    · exact z
  have subA : ∀ b, Sx.A ⟨startD N.length ds, M⟩ c b → c.A0 b ∨ wM M b := fun b z => z.imp id (sub b)
  refine ⟨?_, ?_, fun i d e => ?_, fun i p es e => (no i p es e).elim, fun i j p es es' h1 _ => (no i p es h1).elim, fun i p es e => (no i p es e).elim, fun a m e => (mem a m e).kp ⟨fun _ _ z _ => z, fun b z => .inl (subA b z)⟩ fun _ z => z, fun a z => ⟨(a0 a z).1, fun w => sub a w (a0 a z).2⟩, ?_⟩
  · unfold L2.start startD
    simp
    omega
  · unfold startD
    simp
    omega
  · rcases get i _ e with z | ⟨d', z, e'⟩
    · cases z
    · cases z
      obtain ⟨v, hv, rv⟩ := rp.get e'
      refine ⟨v, ?_, rv.anti subA⟩
      unfold L2.start
      have : i < vs.length := by
        rw [List.getElem?_eq_some_iff] at hv
        exact hv.1
      rw [List.getElem?_append_left (by simpa using this), List.getElem?_map, hv]
      rfl
  · rw [e1, e2]
    exact Kp.refl.sub sub
theorem okD {x qual : Str} {st : Stmt} {f : Addr} {fd : FuncData} {N ps : List Str} {k : Nat} {dc : DC} (F : Fun K x qual st f fd) (S : FnScope N ps (defScope st)) (hl : ∀ ds M Q X, dc ds M Q X → ds.length = ps.length)
    (hbody : ∀ (cdv : Value) (A : Around) (outer : List Env) (s : Shared) (H : Hp) (E : XK) (c : Cq) (ds : List Da) (M : Mx) (Qd : Da → Mx → Prop) (Xd : DX), c.n = N.length → Room k (A.deeper (envOfC qual (defScope st) s.heap.objs.size f cdv)) → dc ds M Qd Xd →
      XOk K c (fun cls ofs S' => Xd cls ofs S'.M) (fun cls d _ H' => E cls d H') →
      ∃ wb : WS, PSs (cxOf (L2.CX P w) P w K mg base N qual (defScope st) f cdv A outer s H E) (defBody st) (lS K c wb) ∧ wb { nx := fun S' => Qd .n S'.M, rt := fun d S' => Qd d S'.M } ⟨startD N.length ds, M⟩) :
    FnOk P w K mg base (L2.CX P w) (k + 1) f fd ps (spOf K dc) := by
  refine F.okX S (fun vs H Q E h => ?_) (fun cdv A outer s H vs Q E hr h => ?_)
  · obtain ⟨A0, M, ds, Qd, Xd, rp, _, _, hd, _⟩ := h
    rw [rp.length]
    exact hl _ _ _ _ hd
  obtain ⟨A0, M, ds, Qd, Xd, rp, mem, a0, hd, hQ, hE⟩ := h
  have hpl : ps.length ≤ N.length := by have := congrArg List.length S.pre; rw [List.length_take] at this; omega
  let c : Cq := ⟨A0, wM M, H, N.length⟩
  have done : ∀ {S' : Sx} {σ' : L2.St} {H' : Hp}, Rel K c S' σ' H' → Kp (wM M) (wM S'.M) H H' ∧ Mem K A0 S'.M H' ∧ ∀ b, (A0 b ∨ wM S'.M b) → S'.A c b := fun r => by
    refine ⟨r.kp.sub fun b z => .inr z, r.memM fun b z => .inl z, fun b z => z.imp id .inr⟩
  obtain ⟨wb, h1, h2⟩ := hbody cdv A outer s H E c ds M Qd Xd rfl hr hd fun cls ofs S' hx σ' H' d r hd' => by
    obtain ⟨k1, m1, s1⟩ := done r
    refine hE cls ofs S'.M hx H' d k1 m1 ?_
    cases ofs with
    | none => exact hd'
    | some gs =>
      obtain ⟨a, fs, e1, e2, e3⟩ := hd'
      exact ⟨a, fs, e1, e2, e3.kp ⟨fun _ _ z _ => z, fun b z => .inl (s1 b z)⟩⟩
  refine ⟨lS K c wb, h1, _, _, start_rel (c := c) rfl (by rw [rp.length, hl _ _ _ _ hd]; exact hpl) rp mem a0 rfl rfl, h2, ⟨fun S' hq σ' H' r _ => ?_, fun d S' hq σ' H' v r _ rv => ?_, fun _ h => h.elim, fun _ h => h.elim⟩⟩
  · obtain ⟨k1, m1, s1⟩ := done r
    exact hQ _ _ hq _ _ k1 m1 .n
  · obtain ⟨k1, m1, s1⟩ := done r
    exact hQ _ _ hq _ _ k1 m1 (rv.anti s1)
end
end VL
set_option Elab.async false
set_option linter.all false
set_option maxRecDepth 100000
set_option maxHeartbeats 1000000
namespace VL
open PySem PySem.Spec PyProof.Rows L2
/-! ### isinstance -/
structure Tab where
  n : Bool
  b : Bool
  i : Bool
  s : Bool
  t : Bool
  l : Bool
  d : Bool
structure IsiT (T : String) (tab : Tab) : Prop where
  n : kitB "NoneType" T = some tab.n
  b : kitB "bool" T = some tab.b
  i : kitB "int" T = some tab.i
  s : kitB "str" T = some tab.s
  t : kitB "tuple" T = some tab.t
  l : kitB "list" T = some tab.l
  d : kitB "dict" T = some tab.d
theorem isi_tuple : IsiT "tuple" ⟨false, false, false, false, true, false, false⟩ := ⟨by decide +kernel, by decide +kernel, by decide +kernel, by decide +kernel, by decide +kernel, by decide +kernel, by decide +kernel⟩
theorem isi_int : IsiT "int" ⟨false, true, true, false, false, false, false⟩ := ⟨by decide +kernel, by decide +kernel, by decide +kernel, by decide +kernel, by decide +kernel, by decide +kernel, by decide +kernel⟩
theorem isi_bool : IsiT "bool" ⟨false, true, false, false, false, false, false⟩ := ⟨by decide +kernel, by decide +kernel, by decide +kernel, by decide +kernel, by decide +kernel, by decide +kernel, by decide +kernel⟩
theorem isi_str : IsiT "str" ⟨false, false, false, true, false, false, false⟩ := ⟨by decide +kernel, by decide +kernel, by decide +kernel, by decide +kernel, by decide +kernel, by decide +kernel, by decide +kernel⟩
theorem isi_list : IsiT "list" ⟨false, false, false, false, false, true, false⟩ := ⟨by decide +kernel, by decide +kernel, by decide +kernel, by decide +kernel, by decide +kernel, by decide +kernel, by decide +kernel⟩
theorem isi_dict : IsiT "dict" ⟨false, false, false, false, false, false, true⟩ := ⟨by decide +kernel, by decide +kernel, by decide +kernel, by decide +kernel, by decide +kernel, by decide +kernel, by decide +kernel⟩
def isiD (tab : Tab) (d : Da) (Q : Bool → Prop) : Prop := match d with
  | .n => Q tab.n
  | .b _ => Q tab.b
  | .i _ => Q tab.i
  | .s _ => Q tab.s
  | .t _ => Q tab.t
  | .l _ => Q tab.l
  | .dk _ => Q tab.d
  | _ => False
def wIsi (tab : Tab) (we : WE) : WE := fun S Q => we S fun d S' => isiD tab d fun b => Q (.b b) S'
theorem sqt_ty {K : PySem.W.Frag} {H : Hp} {a : Addr} {vs : List V} (h : SqT K H a vs) : TyX K H (.ref a) (.type "tuple") := by
  rcases h with (h | ⟨o, h⟩) | ⟨o, its, n, h, c, _⟩
  · exact .base (.tup h)
  · exact .fTuple h
  · exact .kTuple h c
section
variable {X : Cx} {c : Cq} {pos p p2 apos : Pos} {e a b : Expr} {es rest : List Expr} {we wa wb : WE} {wt wu : WT} {wl wr : WA} {x y : Str}
theorem v_isi {T : String} {tab : Tab} (I : IsiT T tab) (hg : Gl X "isinstance") (hm : X.mg "isinstance" = none) (hgT : Gl X x) (hmT : X.mg x = none) (hvT : bootBuiltins x = some (.type T)) (he : PE X e (lE X.K c we)) (hn : x ≠ "__name__" := by decide) (hdb : (x == ("__debug__" : Str)) = false := by decide)
    (hs : starEach [e, .Name x p2] X.env = (false, eval e X.env) :: starEach [.Name x p2] X.env := by rfl) (hs2 : starEach [.Name x p2] X.env = (false, eval (.Name x p2) X.env) :: starEach [] X.env := by rfl) (hpl : (backTo pos (starEach [.Name x p2] X.env)).any (·.1) = false := by rfl)
    (hv : bootBuiltins "isinstance" = some (.builtin "isinstance") := by decide +kernel) : PE X (.Call (.Name "isinstance" p) [e, .Name x p2] [] pos) (lE X.K c (wIsi tab we)) :=
  pe_imp (pe_callB call_isi hg hm hv (pa_cons he (pa_cons (pe_bltn (v := .ty T) hgT hmT hvT rfl hn hdb) pa_nil hs2) hs) (by decide) (by decide) hs hpl) fun σ H Q h => by
  obtain ⟨S, Qd, r, h, q⟩ := h
  refine ⟨S, _, r, h, fun d S1 h1 H1 v r1 k1 p1 => ?_⟩
  have go : ∀ {A : String} {bb : Bool}, TyX X.K H1 v (.type A) → kitB A T = some bb → Qd (.b bb) S1 → rIsi X.K [v, .ty T] H1 Q := fun ty kb hq => ⟨v, _, _, _, _, rfl, .ty T, ty, kit_ty kb, q _ _ hq _ _ r1 k1 (.inl (.b _))⟩
  cases d with
  | n => exact go (by rw [rs_n p1]; exact .base .non) I.n h1
  | b z => exact go (by rw [rs_b p1]; exact .base (.bl z)) I.b h1
  | i z => exact go (by rw [rs_i p1]; exact .base (.int z)) I.i h1
  | s z => exact go (by rw [rs_s p1]; exact .base (.str z)) I.s h1
  | t ds =>
    obtain ⟨w, vs, rfl, g1, g2⟩ := tup_ok p1
    exact go (sqt_ty g1) I.t h1
  | l ds =>
    cases p1.pure rfl with
    | l g1 g2 g3 => exact go (.base (.lst g1)) I.l h1
  | dk ds =>
    cases p1.pure rfl with
    | dk g1 g2 g3 => exact go (.base (.dK g1)) I.d h1
  | _ => exact h1.elim
/-! ### built-ins of several arguments -/
def wArg (rd : List Da → Sx → (Da → Sx → Prop) → Prop) (wl : WA) : WE := fun S Q => wl S fun ds S' => rd ds S' Q
def AL (K : PySem.W.Frag) (c : Cq) (r : List V → Hp → VK → Prop) (rd : List Da → Sx → (Da → Sx → Prop) → Prop) : Prop := ∀ σ H S vs ds Qd Q, Rel K c S σ H → RpA K (S.A c) H vs ds → rd ds S Qd → Pst K c S σ H Qd Q → r vs H Q
theorem v_cb {id : String} {r : List V → Hp → VK → Prop} {rd : List Da → Sx → (Da → Sx → Prop) → Prop} (hc : CallR X (.builtin id) r) (L : AL X.K c r rd) (hg : Gl X x) (hm : X.mg x = none) (hv : bootBuiltins x = some (.builtin id)) (ha : PA X (e :: es) (lA X.K c wl)) (hn : x ≠ "__name__" := by decide) (hdb : (x == ("__debug__" : Str)) = false := by decide)
    (he : starEach (e :: es) X.env = (false, eval e X.env) :: starEach es X.env := by rfl) (hpl : (backTo pos (starEach es X.env)).any (·.1) = false := by rfl) : PE X (.Call (.Name x p) (e :: es) [] pos) (lE X.K c (wArg rd wl)) :=
  pe_imp (pe_callB hc hg hm hv ha hn hdb he hpl) fun σ H Q h => by
  obtain ⟨S, Qd, r, h, q⟩ := h
  exact ⟨S, _, r, h, fun ds S1 h1 H1 vs r1 k1 p1 => L σ H1 S1 vs ds Qd Q r1 p1 h1 (q.at k1)⟩
def rd2I (g : Int → Int → Int) : List Da → Sx → (Da → Sx → Prop) → Prop := fun ds S Q => match ds with
  | [.i i, .i j] => Q (.i (g i j)) S
  | _ => False
theorem l2I {K : PySem.W.Frag} {g : Int → Int → Int} : AL K c (fun xs H Q => ∃ i j, xs = [.int i, .int j] ∧ Q (.int (g i j)) H) (rd2I g) := fun σ H S vs ds Qd Q r rp h p => by
  unfold rd2I at h
  split at h
  · cases rp with
    | cons h1 h2 =>
      cases h2 with
      | cons h3 h4 =>
        cases h4
        cases h1
        cases h3
        exact ⟨_, _, rfl, p _ _ h _ _ r .refl (.inl (.i _))⟩
  · exact h.elim
theorem lMin {K : PySem.W.Frag} : AL K c (fun xs H Q => ∃ i j : Int, xs = [.int i, .int j] ∧ Q (.int (if j < i then j else i)) H) (rd2I fun i j => if j < i then j else i) := l2I
theorem lMax {K : PySem.W.Frag} : AL K c (fun xs H Q => ∃ i j : Int, xs = [.int i, .int j] ∧ Q (.int (if j > i then j else i)) H) (rd2I fun i j => if j > i then j else i) := l2I
/-! ### new lists -/
def wList (we : WE) : WA := fun S Q => we S fun d S' => ∃ ds, S'.sq d = some ds ∧ ds.length ≤ sizeLine ∧ Q ds S'
theorem v_list (hg : Gl X x) (hm : X.mg x = none) (hv : bootBuiltins x = some (.type "list")) (he : PE X e (lE X.K c we)) (hs : starEach [e] X.env = (false, eval e X.env) :: starEach [] X.env := by rfl)
    (hn : x ≠ "__name__" := by decide) (hdb : (x == ("__debug__" : Str)) = false := by decide) (hpl : (backTo pos (starEach [] X.env)).any (·.1) = false := by rfl) : PE X (.Call (.Name x p) [e] [] pos) (lL X.K c (wList we)) :=
  pe_imp (pe_callTy call_list_of hg hm hv (pa_cons he pa_nil hs) hn hdb hs hpl) fun σ H Q h => by
  obtain ⟨S, Qd, r, h, q⟩ := h
  refine ⟨S, _, r, h, fun d S1 h1 H1 v r1 k1 p1 => ?_⟩
  obtain ⟨ds, e1, hz, h2⟩ := h1
  obtain ⟨w, vs, rfl, g1, g2⟩ := sq_ok r1 p1 e1
  exact ⟨w, vs, rfl, g1, fun l nl => q _ _ h2 _ _ _ r1 k1 nl g2 hz⟩
def wCatL (wa wb : WE) : WA := fun S Q => wa S fun x S1 => wb S1 fun y S2 => ∃ ds es, S2.lst x = some ds ∧ S2.lst y = some es ∧ ds.length + es.length ≤ sizeLine ∧ Q (ds ++ es) S2
theorem v_catL (ha : PE X a (lE X.K c wa)) (hb : PE X b (lE X.K c wb)) : PE X (.BinOp a .Add b pos) (lL X.K c (wCatL wa wb)) := pe_imp (pe_op op_cat ha hb) fun σ H Q h => by
  obtain ⟨S, Qd, r, h, q⟩ := h
  refine ⟨S, _, r, h, fun x S1 h1 H1 v1 r1 k1 p1 => ⟨S1, _, r1, h1, fun y S2 h2 H2 v2 r2 k2 p2 => ?_⟩⟩
  obtain ⟨ds, es, e1, e2, hz, h3⟩ := h2
  obtain ⟨w1, vs1, rfl, g1, g2⟩ := lst_ok r2 (p1.kp (kA k2)) e1
  obtain ⟨w2, vs2, rfl, g3, g4⟩ := lst_ok r2 p2 e2
  exact ⟨w1, w2, vs1, vs2, rfl, rfl, g1, g3, by rw [g2.length, g4.length]; exact hz, fun l nl => q _ _ h3 _ _ _ r2 (k1.trans k2) nl (g2.append g4) (by rw [List.length_append]; exact hz)⟩
/-- x = [..], not changed any more -/
theorem s_valLc {i : Nat} {py spos : Pos} {elt tg iter : Expr} {ifs : List Expr} {scope : Scope} {own : List (Str × Nat)} {wi : WI} {g : TG} {wg : WG} {is : List Nat} (hc : X.calm = true) (hN : X.N.Nodup) (hy : X.N[i]? = some y) (hyl : X.env.scope.names.lookup y = some .local) (hn : i < c.n)
    (hsw : swapsWith (.ListComp elt [⟨tg, iter, ifs, 0⟩] scope pos) (some (.Name y py)) spos.line X.env = pure true) (hi : PI X tg iter (lWk X.K c wi)) (ok : BlkOk X.N X.env.scope scope own)
    (L : ∀ c' : Cq, c'.n = c.n → LG X.K c' g wg is) (hg : ∀ (s : Shared) (H : Hp) (C : Addr) (cl : List (Str × Addr)) (fp : List Addr), PG (X.blk s H scope (compEnvC scope cl C X.env) fp) tg g)
    (ht : ∀ (s : Shared) (H : Hp) (C : Addr) (cl : List (Str × Addr)) (fp : List Addr) (c' : Cq), c'.n = c.n → PTs (X.blk s H scope (compEnvC scope cl C X.env) fp) ifs (lT X.K c' wt))
    (he : ∀ (s : Shared) (H : Hp) (C : Addr) (cl : List (Str × Addr)) (fp : List Addr) (c' : Cq), c'.n = c.n → PE (X.blk s H scope (compEnvC scope cl C X.env) fp) elt (lE X.K c' we))
    (hv : ∀ i ∈ is, i ∈ own.map (·.2)) (hs : ∀ x, foldedSetIterable iter X.env x = pure x := by intro _; rfl) : PS X (.Assign [.Name y py] (.ListComp elt [⟨tg, iter, ifs, 0⟩] scope pos) spos) (lS X.K c (wSet i (wOf (wLc wi wg wt we (own.map (·.2)))))) :=
  ps_imp (ps_setLc (i := i) (tt := fun σ H Q => ∃ c' : Cq, c'.n = c.n ∧ lT X.K c' wt σ H Q) (te := fun σ H Q => ∃ c' : Cq, c'.n = c.n ∧ lE X.K c' we σ H Q) hc hN hy hyl hsw hi ok hg
    (fun s H C cl fp => ⟨fun pins s' σ H' Q I ⟨c', hc', h⟩ => (ht s H C cl fp c' hc').run pins s' σ H' Q I h⟩)
    (fun s H C cl fp => ⟨fun pins s' σ H' Q I ⟨c', hc', h⟩ => (he s H C cl fp c' hc').run pins s' σ H' Q I h⟩) hs)
    (lset hn fun σ H Q h => llc L hv (fun c' e _ _ _ h => ⟨c', e, h⟩) (fun c' e _ _ _ h => ⟨c', e, h⟩) σ H Q (by
      obtain ⟨S, Qd, r, h, q⟩ := h
      refine ⟨S, _, r, h, fun ds S1 h1 H1 w vs r1 k1 nw p1 _ => ?_⟩
      obtain ⟨r2, k2, nA⟩ := r1.alloc (o := .lst vs) nw
      exact q _ _ h1 _ _ r2 (k1.trans k2) (.inl (.l upd_same nA (p1.kp (kA k2))))))
/-! ### a list of one's own is handed out, to be changed by others -/
def wSh (we : WE) : WE := fun S Q => we S fun d S' => match d with
  | .o i => match S'.ρ[i]? with
    | some (.own q ds) => Q (.r q) ⟨S'.ρ.set i (.val (.r q)), updM S'.M q (.lst ds)⟩
    | _ => False
  | _ => False
theorem Rel.share {K : PySem.W.Frag} {S : Sx} {σ : L2.St} {H : Hp} (r : Rel K c S σ H) {i : Nat} {q : Addr} {ds : List Da} (e : S.ρ[i]? = some (Slx.own q ds)) :
    Rel K c ⟨S.ρ.set i (.val (.r q)), VL.updM S.M q (.lst ds)⟩ σ H ∧ Kp S.W (Sx.W ⟨S.ρ.set i (.val (.r q)), VL.updM S.M q (.lst ds)⟩) H H := by
  obtain ⟨hσ, ws, hq, hw⟩ := r.own i q ds e
  have sub : ∀ b, (Sx.W ⟨S.ρ.set i (.val (.r q)), VL.updM S.M q (.lst ds)⟩) b → S.W b := fun b z => by
    rcases z with ⟨j, es, z⟩ | z
    · rcases get_set z with ⟨_, z⟩ | ⟨_, z⟩
      · cases z
      · exact .inl ⟨j, es, z⟩
    · by_cases hb : b = q
      · subst hb
        exact .inl ⟨i, ds, e⟩
      · have z' : VL.updM S.M q (.lst ds) b ≠ none := z
        rw [updM_ne hb] at z'
        exact .inr z'
  have k : Kp S.W (Sx.W ⟨S.ρ.set i (.val (.r q)), VL.updM S.M q (.lst ds)⟩) H H := Kp.refl.sub sub
  refine ⟨r.next k (by simp [r.len]) (by simp) (fun j d he => ?_) (fun j b es he => ?_) (fun j j' b es es' h1 h2 => ?_) (fun j b es he => ?_) (fun b m em => ?_), k⟩
  · rcases get_set he with ⟨rfl, z⟩ | ⟨ne, z⟩
    · cases z
      exact ⟨_, hσ, .r q⟩
    · obtain ⟨v, h1, h2⟩ := r.val j d z
      exact ⟨v, h1, h2.kp (kA k)⟩
  · rcases get_set he with ⟨rfl, z⟩ | ⟨ne, z⟩
    · cases z
    · obtain ⟨h1, vs, h2, h3⟩ := r.own j b es z
      exact ⟨h1, vs, h2, h3.kp (kA k)⟩
  · rcases get_set h1 with ⟨rfl, z⟩ | ⟨ne, z⟩
    · cases z
    · rcases get_set h2 with ⟨rfl, z'⟩ | ⟨ne', z'⟩
      · cases z'
      · exact r.inj j j' b es es' z z'
  · rcases get_set he with ⟨rfl, z⟩ | ⟨ne, z⟩
    · cases z
    · have hb : b ≠ q := fun hb => by
        subst hb
        exact ne (r.inj i j b ds es e z)
      show VL.updM S.M q (.lst ds) b = none
      rw [updM_ne hb]
      exact r.sep j b es z
  · by_cases hb : b = q
    · subst hb
      have em' : VL.updM S.M b (.lst ds) b = some m := em
      rw [updM_same] at em'
      cases em'
      exact ⟨ws, hq, hw.kp (kA k)⟩
    · have em' : VL.updM S.M q (.lst ds) b = some m := em
      rw [updM_ne hb] at em'
      exact (r.mem b m em').kp (kA k) fun _ z => z
theorem vSh (h : PE X e (lE X.K c we)) : PE X e (lE X.K c (wSh we)) := pe_imp h fun σ H Q h => by
  obtain ⟨S, Qd, r, h, p⟩ := h
  refine ⟨S, _, r, h, fun d S1 h1 H1 v r1 k1 p1 => ?_⟩
  split at h1
  · rename_i i
    split at h1
    · rename_i q ds e
      obtain ⟨r2, k2⟩ := r1.share e
      have : v = .ref q := by
        rcases p1 with p1 | ⟨j, e1, e2⟩
        · cases p1
        · cases e1
          rw [(r1.own _ _ _ e).1] at e2
          cases e2
          rfl
      subst this
      exact p _ _ h1 _ _ r2 (k1.trans k2) (.inl (.r _))
    · exact h1.elim
  · exact h1.elim
/-! ### minus, unpacking -/
def rdNeg : RU := fun d S Q => match d with
  | .i k => Q (.i (-k)) S
  | _ => False
theorem v_neg (ha : PE X a (lE X.K c wa)) : PE X (.UnaryOp .USub a pos) (lE X.K c (wUn rdNeg wa)) := pe_imp (pe_un un_neg ha) (lun fun σ H S x d Qd Q r rx h p => by
  cases d <;> try exact h.elim
  exact ⟨_, rs_i rx, p _ _ h _ _ r .refl (.inl (.i _))⟩)
theorem lenN {i n : Nat} {wr : List Da → Sx → (Sx → Prop) → Prop} (h : ∀ ds S Q, wr ds S Q → ds.length = n) : ∀ ds S Q, wgCons (wgN i) wr ds S Q → ds.length = n + 1 := fun ds S Q z => by
  cases ds with
  | nil => exact z.elim
  | cons d r => rw [List.length_cons, h r _ _ z]
def wAsg (we : WE) (wg : WG) : WS := fun D S => we S fun d S' => d.isO = false ∧ wg d S' D.nx
theorem s_asg {tg : Expr} {g : TG} {wg : WG} {is : List Nat} (he : PE X e (lE X.K c we)) (hg : PG X tg g) (L : LG X.K c g wg is) (hs : swapsWithSole [tg] e pos.line X.env = pure false := by rfl) (hw : swappedStores [tg] e X.env = pure none := by rfl)
    (h1 : (assignEach [tg] X.env).map (·.2) = [assign tg X.env] := by rfl) : PS X (.Assign [tg] e pos) (lS X.K c (wAsg we wg)) := ps_imp (ps_asg he hg hs hw h1) fun D σ H h => by
  obtain ⟨S, Dd, r, h, p⟩ := h
  refine ⟨S, _, r, h, fun d S1 h1 H1 v r1 k1 p1 => ?_⟩
  exact L.run v d S1 σ H1 _ _ r1 (p1.pure h1.1) h1.2 fun S2 σ2 h2 r2 k2 _ _ => p.nx _ h2 _ _ r2 (k1.trans k2)
end
end VL
set_option Elab.async false
set_option linter.all false
set_option maxRecDepth 100000
set_option maxHeartbeats 1000000
namespace VL
open PySem PySem.Spec PyProof.Rows
/-! ### t[::-1], t[:0:-1] -/
theorem pick_back {α : Type} (xs : List α) : ∀ k, k ≤ xs.length → (List.range k).filterMap (fun m => xs[xs.length - 1 - m]?) = (xs.drop (xs.length - k)).reverse
  | 0, _ => by simp
  | k + 1, h => by
    have hlt : xs.length - (k + 1) < xs.length := by omega
    rw [List.range_succ, List.filterMap_append, pick_back xs k (by omega), List.drop_eq_getElem_cons hlt, List.reverse_cons, show xs.length - (k + 1) + 1 = xs.length - k by omega]
    congr 1
    have e : xs.length - 1 - k = xs.length - (k + 1) := by omega
    rw [List.filterMap_cons, e, List.getElem?_eq_getElem hlt]
    rfl
theorem filterMap_same {α β : Type} {f g : α → Option β} : ∀ {l : List α}, (∀ x ∈ l, f x = g x) → l.filterMap f = l.filterMap g
  | [], _ => rfl
  | x :: r, h => by
    rw [List.filterMap_cons, List.filterMap_cons, h x (by simp), filterMap_same fun y hy => h y (by simp [hy])]
/-- how many items of n are walked down: all, or all but the first -/
def downN (b : Bool) (n : Nat) : Nat := if b then n - 1 else n
def downHi (b : Bool) : Option Int := if b then some 0 else none
theorem adjust_down (b : Bool) (n : Nat) : Builtin.Slice.sliceAdjust none (downHi b) (-1) (n : Int) = ((n : Int) - 1, if b then min 0 ((n : Int) - 1) else -1) := by
  cases b <;> rfl
theorem places_down (b : Bool) (n : Nat) : Builtin.Slice.slicePlaces ((n : Int) - 1) (if b then min 0 ((n : Int) - 1) else -1) (-1) = downN b n := by
  have e : (- (-1 : Int)) = 1 := by decide
  cases b
  · show Builtin.Slice.slicePlaces ((n : Int) - 1) (-1) (-1) = n
    unfold Builtin.Slice.slicePlaces
    rw [if_neg (by decide), e]
    simp only [Int.ediv_one]
    split <;> omega
  · show Builtin.Slice.slicePlaces ((n : Int) - 1) (min 0 ((n : Int) - 1)) (-1) = n - 1
    unfold Builtin.Slice.slicePlaces
    rw [if_neg (by decide), e]
    simp only [Int.ediv_one]
    split <;> omega
section
variable {prog : Program} {w : World} {A : Around} {E : Value → Shared → Prop} {s : Shared}
theorem applied_down {sl : Addr} {vu vs : Value} {b : Bool} {n : Nat} {Q : Int × Int × Nat → Shared → Prop} (hs : s.heap.IsSliceOf sl .none vu vs) (pu : IsPart vu (downHi b)) (ps : IsPart vs (some (-1))) (h : Q ((n : Int) - 1, -1, downN b n) s) :
    wpAny (model prog w) A (Builtin.Slice.sliceApplied (.ref sl) (pure (n : Int))) Q E s := by
  obtain ⟨os, g1, g2, g3⟩ := id hs
  unfold Builtin.Slice.sliceApplied Builtin.Slice.sliceFields
  refine wpAny_bind (wpAny_bind (wpAny_field g1 g3 (x := .none) rfl (wpAny_bind (wpAny_field g1 g3 (x := vu) rfl (wpAny_bind (wpAny_field g1 g3 (x := vs) rfl (wpAny_pure ?_)))))))
  refine wpAny_bind (HT.slicePart_ ps ?_)
  show wpAny (model prog w) A (if ((-1 : Int) == 0) = true then _ else _) Q E s
  rw [if_neg (show ¬ ((-1 : Int) == 0) = true by decide)]
  refine wpAny_bind (HT.slicePart_ .none (wpAny_bind (HT.slicePart_ pu (wpAny_bind (wpAny_pure ?_)))))
  show wpAny (model prog w) A (match Builtin.Slice.sliceAdjust none (downHi b) (-1) (n : Int) with | (lo, hi) => pure (lo, (-1 : Int), Builtin.Slice.slicePlaces lo hi (-1))) Q E s
  rw [adjust_down]
  show wpAny (model prog w) A (pure ((n : Int) - 1, (-1 : Int), Builtin.Slice.slicePlaces ((n : Int) - 1) (if b then min 0 ((n : Int) - 1) else -1) (-1))) Q E s
  rw [places_down]
  exact wpAny_pure h
theorem item_down {t sl : Addr} {items : Array Value} {vu vs : Value} {b : Bool} {Q : Value → Shared → Prop} (ht : IsTup s.heap t items) (hs : s.heap.IsSliceOf sl .none vu vs) (pu : IsPart vu (downHi b)) (ps : IsPart vs (some (-1)))
    (h : Q (.ref s.heap.objs.size) { s with heap := s.heap.push { cls := .type "tuple", data := .seq ((items.toList.drop (items.size - downN b items.size)).reverse).toArray } }) (hsz : items.size ≤ sizeLine) :
    wpAny (model prog w) A (getItem (.ref t) (.ref sl)) Q E s := by
  have hle : downN b items.size ≤ items.size := by cases b <;> simp [downN]
  have hfit : sizeOk (.seq ((items.toList.drop (items.size - downN b items.size)).reverse).toArray) := by
    show ((items.toList.drop (items.size - downN b items.size)).reverse).toArray.size ≤ sizeLine
    rw [List.size_toArray, List.length_reverse, List.length_drop, Array.length_toList]
    omega
  obtain ⟨os, g1, g2, g3⟩ := id hs
  have ty : s.TypeIs (.ref sl) "slice" := ⟨os, g1, g2⟩
  unfold getItem
  refine wpAny_holding ?_
  refine wpAny_bind (wpAny_sequenceKey ht.typeIs (by decide) (wpAny_bind (wpAny_callSpecial?_slot (name := Str.ofString "__getitem__") ht.typeIs slot_tuple_getitem (wpAny_call_entry slot_tuple_getitem ht.typeIs entry_tuple_getitem ?_ (args_tuple_getitem _ _)))))
  show wpAny (model prog w) A.in1 (Builtin.Tuple.tupleItemsOf (.ref t) >>= _) _ _ s
  refine wpAny_bind (tupleItemsOf_ ht (wpAny_bind (wpAny_typeOf ty ?_)))
  rw [if_pos (show (Value.type "slice" == Value.type "slice") = true by decide)]
  refine wpAny_bind (applied_down hs pu ps ?_)
  have hno : ¬ ((((items.size : Int) - 1) == 0 && (-1 : Int) == 1 && downN b items.size == items.size) = true) := by
    rw [show ((-1 : Int) == 1) = false by decide]
    simp
  show wpAny (model prog w) A.in1 (if (((items.size : Int) - 1) == 0 && (-1 : Int) == 1 && downN b items.size == items.size) = true then _ else _) _ _ s
  rw [if_neg hno]
  have pk : ((List.range (downN b items.size)).filterMap fun (m : Nat) => items[(((items.size : Int) - 1) + (m : Int) * (-1)).toNat]?).toArray = ((items.toList.drop (items.size - downN b items.size)).reverse).toArray := by
    congr 1
    have := pick_back items.toList (downN b items.size) (by rw [Array.length_toList]; exact hle)
    rw [Array.length_toList] at this
    rw [← this]
    refine filterMap_same fun m hm => ?_
    have hm' := List.mem_range.mp hm
    rw [show (((items.size : Int) - 1) + (m : Int) * (-1)).toNat = items.size - 1 - m by omega, Array.getElem?_toList]
  rw [pk]
  exact wpAny_bind (m := Builtin.Tuple.tupleExact _) (wpAny_newObj_type (wpAny_bind (wpAny_pure (wpAny_pure ⟨_, rfl, wpAny_pure h⟩))) hfit)
end
end VL
namespace VL
open PySem PySem.Spec PyProof.Rows L2
section
variable {X : Cx} {c : Cq} {pos p p2 apos : Pos} {e a b : Expr} {we wa wb : WE}
/-- the items from the end -/
def cutR {α : Type} (b : Bool) (xs : List α) : List α := (xs.drop (xs.length - downN b xs.length)).reverse
theorem cutR_length {α : Type} (b : Bool) (xs : List α) : (cutR b xs).length ≤ xs.length := by
  unfold cutR
  rw [List.length_reverse, List.length_drop]
  omega
theorem vals_rev {xs : List V} {us : List Value} (h : Vals xs us) : Vals xs.reverse us.reverse := by
  induction h with
  | nil => exact .nil
  | cons r t ih =>
    rw [List.reverse_cons, List.reverse_cons]
    exact ih.append (.cons r .nil)
theorem vals_cutR {b : Bool} {xs : List V} {us : List Value} (h : Vals xs us) : Vals (cutR b xs) (cutR b us) := by
  unfold cutR
  rw [h.length]
  exact vals_rev (h.drop _)
/-- t[::-1], t[:0:-1] of a tuple, by values -/
def tDown (K : PySem.W.Frag) (b : Bool) (te : TE) : TE := fun σ H Q => te σ H fun x H1 => ∃ a xs, x = .ref a ∧ SqT K H1 a xs ∧ ∀ p, H1 p = none → Q (.ref p) (upd H1 p (.tup (cutR b xs)))
theorem pe_down {hi : Option Expr} {st : Expr} {te : TE} {bb : Bool} (ops : Value → Value → List Value) (hsub : ∀ v u, subscripted (.Slice none hi (some st) p2) false v u = operate (ops v u) (getItem v u)) (he : PE X e te) (hu : PO X hi (fun _ H Q => Q (downHi bb) H)) (hst : PO X (some st) (fun _ H Q => Q (some (-1)) H)) : PE X (.Subscript e (.Slice none hi (some st) p2) pos) (tDown X.K bb te) := by
  refine ⟨fun pins s σ H Q I h => ?_⟩
  refine Subscript_ (thn (he.run pins s σ H _ I h) fun v s1 ⟨x, H1, I1, r1, a, xs, ex, hx, q1⟩ => ?_)
  subst ex
  cases r1
  refine wpAny_Slice ?_
  rw [evalPart_none]
  refine wpAny_pure (thn (hu.run pins s1 σ H1 (fun o H' => o = downHi bb ∧ H' = H1) I1 ⟨rfl, rfl⟩) fun vu s3 ⟨u, H3, I3, pu, eu, eH3⟩ => thn (hst.run pins s3 σ H3 (fun o H' => o = some (-1) ∧ H' = H3) I3 ⟨rfl, rfl⟩) fun vs s4 ⟨u', H4, I4, ps, eu', eH4⟩ => ?_)
  subst eu eu' eH4 eH3
  have I5 : L2.Inv X pins σ H4 { s4 with heap := s4.heap.push { cls := .type "slice", data := .fields #[.none, vu, vs] } } := I4.kept (t' := s4.toks) fun b ob q => Heap.get?_push_of_some _ q
  obtain ⟨its, r, ht, hz⟩ := I5.tuple hx
  have hlen : its.toArray.size = xs.length := by rw [List.size_toArray]; exact r.length.symm
  show wpAny (model X.prog X.w) X.A (subscriptTail e (.Slice none hi (some st) p2) (.ref a) (.ref s4.heap.objs.size)) (EP X pins σ Q) X.xe { s4 with heap := s4.heap.push { cls := .type "slice", data := .fields #[.none, vu, vs] } }
  refine tail_any (ops := ops (.ref a) (.ref s4.heap.objs.size)) ht.typeIs slot_tuple_getitem.lookup ?_ (hsub _ _)
  refine item_down ht (Heap.IsSliceOf.new ..) pu ps ?_ (by rw [hlen]; exact hz)
  refine ⟨.ref _, _, I5.laid (o := .tup (cutR bb xs)) (fun b ob q => Heap.get?_push_of_some _ q) (Nat.le_refl _) ?_, rfl, q1 _ (I5.hok.fresh (Nat.le_refl _))⟩
  refine ⟨Nat.le_trans (cutR_length bb xs) hz, cutR bb its, vals_cutR r, ?_⟩
  have : ((its.toArray.toList.drop (its.toArray.size - downN bb its.toArray.size)).reverse) = cutR bb its := by
    unfold cutR
    rw [List.size_toArray]
  rw [this]
  exact IsTup.new _ _
theorem po_m1 {j : Nat} {q1 q2 : Pos} : PO X (some (.UnaryOp .USub (.Constant (.int 1) j q1) q2)) (fun _ H Q => Q (some (-1)) H) := po_imp (po_some (pe_un un_neg pe_int)) fun σ H Q h => ⟨1, rfl, -1, rfl, h⟩
theorem po_0 {j : Nat} {q1 : Pos} : PO X (some (.Constant (.int 0) j q1)) (fun _ H Q => Q (downHi true) H) := po_imp (po_some pe_int) fun σ H Q h => ⟨0, rfl, h⟩
theorem po_n : PO X none (fun _ H Q => Q (downHi false) H) := po_imp po_none fun σ H Q h => h
def wDown (b : Bool) (we : WE) : WE := fun S Q => we S fun d S' => match d with
  | .t ds => Q (.t (cutR b ds)) S'
  | _ => False
theorem rpa_cutR {K : PySem.W.Frag} {A : Addr → Prop} {H : Hp} {bb : Bool} {vs : List V} {ds : List Da} (h : RpA K A H vs ds) : RpA K A H (cutR bb vs) (cutR bb ds) := by
  unfold cutR
  rw [h.length]
  exact (h.drop _).reverse
theorem ldown {K : PySem.W.Frag} {bb : Bool} : ∀ σ H Q, lE K c (wDown bb we) σ H Q → tDown K bb (lE K c we) σ H Q := fun σ H Q h => by
  obtain ⟨S, Qd, r, h, p⟩ := h
  refine ⟨S, _, r, h, fun d S1 h1 H1 v r1 k1 p1 => ?_⟩
  cases d <;> try exact h1.elim
  obtain ⟨w, vs, rfl, g1, g2⟩ := tup_ok p1
  refine ⟨w, vs, rfl, g1, fun q nq => ?_⟩
  obtain ⟨r2, k2, nA⟩ := r1.alloc (o := .tup (cutR bb vs)) nq
  exact p _ _ h1 _ _ r2 (k1.trans k2) (.inl (.t (.inl (.inl upd_same)) ((rpa_cutR g2).kp (kA k2))))
theorem v_rev {j : Nat} {q1 q2 : Pos} (he : PE X e (lE X.K c we)) : PE X (.Subscript e (.Slice none none (some (.UnaryOp .USub (.Constant (.int 1) j q1) q2)) p2) pos) (lE X.K c (wDown false we)) := pe_imp (pe_down (fun v u => [v, u]) (fun _ _ => by with_unfolding_all rfl) he po_n po_m1) ldown
theorem v_rev0 {j k : Nat} {q1 q2 q3 : Pos} (he : PE X e (lE X.K c we)) : PE X (.Subscript e (.Slice none (some (.Constant (.int 0) k q3)) (some (.UnaryOp .USub (.Constant (.int 1) j q1) q2)) p2) pos) (lE X.K c (wDown true we)) := pe_imp (pe_down (fun v u => [v, u]) (fun _ _ => by with_unfolding_all rfl) he po_0 po_m1) ldown
end
end VL
set_option Elab.async false
set_option linter.all false
set_option maxRecDepth 100000
set_option maxHeartbeats 1000000
namespace VL
open PySem PySem.Spec PyProof.Rows L2
/-! ### how loops are read -/
theorem forGo_of {wg : WG} {wb : WS} {D : Dn} (I : List Da → Sx → Prop) (step : ∀ d ds S, I (d :: ds) S → ∀ R : Sx → Prop, (∀ S', I ds S' → R S') → wg d S fun S2 => wb { D with nx := R, ct := R, bk := D.nx } S2) (stop : ∀ S, I [] S → D.nx S) :
    ∀ ds S, I ds S → forGo wg wb D ds S
  | [], S, h => stop S h
  | d :: ds, S, h => step d ds S h _ fun S' h' => forGo_of I step stop ds S' h'
theorem lcGo_of {wg : WG} {wt : WT} {we : WE} {vs : List Nat} {Q : List Da → Sx → Prop} (I : List Da → List Da → Sx → Prop)
    (step : ∀ d ds acc S, I (d :: ds) acc S → ∀ R : List Da → Sx → Prop, (∀ acc' S', I ds acc' S' → R acc' S') → wg d (S.wipe vs) fun S2 => wt S2 fun b S3 => if b = true then we S3 fun y S4 => y.isO = false ∧ acc.length < sizeLine ∧ R (acc ++ [y]) (S.back S4 vs) else R acc (S.back S3 vs))
    (stop : ∀ acc S, I [] acc S → Q acc S) : ∀ ds acc S, I ds acc S → lcGo wg wt we vs Q ds acc S
  | [], acc, S, h => stop acc S h
  | d :: ds, acc, S, h => step d ds acc S h _ fun acc' S' h' => lcGo_of I step stop ds acc' S' h'
/-- the same but for the slots vs -/
structure Agr (S S4 : Sx) (vs : List Nat) : Prop where
  M : S4.M = S.M
  len : S4.ρ.length = S.ρ.length
  get : ∀ j, j ∉ vs → S4.ρ[j]? = S.ρ[j]?
theorem wipeR_out (ρ : List Slx) {j : Nat} : ∀ {vs : List Nat}, j ∉ vs → (wipeR ρ vs)[j]? = ρ[j]?
  | [], _ => rfl
  | v :: vs, h => by
    rw [List.mem_cons, not_or] at h
    unfold wipeR
    rw [List.getElem?_set_ne (Ne.symm h.1), wipeR_out ρ h.2]
theorem backR_out (ρ0 ρ : List Slx) {j : Nat} : ∀ {vs : List Nat}, j ∉ vs → (backR ρ0 ρ vs)[j]? = ρ[j]?
  | [], _ => rfl
  | v :: vs, h => by
    rw [List.mem_cons, not_or] at h
    unfold backR
    rw [List.getElem?_set_ne (Ne.symm h.1), backR_out ρ0 ρ h.2]
theorem backR_in (ρ0 ρ : List Slx) {j : Nat} : ∀ {vs : List Nat}, j ∈ vs → j < ρ.length → (backR ρ0 ρ vs)[j]? = some (kept ρ0 j)
  | [], h, _ => by simp at h
  | v :: vs, h, hl => by
    unfold backR
    by_cases e : v = j
    · subst e
      rw [List.getElem?_set_self (by rw [backR_length]; exact hl)]
    · rw [List.getElem?_set_ne e]
      exact backR_in ρ0 ρ ((List.mem_cons.mp h).resolve_left (fun z => e z.symm)) hl
theorem Agr.wipe {S : Sx} {vs : List Nat} : Agr S (S.wipe vs) vs := ⟨rfl, wipeR_length _ _, fun j h => wipeR_out _ h⟩
theorem Agr.set {S S4 : Sx} {vs : List Nat} {i : Nat} {x : Slx} (a : Agr S S4 vs) (h : i ∈ vs) : Agr S (S4.set i x) vs :=
  ⟨a.M, by simp [Sx.set, a.len], fun j hj => by
    show (S4.ρ.set i x)[j]? = _
    rw [List.getElem?_set_ne (fun e => hj (by rw [← e]; exact h)), a.get j hj]⟩
theorem kept_norm (ρ : List Slx) (vs : List Nat) {j : Nat} (hj : j ∈ vs) (hl : j < ρ.length) : kept (backR ρ ρ vs) j = kept ρ j := by
  unfold kept
  rw [backR_in ρ ρ hj hl]
  unfold kept
  cases ρ[j]? with
  | none => rfl
  | some s => cases s <;> rfl
theorem Agr.back {S S4 : Sx} {vs : List Nat} (a : Agr (S.norm vs) S4 vs) : (S.norm vs).back S4 vs = S.norm vs := by
  have e1 : backR (S.norm vs).ρ S4.ρ vs = (S.norm vs).ρ := by
    refine List.ext_getElem? fun j => ?_
    by_cases hj : j ∈ vs
    · by_cases hl : j < S4.ρ.length
      · have hl' : j < S.ρ.length := by
          have := a.len
          rw [show (S.norm vs).ρ.length = S.ρ.length from backR_length _ _ _] at this
          omega
        have e : kept (S.norm vs).ρ j = kept S.ρ j := kept_norm S.ρ vs hj hl'
        rw [backR_in _ _ hj hl, e]
        exact (backR_in _ _ hj hl').symm
      · have h2 := a.len
        rw [List.getElem?_eq_none (by rw [backR_length]; omega), List.getElem?_eq_none (by omega)]
    · rw [backR_out _ _ hj, a.get j hj]
  show Sx.mk (backR (S.norm vs).ρ S4.ρ vs) S4.M = S.norm vs
  rw [e1, a.M]
/-- a comprehension whose turns change nothing -/
theorem lc_pure {wg : WG} {wt : WT} {we : WE} {vs : List Nat} {Q : List Da → Sx → Prop} {S : Sx} {ds : List Da} (f : Da → Option Da)
    (h : ∀ d ∈ ds, ∀ (R1 : Da → Sx → Prop) (R2 : Sx → Prop), (∀ S4, Agr (S.norm vs) S4 vs → match f d with | some y => R1 y S4 | none => R2 S4) → wg d ((S.norm vs).wipe vs) fun S2 => wt S2 fun b S3 => if b = true then we S3 R1 else R2 S3)
    (hO : ∀ d ∈ ds, ∀ y, f d = some y → y.isO = false) (hz : ds.length ≤ sizeLine) (q : Q (ds.filterMap f) (S.norm vs)) : lcGo wg wt we vs Q ds [] (S.norm vs) := by
  refine lcGo_of (fun rest acc S' => S' = S.norm vs ∧ ∃ done, ds = done ++ rest ∧ acc = done.filterMap f) (fun d rest acc S' ⟨e, done, e1, e2⟩ R hR => ?_) (fun acc S' ⟨e, done, e1, e2⟩ => ?_) ds [] (S.norm vs) ⟨rfl, [], rfl, rfl⟩
  · subst e
    have hd : d ∈ ds := by rw [e1]; simp
    refine h d hd _ _ fun S4 hb => ?_
    have la : acc.length ≤ done.length := by rw [e2]; exact List.length_filterMap_le f done
    have ld : done.length < ds.length := by rw [e1]; simp
    cases e : f d with
    | none => exact hR _ _ ⟨hb.back, done ++ [d], by simp [e1], by simp [e2, e]⟩
    | some y => exact ⟨hO d hd y e, by omega, hR _ _ ⟨hb.back, done ++ [d], by simp [e1], by simp [e2, e]⟩⟩
  · subst e
    rw [List.append_nil] at e1
    rw [e2, ← e1]
    exact q
theorem lc_map {wg : WG} {we : WE} {vs : List Nat} {Q : List Da → Sx → Prop} {S : Sx} {ds : List Da} (g : Da → Da)
    (h : ∀ d ∈ ds, ∀ (R1 : Da → Sx → Prop), (∀ S4, Agr (S.norm vs) S4 vs → R1 (g d) S4) → wg d ((S.norm vs).wipe vs) fun S2 => we S2 R1)
    (hO : ∀ d ∈ ds, (g d).isO = false) (hz : ds.length ≤ sizeLine) (q : Q (ds.map g) (S.norm vs)) : lcGo wg wYes we vs Q ds [] (S.norm vs) := by
  refine lc_pure (fun d => some (g d)) (fun d hd R1 R2 hR => ?_) (fun d hd y e => by cases e; exact hO d hd) hz ?_
  · exact h d hd R1 hR
  · rw [show ds.filterMap (fun d => some (g d)) = ds.map g from by rw [← List.filterMap_eq_map]; rfl]
    exact q
theorem map_erase {α β : Type} (f : α → β) : ∀ (l : List α) (r : Nat), (l.map f).eraseIdx r = (l.eraseIdx r).map f
  | [], _ => rfl
  | _ :: _, 0 => rfl
  | x :: l, r + 1 => by
    show f x :: (l.map f).eraseIdx r = f x :: (l.eraseIdx r).map f
    rw [map_erase f l r]
end VL
set_option Elab.async false
set_option linter.all false
set_option maxRecDepth 100000
set_option maxHeartbeats 1000000
namespace VL
open PySem PySem.Spec PyProof.Rows L2
/-! ### what == may be asked of -/
structure Pd (d : Da) (n : Nat) : Prop where
  pl : d.pl = true
  dp : d.py.depth ≤ n
theorem pls_of : ∀ {ds : List Da} {n : Nat}, (∀ d ∈ ds, Pd d n) → pls ds = true ∧ PyData.depthAll (pys ds) ≤ n
  | [], n, _ => ⟨rfl, Nat.zero_le _⟩
  | d :: ds, n, h => by
    obtain ⟨h1, h2⟩ := pls_of (ds := ds) (n := n) fun x hx => h x (List.mem_cons_of_mem _ hx)
    have h0 := h d (List.mem_cons_self ..)
    refine ⟨by rw [pls, h0.pl, h1]; rfl, ?_⟩
    rw [pys, PyData.depthAll]
    exact Nat.max_le.mpr ⟨h0.dp, h2⟩
theorem Pd.t {ds : List Da} {n : Nat} (h : ∀ d ∈ ds, Pd d n) : Pd (.t ds) (n + 1) := ⟨by rw [Da.pl]; exact (pls_of h).1, by rw [Da.py, PyData.depth]; exact Nat.succ_le_succ (pls_of h).2⟩
theorem Pd.l {ds : List Da} {n : Nat} (h : ∀ d ∈ ds, Pd d n) : Pd (.l ds) (n + 1) := ⟨by rw [Da.pl]; exact (pls_of h).1, by rw [Da.py, PyData.depth]; exact Nat.succ_le_succ (pls_of h).2⟩
theorem Pd.i {k : Int} {n : Nat} : Pd (.i k) n := ⟨rfl, Nat.zero_le _⟩
theorem Pd.n {n : Nat} : Pd .n n := ⟨rfl, Nat.zero_le _⟩
theorem Pd.b {z : Bool} {n : Nat} : Pd (.b z) n := ⟨rfl, Nat.zero_le _⟩
theorem Pd.s {z : Str} {n : Nat} (h : PyData.strOk z = true) : Pd (.s z) n := ⟨h, Nat.zero_le _⟩
theorem Pd.eqb {d : Da} {n : Nat} (h : Pd d n) (hn : n ≤ 64) : d.eqb = true := by
  unfold Da.eqb
  rw [h.pl, decide_eq_true (Nat.le_trans h.dp hn)]
  rfl
theorem eqv_self {d : Da} (h : d.eqb = true) : PyData.eqv d.py d.py = true := SeqAt.eqv_refl _ (canLay_py d (eqb_shaped h).2)
theorem rdEq_self {d : Da} {S : Sx} {Q : Da → Sx → Prop} (h : d.eqb = true) (q : Q (.b true) S) : rdEq d d S Q := .inr ⟨h, h, by rw [eqv_self h]; exact q⟩
theorem rdNe_self {d : Da} {S : Sx} {Q : Da → Sx → Prop} (h : d.eqb = true) (q : Q (.b false) S) : rdNe d d S Q := .inr ⟨h, h, by rw [eqv_self h]; exact q⟩
theorem eqb_ints {ns : List Int} : (Da.l (ns.map .i)).eqb = true := (Pd.l (n := 0) fun d hd => by obtain ⟨k, _, rfl⟩ := List.mem_map.mp hd; exact .i).eqb (by decide)
end VL
set_option Elab.async false
set_option linter.all false
set_option maxRecDepth 100000
set_option maxHeartbeats 1000000
namespace VL
open PySem PySem.Spec PyProof.Rows L2
/-! ### a law -/
def spLaw (K : PySem.W.Frag) : Sp := fun vs H Q _ => ∃ (a : Addr) (ns : List Int), vs = [.ref a] ∧ SqL K H a (ns.map V.int) ∧ ns.length ≤ 63 ∧ ∀ H', Q (.bl true) H'
def Scr (d : Da) (ns : List Int) : Prop := d = .l (ns.map .i) ∨ d = .sc ns
def dc_law : DC := fun ds M Q _ => ∃ (d : Da) (ns : List Int), ds = [d] ∧ Scr d ns ∧ ns.length ≤ 63 ∧ ∀ M', Q (.b true) M'
section
variable {P : Program} {w : World} {K : PySem.W.Frag} {mg : Str → Option Value} {base : Heap}
theorem law_sp {vs : List V} {H : Hp} {Q : V → Hp → Prop} {E E' : XK} (h : spLaw K vs H Q E) : spOf K dc_law vs H Q E' := by
  obtain ⟨a, ns, rfl, hS, hl, q⟩ := h
  have go : ∀ d, Rp K (fun a => (fun _ : Addr => False) a ∨ wM (fun _ => none) a) H (.ref a) d → Scr d ns → spOf K dc_law [.ref a] H Q E' := fun d rp hd => by
    refine ⟨fun _ => False, fun _ => none, [d], fun d _ => d = .b true, fun _ _ _ => False, .cons rp .nil, fun _ _ h => (by cases h), fun _ h => h.elim, ⟨d, ns, rfl, hd, hl, fun _ => rfl⟩, fun d M' e H' v _ _ hv => ?_, fun _ _ _ h => h.elim⟩
    subst e
    cases hv
    exact q _
  rcases hS with (h | ⟨o, h⟩) | h
  · refine go _ (.l h (fun z => ?_) (rpa_ofInts ns)) (.inl rfl)
    rcases z with z | z
    · exact z
    · exact z rfl
  · exact go _ (.sc (.inl ⟨o, h⟩)) (.inr rfl)
  · exact go _ (.sc (.inr (.inr h))) (.inr rfl)
theorem law_of {k : Nat} {f : Addr} {fd : FuncData} {ps : List Str} (F : FnOk P w K mg base (L2.CX P w) k f fd ps (spOf K dc_law)) : FnOk P w K mg base CX0 k f fd ps (spLaw K) :=
  have G := FnOk.c0 F
  ⟨fun vs H Q E h => G.len vs H Q E (law_sp h), fun A outer s H args us vs Q E hr e0 hb hv h => G.run A outer s H args us vs Q E hr e0 hb hv (law_sp h)⟩
end
end VL
set_option Elab.async false
set_option linter.all false
set_option maxRecDepth 100000
set_option maxHeartbeats 1000000
namespace VL
open PySem PySem.Spec PyProof.Rows L2
/-! ### what stays when a lock is taken off -/
structure Kq (K : PySem.W.Frag) (A A' : Addr → Prop) (H H' : Hp) : Prop where
  kp : ∀ a o, ¬ A a → H a = some o → H' a = some o ∧ ¬ A' a
  tp : ∀ a vs, SqT K H a vs → SqT K H' a vs
  sc : ∀ a ns, Scl K H a ns → Scl K H' a ns
section
variable {K : PySem.W.Frag} {A A' : Addr → Prop} {H H' : Hp}
mutual
theorem Rp.kq (k : Kq K A A' H H') : ∀ {v : V} {d : Da}, Rp K A H v d → Rp K A' H' v d
  | _, _, .n => .n
  | _, _, .b x => .b x
  | _, _, .i x => .i x
  | _, _, .s x => .s x
  | _, _, .r x => .r x
  | _, _, .ty x => .ty x
  | _, _, .sc h => .sc (k.sc _ _ h)
  | _, _, .t h a => .t (k.tp _ _ h) (RpA.kq k a)
  | _, _, .l h n a => .l (k.kp _ _ n h).1 (k.kp _ _ n h).2 (RpA.kq k a)
  | _, _, .dk h n a => .dk (k.kp _ _ n h).1 (k.kp _ _ n h).2 (RpK.kq k a)
  | _, _, .ins h n a => .ins (k.kp _ _ n h).1 (k.kp _ _ n h).2 (RpF.kq k a)
theorem RpA.kq (k : Kq K A A' H H') : ∀ {vs : List V} {ds : List Da}, RpA K A H vs ds → RpA K A' H' vs ds
  | _, _, .nil => .nil
  | _, _, .cons h a => .cons (Rp.kq k h) (RpA.kq k a)
theorem RpK.kq (k : Kq K A A' H H') : ∀ {vs : List (Key × V)} {ds : List (Key × Da)}, RpK K A H vs ds → RpK K A' H' vs ds
  | _, _, .nil => .nil
  | _, _, .cons h a => .cons (Rp.kq k h) (RpK.kq k a)
theorem RpF.kq (k : Kq K A A' H H') : ∀ {vs : List (Str × V)} {ds : List (Str × Da)}, RpF K A H vs ds → RpF K A' H' vs ds
  | _, _, .nil => .nil
  | _, _, .cons h a => .cons (Rp.kq k h) (RpF.kq k a)
end
theorem RpN.kq (k : Kq K A A' H H') {kas : List (NestedKey × Addr × V)} {kds : List (Da × Da)} (h : RpN K A H kas kds) : RpN K A' H' kas kds := by
  induction h with
  | nil => exact .nil
  | cons hk hb hv _ ih => exact .cons hk (Rp.kq k hb) (Rp.kq k hv) ih
theorem MOk.kq {a : Addr} {m : MO} (k : Kq K A A' H H') (hx : ∀ o, H a = some o → H' a = some o) (h : MOk K A H a m) : MOk K A' H' a m := by
  cases m with
  | lst ds => obtain ⟨vs, e, r⟩ := h; exact ⟨vs, hx _ e, r.kq k⟩
  | dk _ ds => obtain ⟨vs, e, r⟩ := h; exact ⟨vs, hx _ e, r.kq k⟩
  | ins C ds => obtain ⟨dx, vs, e, r⟩ := h; exact ⟨dx, vs, hx _ e, r.kq k⟩
  | dn P w lk ds => obtain ⟨vs, e, r⟩ := h; exact ⟨vs, hx _ e, r.kq k⟩
  | rg lo hi => exact hx _ h
/-- off goes the lock at p -/
theorem kq_unlock {p : Addr} {od : Obj} {kvs : List (Key × V)} (hA : A p) (h : H p = some (.frz od (.dK kvs))) (sub : ∀ b, A' b → A b) : Kq K A A' H (upd H p (.dK kvs)) := by
  have tupNe : ∀ (a : Addr) (vs : List V), Rd H a (.tup vs) → Rd (upd H p (.dK kvs)) a (.tup vs) := fun a vs hu => by
    have : a ≠ p := fun e => by
      subst e
      rcases hu with hu | ⟨o, hu⟩ <;> (rw [h] at hu; cases hu)
    rcases hu with hu | ⟨o, hu⟩
    · exact .inl (by rw [upd_ne this]; exact hu)
    · exact .inr ⟨o, by rw [upd_ne this]; exact hu⟩
  refine ⟨fun a o n e => ?_, fun a vs q => ?_, fun a ns q => ?_⟩
  · have : a ≠ p := fun z => n (by rw [z]; exact hA)
    exact ⟨by rw [upd_ne this]; exact e, fun z => n (sub a z)⟩
  · rcases q with q | q
    · exact .inl (tupNe a _ q)
    · exact .inr q
  · rcases q with ⟨o, q⟩ | q
    · have : a ≠ p := fun e => by
        subst e
        rw [h] at q
        cases q
      exact .inl ⟨o, by rw [upd_ne this]; exact q⟩
    · exact .inr q
end
theorem upd_comm {H : Hp} {a b : Addr} {x y : HO} (h : a ≠ b) : upd (upd H a x) b y = upd (upd H b y) a x := by
  funext z
  by_cases e : z = a
  · subst e
    rw [upd_ne h, upd_same, upd_same]
  · by_cases e2 : z = b
    · subst e2
      rw [upd_same, upd_ne e, upd_same]
    · rw [upd_ne e2, upd_ne e, upd_ne e, upd_ne e2]
section
variable {K : PySem.W.Frag} {c : Cq} {S S' : Sx} {σ σ' : L2.St} {H H' : Hp} {p : Addr} {od : Obj} {kds : List (Key × Da)}
theorem wM_upd {M : Mx} {m m' : MO} (e : M p = some m) (b : Addr) : wM (VL.updM M p m') b ↔ wM M b := by
  show VL.updM M p m' b ≠ none ↔ M b ≠ none
  by_cases q : b = p
  · subst q
    rw [updM_same, e]
    exact ⟨fun _ z => (by cases z), fun _ z => (by cases z)⟩
  · rw [updM_ne q]
theorem W_upd {m m' : MO} (e : S.M p = some m) (b : Addr) : Sx.W ⟨S.ρ, VL.updM S.M p m'⟩ b ↔ S.W b := or_congr Iff.rfl (wM_upd e b)
/-- on goes the lock -/
theorem Rel.lock (r : Rel K c S σ H) (e : S.M p = some (.dk none kds)) : ∃ kvs, H p = some (.dK kvs) ∧ ∀ od, Rel K c ⟨S.ρ, VL.updM S.M p (.dk (some od) kds)⟩ σ (upd H p (.frz od (.dK kvs))) ∧ Kp S.W (Sx.W ⟨S.ρ, VL.updM S.M p (.dk (some od) kds)⟩) H (upd H p (.frz od (.dK kvs))) := by
  obtain ⟨kvs, h, rk⟩ := r.mem p _ e
  exact ⟨kvs, h, fun od => r.updM e h trivial fun A k => ⟨kvs, upd_same, rk.kp k⟩⟩
/-- off goes the lock -/
theorem Rel.unlock {S1 : Sx} {H1 : Hp} {kvs : List (Key × V)} (r0 : Rel K c S σ H) (h0 : H p = some (.dK kvs)) (k1 : Kp S.W S1.W H H1) (h1 : H1 p = some (.frz od (.dK kvs))) (k2 : Kp S1.W S'.W H1 H') (r : Rel K c S' σ' H') (e : S'.M p = some (.dk (some od) kds)) :
    H' p = some (.frz od (.dK kvs)) ∧ Rel K c ⟨S'.ρ, VL.updM S'.M p (.dk none kds)⟩ σ' (upd H' p (.dK kvs)) ∧ Kp S.W (Sx.W ⟨S'.ρ, VL.updM S'.M p (.dk none kds)⟩) H (upd H' p (.dK kvs)) ∧ Kq K (S'.A c) (Sx.A ⟨S'.ρ, VL.updM S'.M p (.dk none kds)⟩ c) H' (upd H' p (.dK kvs)) := by
  have h' : H' p = some (.frz od (.dK kvs)) := k2.keep p _ h1 (.inr id)
  have eW : ∀ b, Sx.W ⟨S'.ρ, VL.updM S'.M p (.dk none kds)⟩ b ↔ S'.W b := W_upd e
  have hA : S'.A c p := .inr (.inr (by rw [e]; exact fun z => by cases z))
  have kq : Kq K (S'.A c) (Sx.A ⟨S'.ρ, VL.updM S'.M p (.dk none kds)⟩ c) H' (upd H' p (.dK kvs)) := kq_unlock hA h' fun b z => z.imp id (eW b).mp
  have k12 := k1.trans k2
  refine ⟨h', ⟨r.len, r.cn, fun i d q => ?_, fun i a ds q => ?_, r.inj, fun i a ds q => ?_, fun a m q => ?_, fun a z => ?_, ⟨fun b o eb z => ?_, fun b z => r.kp.mono b ((eW b).mp z)⟩⟩, ⟨fun b o eb z => ?_, fun b z => k12.mono b ((eW b).mp z)⟩, kq⟩
  · obtain ⟨v, g1, g2⟩ := r.val i d q
    exact ⟨v, g1, g2.kq kq⟩
  · obtain ⟨g1, vs, g2, g3⟩ := r.own i a ds q
    have : a ≠ p := fun z => by
      subst z
      rw [g2] at h'
      cases h'
    exact ⟨g1, vs, by rw [upd_ne this]; exact g2, g3.kq kq⟩
  · have : a ≠ p := fun z => by
      subst z
      have := r.sep i a ds q
      rw [e] at this
      cases this
    show VL.updM S'.M p (.dk none kds) a = none
    rw [updM_ne this]
    exact r.sep i a ds q
  · by_cases z : a = p
    · subst z
      have q' : VL.updM S'.M a (.dk none kds) a = some m := q
      rw [updM_same] at q'
      cases q'
      obtain ⟨kvs', g1, g2⟩ := r.mem a _ e
      have g1' : H' a = some (.frz od (.dK kvs')) := g1
      rw [h'] at g1'
      cases g1'
      exact ⟨kvs, upd_same, g2.kq kq⟩
    · have q' : VL.updM S'.M p (.dk none kds) a = some m := q
      rw [updM_ne z] at q'
      exact (r.mem a m q').kq kq fun o g => by rw [upd_ne z]; exact g
  · obtain ⟨g1, g2⟩ := r.a0 a z
    refine ⟨?_, fun w => g2 ((eW a).mp w)⟩
    by_cases y : a = p
    · subst y
      rw [upd_same]
      exact fun w => by cases w
    · rw [upd_ne y]
      exact g1
  · have g := r.kp.keep b o eb z
    by_cases y : b = p
    · subst y
      have := r0.kp.keep b o eb z
      rw [h0] at this
      rw [← this, upd_same]
    · rw [upd_ne y]
      exact g
  · by_cases y : b = p
    · subst y
      rw [h0] at eb
      rw [← eb, upd_same]
    · rw [upd_ne y]
      exact k12.keep b o eb z
end
/-! ### under a lock -/
def wLkL (wl : WA) : WA := fun S Q => ∃ p kds, S.M p = some (.dk none kds) ∧ ∀ od, wl ⟨S.ρ, VL.updM S.M p (.dk (some od) kds)⟩ fun ds S' => S'.M p = some (.dk (some od) kds) ∧ Q ds ⟨S'.ρ, VL.updM S'.M p (.dk none kds)⟩
def wLkE (we : WE) : WE := fun S Q => ∃ p kds, S.M p = some (.dk none kds) ∧ ∀ od, we ⟨S.ρ, VL.updM S.M p (.dk (some od) kds)⟩ fun d S' => d.isO = false ∧ S'.M p = some (.dk (some od) kds) ∧ Q d ⟨S'.ρ, VL.updM S'.M p (.dk none kds)⟩
def wLkS (ws : WS) : WS := fun D S => ∃ p kds, S.M p = some (.dk none kds) ∧ ∀ od,
  let off := fun S' : Sx => Sx.mk S'.ρ (VL.updM S'.M p (.dk none kds))
  ws { nx := fun S' => S'.M p = some (.dk (some od) kds) ∧ D.nx (off S'), rt := fun d S' => S'.M p = some (.dk (some od) kds) ∧ D.rt d (off S'), bk := fun S' => S'.M p = some (.dk (some od) kds) ∧ D.bk (off S'), ct := fun S' => S'.M p = some (.dk (some od) kds) ∧ D.ct (off S') } ⟨S.ρ, VL.updM S.M p (.dk (some od) kds)⟩
section
variable {X : Cx} {c : Cq}
theorem v_lkL {e : Expr} {wl : WA} (h : PE X e (lL X.K c wl)) : PE X e (lL X.K c (wLkL wl)) := pe_imp (pe_lock h) fun σ H Q h => by
  obtain ⟨S, Qd, r, ⟨p, kds, e, h⟩, pst⟩ := h
  obtain ⟨kvs, h0, lk⟩ := r.lock e
  refine ⟨p, _, h0, trivial, fun od => ?_⟩
  obtain ⟨r1, k1⟩ := lk od
  refine ⟨_, _, r1, h od, fun ds S' q H' a vs r' k' na ra hz => ?_⟩
  obtain ⟨e', q⟩ := q
  obtain ⟨h', r2, k2, kq⟩ := r.unlock h0 k1 upd_same k' r' e'
  have ne : a ≠ p := fun z => by subst z; rw [na] at h'; cases h'
  refine ⟨by rw [upd_ne (Ne.symm ne)]; exact h', ?_⟩
  rw [upd_comm ne]
  exact pst ds _ q _ a vs r2 k2 (by rw [upd_ne ne]; exact na) (ra.kq kq) hz
theorem s_lk {st : Stmt} {ws : WS} (h : PS X st (lS X.K c ws)) : PS X st (lS X.K c (wLkS ws)) := ps_imp (ps_lock h) fun D σ H h => by
  obtain ⟨S, Dd, r, ⟨p, kds, e, h⟩, pst⟩ := h
  obtain ⟨kvs, h0, lk⟩ := r.lock e
  refine ⟨p, _, h0, trivial, fun od => ?_⟩
  obtain ⟨r1, k1⟩ := lk od
  refine ⟨_, _, r1, h od, ⟨fun S' q σ' H' r' k' => ?_, fun d S' q σ' H' v r' k' rv => ?_, fun S' q σ' H' r' k' => ?_, fun S' q σ' H' r' k' => ?_⟩⟩
  · obtain ⟨h', r2, k2, kq⟩ := r.unlock h0 k1 upd_same k' r' q.1
    exact ⟨h', pst.nx _ q.2 _ _ r2 k2⟩
  · obtain ⟨h', r2, k2, kq⟩ := r.unlock h0 k1 upd_same k' r' q.1
    exact ⟨h', pst.rt _ _ q.2 _ _ _ r2 k2 (rv.kq kq)⟩
  · obtain ⟨h', r2, k2, kq⟩ := r.unlock h0 k1 upd_same k' r' q.1
    exact ⟨h', pst.bk _ q.2 _ _ r2 k2⟩
  · obtain ⟨h', r2, k2, kq⟩ := r.unlock h0 k1 upd_same k' r' q.1
    exact ⟨h', pst.ct _ q.2 _ _ r2 k2⟩
end
end VL
set_option Elab.async false
set_option linter.all false
set_option maxRecDepth 100000
set_option maxHeartbeats 1000000
namespace VL
open PySem PySem.Spec PyProof.Rows L2
/-! ### dicts -/
def Da.key : Da → Option Key
  | .i k => some (.inl k)
  | .s z => some (.inr z)
  | _ => none
def keyD (kd : Key × Da) : Da := match kd.1 with
  | .inl i => .i i
  | .inr z => .s z
def valD (kds : List (Key × Da)) (k : Key) : Option Da := (kds.find? fun kd => decide (kd.1 = k)).map (·.2)
def putD (kds : List (Key × Da)) (k : Key) (d : Da) : List (Key × Da) :=
  if (kds.any fun kd => decide (kd.1 = k)) = true then kds.map (fun kd => if kd.1 = k then (kd.1, d) else kd) else kds ++ [(k, d)]
section
variable {K : PySem.W.Frag} {A : Addr → Prop} {H : Hp} {σ : L2.St} {v : V} {d : Da} {k : Key}
theorem key_ok (h : d.key = some k) (r : RpS K A σ H v d) : v = kV k := by
  cases d with
  | i x => cases h; exact rs_i r
  | s x => cases h; exact rs_s r
  | _ => cases h
theorem rs_r {p : Addr} (r : RpS K A σ H v (.r p)) : v = .ref p := by
  rcases r with r | ⟨j, e, _⟩
  · cases r; rfl
  · cases e
theorem rpk_len' : ∀ {kvs : List (Key × V)} {kds : List (Key × Da)}, RpK K A H kvs kds → kvs.length = kds.length
  | _, _, .nil => rfl
  | _, _, .cons _ a => by rw [List.length_cons, List.length_cons, rpk_len' a]
theorem rpk_val : ∀ {kvs : List (Key × V)} {kds : List (Key × Da)} (k : Key), RpK K A H kvs kds → (valD kds k = none ∧ valV kvs k = none) ∨ ∃ d v, valD kds k = some d ∧ valV kvs k = some v ∧ Rp K A H v d
  | _, _, k, .nil => .inl ⟨rfl, rfl⟩
  | _, _, k, .cons (k := j) (v := v) (d := d) h a => by
    by_cases e : j = k
    · refine .inr ⟨d, v, ?_, ?_, h⟩
      · unfold valD
        rw [List.find?_cons_of_pos (by simpa using e)]
        rfl
      · unfold valV
        rw [List.find?_cons_of_pos (by simpa using e)]
        rfl
    · have e1 : ∀ {vs : List (Key × V)}, valV ((j, v) :: vs) k = valV vs k := by
        intro vs
        unfold valV
        rw [List.find?_cons_of_neg (by simpa using e)]
      have e2 : ∀ {vs : List (Key × Da)}, valD ((j, d) :: vs) k = valD vs k := by
        intro vs
        unfold valD
        rw [List.find?_cons_of_neg (by simpa using e)]
      rw [e1, e2]
      exact rpk_val k a
theorem rpk_any : ∀ {kvs : List (Key × V)} {kds : List (Key × Da)}, RpK K A H kvs kds → (kvs.any fun kv => decide (kv.1 = k)) = kds.any fun kd => decide (kd.1 = k)
  | _, _, .nil => rfl
  | _, _, .cons h a => by rw [List.any_cons, List.any_cons, rpk_any a]
theorem rpk_map (hd : Rp K A H v d) : ∀ {kvs : List (Key × V)} {kds : List (Key × Da)}, RpK K A H kvs kds → RpK K A H (kvs.map fun kv => if kv.1 = k then (kv.1, v) else kv) (kds.map fun kd => if kd.1 = k then (kd.1, d) else kd)
  | _, _, .nil => .nil
  | _, _, .cons (k := j) h a => by
    rw [List.map_cons, List.map_cons]
    by_cases e : j = k
    · rw [if_pos e, if_pos e]
      exact .cons hd (rpk_map hd a)
    · rw [if_neg e, if_neg e]
      exact .cons h (rpk_map hd a)
theorem rpk_snoc (hd : Rp K A H v d) : ∀ {kvs : List (Key × V)} {kds : List (Key × Da)}, RpK K A H kvs kds → RpK K A H (kvs ++ [(k, v)]) (kds ++ [(k, d)])
  | _, _, .nil => .cons hd .nil
  | _, _, .cons h a => .cons h (rpk_snoc hd a)
theorem rpk_put {kvs : List (Key × V)} {kds : List (Key × Da)} (a : RpK K A H kvs kds) (hd : Rp K A H v d) : RpK K A H (putK kvs k v) (putD kds k d) := by
  unfold putK putD
  rw [rpk_any a]
  split
  · exact rpk_map hd a
  · exact rpk_snoc hd a
theorem rpk_get : ∀ {kvs : List (Key × V)} {kds : List (Key × Da)} {i : Nat} {d : Da}, RpK K A H kvs kds → (kds.map keyD)[i]? = some d → ∃ k v, kvs[i]? = some (k, v) ∧ Rp K A H (kV k) d
  | _, _, _, _, .nil, h => by simp at h
  | _, _, 0, _, .cons (k := j) (v := v) h0 a, h => by
    refine ⟨j, v, rfl, ?_⟩
    have := Option.some.inj h
    rw [← this]
    cases j
    · exact .i _
    · exact .s _
  | _, _, i + 1, _, .cons h0 a, h => rpk_get (i := i) a h
end
section
variable {K : PySem.W.Frag} {c : Cq} {S S' : Sx} {σ σ' : L2.St} {H H' : Hp} {p : Addr} {lk : Option Obj} {kds : List (Key × Da)}
theorem dk_ok (r : Rel K c S σ H) (e : S.M p = some (.dk lk kds)) : ∃ kvs, Rd H p (.dK kvs) ∧ RpK K (S.A c) H kvs kds := by
  obtain ⟨kvs, h, rk⟩ := r.mem p _ e
  refine ⟨kvs, ?_, rk⟩
  cases lk with
  | none => exact .inl h
  | some o => exact .inr ⟨o, h⟩
theorem m_none (r : Rel K c S σ H) (n : H p = none) : S.M p = none := by
  cases e : S.M p with
  | none => rfl
  | some m =>
    have := r.mem p m e
    cases m with
    | lst ds => obtain ⟨vs, e, _⟩ := this; rw [n] at e; cases e
    | dk lk ds => obtain ⟨vs, e, _⟩ := this; rw [n] at e; cases e
    | ins C ds => obtain ⟨dx, vs, e, _⟩ := this; rw [n] at e; cases e
    | dn P w lk ds => obtain ⟨vs, e, _⟩ := this; rw [n] at e; cases e
    | rg lo hi => have e : H p = some (.rng lo hi) := this; rw [n] at e; cases e
/-- a new shared object -/
theorem Rel.newM (r : Rel K c S σ H) {o : HO} {m : MO} (n : H p = none) (new : ∀ A, Kp (S.A c) A H (upd H p o) → MOk K A (upd H p o) p m) :
    Rel K c ⟨S.ρ, VL.updM S.M p m⟩ σ (upd H p o) ∧ Kp S.W (Sx.W ⟨S.ρ, VL.updM S.M p m⟩) H (upd H p o) := by
  have sm : Same H (upd H p o) := same_upd n
  have k : Kp S.W (Sx.W ⟨S.ρ, VL.updM S.M p m⟩) H (upd H p o) := ⟨fun b u e _ => sm b u e, fun b z => by
    rcases z with z | z
    · exact .inl (.inl z)
    · by_cases q : b = p
      · exact .inr (by rw [q]; exact n)
      · refine .inl (.inr fun w => z ?_)
        show VL.updM S.M p m b = none
        rw [updM_ne q]
        exact w⟩
  refine ⟨r.next k r.len rfl (fun i d e => ?_) (fun i q ds e => ?_) r.inj (fun i q ds e => ?_) (fun a u e => ?_), k⟩
  · obtain ⟨v, g1, g2⟩ := r.val i d e
    exact ⟨v, g1, g2.kp (kA k)⟩
  · obtain ⟨g1, vs, g2, g3⟩ := r.own i q ds e
    exact ⟨g1, vs, sm _ _ g2, g3.kp (kA k)⟩
  · obtain ⟨_, vs, g2, _⟩ := r.own i q ds e
    have : q ≠ p := ne_of_none g2 n
    show VL.updM S.M p m q = none
    rw [updM_ne this]
    exact r.sep i q ds e
  · by_cases q : a = p
    · subst q
      have e' : VL.updM S.M a m a = some u := e
      rw [updM_same] at e'
      cases e'
      exact new _ (kA k)
    · have e' : VL.updM S.M p m a = some u := e
      rw [updM_ne q] at e'
      exact (r.mem a u e').kp (kA k) (sm a)
end
def rdDget : RD := fun x y S Q => ∃ p lk kds k d, x = .r p ∧ S.M p = some (.dk lk kds) ∧ y.key = some k ∧ valD kds k = some d ∧ Q d S
def rdDin (neg : Bool) : RD := fun y x S Q => ∃ p lk kds k, x = .r p ∧ S.M p = some (.dk lk kds) ∧ y.key = some k ∧ Q (.b (if neg then !(valD kds k).isSome else (valD kds k).isSome)) S
def wDnew : WE := fun S Q => ∀ q, S.M q = none → Q (.r q) ⟨S.ρ, updM S.M q (.dk none [])⟩
def wPutD (wv wd wk : WE) : WS := fun D S => wv S fun v S1 => wd S1 fun x S2 => wk S2 fun y S3 => v.isO = false ∧ ∃ p kds k, x = .r p ∧ S3.M p = some (.dk none kds) ∧ y.key = some k ∧ kds.length < sizeLine ∧ D.nx ⟨S3.ρ, updM S3.M p (.dk none (putD kds k v))⟩
def wKeys (we : WE) : WI := fun S Q => we S fun d S' => ∃ p od kds, d = .r p ∧ S'.M p = some (.dk (some od) kds) ∧ Q (kds.map keyD) S'
section
variable {K : PySem.W.Frag} {c : Cq}
theorem lDget : OpL K c (fun x y H Q => ∃ a v, x = .ref a ∧ DGet H a y (some v) ∧ Q v H) rdDget := fun σ H S x y dx dy Qd Q r rx ry h p => by
  obtain ⟨a, lk, kds, k, d, rfl, e, hk, hv, q⟩ := h
  obtain ⟨kvs, h1, h2⟩ := dk_ok r e
  rcases rpk_val k h2 with ⟨z, _⟩ | ⟨d', v, g1, g2, g3⟩
  · rw [hv] at z; cases z
  · rw [hv] at g1
    cases g1
    exact ⟨a, v, rs_r rx, .inl ⟨kvs, k, h1, key_ok hk ry, g2.symm⟩, p _ _ q _ _ r .refl (.inl g3)⟩
theorem lDin : OpL K c (fun y x H Q => ∃ a o, x = .ref a ∧ DGet H a y o ∧ Q (.bl o.isSome) H) (rdDin false) := fun σ H S y x dy dx Qd Q r ry rx h p => by
  obtain ⟨a, lk, kds, k, rfl, e, hk, q⟩ := h
  obtain ⟨kvs, h1, h2⟩ := dk_ok r e
  refine ⟨a, valV kvs k, rs_r rx, .inl ⟨kvs, k, h1, key_ok hk ry, rfl⟩, ?_⟩
  have : (valV kvs k).isSome = (valD kds k).isSome := by
    rcases rpk_val k h2 with ⟨z1, z2⟩ | ⟨d', v, g1, g2, g3⟩
    · rw [z1, z2]; rfl
    · rw [g1, g2]; rfl
  rw [this]
  exact p _ _ q _ _ r .refl (.inl (.b _))
theorem lDnin : OpL K c (fun y x H Q => ∃ a o, x = .ref a ∧ DGet H a y o ∧ Q (.bl (!o.isSome)) H) (rdDin true) := fun σ H S y x dy dx Qd Q r ry rx h p => by
  obtain ⟨a, lk, kds, k, rfl, e, hk, q⟩ := h
  obtain ⟨kvs, h1, h2⟩ := dk_ok r e
  refine ⟨a, valV kvs k, rs_r rx, .inl ⟨kvs, k, h1, key_ok hk ry, rfl⟩, ?_⟩
  have : (valV kvs k).isSome = (valD kds k).isSome := by
    rcases rpk_val k h2 with ⟨z1, z2⟩ | ⟨d', v, g1, g2, g3⟩
    · rw [z1, z2]; rfl
    · rw [g1, g2]; rfl
  rw [this]
  exact p _ _ q _ _ r .refl (.inl (.b _))
end
section
variable {X : Cx} {c : Cq} {pos pos' p apos : Pos} {e a b o i value tg : Expr} {es rest : List Expr} {we wa wb wv wd wk : WE}
theorem v_dget (hu : X.A.units + 1 < cLine) (ha : PE X a (lE X.K c wa)) (hb : PE X b (lE X.K c wb)) (hs : NoSl b) : PE X (.Subscript a b pos) (lE X.K c (wOp rdDget wa wb)) := pe_imp (pe_dget hu ha hb hs) fun σ H Q h => lop lDget σ H Q h
theorem v_din (hu : X.A.units + 1 < cLine) (hm : behindInMarks .In b = false) (ha : PE X a (lE X.K c wa)) (hb : PE X b (lE X.K c wb)) : PE X (.Compare a [.In] [b] pos) (lE X.K c (wOp (rdDin false) wa wb)) := pe_imp (pe_cmp (pc_din hu ha hb) hm) fun σ H Q h => lop lDin σ H Q h
theorem v_dnin (hu : X.A.units + 1 < cLine) (hm : behindInMarks .NotIn b = false) (ha : PE X a (lE X.K c wa)) (hb : PE X b (lE X.K c wb)) : PE X (.Compare a [.NotIn] [b] pos) (lE X.K c (wOp (rdDin true) wa wb)) := pe_imp (pe_cmp (pc_dnotin hu ha hb) hm) fun σ H Q h => lop lDnin σ H Q h
theorem v_dnew : PE X (.Dict [] [] pos) (lE X.K c wDnew) := pe_imp pe_dnewK fun σ H Q h => by
  obtain ⟨S, Qd, r, h, p⟩ := h
  intro q nq
  obtain ⟨r2, k2⟩ := r.newM (o := .dK []) (m := .dk none []) nq fun A k => ⟨[], upd_same, .nil⟩
  exact p _ _ (h q (m_none r nq)) _ _ r2 k2 (.inl (.r q))
theorem s_putD (hu : X.A.units + 1 < cLine) (hv : PE X value (lE X.K c wv)) (ho : PE X o (lE X.K c wd)) (hi : PE X i (lE X.K c wk)) (hs : swapsWith value (some (.Subscript o i pos')) pos.line X.env = pure false := by rfl) :
    PS X (.Assign [.Subscript o i pos'] value pos) (lS X.K c (wPutD wv wd wk)) := ps_imp (ps_dput hu ho hi hv hs) fun D σ H h => by
  obtain ⟨S, Dd, r, h, pst⟩ := h
  refine ⟨S, _, r, h, fun dv S1 h1 H1 v r1 k1 p1 => ⟨S1, _, r1, h1, fun dx S2 h2 H2 x r2 k2 p2 => ⟨S2, _, r2, h2, fun dy S3 h3 H3 y r3 k3 p3 => ?_⟩⟩⟩
  obtain ⟨vO, q, kds, k, rfl, e, hk, hz, h4⟩ := h3
  obtain ⟨kvs, g1, g2⟩ := r3.mem q _ e
  have p1' : Rp X.K (S3.A c) H3 v dv := (p1.pure vO).kp (kA (k2.trans k3))
  obtain ⟨r4, k4⟩ := r3.updM (m' := .dk none (putD kds k dv)) (o' := .dK (putK kvs k v)) e g1 trivial fun A kk => ⟨_, upd_same, rpk_put (g2.kp kk) (p1'.kp kk)⟩
  exact ⟨q, _, rs_r (p2.kp (kA k3)), .inl ⟨kvs, k, g1, key_ok hk p3, by rw [rpk_len' g2]; exact hz, rfl⟩, pst.nx _ h4 _ _ r4 (((k1.trans k2).trans k3).trans k4)⟩
theorem i_keys (he : PE X e (lE X.K c we)) : PI X tg e (lWk X.K c (wKeys we)) := pi_imp (pi_keys he) fun σ H R h => by
  obtain ⟨S, Qd, r, h, p⟩ := h
  refine ⟨S, _, r, h, fun d S1 h1 H1 v r1 k1 p1 => ?_⟩
  obtain ⟨q, od, kds, rfl, eM, h2⟩ := h1
  obtain ⟨kvs, g1, g2⟩ := r1.mem q _ eM
  have g1' : H1 q = some (.frz od (.dK kvs)) := g1
  refine ⟨q, od, rs_r p1, .inl ⟨kvs, g1', p _ _ h2 _ _ r1 k1 fun H2 W2 k i => ?_⟩⟩
  have e2 : H2 q = some (.frz od (.dK kvs)) := k.keep _ _ g1' (.inr id)
  refine ⟨fun d hd => ?_, fun hl => ⟨e2, by rw [rpk_len' g2]; simpa using hl⟩⟩
  obtain ⟨kk, vv', hv, rv⟩ := rpk_get g2 hd
  refine ⟨⟨e2, (List.getElem?_eq_some_iff.mp hv).1⟩, fun x H3 hy => ?_⟩
  obtain ⟨rfl, k', v', hy, rfl⟩ := hy
  rw [hv] at hy
  cases hy
  exact ⟨Same.refl _, rv.kp k.or⟩
end
end VL
set_option Elab.async false
set_option linter.all false
set_option maxRecDepth 100000
set_option maxHeartbeats 1000000
namespace VL
open PySem PySem.Spec PyProof.Rows L2
/-! ### times, of texts too -/
def rMulS : R2 := fun x y H Q => ∃ (z : Str) (n : Int), x = .str z ∧ y = .int n ∧ MulOk z n ∧ Q (.str (Txt.mul z n)) H
theorem op_mulS {X : Cx} : OpR X (binaryOp .Mult) rMulS := by
  intro pins s σ H x y v u Q I rx ry h
  obtain ⟨z, n, rfl, rfl, hk, q⟩ := h
  obtain ⟨t, rfl⟩ := rx
  obtain ⟨t', rfl⟩ := ry
  exact SB.mul hk fun t' tk => ⟨.str (Txt.mul z n), H, I.tok _, ⟨_, rfl⟩, q⟩
def rMulA : R2 := fun x y H Q => rI CMul (fun i j => .int (i * j)) x y H Q ∨ rMulS x y H Q
theorem op_mulA {X : Cx} : OpR X (binaryOp .Mult) rMulA := op_mul.or op_mulS
def rdMul : RD := fun x y S Q => match x, y with
  | .i a, .i b => CMul a b ∧ Q (.i (a * b)) S
  | .s z, .i n => MulOk z n ∧ Q (.s (Txt.mul z n)) S
  | _, _ => False
theorem lMul {K : PySem.W.Frag} {c : Cq} : OpL K c rMulA rdMul := fun σ H S x y dx dy Qd Q r rx ry h p => by
  cases dx <;> cases dy <;> try exact h.elim
  · exact .inl ⟨_, _, rs_i rx, rs_i ry, h.1, p _ _ h.2 _ _ r .refl (.inl (.i _))⟩
  · exact .inr ⟨_, _, rs_s rx, rs_i ry, h.1, p _ _ h.2 _ _ r .refl (.inl (.s _))⟩
theorem foldl_app : ∀ (l : List (Array Nat)) (b : Array Nat), (l.foldl (· ++ ·) b).toList = b.toList ++ (l.map Array.toList).flatten
  | [], b => by simp
  | a :: l, b => by
    rw [List.foldl_cons, foldl_app l, Array.toList_append, List.map_cons, List.flatten_cons, List.append_assoc]
/-- a letter, some times -/
theorem mul_one {ch : Nat} {n : Nat} (h : n < 1000) : MulOk ⟨#[ch]⟩ (n : Int) ∧ (Txt.mul ⟨#[ch]⟩ (n : Int)).cps.toList = List.replicate n ch := by
  refine ⟨⟨?_, fun h1 h2 => ?_, fun h1 h2 => ?_⟩, ?_⟩
  · rw [decide_eq_false (by omega), decide_eq_false (by omega)]
    rfl
  · have : ((Str.length ⟨#[ch]⟩ : Nat) : Int) = 1 := rfl
    rw [this]
    intro g
    have h3 : (2 ^ 63 - 1) / (n : Int) < 1 := g
    have h4 : (2 ^ 63 - 1 : Int) < 1 * (n : Int) := (Int.ediv_lt_iff_lt_mul (by omega)).mp h3
    omega
  · show decide (1 * n > sizeLine) = false
    exact decide_eq_false (by rw [sizeLine_eq]; omega)
  · unfold Txt.mul
    by_cases h1 : (n : Int) < 1
    · have : n = 0 := by omega
      subst this
      rfl
    · rw [if_neg h1]
      by_cases h2 : ((n : Int) == 1 || Str.length ⟨#[ch]⟩ == 0) = true
      · rw [if_pos h2]
        have : n = 1 := by
          have : Str.length ⟨#[ch]⟩ = 1 := rfl
          rw [this] at h2
          simp at h2
          omega
        subst this
        rfl
      · rw [if_neg h2]
        show (List.foldl (· ++ ·) #[] (List.replicate n #[ch])).toList = _
        rw [foldl_app]
        simp
/-! ### what is never reached -/
section
variable {X : Cx} {c : Cq}
def wDeadS : WS := fun _ _ => False
def wDeadE : WE := fun _ _ => False
theorem s_dead {st : Stmt} : PS X st (lS X.K c wDeadS) := ⟨fun pins s σ H D I h => by obtain ⟨_, _, _, h, _⟩ := h; exact h.elim⟩
theorem v_dead {e : Expr} : PE X e (lE X.K c wDeadE) := ⟨fun pins s σ H Q I h => by obtain ⟨_, _, _, h, _⟩ := h; exact h.elim⟩
end
/-! ### the letters of a text -/
section
variable {X : Cx} {c : Cq} {tg e : Expr} {we : WE}
def chsD (z : Str) : List Da := z.cps.toList.map fun ch => Da.s ⟨#[ch]⟩
def wStrI (we : WE) : WI := fun S Q => we S fun d S' => match d with
  | .s z => Q (chsD z) S'
  | _ => False
theorem i_str (he : PE X e (lE X.K c we)) : PI X tg e (lWk X.K c (wStrI we)) := pi_imp (pi_str he) fun σ H R h => by
  obtain ⟨S, Qd, r, h, p⟩ := h
  refine ⟨S, _, r, h, fun d S1 h1 H1 v r1 k1 p1 => ?_⟩
  cases d <;> try exact h1.elim
  rename_i z
  refine ⟨z, rs_s p1, p _ _ h1 _ _ r1 k1 fun H2 W2 k i => ⟨fun d hd => ?_, fun hl => ?_⟩⟩
  · unfold chsD at hd
    rw [List.getElem?_map, Array.getElem?_toList] at hd
    cases e : z.cps[i]? with
    | none => rw [e] at hd; cases hd
    | some ch =>
      rw [e] at hd
      cases hd
      refine ⟨(Array.getElem?_eq_some_iff.mp e).1, fun x H3 hy => ?_⟩
      obtain ⟨rfl, ch', hc, rfl⟩ := hy
      rw [e] at hc
      cases hc
      exact ⟨Same.refl _, .s _⟩
  · show z.cps.size ≤ i
    unfold chsD at hl
    rw [List.length_map, Array.length_toList] at hl
    exact hl
end
end VL
namespace VL
open PySem PySem.Spec PyProof.Rows L2
theorem fn_no {P : Program} {w : World} {K : PySem.W.Frag} {mg : Str → Option Value} {base : Heap} {k : Nat} {f : Addr} {fd : FuncData} {ps : List Str} {dc : DC} (no : ∀ ds M Q X, dc ds M Q X → False) : FnOk P w K mg base (L2.CX P w) k f fd ps (spOf K dc) :=
  ⟨fun vs H Q E h => by obtain ⟨_, _, _, _, _, _, _, _, hd, _⟩ := h; exact (no _ _ _ _ hd).elim, fun A outer s H args us vs Q E hr e0 hb hv h => by obtain ⟨_, _, _, _, _, _, _, _, hd, _⟩ := h; exact (no _ _ _ _ hd).elim⟩
end VL
namespace VL
open PySem PySem.Spec PyProof.Rows L2
/-! ### a new list, to be shared -/
def wNew (wl : WA) : WE := fun S Q => wl S fun ds S' => ∀ q, S'.M q = none → Q (.r q) ⟨S'.ρ, updM S'.M q (.lst ds)⟩
theorem v_new {X : Cx} {c : Cq} {e : Expr} {wl : WA} (h : PE X e (lL X.K c wl)) : PE X e (lE X.K c (wNew wl)) := pe_imp h fun σ H Q h => by
  obtain ⟨S, Qd, r, h, p⟩ := h
  refine ⟨S, _, r, h, fun ds S1 h1 H1 q vs r1 k1 nq ra hz => ?_⟩
  obtain ⟨r2, k2⟩ := r1.newM (o := .lst vs) (m := .lst ds) nq fun A k => ⟨vs, upd_same, ra.kp k⟩
  exact p _ _ (h1 q (m_none r1 nq)) _ _ r2 (k1.trans k2) (.inl (.r q))
end VL
set_option Elab.async false
set_option linter.all false
set_option maxRecDepth 100000
set_option maxHeartbeats 1000000
namespace VL
open PySem PySem.Spec PyProof.Rows L2
/-! ### words of a law -/
def abc : Str := Str.ofString "abcdefghijklmnopqrstuvwxyz"
theorem abc_list : abc.cps.toList = (List.range 26).map (97 + ·) := by decide +kernel
theorem abc_at {k : Nat} (h : k < 26) : atI abc.cps.toList (k : Int) = some (97 + k) := by
  rw [abc_list, atI_nat (v := 97 + k) (by simp [h])]
theorem sz_le {n : Nat} (h : n ≤ 1000) : n ≤ sizeLine := by rw [sizeLine_eq]; omega
theorem mul_of {z : Str} {n : Nat} (hl : z.cps.size ≤ 1) (hn : n < 1000) : MulOk z (n : Int) ∧ (Txt.mul z (n : Int)).cps.toList = (List.replicate n z.cps.toList).flatten := by
  have e0 : Str.length z = z.cps.size := rfl
  refine ⟨⟨?_, fun h1 h2 => ?_, fun h1 h2 => ?_⟩, ?_⟩
  · rw [decide_eq_false (by omega), decide_eq_false (by omega)]
    rfl
  · rw [e0]
    intro g
    have h3 : (2 ^ 63 - 1) / (n : Int) < 1 := by omega
    have h4 : (2 ^ 63 - 1 : Int) < 1 * (n : Int) := (Int.ediv_lt_iff_lt_mul (by omega)).mp h3
    omega
  · show decide (Str.length z * n > sizeLine) = false
    rw [e0]
    refine decide_eq_false ?_
    have : z.cps.size * n ≤ 1 * n := Nat.mul_le_mul_right n hl
    rw [sizeLine_eq]
    omega
  · unfold Txt.mul
    by_cases h1 : (n : Int) < 1
    · have : n = 0 := by omega
      subst this
      rfl
    · rw [if_neg h1]
      by_cases h2 : ((n : Int) == 1 || Str.length z == 0) = true
      · rw [if_pos h2, e0] at *
        rw [Bool.or_eq_true] at h2
        rcases h2 with h2 | h2
        · have : n = 1 := by
            have := eq_of_beq h2
            omega
          subst this
          simp
        · have : z.cps.toList = [] := by
            have h3 : z.cps.size = 0 := eq_of_beq h2
            rw [← List.length_eq_zero_iff, Array.length_toList]
            exact h3
          rw [this]
          simp
      · rw [if_neg h2]
        show (List.foldl (· ++ ·) #[] (List.replicate n z.cps)).toList = _
        rw [foldl_app]
        simp
def wl (b : Bool) (st : Nat) (fl lg : List Nat) (k : Nat) : List Nat :=
  if b then [97 + (st + k) % 26] ++ fl ++ (List.replicate k lg).flatten else fl ++ (List.replicate k lg).flatten ++ [97 + (st + k) % 26]
theorem wl_ne {b : Bool} {st i j : Nat} {fl lg : List Nat} (hi : i < j) (hj : j < 26) : wl b st fl lg i ≠ wl b st fl lg j := by
  intro e
  have : (st + i) % 26 = (st + j) % 26 := by
    unfold wl at e
    cases b with
    | true =>
      simp only [if_true, List.cons_append, List.nil_append] at e
      have := (List.cons.inj e).1
      omega
    | false =>
      simp only [Bool.false_eq_true, if_false] at e
      have := congrArg List.getLast? e
      rw [List.getLast?_concat, List.getLast?_concat] at this
      have := Option.some.inj this
      omega
  omega
/-- a word of the text's own -/
structure Wd (z : Str) : Prop where
  lo : 1 ≤ z.cps.toList.length
  hi : z.cps.toList.length ≤ 12
  ch : ∀ c ∈ z.cps.toList, 97 ≤ c ∧ c ≤ 122
theorem wl_wd {b : Bool} {st k : Nat} {fl lg : List Nat} (hf : fl.length ≤ 3) (hg : lg.length ≤ 1) (hk : k ≤ 6) (cf : ∀ c ∈ fl, 97 ≤ c ∧ c ≤ 122) (cg : ∀ c ∈ lg, 97 ≤ c ∧ c ≤ 122) {z : Str} (e : z.cps.toList = wl b st fl lg k) : Wd z := by
  have hl : (wl b st fl lg k).length = 1 + fl.length + k * lg.length := by
    unfold wl
    cases b <;> simp <;> omega
  have : k * lg.length ≤ 6 * 1 := Nat.mul_le_mul hk hg
  refine ⟨by rw [e, hl]; omega, by rw [e, hl]; omega, fun c hc => ?_⟩
  rw [e] at hc
  have cr : c ∈ (List.replicate k lg).flatten → 97 ≤ c ∧ c ≤ 122 := fun h => by
    obtain ⟨l, h1, h2⟩ := List.mem_flatten.mp h
    rw [List.eq_of_mem_replicate h1] at h2
    exact cg c h2
  have co : c = 97 + (st + k) % 26 → 97 ≤ c ∧ c ≤ 122 := fun h => by omega
  unfold wl at hc
  cases b with
  | true =>
    simp only [if_true, List.append_assoc, List.mem_append, List.mem_singleton] at hc
    rcases hc with h | h | h
    · exact co h
    · exact cf c h
    · exact cr h
  | false =>
    simp only [Bool.false_eq_true, if_false, List.append_assoc, List.mem_append, List.mem_singleton] at hc
    rcases hc with h | h | h
    · exact cf c h
    · exact cr h
    · exact co h
/-- words by their places -/
structure Wds (b : Bool) (st : Nat) (fl lg : List Nat) (ws : List Str) : Prop where
  at_ : ∀ j (h : j < ws.length), ws[j].cps.toList = wl b st fl lg j
theorem Wds.snoc {b : Bool} {st : Nat} {fl lg : List Nat} {ws : List Str} {z : Str} (h : Wds b st fl lg ws) (e : z.cps.toList = wl b st fl lg ws.length) : Wds b st fl lg (ws ++ [z]) := ⟨fun j hj => by
  rw [List.length_append, List.length_singleton] at hj
  by_cases q : j < ws.length
  · rw [List.getElem_append_left q]
    exact h.at_ j q
  · have : j = ws.length := by omega
    subst this
    rw [List.getElem_concat_length rfl]
    exact e⟩
theorem Wds.nodup {b : Bool} {st : Nat} {fl lg : List Nat} {ws : List Str} (h : Wds b st fl lg ws) (hl : ws.length ≤ 26) : ws.Nodup := by
  rw [List.nodup_iff_pairwise_ne, List.pairwise_iff_getElem]
  intro i j hi hj hij e
  have := congrArg (fun z : Str => z.cps.toList) e
  simp only [h.at_ i hi, h.at_ j hj] at this
  exact wl_ne hij (by omega) this
theorem Wds.wd {b : Bool} {st : Nat} {fl lg : List Nat} {ws : List Str} (h : Wds b st fl lg ws) (hl : ws.length ≤ 7) (hf : fl.length ≤ 3) (hg : lg.length ≤ 1) (cf : ∀ c ∈ fl, 97 ≤ c ∧ c ≤ 122) (cg : ∀ c ∈ lg, 97 ≤ c ∧ c ≤ 122) : ∀ z ∈ ws, Wd z := fun z hz => by
  obtain ⟨j, hj, rfl⟩ := List.getElem_of_mem hz
  exact wl_wd hf hg (by omega) cf cg (h.at_ j hj)
end VL
set_option Elab.async false
set_option linter.all false
set_option maxRecDepth 100000
set_option maxHeartbeats 1000000
namespace VL
open PySem PySem.Spec PyProof.Rows L2
/-! ### loops over a range -/
theorem rngD_length {lo : Int} {n : Nat} : (rngD lo n).length = n := by simp [rngD]
theorem rngD_drop {lo : Int} {n k : Nat} (h : k < n) : (rngD lo n).drop k = .i (lo + (k : Int)) :: (rngD lo n).drop (k + 1) := by
  rw [List.drop_eq_getElem_cons (by rw [rngD_length]; exact h)]
  congr 1
  simp [rngD]
theorem forGo_rng {wg : WG} {wb : WS} {D : Dn} {lo : Int} {n : Nat} (I : Nat → Sx → Prop) (step : ∀ k S, k < n → I k S → ∀ R : Sx → Prop, (∀ S', I (k + 1) S' → R S') → wg (.i (lo + (k : Int))) S fun S2 => wb { D with nx := R, ct := R, bk := D.nx } S2)
    (stop : ∀ S, I n S → D.nx S) (S : Sx) (h0 : I 0 S) : forGo wg wb D (rngD lo n) S := by
  refine forGo_of (fun rest S => ∃ k, k ≤ n ∧ rest = (rngD lo n).drop k ∧ I k S) (fun d ds S h R hR => ?_) (fun S h => ?_) _ _ ⟨0, Nat.zero_le _, rfl, h0⟩
  · obtain ⟨k, hk, e, hI⟩ := h
    by_cases hlt : k < n
    · rw [rngD_drop hlt] at e
      cases e
      exact step k S hlt hI R fun S' h' => hR S' ⟨k + 1, hlt, rfl, h'⟩
    · have : k = n := by omega
      subst this
      rw [List.drop_eq_nil_of_le (by rw [rngD_length]; exact Nat.le_refl _)] at e
      cases e
  · obtain ⟨k, hk, e, hI⟩ := h
    by_cases hlt : k < n
    · rw [rngD_drop hlt] at e
      cases e
    · have : k = n := by omega
      subst this
      exact stop S hI
theorem forGo_rng0 {wg : WG} {wb : WS} {D : Dn} {n : Nat} (I : Nat → Sx → Prop) (step : ∀ k S, k < n → I k S → ∀ R : Sx → Prop, (∀ S', I (k + 1) S' → R S') → wg (.i (k : Int)) S fun S2 => wb { D with nx := R, ct := R, bk := D.nx } S2)
    (stop : ∀ S, I n S → D.nx S) (S : Sx) (h0 : I 0 S) : forGo wg wb D (rngD 0 n) S := forGo_rng I (fun k S hk hI R hR => by rw [Int.zero_add]; exact step k S hk hI R hR) stop S h0
theorem lcGo_rng0 {wg : WG} {wt : WT} {we : WE} {vs : List Nat} {Q : List Da → Sx → Prop} {n : Nat} (I : Nat → List Da → Sx → Prop)
    (step : ∀ k acc S, k < n → I k acc S → ∀ R : List Da → Sx → Prop, (∀ acc' S', I (k + 1) acc' S' → R acc' S') → wg (.i (k : Int)) (S.wipe vs) fun S2 => wt S2 fun b S3 => if b = true then we S3 fun y S4 => y.isO = false ∧ acc.length < sizeLine ∧ R (acc ++ [y]) (S.back S4 vs) else R acc (S.back S3 vs))
    (stop : ∀ acc S, I n acc S → Q acc S) (acc : List Da) (S : Sx) (h0 : I 0 acc S) : lcGo wg wt we vs Q (rngD 0 n) acc S := by
  refine lcGo_of (fun rest acc S => ∃ k, k ≤ n ∧ rest = (rngD 0 n).drop k ∧ I k acc S) (fun d ds acc S h R hR => ?_) (fun acc S h => ?_) _ _ _ ⟨0, Nat.zero_le _, rfl, h0⟩
  · obtain ⟨k, hk, e, hI⟩ := h
    by_cases hlt : k < n
    · rw [rngD_drop hlt, Int.zero_add] at e
      cases e
      exact step k acc S hlt hI R fun a' S' h' => hR a' S' ⟨k + 1, hlt, rfl, h'⟩
    · have : k = n := by omega
      subst this
      rw [List.drop_eq_nil_of_le (by rw [rngD_length]; exact Nat.le_refl _)] at e
      cases e
  · obtain ⟨k, hk, e, hI⟩ := h
    by_cases hlt : k < n
    · rw [rngD_drop hlt] at e
      cases e
    · have : k = n := by omega
      subst this
      exact stop acc S hI
theorem fmod_nat {a : Nat} {b : Nat} (hb : 0 < b) : Int.fmod (a : Int) (b : Int) = ((a % b : Nat) : Int) := by
  rw [Int.fmod_eq_emod_of_nonneg _ (by omega)]
  exact (Int.natCast_emod a b).symm
/-- the letter (st + k) % 26 -/
theorem abc_mod {st k : Nat} : atI abc.cps.toList (Int.fmod ((st : Int) + (k : Int)) 26) = some (97 + (st + k) % 26) := by
  have : Int.fmod ((st : Int) + (k : Int)) 26 = (((st + k) % 26 : Nat) : Int) := by
    rw [← Int.natCast_add]
    exact fmod_nat (by decide)
  rw [this]
  exact abc_at (Nat.mod_lt _ (by decide))
theorem rep1 {n c : Nat} : ((List.replicate n [c]).flatten).length = n ∧ ∀ x ∈ (List.replicate n [c]).flatten, x = c := by
  refine ⟨by simp, fun x hx => ?_⟩
  obtain ⟨l, h1, h2⟩ := List.mem_flatten.mp hx
  rw [List.eq_of_mem_replicate h1] at h2
  exact List.mem_singleton.mp h2
theorem str_len (z : Str) : Str.length z = z.cps.toList.length := (Array.length_toList (xs := z.cps)).symm
theorem str_app (a b : Str) : (a ++ b).cps.toList = a.cps.toList ++ b.cps.toList := Array.toList_append
end VL
set_option Elab.async false
set_option linter.all false
set_option maxRecDepth 100000
set_option maxHeartbeats 1000000
namespace VL
open PySem PySem.Spec PyProof.Rows L2
/-! ### a stock's shapes, forms over them -/
def shD (sh : List (Str × Str)) : List (Key × Da) := sh.map fun x => (Sum.inr x.1, Da.s x.2)
structure Shp (sh : List (Str × Str)) : Prop where
  lo : 2 ≤ sh.length
  hi : sh.length ≤ 1000
  nd : (sh.map (·.1)).Nodup
  wd : ∀ x ∈ sh, Wd x.1
  z0 : ∀ j (h : j < sh.length), j < 2 → sh[j].2 = Str.empty
  ar : ∀ x ∈ sh, x.2.cps.toList.length ≤ 3
theorem keys_shD (sh : List (Str × Str)) : (shD sh).map keyD = (sh.map (·.1)).map Da.s := by
  unfold shD
  rw [List.map_map, List.map_map]
  rfl
theorem valD_shD : ∀ {sh : List (Str × Str)} {z v : Str}, (sh.map (·.1)).Nodup → (z, v) ∈ sh → valD (shD sh) (.inr z) = some (.s v)
  | [], _, _, _, h => by simp at h
  | x :: sh, z, v, nd, h => by
    rw [List.map_cons, List.nodup_cons] at nd
    by_cases e : x.1 = z
    · have : x = (z, v) := by
        rcases List.mem_cons.mp h with h | h
        · exact h.symm
        · exact absurd (List.mem_map.mpr ⟨(z, v), h, e.symm⟩) nd.1
      subst this
      unfold valD shD
      rw [List.map_cons, List.find?_cons_of_pos (by simp)]
      rfl
    · have h' : (z, v) ∈ sh := by
        rcases List.mem_cons.mp h with h | h
        · rw [← h] at e; exact absurd rfl e
        · exact h
      have ih := valD_shD nd.2 h'
      unfold valD shD at ih ⊢
      rw [List.map_cons, List.find?_cons_of_neg (by simpa using e)]
      exact ih
/-- a form over sh, with letters of lt, of this height at most -/
inductive Fo (sh : List (Str × Str)) (lt : Str) : Nat → Da → Prop
  | lt {n c : Nat} : c ∈ lt.cps.toList → Fo sh lt n (.s ⟨#[c]⟩)
  | nd {n : Nat} {z v : Str} {fs : List Da} : (z, v) ∈ sh → fs.length = v.cps.toList.length → (∀ f ∈ fs, Fo sh lt n f) → Fo sh lt (n + 1) (.t (.s z :: fs))
theorem Fo.nO {sh : List (Str × Str)} {lt : Str} {n : Nat} {f : Da} (h : Fo sh lt n f) : f.isO = false := by cases h <;> rfl
/-- what stood, stands; the tape at p may have changed -/
structure Tk (p : Addr) (M M' : Mx) (tp : Prop) : Prop where
  tp : tp
  out : ∀ b m, b ≠ p → M b = some m → M' b = some m
theorem empty_str : Str.ofString "" = ⟨#[]⟩ := by decide +kernel
theorem str_pos {z : Str} (h : z ≠ Str.ofString "") : 1 ≤ z.cps.toList.length := by
  refine Nat.pos_of_ne_zero fun e => h ?_
  rw [empty_str]
  cases z with
  | mk c =>
    have : c.toList = [] := List.length_eq_zero_iff.mp e
    rw [show c = #[] from Array.toList_inj.mp (by rw [this])]
theorem atI_take {α : Type} {xs : List α} {r : Nat} (h : r < xs.length) : ∃ x, atI xs (r : Int) = some x ∧ xs[r]? = some x := ⟨xs[r], atI_nat (by simp [h]), by simp [h]⟩
theorem at_s {ws : List Str} {r : Nat} (h : r < ws.length) : atI (ws.map Da.s) (r : Int) = some (.s ws[r]) := by
  rw [atI_nat (v := Da.s ws[r]) (by simp [h])]
theorem putD_shD {sh : List (Str × Str)} {z v : Str} (h : z ∉ sh.map (·.1)) : putD (shD sh) (.inr z) (.s v) = shD (sh ++ [(z, v)]) := by
  unfold putD
  rw [if_neg]
  · unfold shD
    rw [List.map_append]
    rfl
  · intro e
    obtain ⟨x, h1, h2⟩ := List.any_eq_true.mp e
    unfold shD at h1
    obtain ⟨y, h3, rfl⟩ := List.mem_map.mp h1
    have : y.1 = z := by simpa using h2
    exact h (List.mem_map.mpr ⟨y, h3, this⟩)
theorem putD_length {kds : List (Key × Da)} {k : Key} {d : Da} : (putD kds k d).length ≤ kds.length + 1 := by
  unfold putD
  split
  · rw [List.length_map]; omega
  · simp
/-- a tape at p, the shapes at q, all older things as they were -/
structure Stk (p q : Addr) (M : Mx) (sh : List (Str × Str)) (M' : Mx) : Prop where
  tp : ∃ ts : List Int, M' p = some (.lst (ts.map .i)) ∧ ts.length ≤ 1000
  dk : M' q = some (.dk none (shD sh))
  out : ∀ b m, b ≠ p → M b = some m → M' b = some m
  ne : q ≠ p
  nq : M q = none
theorem Stk.put {p q : Addr} {M M' : Mx} {sh : List (Str × Str)} {z v : Str} (s : Stk p q M sh M') (h : z ∉ sh.map (·.1)) : Stk p q M (sh ++ [(z, v)]) (updM M' q (.dk none (putD (shD sh) (.inr z) (.s v)))) := by
  refine ⟨?_, by rw [updM_same, putD_shD h], fun b m hb e => ?_, s.ne, s.nq⟩
  · obtain ⟨ts, h1, h2⟩ := s.tp
    exact ⟨ts, by rw [updM_ne (Ne.symm s.ne)]; exact h1, h2⟩
  · have : b ≠ q := fun z => by rw [z, s.nq] at e; cases e
    rw [updM_ne this]
    exact s.out b m hb e
theorem Stk.take {p q : Addr} {M M' M2 : Mx} {sh : List (Str × Str)} (s : Stk p q M sh M') (tp : ∃ ts : List Int, M2 p = some (.lst (ts.map .i)) ∧ ts.length ≤ 1000) (out : ∀ b, b ≠ p → M2 b = M' b) : Stk p q M sh M2 :=
  ⟨tp, by rw [out q s.ne]; exact s.dk, fun b m hb e => by rw [out b hb]; exact s.out b m hb e, s.ne, s.nq⟩
theorem Stk.other {p q q2 : Addr} {M M' : Mx} {sh : List (Str × Str)} {m : MO} (s : Stk p q M sh M') (h1 : q2 ≠ p) (h2 : q2 ≠ q) (h3 : M q2 = none) : Stk p q M sh (updM M' q2 m) := by
  refine ⟨?_, by rw [updM_ne (Ne.symm h2)]; exact s.dk, fun b n hb e => ?_, s.ne, s.nq⟩
  · obtain ⟨ts, g1, g2⟩ := s.tp
    exact ⟨ts, by rw [updM_ne (Ne.symm h1)]; exact g1, g2⟩
  · have : b ≠ q2 := fun z => by rw [z, h3] at e; cases e
    rw [updM_ne this]
    exact s.out b n hb e
/-- the keys of a stock out of its seven words -/
def ksOf (ws : List Str) (nb k : Nat) : List Str := ws.take nb ++ (ws.drop 4).take k
theorem ks_nodup {ws : List Str} {nb k : Nat} (h : ws.Nodup) (hb : nb ≤ 4) : (ksOf ws nb k).Nodup := by
  have : (ksOf ws nb k).Sublist ws := by
    have e := List.take_append_drop 4 ws
    have s := List.Sublist.append (l₁ := ws.take nb) (l₂ := ws.take 4) (r₁ := (ws.drop 4).take k) (r₂ := ws.drop 4) (by
      rw [show ws.take nb = (ws.take 4).take nb by rw [List.take_take, Nat.min_eq_left hb]]
      exact List.take_sublist _ _) (List.take_sublist _ _)
    rw [e] at s
    exact s
  exact this.nodup h
theorem ks_succ {ws : List Str} {nb k : Nat} (h : 4 + k < ws.length) : ksOf ws nb (k + 1) = ksOf ws nb k ++ [ws[4 + k]] := by
  unfold ksOf
  rw [List.take_succ, List.getElem?_drop, List.getElem?_eq_getElem h, List.append_assoc]
  rfl
theorem ks_base {ws : List Str} {k : Nat} (h : k < ws.length) : ksOf ws (k + 1) 0 = ksOf ws k 0 ++ [ws[k]] := by
  unfold ksOf
  rw [List.take_zero, List.append_nil, List.append_nil, List.take_succ, List.getElem?_eq_getElem h]
  rfl
theorem not_in {xs : List Str} {z : Str} (h : (xs ++ [z]).Nodup) : z ∉ xs := fun e => by
  rw [List.nodup_append] at h
  exact h.2.2 z e z (by simp) rfl
theorem ks_len {ws : List Str} {nb k : Nat} : (ksOf ws nb k).length ≤ nb + k := by
  unfold ksOf
  rw [List.length_append, List.length_take, List.length_take]
  omega
theorem shD_len (sh : List (Str × Str)) : (shD sh).length = sh.length := List.length_map _
theorem empty_eq : Str.ofString "" = Str.empty := by decide +kernel
theorem ln_s (l : List Str) : (l.map Da.s).length = l.length := List.length_map _
end VL
set_option Elab.async false
set_option linter.all false
set_option maxRecDepth 100000
set_option maxHeartbeats 1000000
namespace VL
open PySem PySem.Spec PyProof.Rows L2
/-! ### forms, as the program reads them -/
mutual
def Da.sz : Da → Nat
  | .t ds => 1 + szs ds
  | _ => 1
def szs : List Da → Nat
  | [] => 0
  | d :: ds => d.sz + szs ds
end
theorem sz_pos (d : Da) : 1 ≤ d.sz := by cases d <;> simp [Da.sz] <;> omega
theorem szs_app : ∀ (a b : List Da), szs (a ++ b) = szs a + szs b
  | [], b => by simp [szs]
  | d :: a, b => by
    rw [List.cons_append, szs, szs, szs_app a b]
    omega
theorem szs_len : ∀ (a : List Da), a.length ≤ szs a
  | [] => by simp
  | d :: a => by
    have := szs_len a
    have := sz_pos d
    rw [List.length_cons, szs]
    omega
theorem szs_rev (a : List Da) : szs a.reverse = szs a := by
  induction a with
  | nil => rfl
  | cons d a ih =>
    rw [List.reverse_cons, szs_app, ih, szs, szs, szs]
    omega
/-- a form; lb: letters may stand in it -/
inductive Fk (lb : Bool) : Da → Prop
  | lt {c : Nat} : lb = true → 65 ≤ c → c ≤ 90 → Fk lb (.s ⟨#[c]⟩)
  | nd {z : Str} {fs : List Da} : Wd z → fs.length ≤ 3 → (∀ f ∈ fs, Fk lb f) → Fk lb (.t (.s z :: fs))
theorem occ_small {c : Nat} (h : 97 ≤ c ∧ c ≤ 122) : (!(Builtin.Str.occurrences (Str.ofString "abcdefghijklmnopqrstuvwxyz") ⟨#[c]⟩ 0 (Str.ofString "abcdefghijklmnopqrstuvwxyz").length 1).isEmpty) = true := by
  have : ∀ k : Fin 26, (!(Builtin.Str.occurrences (Str.ofString "abcdefghijklmnopqrstuvwxyz") ⟨#[97 + k.val]⟩ 0 (Str.ofString "abcdefghijklmnopqrstuvwxyz").length 1).isEmpty) = true := by decide +kernel
  have h2 := this ⟨c - 97, by omega⟩
  rwa [show 97 + (c - 97) = c by omega] at h2
theorem occ_cap {c : Nat} (h : 65 ≤ c ∧ c ≤ 90) : (!(Builtin.Str.occurrences (Str.ofString "ABCDEFGHIJKLMNOPQRSTUVWXYZ") ⟨#[c]⟩ 0 (Str.ofString "ABCDEFGHIJKLMNOPQRSTUVWXYZ").length 1).isEmpty) = true := by
  have : ∀ k : Fin 26, (!(Builtin.Str.occurrences (Str.ofString "ABCDEFGHIJKLMNOPQRSTUVWXYZ") ⟨#[65 + k.val]⟩ 0 (Str.ofString "ABCDEFGHIJKLMNOPQRSTUVWXYZ").length 1).isEmpty) = true := by decide +kernel
  have h2 := this ⟨c - 65, by omega⟩
  rwa [show 65 + (c - 65) = c by omega] at h2
theorem cut_tail {a : Da} {fs : List Da} : cutD (a :: fs) (some 1) none = fs := by
  unfold cutD
  simp [HT.sIx]
theorem bools_true {α : Type} : ∀ (l : List α), bools (l.map fun _ => Da.b true) = some (l.map fun _ => true)
  | [] => rfl
  | a :: l => by
    have ih := bools_true l
    rw [List.map_cons, List.map_cons]
    simp [bools, ih]
theorem szs_concat {a : List Da} {x : Da} : szs (a ++ [x]) = szs a + x.sz := by
  rw [szs_app, szs, szs]
  omega
theorem bools_false {α : Type} : ∀ (l : List α), bools (l.map fun _ => Da.b false) = some (l.map fun _ => false)
  | [] => rfl
  | a :: l => by
    have ih := bools_false l
    rw [List.map_cons, List.map_cons]
    simp [bools, ih]
/-- a place of a rule: what it binds, what it is given -/
def optD' : Option Da → Da
  | none => .n
  | some d => d
def plD (x : Option Da × Da) : Da := .t [optD' x.1, x.2]
end VL
set_option Elab.async false
set_option linter.all false
set_option maxRecDepth 100000
set_option maxHeartbeats 1000000
namespace VL
open PySem PySem.Spec PyProof.Rows L2
/-! ### programs: n, xn: a note stands there -/
mutual
inductive Pt where
  | nm (n : Bool) (z : Str)
  | nd (n : Bool) (z : Str) (bs : Bk)
inductive Bk where
  | nil
  | cons (x : Option Str) (xn : Bool) (q : Pt) (r : Bk)
end
def optS : Option Str → Da
  | none => .n
  | some z => .s z
def noteD (κ : Da) (b : Bool) : Da := if b then κ else .n
def colon : Str := Str.ofString ":"
mutual
def Pt.core (κ : Da) : Pt → Da
  | .nm _ z => .s z
  | .nd _ z bs => .t (.s z :: Bk.das κ bs)
def Pt.da (κ : Da) : Pt → Da
  | .nm n z => if n then .t [.s colon, .s z, κ] else .s z
  | .nd n z bs => if n then .t [.s colon, .t (.s z :: Bk.das κ bs), κ] else .t (.s z :: Bk.das κ bs)
def Bk.das (κ : Da) : Bk → List Da
  | .nil => []
  | .cons x xn q r => .t [optS x, noteD κ xn, Pt.da κ q] :: Bk.das κ r
end
def Pt.noted : Pt → Bool
  | .nm n _ => n
  | .nd n _ _ => n
theorem Pt.da_eq (κ : Da) : ∀ q : Pt, q.da κ = if q.noted then .t [.s colon, q.core κ, κ] else q.core κ
  | .nm n z => by cases n <;> simp [Pt.da, Pt.core, Pt.noted]
  | .nd n z bs => by cases n <;> simp [Pt.da, Pt.core, Pt.noted]
mutual
/-- names and signs are words; a place that binds no name has no note for it -/
def Pt.ok : Pt → Prop
  | .nm _ z => Wd z
  | .nd _ z bs => Wd z ∧ Bk.ok bs
def Bk.ok : Bk → Prop
  | .nil => True
  | .cons x xn q r => (∀ z, x = some z → Wd z) ∧ (x = none → xn = false) ∧ Pt.ok q ∧ Bk.ok r
end
mutual
def Pt.strip : Pt → Pt
  | .nm _ z => .nm false z
  | .nd _ z bs => .nd false z (Bk.strip bs)
def Bk.strip : Bk → Bk
  | .nil => .nil
  | .cons x _ q r => .cons x false (Pt.strip q) (Bk.strip r)
end
mutual
def Pt.count : Pt → Nat
  | .nm _ _ => 1
  | .nd _ _ bs => 1 + Bk.count bs
def Bk.count : Bk → Nat
  | .nil => 0
  | .cons _ _ q r => Pt.count q + Bk.count r
end
def Bk.len : Bk → Nat
  | .nil => 0
  | .cons _ _ _ r => Bk.len r + 1
def Bk.app : Bk → Bk → Bk
  | .nil, b => b
  | .cons x xn q r, b => .cons x xn q (Bk.app r b)
theorem das_app (κ : Da) : ∀ a b : Bk, (Bk.app a b).das κ = a.das κ ++ b.das κ
  | .nil, b => by simp [Bk.app, Bk.das]
  | .cons x xn q r, b => by simp [Bk.app, Bk.das, das_app κ r b]
theorem ok_app : ∀ a b : Bk, Bk.ok (Bk.app a b) ↔ a.ok ∧ b.ok
  | .nil, b => by simp [Bk.app, Bk.ok]
  | .cons x xn q r, b => by simp [Bk.app, Bk.ok, ok_app r b, and_assoc]
theorem count_app : ∀ a b : Bk, Bk.count (Bk.app a b) = a.count + b.count
  | .nil, b => by simp [Bk.app, Bk.count]
  | .cons x xn q r, b => by simp [Bk.app, Bk.count, count_app r b, Nat.add_assoc]
theorem len_app : ∀ a b : Bk, Bk.len (Bk.app a b) = a.len + b.len
  | .nil, b => by simp [Bk.app, Bk.len]
  | .cons x xn q r, b => by simp only [Bk.app, Bk.len, len_app r b]; omega
theorem das_len (κ : Da) : ∀ b : Bk, (b.das κ).length = b.len
  | .nil => by simp [Bk.len, Bk.das]
  | .cons x xn q r => by simp [Bk.len, Bk.das, das_len κ r]
theorem strip_app : ∀ a b : Bk, Bk.strip (Bk.app a b) = Bk.app a.strip b.strip
  | .nil, b => by simp [Bk.app, Bk.strip]
  | .cons x xn q r, b => by simp [Bk.app, Bk.strip, strip_app r b]
theorem optS_O (x : Option Str) : (optS x).isO = false := by cases x <;> rfl
theorem Pt.coreO (κ : Da) (q : Pt) : (q.core κ).isO = false := by cases q <;> simp [Pt.core] <;> rfl
theorem Pt.daO (κ : Da) (q : Pt) : (q.da κ).isO = false := by
  rw [Pt.da_eq]
  split
  · rfl
  · exact q.coreO κ
/-- how great a part is, at most -/
def bnd : Nat → Nat
  | 0 => 1
  | d + 1 => 1 + 3 * bnd d
theorem bnd_pos : ∀ d, 1 ≤ bnd d
  | 0 => Nat.le_refl _
  | d + 1 => by rw [bnd]; omega
/-- a rule's row -/
structure Rl where
  z : Str
  pls : List (Da × Da)
  f : Da
def pl2 (x : Da × Da) : Da := .t [x.1, x.2]
def Rl.da (r : Rl) : Da := .t [.s r.z, .t [.t (r.pls.map pl2), r.f]]
def Bd (d : Da) : Prop := d = .n ∨ (∃ z, d = .s z) ∨ ∃ es, d = .t es
structure Rl.ok (r : Rl) : Prop where
  wd : Wd r.z
  ar : r.pls.length ≤ 3
  bd : ∀ x ∈ r.pls, Bd x.1
mutual
theorem bare_da (κ κ' : Da) : ∀ q : Pt, (q.strip).da κ = (q.strip).da κ'
  | .nm n z => by simp [Pt.strip, Pt.da]
  | .nd n z bs => by simp [Pt.strip, Pt.da, bare_das κ κ' bs]
theorem bare_das (κ κ' : Da) : ∀ b : Bk, (b.strip).das κ = (b.strip).das κ'
  | .nil => by simp [Bk.strip, Bk.das]
  | .cons x xn q r => by simp [Bk.strip, Bk.das, noteD, bare_da κ κ' q, bare_das κ κ' r]
end
mutual
def Pt.ht : Pt → Nat
  | .nm _ _ => 0
  | .nd _ _ bs => Bk.ht bs + 1
def Bk.ht : Bk → Nat
  | .nil => 0
  | .cons _ _ q r => max (Pt.ht q) (Bk.ht r)
end
theorem ht_app : ∀ a b : Bk, Bk.ht (Bk.app a b) = max a.ht b.ht
  | .nil, b => by simp [Bk.app, Bk.ht]
  | .cons x xn q r, b => by simp only [Bk.app, Bk.ht, ht_app r b]; omega
def Pt.setn (n : Bool) : Pt → Pt
  | .nm _ z => .nm n z
  | .nd _ z bs => .nd n z bs
theorem setn_strip (n : Bool) (q : Pt) : (q.setn n).strip = q.strip := by cases q <;> simp [Pt.setn, Pt.strip]
theorem setn_ok (n : Bool) (q : Pt) : (q.setn n).ok ↔ q.ok := by cases q <;> simp [Pt.setn, Pt.ok]
theorem setn_core (n : Bool) (κ : Da) (q : Pt) : (q.setn n).core κ = q.core κ := by cases q <;> simp [Pt.setn, Pt.core]
theorem setn_noted (n : Bool) (q : Pt) : (q.setn n).noted = n := by cases q <;> simp [Pt.setn, Pt.noted]
theorem setn_da1 (κ : Da) (q : Pt) : (q.setn true).da κ = .t [.s colon, q.core κ, κ] := by rw [Pt.da_eq, setn_noted, setn_core]; simp
theorem setn_da0 (κ : Da) (q : Pt) : (q.setn false).da κ = q.core κ := by rw [Pt.da_eq, setn_noted, setn_core]; simp
mutual
theorem strip_count : ∀ q : Pt, q.strip.count = q.count
  | .nm n z => by simp [Pt.strip, Pt.count]
  | .nd n z bs => by simp [Pt.strip, Pt.count, strip_bcount bs]
theorem strip_bcount : ∀ b : Bk, b.strip.count = b.count
  | .nil => by simp [Bk.strip, Bk.count]
  | .cons x xn q r => by simp [Bk.strip, Bk.count, strip_count q, strip_bcount r]
end
mutual
theorem strip_strip : ∀ q : Pt, q.strip.strip = q.strip
  | .nm n z => by simp [Pt.strip]
  | .nd n z bs => by simp [Pt.strip, strip_bstrip bs]
theorem strip_bstrip : ∀ b : Bk, b.strip.strip = b.strip
  | .nil => by simp [Bk.strip]
  | .cons x xn q r => by simp [Bk.strip, strip_strip q, strip_bstrip r]
end
theorem strip_blen : ∀ b : Bk, b.strip.len = b.len
  | .nil => by simp [Bk.strip]
  | .cons x xn q r => by simp [Bk.strip, Bk.len, strip_blen r]
theorem len_count : ∀ b : Bk, b.len ≤ b.count
  | .nil => by simp [Bk.len]
  | .cons x xn q r => by
    have := len_count r
    have : 1 ≤ q.count := by cases q <;> simp [Pt.count] <;> omega
    simp only [Bk.len, Bk.count]
    omega
theorem app_assoc : ∀ a b c : Bk, Bk.app (Bk.app a b) c = Bk.app a (Bk.app b c)
  | .nil, b, c => by simp [Bk.app]
  | .cons x xn q r, b, c => by simp [Bk.app, app_assoc r b c]
theorem app_nil : ∀ a : Bk, Bk.app a .nil = a
  | .nil => by simp [Bk.app]
  | .cons x xn q r => by simp [Bk.app, app_nil r]
theorem noteO {κ : Da} (h : κ.isO = false) (b : Bool) : (noteD κ b).isO = false := by cases b <;> first | exact h | rfl
theorem wd_ok {z : Str} (h : Wd z) : PyData.strOk z = true := by
  unfold PyData.strOk
  rw [Array.all_eq_true']
  intro c hc
  have := h.ch c (Array.mem_toList_iff.mpr hc)
  exact decide_eq_true (by omega)
theorem colon_list : colon.cps.toList = [58] := by decide +kernel
theorem wd_colon {z : Str} (h : Wd z) : z ≠ colon := fun e => by
  have := h.ch 58 (by rw [e, colon_list]; simp)
  omega
theorem pd_s1 {z : Str} (h : PyData.strOk z = true) : (Da.t [.s z]).eqb = true := (Pd.t (n := 0) fun d hd => by rw [List.mem_singleton.mp hd]; exact .s h).eqb (by decide)
theorem eqv_s1 {a b : Str} : PyData.eqv (Da.t [.s a]).py (Da.t [.s b]).py = decide (a = b) := by
  simp only [Da.py, pys, PyData.eqv, PyData.eqvAll, Bool.and_true]
  exact Bool.beq_eq_decide_eq a b
theorem cut_head {a : Da} {fs : List Da} : cutD (a :: fs) none (some 1) = [a] := by
  unfold cutD
  simp [HT.sIx]
end VL
set_option Elab.async false
set_option linter.all false
set_option maxRecDepth 100000
set_option maxHeartbeats 1000000
namespace VL
open PySem PySem.Spec PyProof.Rows L2
/-! ### rows and spots of a program -/
def ixD (k : Nat) : Da := .i (k : Int)
def pathD (p : List Nat) : Da := .t (p.map ixD)
def onD : Option Nat → Da
  | none => .n
  | some k => ixD k
abbrev Spot := List Nat × Option Nat
def spD (s : Spot) : Da := .t [pathD s.1, onD s.2]
def spF (s : Spot × Bool) : Da := .t [spD s.1, .b s.2]
structure Rw where
  path : List Nat
  q : Pt
  x : Option Str
  xn : Bool
def rwD (κ : Da) (r : Rw) : Da := .t [pathD r.path, r.q.core κ, noteD κ r.q.noted, optS r.x, noteD κ r.xn]
def nameSp (r : Rw) : List (Spot × Bool) := match r.x with
  | none => []
  | some _ => [((r.path.dropLast, r.path.getLast?), r.xn)]
def rowSp (r : Rw) : List (Spot × Bool) := nameSp r ++ [((r.path, none), r.q.noted)]
mutual
def Pt.rows (path : List Nat) (x : Option Str) (xn : Bool) : Pt → List Rw
  | .nm n z => [⟨path, .nm n z, x, xn⟩]
  | .nd n z bs => ⟨path, .nd n z bs, x, xn⟩ :: Bk.rows path 0 bs
def Bk.rows (path : List Nat) (i : Nat) : Bk → List Rw
  | .nil => []
  | .cons x xn q r => Pt.rows (path ++ [i]) x xn q ++ Bk.rows path (i + 1) r
end
def ofName (x : Option Str) (s : Spot × Bool) : List (Spot × Bool) := match x with
  | none => []
  | some _ => [s]
mutual
def Pt.sps (path : List Nat) : Pt → List (Spot × Bool)
  | .nm n _ => [((path, none), n)]
  | .nd n _ bs => ((path, none), n) :: Bk.sps path 0 bs
def Bk.sps (path : List Nat) (i : Nat) : Bk → List (Spot × Bool)
  | .nil => []
  | .cons x xn q r => ofName x ((path, some i), xn) ++ Pt.sps (path ++ [i]) q ++ Bk.sps path (i + 1) r
end
theorem nameSp_at {path : List Nat} {i : Nat} {q : Pt} {x : Option Str} {xn : Bool} : nameSp ⟨path ++ [i], q, x, xn⟩ = ofName x ((path, some i), xn) := by
  unfold nameSp ofName
  cases x
  · rfl
  · show [(((path ++ [i]).dropLast, (path ++ [i]).getLast?), xn)] = _
    rw [List.dropLast_concat, List.getLast?_concat]
mutual
theorem rows_sps : ∀ (q : Pt) (path : List Nat) (x : Option Str) (xn : Bool), (q.rows path x xn).flatMap rowSp = nameSp ⟨path, q, x, xn⟩ ++ q.sps path
  | .nm n z, path, x, xn => by simp [Pt.rows, Pt.sps, rowSp, Pt.noted]
  | .nd n z bs, path, x, xn => by
    rw [Pt.rows, Pt.sps, List.flatMap_cons, brows_sps bs path 0]
    simp [rowSp, Pt.noted]
theorem brows_sps : ∀ (b : Bk) (path : List Nat) (i : Nat), (b.rows path i).flatMap rowSp = b.sps path i
  | .nil, path, i => by simp [Bk.rows, Bk.sps]
  | .cons x xn q r, path, i => by
    rw [Bk.rows, Bk.sps, List.flatMap_append, rows_sps q, brows_sps r, nameSp_at]
end
mutual
theorem rows_len : ∀ (q : Pt) (path : List Nat) (x : Option Str) (xn : Bool), (q.rows path x xn).length = q.count
  | .nm n z, path, x, xn => by simp [Pt.rows, Pt.count]
  | .nd n z bs, path, x, xn => by
    rw [Pt.rows, Pt.count, List.length_cons, brows_len bs path 0]
    omega
theorem brows_len : ∀ (b : Bk) (path : List Nat) (i : Nat), (b.rows path i).length = b.count
  | .nil, path, i => by simp [Bk.rows, Bk.count]
  | .cons x xn q r, path, i => by
    rw [Bk.rows, Bk.count, List.length_append, rows_len q, brows_len r]
end
mutual
theorem sps_strip : ∀ (q : Pt) (path : List Nat), (q.strip.sps path).map (·.1) = (q.sps path).map (·.1)
  | .nm n z, path => by simp [Pt.strip, Pt.sps]
  | .nd n z bs, path => by
    rw [Pt.strip, Pt.sps, Pt.sps, List.map_cons, List.map_cons, bsps_strip bs path 0]
theorem bsps_strip : ∀ (b : Bk) (path : List Nat) (i : Nat), (b.strip.sps path i).map (·.1) = (b.sps path i).map (·.1)
  | .nil, path, i => by simp [Bk.strip, Bk.sps]
  | .cons x xn q r, path, i => by
    rw [Bk.strip, Bk.sps, Bk.sps, List.map_append, List.map_append, List.map_append, List.map_append, sps_strip q, bsps_strip r]
    cases x <;> rfl
end
theorem cut_init {xs : List Da} {a : Da} : cutD (xs ++ [a]) none (some (-1)) = xs := by
  unfold cutD
  have h1 : HT.sIx (xs ++ [a]).length 0 none = 0 := rfl
  have h2 : HT.sIx (xs ++ [a]).length (xs ++ [a]).length (some (-1)) = xs.length := by
    show (if (-1 : Int) < 0 then ((-1 : Int) + ((xs ++ [a]).length : Int)).toNat else min (-1 : Int).toNat (xs ++ [a]).length) = _
    rw [if_pos (by decide), List.length_append, List.length_singleton]
    omega
  rw [h1, h2]
  simp
theorem at_last {xs : List Da} {a : Da} (h : xs.length < 2 ^ 60) : atI (xs ++ [a]) (-1) = some a := by
  unfold atI
  have : ixN (xs ++ [a]).length (-1) = some xs.length := by
    unfold ixN
    rw [List.length_append, List.length_singleton, if_neg (by decide), if_pos (by omega)]
    congr 1
    omega
  rw [this]
  simp
theorem rowSp_len (r : Rw) : (rowSp r).length ≤ 2 := by
  unfold rowSp nameSp
  cases r.x <;> simp
theorem rowsSp_len : ∀ l : List Rw, (l.flatMap rowSp).length ≤ 2 * l.length
  | [] => by simp
  | r :: l => by
    have := rowsSp_len l
    have := rowSp_len r
    rw [List.flatMap_cons, List.length_append, List.length_cons]
    omega
theorem fk_t {κ : Da} (h : Fk false κ) : ∃ es, κ = .t es := by
  cases h with
  | lt h _ _ => cases h
  | nd _ _ _ => exact ⟨_, rfl⟩
theorem sps_app : ∀ (a b : Bk) (path : List Nat) (i : Nat), Bk.sps path i (Bk.app a b) = Bk.sps path i a ++ Bk.sps path (i + a.len) b
  | .nil, b, path, i => by simp [Bk.app, Bk.sps, Bk.len]
  | .cons x xn q r, b, path, i => by
    simp only [Bk.app, Bk.sps, Bk.len]
    rw [sps_app r b path (i + 1), show i + 1 + r.len = i + (r.len + 1) by omega]
    simp only [List.append_assoc]
theorem das_at {κ : Da} {b : Bk} {x : Da} {ys : List Da} : (b.das κ ++ x :: ys)[b.len]? = some x := by
  rw [← das_len κ b, List.getElem?_append_right (Nat.le_refl _)]
  simp
mutual
theorem sps_len : ∀ (q : Pt) (path : List Nat), (q.sps path).length + 1 ≤ 2 * q.count
  | .nm n z, path => by simp [Pt.sps, Pt.count]
  | .nd n z bs, path => by
    have := bsps_len bs path 0
    rw [Pt.sps, Pt.count, List.length_cons]
    omega
theorem bsps_len : ∀ (b : Bk) (path : List Nat) (i : Nat), (b.sps path i).length ≤ 2 * b.count
  | .nil, path, i => by simp [Bk.sps, Bk.count]
  | .cons x xn q r, path, i => by
    have h1 := sps_len q (path ++ [i])
    have h2 := bsps_len r path (i + 1)
    have h3 : (ofName x ((path, some i), xn)).length ≤ 1 := by cases x <;> simp [ofName]
    have h4 : 1 ≤ q.count := by cases q <;> simp [Pt.count] <;> omega
    rw [Bk.sps, Bk.count, List.length_append, List.length_append]
    omega
end
theorem app_cancel : ∀ (a a' b b' : Bk), a.len = a'.len → Bk.app a b = Bk.app a' b' → b = b'
  | .nil, .nil, b, b', _, h => by simpa [Bk.app] using h
  | .nil, .cons _ _ _ _, _, _, h, _ => by simp [Bk.len] at h
  | .cons _ _ _ _, .nil, _, _, h, _ => by simp [Bk.len] at h
  | .cons x xn q r, .cons x' xn' q' r', b, b', h, e => by
    simp only [Bk.app] at e
    injection e with _ _ _ e4
    simp only [Bk.len] at h
    exact app_cancel r r' b b' (by omega) e4
end VL
set_option Elab.async false
set_option linter.all false
set_option maxRecDepth 100000
set_option maxHeartbeats 1000000
namespace VL
open PySem PySem.Spec PyProof.Rows L2
/-! ### enumerate(tuple) -/
theorem meets_enum1 {v : Value} {o : Obj} {H : Heap → Prop} (B : Begins v o H) :
    Meets (Builtin.«enumerate.__new__» ⟨[.type "enumerate", v], []⟩) (fun _ R s => H s.heap ∧
      R (.ok (.ret (.ref (s.heap.push o).objs.size))) { s with heap := (s.heap.push o).push { cls := .type "enumerate", data := .fields #[.none, .bool false, .ref s.heap.objs.size, rawInt 0, .none, .none] } }) :=
  .of_wp fun prog w A R s h => by
    obtain ⟨hp, g, d, tk, os⟩ := s; obtain ⟨h1, h⟩ := h
    have hsub := sub_enumerate
    have q1 : ∀ {A' : Around} {E : Value → Shared → Prop} {Q : Value → Shared → Prop}, Q (.ref hp.objs.size) ⟨hp.push o, g, d, tk, os⟩ → wpAny (model prog w) A' (pyIter v) Q E ⟨hp, g, d, tk, os⟩ :=
      fun q => B.iter prog w _ _ ⟨hp, g, d, tk, os⟩ _ h1 q
    wp_walk using q1
    refine wpAny_stack_any fun st => wpAny_pure ?_
    split
    · rename_i c _ _ _ _ _
      cases (c == Value.type "enumerate")
      · wp_walk using q1
        exact ⟨_, rfl, h⟩
      · wp_walk using q1
        exact ⟨_, rfl, h⟩
    · wp_walk using q1
      exact ⟨_, rfl, h⟩
section
variable {prog : Program} {w : World} {A : Around} {E : Value → Shared → Prop} {s : Shared}
theorem enum_begins1 {v : Value} {o : Obj} {H : Heap → Prop} {Q : Value → Shared → Prop} (B : Begins v o H) (h1 : H s.heap)
    (h : ∀ h', IsEnum h' (s.heap.objs.size + 1) s.heap.objs.size 0 .none → h'.get? s.heap.objs.size = some o → h'.objs.size = s.heap.objs.size + 2 →
      (∀ b o, s.heap.get? b = some o → h'.get? b = some o) → Q (.ref (s.heap.objs.size + 1)) { s with heap := h' }) :
    wpAny (model prog w) A (call (.type "enumerate") [v]) Q E s := by
  refine callType_new F.called_enumerate (by decide) (F.typeCall_enumerate_1 _) (F.newCall_enumerate_1 _) (fun obj => F.args_object_init_2 obj _) F.entry_enumerate_new
    (meets_enum1 B) ⟨h1, ?_⟩
  have hz : (s.heap.push o).objs.size = s.heap.objs.size + 1 := Heap.size_push ..
  show _ ∧ _
  rw [hz]
  have he : IsEnum ((s.heap.push o).push { cls := .type "enumerate", data := .fields #[.none, .bool false, .ref s.heap.objs.size, rawInt 0, .none, .none] }) (s.heap.objs.size + 1) s.heap.objs.size 0 .none := by
    have := Heap.get?_push_size (s.heap.push o) (o := { cls := .type "enumerate", data := .fields #[.none, .bool false, .ref s.heap.objs.size, rawInt 0, .none, .none] }) rfl
    rw [hz] at this; exact this
  refine ⟨⟨_, he, rfl⟩, h _ he (Heap.get?_push_of_some _ (Heap.get?_push_size _ B.free)) (by rw [Heap.size_push, hz]) fun b o x => Heap.get?_push_of_some _ (Heap.get?_push_of_some _ x)⟩
end
section
variable {prog : Program} {w : World} {A : Around} {E : Value → Shared → Prop} {s : Shared}
theorem next_enumT_end {e it t : Addr} {i : Nat} {c : Int} {items : Array Value} {old : Value} {Q : Option Value → Shared → Prop} (hh : A.handled = none)
    (he : IsEnum s.heap e it c old) (hit : s.heap.IsTupleIter it t i) (ht : s.heap.IsTuple t items) (hx : items[i]? = none)
    (hQ : ∀ h', Heap.ExtBut it s.heap h' → Q none { s with heap := h' }) : wpAny (model prog w) A (pyNext (.ref e)) Q E s := by
  have hT : s.TypeIs (.ref e) "enumerate" := ⟨_, he, rfl⟩
  unfold pyNext
  refine wpAny_bind (wpAny_attempt (wpAny_callSpecial?_slot (name := Str.ofString "__next__") hT F.slot_enumerate_next
    (wpAny_call_entry F.slot_enumerate_next hT F.entry_enumerate_next ?_ (F.args_enumerate_next_1 _))))
  show wpAny _ _ (field (.ref e) 2 >>= _) _ _ _
  refine wpAny_bind (wpAny_field he rfl (x := .ref it) rfl ?_)
  refine wpAny_bind (wpAny_nextOf_tuple_end (A := A.in1) (show A.in1.handled = none from hh) hit ht hx fun h' x he' hx' => ?_)
  obtain ⟨o, ho, hc⟩ := hx'
  refine wpAny_bind (wpAny_isInstance (T := "StopIteration") (b := true) ⟨o, ho, hc⟩ isSubtype_stop ?_)
  exact wpAny_pure (hQ _ he')
end
/-- the tuple at a, each item in a new pair -/
def IteT (K : PySem.W.Frag) (a : Addr) : It :=
  ⟨fun i H => ∃ (xs : List V) (x : V), SqT K H a xs ∧ xs[i]? = some x, fun i H v H' => ∃ T x, v = .ref T ∧ H T = none ∧ H' = upd H T (.tup [.int (i : Nat), x]) ∧ ∀ xs, SqT K H a xs → xs[i]? = some x, fun i H => ∃ xs : List V, SqT K H a xs ∧ xs.length ≤ i⟩
theorem turn_enumT {P : Program} {w : World} {K : PySem.W.Frag} {elts : List Expr} {kk : Nat} {tpos : Pos} (a e it : Addr) (items : Array Value) (hai : a ≠ it) (hae : a ≠ e) :
    Turn P w K (.Tuple elts kk tpos) (IteT K a) [e, it] e (fun i h => (∃ old, IsEnum h e it ((i : Nat) : Int) old) ∧ h.IsTupleIter it a i ∧ e ≠ it) where
  mem := by simp
  obj := fun i h st b hb => by
    obtain ⟨⟨old, he⟩, ⟨o, ho, hc, hd⟩, _⟩ := st
    have e' : b = e ∨ b = it := by simpa using hb
    rcases e' with z | z
    · rw [z]; exact ⟨_, he, fun v q => nomatch q⟩
    · rw [z]; exact ⟨o, ho, fun v q => by rw [hd] at q; cases q⟩
  keep := fun i h h' st k => let ⟨⟨old, he⟩, hi, hne⟩ := st; ⟨⟨old, k e (by simp) _ he⟩, hi.at fun o q => k it (by simp) o q, hne⟩
  item := by
    intro X hP hw hK hc i pins s σ H E I hf st hg
    subst hP hw hK
    obtain ⟨⟨old, he⟩, hit, hne⟩ := st
    obtain ⟨xs, x, hq, hx⟩ := hg
    obtain ⟨its, rv, p, hz⟩ := I.tuple hq
    obtain ⟨u, hu, ru⟩ := rv.get hx
    have hel : e < s.heap.objs.size := Heap.lt_size he
    have hil : it < s.heap.objs.size := by obtain ⟨_, q, _⟩ := hit; exact Heap.lt_size q
    have hp : s.heap.IsTuple a its.toArray := p
    have hlt : i < its.toArray.size := by
      rw [List.size_toArray]
      exact (List.getElem?_eq_some_iff.mp hu).1
    refine wpAny_pyNext_enum_itemD (Draws.tuple (A := X.A.in1) (show X.A.in1.handled = none from I.ok.hd hc) it a hai its.toArray) he ⟨hit, hp⟩ hlt hne (by simp [hne, Ne.symm hae]) fun x' h' tk hx' ho hit' hT hsz hk => ?_
    have ex' : x' = u := by
      have h1 : its.toArray[i]? = some x' := hx'
      have h2 : its.toArray[i]? = some u := by simpa using hu
      rw [h1] at h2
      exact Option.some.inj h2
    subst ex'
    refine ⟨_, rfl, wpAny_letOwnedTupleGo_enum (s := { s with heap := h', toks := tk + 1 }) ho fun h'' he' sb => ?_⟩
    have hT2 : h''.get? s.heap.objs.size = some { cls := .type "tuple", data := .seq #[.int i tk, x'] } := (sb.2 _ (Nat.ne_of_gt hel)).trans hT
    have new : ObjOk X.prog X.w (upd H s.heap.objs.size (.tup [.int (i : Nat), x])) h'' s.heap.objs.size (.tup [.int (i : Nat), x]) :=
      ⟨by show 2 ≤ sizeLine; decide, [.int i tk, x'], .cons ⟨_, rfl⟩ (.cons ru .nil), ⟨_, hT2, rfl, _, rfl⟩⟩
    have I1 : L2.Inv X pins σ (upd H s.heap.objs.size (.tup [.int (i : Nat), x])) { s with heap := h'', toks := tk + 1 } :=
      I.turnedNew (ch := [e, it]) (fun b ob hb q => (sb.2 b (fun z => hb (by simp [z]))).trans (hk b ob (fun z => hb (by simp [z])) (fun z => hb (by simp [z])) q)) hf (Nat.le_refl _) new
    refine ⟨.ref s.heap.objs.size, _, I1, rfl, ⟨_, x, rfl, I.hok.fresh (Nat.le_refl _), rfl, fun ys hy => by rw [I.tuple_inj hy hq]; exact hx⟩, ⟨⟨x', ?_⟩, hit'.1.at fun o q => (sb.2 it (Ne.symm hne)).trans q, hne⟩, fun b hb => ?_⟩
    · have e1 : ((i + 1 : Nat) : Int) = (i : Int) + 1 := by omega
      rw [e1]; exact he'
    · have hb' : b < s.heap.objs.size := by
        have e' : b = e ∨ b = it := by simpa using hb
        rcases e' with z | z
        · rw [z]; exact hel
        · rw [z]; exact hil
      rw [upd_ne (Nat.ne_of_lt hb')]
      exact (hf b hb).1
  done := by
    intro X hP hw hK hc i pins s σ H E I hf st hg
    subst hP hw hK
    obtain ⟨⟨old, he⟩, hit, hne⟩ := st
    obtain ⟨xs, hq, hx⟩ := hg
    obtain ⟨its, rv, p, hz⟩ := I.tuple hq
    obtain ⟨f0, f1, f2, f3, f4, f5⟩ := hf it (by simp)
    have hl := rv.length
    have hp : s.heap.IsTuple a its.toArray := p
    exact next_enumT_end (I.ok.hd hc) he hit hp (by simp; omega) fun h' eb => ⟨rfl, I.turned (t' := s.toks) (fun b o hb q => eb b o hb q) f0 f1 f3 f4 f5⟩
  self := fun A i s Q E st h => let ⟨⟨_, he⟩, _⟩ := st; wpAny_pyIter_enum he h
end VL
namespace VL
open PySem PySem.Spec PyProof.Rows L2
def iEnumT (K : PySem.W.Frag) (ta : TA) : TI := fun σ H R => ta σ H fun vs H1 => ∃ a xs, vs = [.ref a] ∧ SqT K H1 a xs ∧ R (IteT K a) H1
theorem pi_enumT {X : Cx} {e : Expr} {ta : TA} {p pos tpos : Pos} {elts : List Expr} {kk : Nat} (hg : Gl X "enumerate") (hm : X.mg "enumerate" = none) (ha : PA X [e] ta) (hs : starEach [e] X.env = [(false, eval e X.env)] := by rfl) :
    PI X (.Tuple elts kk tpos) (.Call (.Name "enumerate" p) [e] [] pos) (iEnumT X.K ta) := by
  refine ⟨fun pins s σ H R I h => ?_⟩
  refine Call_ (ld_blt I hg hm boot_enumerate (PyProof.Rows.callWith_type1 (thn (ha.run pos pins s σ H _ I h) fun us s1 ⟨vs, H1, I1, r1, q1⟩ => ?_) hs rfl))
  obtain ⟨a, xs, ex, hq, q⟩ := q1
  subst ex
  cases r1 with
  | cons r rr =>
    cases rr
    cases r
    obtain ⟨its, rv, p', hz⟩ := I1.tuple hq
    have hp : s1.heap.IsTuple a its.toArray := p'
    have hal : a < s1.heap.objs.size := by obtain ⟨_, q, _⟩ := hp; exact Heap.lt_size q
    refine enum_begins1 (begins_tuple a its.toArray) hp fun h' he hit hsz hk => wpAny_pyIter_enum he ?_
    have I2 : L2.Inv X pins σ H1 { s1 with heap := h' } := I1.kept (t' := s1.toks) hk
    refine ⟨s1.heap.objs.size + 1, [s1.heap.objs.size + 1, s1.heap.objs.size], _, _, H1, rfl, I2, turn_enumT a (s1.heap.objs.size + 1) s1.heap.objs.size its.toArray (Nat.ne_of_lt hal) (Nat.ne_of_lt (Nat.lt_succ_of_lt hal)), ⟨⟨.none, he⟩, ⟨_, hit, rfl, rfl⟩, Nat.succ_ne_self _⟩, fun b hb => ?_, q⟩
    have e' : b = s1.heap.objs.size + 1 ∨ b = s1.heap.objs.size := by simpa using hb
    have hle : s1.heap.objs.size ≤ b := by
      rcases e' with z | z
      · rw [z]; exact Nat.le_add_right _ _
      · rw [z]; exact Nat.le_refl _
    exact I1.fpOk hle (I1.hok.fresh hle)
def enumD : Nat → List Da → List Da
  | _, [] => []
  | k, d :: ds => .t [.i (k : Int), d] :: enumD (k + 1) ds
theorem enumD_len : ∀ (k : Nat) (ds : List Da), (enumD k ds).length = ds.length
  | _, [] => rfl
  | k, d :: ds => by rw [enumD, List.length_cons, List.length_cons, enumD_len]
theorem enumD_get : ∀ (k : Nat) (ds : List Da) (i : Nat), (enumD k ds)[i]? = (ds[i]?).map fun d => .t [.i ((k + i : Nat) : Int), d]
  | _, [], i => by simp [enumD]
  | k, d :: ds, 0 => by simp [enumD]
  | k, d :: ds, i + 1 => by
    rw [enumD, List.getElem?_cons_succ, List.getElem?_cons_succ, enumD_get (k + 1) ds i, show k + 1 + i = k + (i + 1) by omega]
def wEnumT (we : WE) : WI := fun S Q => we S fun d S' => match d with
  | .t ds => Q (enumD 0 ds) S'
  | _ => False
section
variable {X : Cx} {c : Cq} {e : Expr} {we : WE} {p pos tpos : Pos} {elts : List Expr} {kk : Nat}
theorem i_enum (hg : Gl X "enumerate") (hm : X.mg "enumerate" = none) (he : PE X e (lE X.K c we)) (hs0 : starEach [e] X.env = (false, eval e X.env) :: starEach [] X.env := by rfl) (hs : starEach [e] X.env = [(false, eval e X.env)] := by rfl) :
    PI X (.Tuple elts kk tpos) (.Call (.Name "enumerate" p) [e] [] pos) (lWk X.K c (wEnumT we)) := pi_imp (pi_enumT hg hm (pa_cons he pa_nil hs0) hs) fun σ H R h => by
  obtain ⟨S, Qd, r, h, pst⟩ := h
  refine ⟨S, _, r, h, fun d S1 h1 H1 v r1 k1 p1 => ?_⟩
  cases d <;> try exact h1.elim
  rename_i ds
  obtain ⟨q, vs, rfl, g1, g2⟩ := tup_ok p1
  refine ⟨q, vs, rfl, g1, pst _ _ h1 _ _ r1 k1 fun H2 W2 k i => ?_⟩
  have e2 := sqt_kp k g1
  refine ⟨fun d hd => ?_, fun hl => ⟨vs, e2, by rw [g2.length, ← enumD_len 0 ds]; exact hl⟩⟩
  rw [enumD_get, Nat.zero_add] at hd
  cases ed : ds[i]? with
  | none => rw [ed] at hd; cases hd
  | some d' =>
    rw [ed] at hd
    cases hd
    obtain ⟨v, hv, rv⟩ := g2.get ed
    refine ⟨⟨vs, v, e2, hv⟩, fun x H3 hy => ?_⟩
    obtain ⟨T, x', rfl, nT, rfl, hx⟩ := hy
    have := hx vs e2
    rw [hv] at this
    cases this
    refine ⟨same_upd nT, .t (.inl (.inl upd_same)) (.cons (.i _) (.cons ((rv.kp k.or).kp (.same (same_upd nT))) .nil))⟩
end
end VL
namespace VL
open PySem PySem.Spec PyProof.Rows L2
/-! ### l[::-1] of a list -/
theorem pick_rev (its : List Value) : slicePick its.toArray none none (some (-1)) = its.reverse.toArray := by
  have hb : sliceBounds none none (some (-1)) its.toArray.size = ((its.length : Int) - 1, -1, -1) := by
    rw [List.size_toArray]
    rfl
  unfold slicePick
  rw [hb]
  congr 1
  have hr : sliceRange ((its.length : Int) - 1) (-1) (-1) = (List.range its.length).map fun (k : Nat) => ((its.length : Int) - 1 + (-1) * (k : Int)).toNat := by
    unfold sliceRange
    have : (if (-1 : Int) > 0 then (if (its.length : Int) - 1 < -1 then (-1 - ((its.length : Int) - 1) + -1 - 1) / -1 else 0) else (if (its.length : Int) - 1 > -1 then ((its.length : Int) - 1 - -1 - -1 - 1) / (- -1) else 0)) = (its.length : Int) := by
      rw [if_neg (by decide), show (- (-1 : Int)) = 1 by decide, Int.ediv_one]
      split <;> omega
    simp only [this, Int.toNat_natCast]
  rw [hr, List.filterMap_map]
  have := pick_back its its.length (Nat.le_refl _)
  rw [Nat.sub_self, List.drop_zero] at this
  rw [← this]
  refine filterMap_same fun m hm => ?_
  have hm' := List.mem_range.mp hm
  show its.toArray[((its.length : Int) - 1 + (-1) * (m : Int)).toNat]? = _
  rw [show ((its.length : Int) - 1 + (-1) * (m : Int)).toNat = its.length - 1 - m by omega]
  simp
section
variable {X : Cx} {c : Cq} {pos p2 : Pos} {e : Expr} {we : WE}
def tRevL (K : PySem.W.Frag) (te : TE) : TE := fun σ H Q => te σ H fun x H1 => ∃ a xs, x = .ref a ∧ SqL K H1 a xs ∧ ∀ p, H1 p = none → Q (.ref p) (upd H1 p (.lst xs.reverse))
theorem pe_revL {st : Expr} {te : TE} (ops : Value → Value → List Value) (hsub : ∀ v u, subscripted (.Slice none none (some st) p2) false v u = operate (ops v u) (getItem v u)) (he : PE X e te) (hst : PO X (some st) (fun _ H Q => Q (some (-1)) H)) : PE X (.Subscript e (.Slice none none (some st) p2) pos) (tRevL X.K te) := by
  refine ⟨fun pins s σ H Q I h => ?_⟩
  refine Subscript_ (thn (he.run pins s σ H _ I h) fun v s1 ⟨x, H1, I1, r1, a, xs, ex, hx, q1⟩ => ?_)
  subst ex
  cases r1
  refine wpAny_Slice ?_
  rw [evalPart_none]
  refine wpAny_pure (thn ((po_n (X := X)).run pins s1 σ H1 (fun o H' => o = downHi false ∧ H' = H1) I1 ⟨rfl, rfl⟩) fun vu s3 ⟨u, H3, I3, pu, eu, eH3⟩ => thn (hst.run pins s3 σ H3 (fun o H' => o = some (-1) ∧ H' = H3) I3 ⟨rfl, rfl⟩) fun vs s4 ⟨u', H4, I4, ps, eu', eH4⟩ => ?_)
  subst eu eu' eH4 eH3
  have I5 : L2.Inv X pins σ H4 { s4 with heap := s4.heap.push { cls := .type "slice", data := .fields #[.none, vu, vs] } } := I4.kept (t' := s4.toks) fun b ob q => Heap.get?_push_of_some _ q
  obtain ⟨its, r, ht, hz⟩ := I5.list hx
  have hlen : its.length = xs.length := r.length.symm
  show wpAny (model X.prog X.w) X.A (subscriptTail e (.Slice none none (some st) p2) (.ref a) (.ref s4.heap.objs.size)) (EP X pins σ Q) X.xe { s4 with heap := s4.heap.push { cls := .type "slice", data := .fields #[.none, vu, vs] } }
  refine tail_any (ops := ops (.ref a) (.ref s4.heap.objs.size)) ht.isList.typeIs slot_list_getitem.lookup ?_ (hsub _ _)
  refine wpAny_getItem_list_slice ht.isList (Heap.IsSliceOf.new ..) .none pu ps (by decide) ?_ (by rw [List.size_toArray, hlen]; exact hz)
  show EP X pins σ Q _ _
  rw [show slicePick its.toArray none (downHi false) (some (-1)) = its.reverse.toArray from pick_rev its]
  refine ⟨.ref _, _, I5.laid (o := .lst xs.reverse) (fun b ob q => Heap.get?_push_of_some _ q) (Nat.le_refl _) ?_, rfl, q1 _ (I5.hok.fresh (Nat.le_refl _))⟩
  exact ⟨by rw [List.length_reverse]; exact hz, _, 0, vals_rev r, Heap.get?_push_size _ rfl⟩
def wRevL (we : WE) : WE := fun S Q => we S fun d S' => ∃ ds, S'.lst d = some ds ∧ Q (.l ds.reverse) S'
theorem v_revl {j : Nat} {q1 q2 : Pos} (he : PE X e (lE X.K c we)) : PE X (.Subscript e (.Slice none none (some (.UnaryOp .USub (.Constant (.int 1) j q1) q2)) p2) pos) (lE X.K c (wRevL we)) := pe_imp (pe_revL (fun v u => [v, u]) (fun _ _ => by with_unfolding_all rfl) he po_m1) fun σ H Q h => by
  obtain ⟨S, Qd, r, h, p⟩ := h
  refine ⟨S, _, r, h, fun d S1 h1 H1 v r1 k1 p1 => ?_⟩
  obtain ⟨ds, h2, h3⟩ := h1
  obtain ⟨w, vs, rfl, g1, g2⟩ := lst_ok r1 p1 h2
  refine ⟨w, vs, rfl, SqL.of g1, fun q nq => ?_⟩
  obtain ⟨r2, k2, nA⟩ := r1.alloc (o := .lst vs.reverse) nq
  exact p _ _ h3 _ _ r2 (k1.trans k2) (.inl (.l upd_same nA (g2.reverse.kp (kA k2))))
end
end VL
set_option Elab.async false
set_option linter.all false
set_option maxRecDepth 100000
set_option maxHeartbeats 1000000
namespace VL
open PySem PySem.Spec PyProof.Rows L2
/-! ### how a program is laid out -/
def tdD (κ : Da) (r : Rw) : Da := .t [pathD r.path, r.q.da κ, optS r.x, noteD κ r.xn]
def Bk.kids (path : List Nat) (i : Nat) : Bk → List Rw
  | .nil => []
  | .cons x xn q r => ⟨path ++ [i], q, x, xn⟩ :: Bk.kids path (i + 1) r
def rwRows (r : Rw) : List Rw := r.q.rows r.path r.x r.xn
theorem kids_rows : ∀ (b : Bk) (path : List Nat) (i : Nat), (b.kids path i).flatMap rwRows = b.rows path i
  | .nil, path, i => by simp [Bk.kids, Bk.rows]
  | .cons x xn q r, path, i => by
    simp only [Bk.kids, Bk.rows, List.flatMap_cons, kids_rows r path (i + 1), rwRows]
def kidG (path : List Nat) : Da → Da
  | .t [.i k, .t [a, b, c]] => .t [.t (path.map ixD ++ [.i k]), c, a, b]
  | d => d
theorem kids_das (κ : Da) : ∀ (b : Bk) (path : List Nat) (i : Nat), (enumD i (b.das κ)).map (kidG path) = (b.kids path i).map (tdD κ)
  | .nil, path, i => by simp [Bk.kids, Bk.das, enumD]
  | .cons x xn q r, path, i => by
    simp only [Bk.kids, Bk.das, enumD, List.map_cons, kids_das κ r path (i + 1)]
    congr 1
    show Da.t [.t (path.map ixD ++ [.i (i : Int)]), q.da κ, optS x, noteD κ xn] = Da.t [pathD (path ++ [i]), q.da κ, optS x, noteD κ xn]
    unfold pathD
    rw [List.map_append]
    rfl
theorem enum_mem (κ : Da) : ∀ (b : Bk) (i : Nat) (d : Da), d ∈ enumD i (b.das κ) → ∃ (k : Nat) (x : Option Str) (xn : Bool) (q : Pt), d = .t [.i (k : Int), .t [optS x, noteD κ xn, q.da κ]]
  | .nil, i, d, h => by simp [Bk.das, enumD] at h
  | .cons x xn q r, i, d, h => by
    simp only [Bk.das, enumD] at h
    rcases List.mem_cons.mp h with h | h
    · exact ⟨i, x, xn, q, h⟩
    · exact enum_mem κ r (i + 1) d h
def cnt (l : List Rw) : Nat := (l.map fun r => r.q.count).sum
theorem cnt_app (a b : List Rw) : cnt (a ++ b) = cnt a + cnt b := by simp [cnt]
theorem cnt_rev (a : List Rw) : cnt a.reverse = cnt a := by simp [cnt, List.sum_reverse]
theorem count_pos (q : Pt) : 1 ≤ q.count := by cases q <;> simp [Pt.count] <;> omega
theorem cnt_len : ∀ a : List Rw, a.length ≤ cnt a
  | [] => by simp
  | r :: a => by
    have := cnt_len a
    have := count_pos r.q
    simp only [cnt, List.map_cons, List.sum_cons, List.length_cons] at *
    omega
theorem kids_cnt : ∀ (b : Bk) (path : List Nat) (i : Nat), cnt (b.kids path i) = b.count
  | .nil, path, i => by simp [Bk.kids, Bk.count, cnt]
  | .cons x xn q r, path, i => by
    have := kids_cnt r path (i + 1)
    simp only [cnt, Bk.kids, Bk.count, List.map_cons, List.sum_cons] at *
    omega
theorem kids_ok : ∀ (b : Bk) (path : List Nat) (i : Nat), b.ok → ∀ r ∈ b.kids path i, r.q.ok ∧ r.path.length = path.length + 1 ∧ r.q.count ≤ b.count
  | .nil, path, i, _, r, h => by simp [Bk.kids] at h
  | .cons x xn q b, path, i, hb, r, h => by
    simp only [Bk.kids] at h
    simp only [Bk.ok] at hb
    simp only [Bk.count]
    rcases List.mem_cons.mp h with h | h
    · subst h
      exact ⟨hb.2.2.1, by simp, Nat.le_add_right _ _⟩
    · obtain ⟨h1, h2, h3⟩ := kids_ok b path (i + 1) hb.2.2.2 r h
      exact ⟨h1, h2, by omega⟩
end VL
set_option Elab.async false
set_option linter.all false
set_option maxRecDepth 100000
set_option maxHeartbeats 1000000
namespace VL
open PySem PySem.Spec PyProof.Rows L2
/-! ### shared lists, read -/
theorem res_dp {K : PySem.W.Frag} {c : Cq} {S : Sx} {σ : L2.St} {H : Hp} {v : V} {d : Da} (r : Rel K c S σ H) (h : RpS K (S.A c) σ H v d) (e : (S.res d).eqb = true) : Dp K H v (S.res d).py := by
  unfold Sx.res at e ⊢
  cases hl : S.lst d with
  | none =>
    rw [hl] at e
    exact (h.pure (eqb_no e)).dp (eqb_shaped e).2
  | some ds =>
    rw [hl] at e
    obtain ⟨p, vs, rfl, h1, h2⟩ := lst_ok r h hl
    have hp := (eqb_shaped e).2
    show Dp K H (.ref p) (Da.l ds).py
    rw [Da.py]
    exact .lst (SqL.of h1) (RpA.dp (by simpa [Da.pl] using hp) h2)
def rdEqR : RD := fun x y S Q => (S.res x).eqb = true ∧ (S.res y).eqb = true ∧ Q (.b (PyData.eqv (S.res x).py (S.res y).py)) S
def rdNeR : RD := fun x y S Q => (S.res x).eqb = true ∧ (S.res y).eqb = true ∧ Q (.b (!PyData.eqv (S.res x).py (S.res y).py)) S
def rdInR : RD := fun x y S Q => ∃ ds, S.lst y = some ds ∧ x.eqb = true ∧ (Da.l ds).eqb = true ∧ Q (.b ((pys ds).any fun z => PyData.eqv z x.py)) S
section
variable {K : PySem.W.Frag} {c : Cq}
theorem lEqR : OpL K c (rEqA K) rdEqR := fun σ H S x y dx dy Qd Q r rx ry h p => by
  obtain ⟨h1, h2, h⟩ := h
  exact .inr ⟨_, _, res_dp r rx h1, res_dp r ry h2, (eqb_shaped h1).1, (eqb_shaped h2).1, p _ _ h _ _ r .refl (.inl (.b _))⟩
theorem lNeR : OpL K c (rNeA K) rdNeR := fun σ H S x y dx dy Qd Q r rx ry h p => by
  obtain ⟨h1, h2, h⟩ := h
  exact .inr ⟨_, _, res_dp r rx h1, res_dp r ry h2, (eqb_shaped h1).1, (eqb_shaped h2).1, p _ _ h _ _ r .refl (.inl (.b _))⟩
theorem lInR : OpL K c (rInD K) rdInR := fun σ H S x y dx dy Qd Q r rx ry h p => by
  obtain ⟨ds, hl, h1, h2, h⟩ := h
  obtain ⟨q, vs, rfl, g1, g2⟩ := lst_ok r ry hl
  have hp := (eqb_shaped h2).2
  have hs := (eqb_shaped h2).1
  rw [Da.py] at hs
  exact ⟨_, _, (rx.pure (eqb_no h1)).dp (eqb_shaped h1).2, .lst (SqL.of g1) (RpA.dp (by simpa [Da.pl] using hp) g2), (eqb_shaped h1).1, hs, p _ _ h _ _ r .refl (.inl (.b _))⟩
end
/-- isinstance, of a shared list too -/
def wIsiR (tab : Tab) (we : WE) : WE := fun S Q => we S fun d S' => ∃ ds, S'.lst d = some ds ∧ Q (.b tab.l) S'
section
variable {X : Cx} {c : Cq} {pos p p2 : Pos} {e : Expr} {we : WE} {x : Str}
theorem v_isiR {T : String} {tab : Tab} (I : IsiT T tab) (hg : Gl X "isinstance") (hm : X.mg "isinstance" = none) (hgT : Gl X x) (hmT : X.mg x = none) (hvT : bootBuiltins x = some (.type T)) (he : PE X e (lE X.K c we)) (hn : x ≠ "__name__" := by decide) (hdb : (x == ("__debug__" : Str)) = false := by decide)
    (hs : starEach [e, .Name x p2] X.env = (false, eval e X.env) :: starEach [.Name x p2] X.env := by rfl) (hs2 : starEach [.Name x p2] X.env = (false, eval (.Name x p2) X.env) :: starEach [] X.env := by rfl) (hpl : (backTo pos (starEach [.Name x p2] X.env)).any (·.1) = false := by rfl)
    (hv : bootBuiltins "isinstance" = some (.builtin "isinstance") := by decide +kernel) : PE X (.Call (.Name "isinstance" p) [e, .Name x p2] [] pos) (lE X.K c (wIsiR tab we)) :=
  pe_imp (pe_callB call_isi hg hm hv (pa_cons he (pa_cons (pe_bltn (v := .ty T) hgT hmT hvT rfl hn hdb) pa_nil hs2) hs) (by decide) (by decide) hs hpl) fun σ H Q h => by
  obtain ⟨S, Qd, r, h, q⟩ := h
  refine ⟨S, _, r, h, fun d S1 h1 H1 v r1 k1 p1 => ?_⟩
  obtain ⟨ds, hl, h2⟩ := h1
  obtain ⟨w, vs, rfl, g1, g2⟩ := lst_ok r1 p1 hl
  exact ⟨.ref w, _, _, _, _, rfl, .ty T, .base (.lst g1), kit_ty I.l, q _ _ h2 _ _ r1 k1 (.inl (.b _))⟩
end
/-! ### for over a shared list -/
def forGoR (wg : WG) (wb : WS) (D : Dn) (p : Addr) (all : List Da) : List Da → Sx → Prop
  | [], S => S.M p = some (.lst all) ∧ D.nx S
  | d :: ds, S => S.M p = some (.lst all) ∧ wg d S fun S2 => wb { D with nx := forGoR wg wb D p all ds, ct := forGoR wg wb D p all ds, bk := D.nx } S2
def wForR (we : WE) (wg : WG) (wb : WS) : WS := fun D S => we S fun d S1 => ∃ p all, d = .r p ∧ forGoR wg wb D p all all S1
theorem forGoR_M {wg : WG} {wb : WS} {D : Dn} {p : Addr} {all ds : List Da} {S : Sx} (h : forGoR wg wb D p all ds S) : S.M p = some (.lst all) := by
  cases ds with
  | nil => exact h.1
  | cons d ds => exact h.1
section
variable {X : Cx} {c : Cq} {pos : Pos} {tg : Expr} {we : WE}
theorem s_forR {iter : Expr} {body : List Stmt} {g : TG} {wg : WG} {wb : WS} {is : List Nat} (hp : PassesOwn (model X.prog X.w) X.A X.env X.xe) (hc : X.calm = true) (hi : PE X iter (lE X.K c we)) (hg : PG X tg g) (L : LG X.K c g wg is) (hb : PSs X body (lS X.K c wb))
    (hs : ∀ x, foldedSetIterable iter X.env x = pure x := by intro _; rfl) : PS X (.For tg iter body [] pos) (lS X.K c (wForR we wg wb)) := ps_imp (ps_for hp hc (pi_lt hi) hg hb hs) fun D σ H h => by
  obtain ⟨S, Dd, r, h, p⟩ := h
  refine ⟨S, _, r, h, fun d S1 h1 H1 v r1 k1 p1 => ?_⟩
  obtain ⟨p0, all, rfl, h1⟩ := h1
  have look : ∀ {S2 : Sx} {σ2 : L2.St} {H2 : Hp}, Rel X.K c S2 σ2 H2 → S2.M p0 = some (.lst all) → ∃ vs, H2 p0 = some (.lst vs) ∧ RpA X.K (S2.A c) H2 vs all := fun r2 e => r2.mem p0 _ e
  obtain ⟨vs1, g1, _⟩ := look r1 (forGoR_M h1)
  refine ⟨p0, rs_r p1, .inl ⟨⟨vs1, SqL.of g1⟩, ?_⟩⟩
  refine ⟨fun i m σ2 H2 => m = all.length - i ∧ i ≤ all.length ∧ ∃ S2, Rel X.K c S2 σ2 H2 ∧ Kp S1.W S2.W H1 H2 ∧ forGoR wg wb Dd p0 all (all.drop i) S2, ⟨all.length, by simp, Nat.zero_le _, S1, r1, .refl, by simpa using h1⟩, ?_⟩
  rintro i m σ2 H2 ⟨rfl, hi, S2, r2, k2, h2⟩
  obtain ⟨vs, g2, ga⟩ := look r2 (forGoR_M h2)
  by_cases hlt : i < all.length
  · obtain ⟨v', hv, rv⟩ := ga.get (List.getElem?_eq_getElem hlt)
    refine .inr ⟨⟨vs, v', SqL.of g2, hv⟩, fun σ' H' => ∃ S', Rel X.K c S' σ' H' ∧ Kp S1.W S'.W H1 H' ∧ forGoR wg wb Dd p0 all (all.drop (i + 1)) S', fun σ' H' ⟨S', a1, a2, a3⟩ => ⟨all.length - (i + 1), by omega, rfl, hlt, S', a1, a2, a3⟩, fun x H3 hy => ?_⟩
    obtain ⟨rfl, hy⟩ := hy
    have := hy vs (SqL.of g2)
    rw [hv] at this
    cases this
    rw [List.drop_eq_getElem_cons hlt] at h2
    refine L.run v' all[i] S2 σ2 H3 _ _ r2 rv h2.2 fun S4 σ4 h4 r4 k4 _ _ => ⟨S4, _, r4, h4, ?_⟩
    have kk := k2.trans k4
    have pk := p.at (k1.trans kk)
    exact ⟨fun S' h' σ' H' r' k' => ⟨S', r', kk.trans k', h'⟩, pk.rt, pk.nx, fun S' h' σ' H' r' k' => ⟨S', r', kk.trans k', h'⟩⟩
  · have e : i = all.length := by omega
    subst e
    rw [List.drop_length] at h2
    exact .inl ⟨⟨vs, SqL.of g2, by rw [ga.length]; exact Nat.le_refl _⟩, p.nx _ h2.2 _ _ r2 (k1.trans k2)⟩
end
end VL
namespace VL
open PySem PySem.Spec PyProof.Rows L2
theorem hu65 {k : Nat} {A : Around} (hr : Room k A) : A.units + 65 < cLine := by have := hr.un; omega
end VL
set_option Elab.async false
set_option linter.all false
set_option maxRecDepth 100000
set_option maxHeartbeats 1000000
namespace VL
open PySem PySem.Spec PyProof.Rows L2
/-! ### a class's own special methods -/
structure Own (K : PySem.W.Frag) (C : Addr) (m : Str) (f : Addr) : Prop where
  at_ : PySem.W.findIn K (.ref C) m = some (some (.ref f))
  fn : PySem.W.isFn K (.ref f) = true
/-- the object's own method, by values -/
def tOwn2 (C : Addr) (sp : Sp) (E : L2.St → XK) : L2.St → R2 := fun σ x y H Q => ∃ a dx fs, x = .ref a ∧ H a = some (.ins C dx fs) ∧ sp [x, y] H Q (E σ)
/-- operations that may raise: what is wished for then is said at the slots -/
def OpRS (X : Cx) (f : Value → Value → Sem Value) (r : L2.St → R2) : Prop :=
  ∀ (pins : List (Addr × Obj)) (s : Shared) (σ : L2.St) (H : Hp) (x y : V) (v u : Value) (Q : VK), Inv X pins σ H s → RelV x v → RelV y u → r σ x y H Q →
    wpAny (model X.prog X.w) X.A (f v u) (EP X pins σ Q) X.xe s
def tOpS (r : L2.St → R2) (ta tb : TE) : TE := fun σ H Q => ta σ H fun x H1 => tb σ H1 fun y H2 => r σ x y H2 Q
section
variable {X : Cx} {CX : CXT} {k : Nat} {C f : Addr} {fd : FuncData} {ps : List Str} {sp : Sp} {E : L2.St → XK} {pos : Pos} {e a b : Expr} {ta tb tv : TE} {r : L2.St → R2}
theorem pe_opS {op : Operator} (ho : OpRS X (binaryOp op) r) (ha : PE X a ta) (hb : PE X b tb) : PE X (.BinOp a op b pos) (tOpS r ta tb) := by
  refine ⟨fun pins s σ H Q I h => ?_⟩
  exact wpAny_BinOp (thn (ha.run pins s σ H _ I h) fun v s1 ⟨x, H1, I1, r1, q1⟩ => thn (hb.run pins s1 σ H1 _ I1 q1) fun u s2 ⟨y, H2, I2, r2, q2⟩ => ho pins s2 σ H2 x y v u Q I2 r1 r2 q2)
theorem pe_cmpS {op : CmpOp} (ho : OpRS X (compareOp op) r) (ha : PE X a ta) (hb : PE X b tb) (hm : behindInMarks op b = false) : PE X (.Compare a [op] [b] pos) (tOpS r ta tb) := by
  refine ⟨fun pins s σ H Q I h => ?_⟩
  exact wpAny_Compare1 (thn (ha.run pins s σ H _ I h) fun v s1 ⟨x, H1, I1, r1, q1⟩ => thn (hb.run pins s1 σ H1 _ I1 q1) fun u s2 ⟨y, H2, I2, r2, q2⟩ => ho pins s2 σ H2 x y v u Q I2 r1 r2 q2) hm
theorem pt_cmpS {op : CmpOp} (ho : OpRS X (compareOp op) r) (ha : PE X a ta) (hb : PE X b tb) (hm : behindInMarks op b = false) : PT X (.Compare a [op] [b] pos) (tTest (tOpS r ta tb)) := by
  refine ⟨fun pins s σ H Q I h => ?_⟩
  refine wpAny_isTrue_Compare1 (thn (ha.run pins s σ H _ I h) fun v s1 ⟨x, H1, I1, r1, q1⟩ => thn (hb.run pins s1 σ H1 _ I1 q1) fun u s2 ⟨y, H2, I2, r2, q2⟩ =>
    thn (ho pins s2 σ H2 x y v u _ I2 r1 r2 q2) fun c s3 ⟨z, H3, I3, r3, k, e, q3⟩ => ?_) hm
  subst e
  cases r3
  exact wpAny_truthy_bool ⟨H3, I3, q3⟩
theorem ins_at {pins : List (Addr × Obj)} {σ : L2.St} {H : Hp} {s : Shared} {a dx : Addr} {fs : List (Str × V)} (I : Inv X pins σ H s) (ea : H a = some (.ins C dx fs)) : ∃ ox od, PySem.W.InstAt s.heap a ox C od := by
  obtain ⟨mA, O, _⟩ := ins_get I.hok ea
  obtain ⟨od, J, _⟩ := O.look
  exact ⟨_, od, J⟩
theorem run_in1 {pins : List (Addr × Obj)} {σ : L2.St} {H : Hp} {s : Shared} {Q : VK} {us : List Value} {vs : List V} (F : FnOk X.prog X.w X.K X.mg X.base CX k f fd ps sp) (hr : Room (k + 1) X.A) (hb : Binds X.K fd ps []) (hx : PassesAt CX X σ (E σ))
    (I : Inv X pins σ H s) (r : Vals vs us) (h : sp vs H Q (E σ)) : wpAny (model X.prog X.w) X.A.in1 (call (.ref f) us) (EP X pins σ Q) X.xe s := by
  have hl : us.length = ps.length := by rw [← r.length]; exact F.len _ _ _ _ h
  have hb2 := hb s us I.kIn (by simpa using hl)
  rw [List.append_nil] at hb2
  refine wpAny_call (codeAny_mono (F.run X.A.in1 X.stack s H ⟨us, []⟩ us vs Q (E σ) hr.in1 I.env0.in1 hb2 r h) fun r s' hq => ?_)
  cases r with
  | error e => exact hx pins H s e s' I hq
  | ok fl =>
    cases fl with
    | ret u => exact I.after hq
    | next => exact False.elim hq
    | brk => exact False.elim hq
    | cont => exact False.elim hq
/-- o[i], o's own __getitem__ -/
theorem pe_ownIx (o : Own X.K C "__getitem__" f) (hf : PySem.W.fnIn X.K f = true) (F : FnOk X.prog X.w X.K X.mg X.base CX k f fd ps sp) (hr : Room (k + 1) X.A) (hb : Binds X.K fd ps []) (hx : ∀ σ, PassesAt CX X σ (E σ)) (ha : PE X a ta) (hi : PE X b tb)
    (hsl : ∀ x i, subscripted b true x i = runValue (.builtin "lifetime.subscript" ⟨[x, i], []⟩) := by intro _ _; with_unfolding_all rfl) :
    PE X (.Subscript a b pos) (tOpS (tOwn2 C sp E) ta tb) := by
  refine ⟨fun pins s σ H Q I h => ?_⟩
  refine Subscript_ (thn (ha.run pins s σ H _ I h) fun u s1 ⟨x, H1, I1, rx, q⟩ => thn (hi.run pins s1 σ H1 _ I1 q) fun v s2 ⟨y, H2, I2, ry, q2⟩ => ?_)
  obtain ⟨p, dx, fs, rfl, ep, q3⟩ := q2
  obtain rfl : u = Value.ref p := rx
  obtain ⟨ox, od, J⟩ := ins_at I2 ep
  obtain ⟨m, hF⟩ := I2.fr
  exact PySem.W.sub_K hF I2.ok.mod.kin J o.at_ hf o.fn (run_in1 (vs := [.ref p, y]) F hr hb (hx σ) I2 (.cons rfl (.cons ry .nil)) q3) (hsl _ _)
/-- x in o, o's own __contains__ -/
theorem op_ownIn (o : Own X.K C "__contains__" f) (F : FnOk X.prog X.w X.K X.mg X.base CX k f fd ps sp) (hr : Room k X.A) (hb : Binds X.K fd ps []) (hx : ∀ σ, PassesAt CX X σ (E σ)) :
    OpRS X (compareOp .In) (fun σ y x H Q => tOwn2 C sp E σ x y H fun v H1 => ∃ b, v = .bl b ∧ Q (.bl b) H1) := by
  intro pins s σ H y x v u Q I ry rx h
  obtain ⟨p, dx, fs, rfl, ep, q⟩ := h
  obtain rfl : u = Value.ref p := rx
  obtain ⟨ox, od, J⟩ := ins_at I ep
  obtain ⟨m, hF⟩ := I.fr
  refine PySem.W.in_K hF I.ok.mod.kin J o.at_ o.fn (thn (run_fnSD (Q := fun v H1 => ∃ b, v = .bl b ∧ Q (.bl b) H1) (dvs := []) (ds := []) (us := [.ref p, v]) (vs := [.ref p, y]) F hr hb .nil (hx σ) I (.cons rfl (.cons ry .nil)) q) fun r s1 ⟨z, H1, I1, rz, b, ez, q2⟩ => ?_)
  subst ez
  cases rz
  exact wpAny_pure ⟨.bl b, H1, I1, rfl, q2⟩
theorem op_ownNotIn (o : Own X.K C "__contains__" f) (F : FnOk X.prog X.w X.K X.mg X.base CX k f fd ps sp) (hr : Room k X.A) (hb : Binds X.K fd ps []) (hx : ∀ σ, PassesAt CX X σ (E σ)) :
    OpRS X (compareOp .NotIn) (fun σ y x H Q => tOwn2 C sp E σ x y H fun v H1 => ∃ b, v = .bl b ∧ Q (.bl (!b)) H1) := by
  intro pins s σ H y x v u Q I ry rx h
  obtain ⟨p, dx, fs, rfl, ep, q⟩ := h
  obtain rfl : u = Value.ref p := rx
  obtain ⟨ox, od, J⟩ := ins_at I ep
  obtain ⟨m, hF⟩ := I.fr
  refine PySem.W.notIn_K hF I.ok.mod.kin J o.at_ o.fn (thn (run_fnSD (Q := fun v H1 => ∃ b, v = .bl b ∧ Q (.bl (!b)) H1) (dvs := []) (ds := []) (us := [.ref p, v]) (vs := [.ref p, y]) F hr hb .nil (hx σ) I (.cons rfl (.cons ry .nil)) q) fun r s1 ⟨z, H1, I1, rz, b, ez, q2⟩ => ?_)
  subst ez
  cases rz
  exact wpAny_pure ⟨.bl (!b), H1, I1, rfl, q2⟩
/-- a <= b of two of one class -/
def tOwn2s (C : Addr) (sp : Sp) (E : L2.St → XK) : L2.St → R2 := fun σ x y H Q => ∃ a dx fs b dy gs, x = .ref a ∧ y = .ref b ∧ H a = some (.ins C dx fs) ∧ H b = some (.ins C dy gs) ∧ sp [x, y] H (fun v H1 => (∃ p, v = .ref p ∨ v = .non ∨ ∃ b, v = .bl b) ∧ Q v H1) (E σ)
theorem back_of {Q : Value → Shared → Prop} {u : Value} {v : V} {s : Shared} (r : RelV v u) (h : ∃ p, v = .ref p ∨ v = .non ∨ ∃ b, v = .bl b) (q : Q u s) : PySem.W.CmpBack Q u s := by
  obtain ⟨p, rfl | rfl | ⟨b, rfl⟩⟩ := h <;> cases r <;> exact q
theorem op_ownCmp {op : CmpOp} {m : Str} (hu : X.A.units < cLine) (hm : (cmpInfo op).2.1 = m) (hc : compareOp op = richCompare op) (o : Own X.K C m f) (F : FnOk X.prog X.w X.K X.mg X.base CX k f fd ps sp) (hr : Room k X.A) (hb : Binds X.K fd ps []) (hx : ∀ σ, PassesAt CX X σ (E σ)) :
    OpRS X (compareOp op) (tOwn2s C sp E) := by
  intro pins s σ H x y v u Q I rx ry h
  obtain ⟨p, dx, fs, p2, dy, gs, rfl, rfl, ep, ep2, q⟩ := h
  obtain rfl : v = Value.ref p := rx
  obtain rfl : u = Value.ref p2 := ry
  obtain ⟨ox, od, J⟩ := ins_at I ep
  obtain ⟨ox2, od2, J2⟩ := ins_at I ep2
  obtain ⟨mm, hF⟩ := I.fr
  rw [hc]
  refine PySem.W.cmp_K (op := op) (tb := .ref C) hu hF I.ok.mod.kin J J2.type (by simp [PySem.W.notFirst]) (by rw [hm]; exact o.at_) o.fn ?_
  refine thn (run_fnSD (Q := fun v H1 => (∃ p, v = .ref p ∨ v = .non ∨ ∃ b, v = .bl b) ∧ Q v H1) (dvs := []) (ds := []) (us := [.ref p, .ref p2]) (vs := [.ref p, .ref p2]) F hr hb .nil (hx σ) I (.cons rfl (.cons rfl .nil)) q) fun r s1 ⟨z, H1, I1, rz, ez, q2⟩ => ?_
  exact back_of rz ez ⟨z, H1, I1, rz, q2⟩
/-- a | b of two of one class -/
theorem op_ownBin {op : Operator} {m : Str} (hm : PySem.dunder op.info.2 = m) (hc : PySem.W.selfFirst X.K C = true) (o : Own X.K C m f) (F : FnOk X.prog X.w X.K X.mg X.base CX k f fd ps sp) (hr : Room k X.A) (hb : Binds X.K fd ps []) (hx : ∀ σ, PassesAt CX X σ (E σ)) :
    OpRS X (binaryOp op) (tOwn2s C sp E) := by
  intro pins s σ H x y v u Q I rx ry h
  obtain ⟨p, dx, fs, p2, dy, gs, rfl, rfl, ep, ep2, q⟩ := h
  obtain rfl : v = Value.ref p := rx
  obtain rfl : u = Value.ref p2 := ry
  obtain ⟨ox, od, J⟩ := ins_at I ep
  obtain ⟨ox2, od2, J2⟩ := ins_at I ep2
  obtain ⟨mm, hF⟩ := I.fr
  refine PySem.W.binop_K (op := op) hF I.ok.mod.kin J J2.type hc (by rw [hm]; exact o.at_) o.fn ?_
  refine thn (run_fnSD (Q := fun v H1 => (∃ p, v = .ref p ∨ v = .non ∨ ∃ b, v = .bl b) ∧ Q v H1) (dvs := []) (ds := []) (us := [.ref p, .ref p2]) (vs := [.ref p, .ref p2]) F hr hb .nil (hx σ) I (.cons rfl (.cons rfl .nil)) q) fun r s1 ⟨z, H1, I1, rz, ez, q2⟩ => ?_
  exact back_of rz ez ⟨z, H1, I1, rz, q2⟩
/-- o[i] = v, o's own __setitem__ -/
def tPutO (C : Addr) (sp : Sp) (E : L2.St → XK) (tv to ti : TE) : TS := fun D σ H => tv σ H fun v H1 => to σ H1 fun x H2 => ti σ H2 fun y H3 => ∃ a dx fs, x = .ref a ∧ H3 a = some (.ins C dx fs) ∧ sp [x, y, v] H3 (fun _ H4 => D.nx σ H4) (E σ)
theorem own_setItem {pins : List (Addr × Obj)} {σ : L2.St} {H : Hp} {s : Shared} {p dx : Addr} {fs : List (Str × V)} {iv u : Value} {y v : V} {Q : Hp → Prop} (o : Own X.K C "__setitem__" f) (hq : PySem.W.noSeq X.K C = true) (F : FnOk X.prog X.w X.K X.mg X.base CX k f fd ps sp) (hr : Room k X.A) (hb : Binds X.K fd ps []) (hx : ∀ σ, PassesAt CX X σ (E σ))
    (I : Inv X pins σ H s) (ep : H p = some (.ins C dx fs)) (ry : RelV y iv) (rv : RelV v u) (q : sp [.ref p, y, v] H (fun _ H4 => Q H4) (E σ)) :
    wpAny (model X.prog X.w) X.A (setItem (.ref p) iv u) (fun _ s' => ∃ H', Inv X pins σ H' s' ∧ Q H') X.xe s := by
  obtain ⟨ox, od, J⟩ := ins_at I ep
  unfold setItem sequenceKey
  refine wpAny_holding (wpAny_bind (wpAny_bind (J.type.here ?_)))
  refine wpAny_bind ((PySem.W.anyM_none I.kIn hq).here ?_)
  rw [if_pos (show (!false) = true from rfl)]
  refine wpAny_pure (wpAny_bind (PySem.W.special_fn I.kIn J o.at_ (beq_iff_eq.mp o.fn) (thn (run_fnSD (Q := fun _ H4 => Q H4) (dvs := []) (ds := []) (us := [.ref p, iv, u]) (vs := [.ref p, y, v]) F hr hb .nil (hx σ) I (.cons rfl (.cons ry (.cons rv .nil))) q) fun r s1 ⟨z, H1, I1, rz, q2⟩ => ?_)))
  exact wpAny_pure ⟨H1, I1, q2⟩
theorem ps_ownPut {o i value : Expr} {pos' : Pos} {to ti : TE} (ow : Own X.K C "__setitem__" f) (hq : PySem.W.noSeq X.K C = true) (F : FnOk X.prog X.w X.K X.mg X.base CX k f fd ps sp) (hr : Room k X.A) (hb : Binds X.K fd ps []) (hx : ∀ σ, PassesAt CX X σ (E σ))
    (hv : PE X value tv) (ho : PE X o to) (hi : PE X i ti) (hs : swapsWith value (some (.Subscript o i pos')) pos.line X.env = pure false := by rfl)
    (hsw : swapsWithSole [.Subscript o i pos'] value pos.line X.env = pure false := by rfl) (hw : swappedStores [.Subscript o i pos'] value X.env = pure none := by rfl)
    (h1 : (assignEach [.Subscript o i pos'] X.env).map (·.2) = [assign (.Subscript o i pos') X.env] := by rfl)
    (ha : ∀ v, assign (.Subscript o i pos') X.env v = (do
      let ov ← holding [v] (eval o X.env)
      let iv ← holding [v, ov] (eval i X.env)
      standAt pos'
      holding [v, ov, iv] (setItem ov iv v)
      release [v, ov, iv] []) := by intro _; rfl) : PS X (.Assign [.Subscript o i pos'] value pos) (tPutO C sp E tv to ti) := by
  refine ps_imp (ps_asg hv (g := fun v σ H R => to σ H fun x H2 => ti σ H2 fun y H3 => ∃ a dx fs, x = .ref a ∧ H3 a = some (.ins C dx fs) ∧ sp [x, y, v] H3 (fun _ H4 => R σ H4) (E σ)) ⟨fun pins s σ H v u Q I r h => ?_⟩ hsw hw h1) fun D σ H h => h
  rw [ha]
  refine wpAny_bind (wpAny_holding (thn (ho.run pins s σ H _ I h) fun ov s1 ⟨x, H1, I1, r1, q1⟩ => ?_))
  refine wpAny_bind (wpAny_holding (thn (hi.run pins s1 σ H1 _ I1 q1) fun iv s2 ⟨y, H2, I2, r2, p, dx, fs, ex, ep, q2⟩ => ?_))
  subst ex
  obtain rfl : ov = Value.ref p := r1
  refine wpAny_bind (wpAny_standAt (wpAny_bind (wpAny_holding (thn (own_setItem ow hq F hr hb hx I2 ep r2 r q2) fun _ s3 ⟨H3, I3, q3⟩ => ?_))))
  exact wpAny_release ⟨σ, H3, I3, q3⟩
end
end VL
set_option Elab.async false
set_option linter.all false
set_option maxRecDepth 100000
set_option maxHeartbeats 1000000
namespace VL
open PySem PySem.Spec PyProof.Rows L2
/-! ### instances -/
def isIns (S : Sx) (C : Addr) (d : Da) (gs : List (Str × Da)) : Prop := match d with
  | .r a => S.M a = some (.ins C gs)
  | .ins C' gs' => C' = C ∧ gs' = gs
  | _ => False
def putG (f : Str) (v : Da) : List (Str × Da) → List (Str × Da)
  | [] => [(f, v)]
  | (g, x) :: r => if g = f then (g, v) :: r else (g, x) :: putG f v r
section
variable {K : PySem.W.Frag} {c : Cq} {S S' : Sx} {σ : L2.St} {H H' : Hp} {A : Addr → Prop} {v : V} {d : Da} {C : Addr} {gs : List (Str × Da)} {fs : List (Str × V)} {f : Str}
theorem rpf_some : ∀ {fs : List (Str × V)} {gs : List (Str × Da)} {d : Da}, RpF K A H fs gs → gs.lookup f = some d → ∃ v, fs.lookup f = some v ∧ Rp K A H v d
  | _, _, _, .nil, h => by simp at h
  | _, _, d, .cons (k := k) h r, e => by
    rw [List.lookup_cons] at e ⊢
    cases q : (f == k) with
    | true => rw [q] at e; cases e; exact ⟨_, rfl, h⟩
    | false => rw [q] at e; exact rpf_some r e
theorem rpf_none : ∀ {fs : List (Str × V)} {gs : List (Str × Da)}, RpF K A H fs gs → gs.lookup f = none → fs.lookup f = none
  | _, _, .nil, _ => rfl
  | _, _, .cons (k := k) h r, e => by
    rw [List.lookup_cons] at e ⊢
    cases q : (f == k) with
    | true => rw [q] at e; cases e
    | false => rw [q] at e; exact rpf_none r e
theorem rpf_len : ∀ {fs : List (Str × V)} {gs : List (Str × Da)}, RpF K A H fs gs → fs.length = gs.length
  | _, _, .nil => rfl
  | _, _, .cons h r => by rw [List.length_cons, List.length_cons, rpf_len r]
theorem rpf_put (hd : Rp K A H v d) : ∀ {fs : List (Str × V)} {gs : List (Str × Da)}, RpF K A H fs gs → RpF K A H (putF f v fs) (putG f d gs)
  | _, _, .nil => .cons hd .nil
  | _, _, .cons (k := k) h r => by
    unfold putF putG
    by_cases q : k = f
    · rw [if_pos q, if_pos q]; exact .cons hd r
    · rw [if_neg q, if_neg q]; exact .cons h (rpf_put hd r)
theorem ins_ok (r : Rel K c S σ H) (h : RpS K (S.A c) σ H v d) (e : isIns S C d gs) : ∃ a dx fs, v = .ref a ∧ H a = some (.ins C dx fs) ∧ RpF K (S.A c) H fs gs := by
  cases d <;> try exact e.elim
  case ins C' gs' =>
    obtain ⟨rfl, rfl⟩ := e
    cases h.pure rfl with
    | ins h1 h2 h3 => exact ⟨_, _, _, rfl, h1, h3⟩
  case r a =>
    rw [rs_r h]
    obtain ⟨dx, fs, h1, h2⟩ := r.mem a _ e
    exact ⟨_, dx, fs, rfl, h1, h2⟩
theorem ins_pure (e : isIns S C d gs) : d.isO = false := by cases d <;> first | rfl | exact e.elim
end
section
variable {X : Cx} {c : Cq} {C : Addr} {f : Str} {e o value : Expr} {pos pos' apos p : Pos} {we wv wo : WE}
/-- e.f -/
def wFld (C : Addr) (f : Str) (we : WE) : WE := fun S Q => we S fun d S' => ∃ gs v, isIns S' C d gs ∧ gs.lookup f = some v ∧ Q v S'
theorem v_fld (cl : Cls X.K C) (na : NoAttr X.K C f) (he : PE X e (lE X.K c we)) (hb : attributeBase e f X.env (eval e X.env) = eval e X.env := by rfl) : PE X (.Attribute e f pos) (lE X.K c (wFld C f we)) := pe_imp (pe_fld he hb) fun σ H Q h => by
  obtain ⟨S, Qd, r, h, p⟩ := h
  refine ⟨S, _, r, h, fun d S1 h1 H1 v r1 k1 p1 => ?_⟩
  obtain ⟨gs, y, hi, hl, q⟩ := h1
  obtain ⟨a, dx, fs, rfl, ha, hf⟩ := ins_ok r1 p1 hi
  obtain ⟨u, hu, ru⟩ := rpf_some hf hl
  exact ⟨a, C, dx, fs, u, rfl, ha, cl, na, hu, p _ _ q _ _ r1 k1 (.inl ru)⟩
/-- o.f = v -/
def wPutF (C : Addr) (f : Str) (wv wo : WE) : WS := fun D S => wv S fun v S1 => wo S1 fun x S2 => v.isO = false ∧ ∃ a gs, x = .r a ∧ S2.M a = some (.ins C gs) ∧ gs.length < 1000 ∧ D.nx ⟨S2.ρ, updM S2.M a (.ins C (putG f v gs))⟩
theorem s_fld (cl : Cls X.K C) (na : NoAttr X.K C f) (hv : PE X value (lE X.K c wv)) (ho : PE X o (lE X.K c wo)) (hs : swapsWith value (some (.Attribute o f pos')) pos.line X.env = pure false := by rfl) :
    PS X (.Assign [.Attribute o f pos'] value pos) (lS X.K c (wPutF C f wv wo)) := ps_imp (ps_fld ho hv hs) fun D σ H h => by
  obtain ⟨S, Dd, r, h, p⟩ := h
  refine ⟨S, _, r, h, fun d S1 h1 H1 v r1 k1 p1 => ⟨S1, _, r1, h1, fun x S2 h2 H2 u r2 k2 p2 => ?_⟩⟩
  obtain ⟨dO, a, gs, rfl, ha, hl, q⟩ := h2
  have eu := rs_r p2
  subst eu
  obtain ⟨dx, fs, h1', h2'⟩ := r2.mem a _ ha
  obtain ⟨r3, k3⟩ := r2.updM (m' := .ins C (putG f d gs)) (o' := .ins C dx (putF f v fs)) ha h1' trivial fun A k => ⟨dx, _, upd_same, rpf_put ((p1.pure dO).kp (kA k2) |>.kp k) (h2'.kp k)⟩
  exact ⟨a, C, dx, fs, rfl, h1', cl, na, by rw [rpf_len h2']; exact hl, p.nx _ q _ _ r3 ((k1.trans k2).trans k3)⟩
/-! methods -/
variable {k : Nat} {fa : Addr} {fd : FuncData} {ps : List Str} {dc : DC} {dvs : List V} {dvs' : List Value} {dd : List Da} {x m : Str} {es : List Expr} {wl : WA} {Xs : Value → Option (List (Str × Da)) → Sx → Prop} {W : WX}
def wMeth (C : Addr) (m : Str) (dc : DC) (dd : List Da) (Xs : Value → Option (List (Str × Da)) → Sx → Prop) (we : WE) (wa : WA) : WE := fun S Q => we S fun x S1 => ∃ gs, isIns S1 C x gs ∧ gs.lookup m = none ∧
  wa S1 fun vs S2 => dc (x :: (vs ++ dd)) S2.M (fun d M' => Q d ⟨S2.ρ, M'⟩) fun cls ofs M' => Xs cls ofs ⟨S2.ρ, M'⟩
def wNilA : WA := fun S Q => Q [] S
def tMethS (C : Addr) (m : Str) (sp : Sp) (dvs : List V) (E : L2.St → XK) (ta : TE) (t : TA) : TE := fun σ H Q => ta σ H fun x H1 => ∃ a dx fs, x = .ref a ∧ H1 a = some (.ins C dx fs) ∧ fs.lookup m = none ∧ t σ H1 fun vs H2 => sp (x :: (vs ++ dvs)) H2 Q (E σ)
theorem pe_methSX {CX : CXT} {sp : Sp} {E : L2.St → XK} {ta : TE} {t : TA} {pl : Sem Bool} (he : PE X o ta) (cl : Cls X.K C) (hm : Meth X.K C m fa) (F : FnOk X.prog X.w X.K X.mg X.base CX k fa fd ps sp) (hr : Room k X.A) (hb : Binds X.K fd ps dvs') (hd : Vals dvs dvs') (hx : ∀ σ, PassesAt CX X σ (E σ)) (ha : PA X (e :: es) t)
    (hst : starEach (e :: es) X.env = (false, eval e X.env) :: starEach es X.env := by rfl) (hpl : (backTo pos (starEach es X.env)).any (·.1) = false := by rfl)
    (ht : eval (.Call (.Attribute o m apos) (e :: es) [] pos) X.env = (do
      let ov ← eval o X.env
      standAt apos.atName
      let (f, first) ← holding [ov] (getMethod ov m pl)
      callWith pos f first (backTo pos (starEach (e :: es) X.env)) (backToKw pos (keywordEach [] X.env))) := by rfl) :
    PE X (.Call (.Attribute o m apos) (e :: es) [] pos) (tMethS C m sp dvs E ta t) := by
  refine ⟨fun pins s σ H Q I h => ?_⟩
  refine PySem.W.methodCall_KW (pl := pl) (thn (he.run pins s σ H _ I h) fun u s1 ⟨x, H1, I1, rx, a, dx, fs, ex, ea, l, q⟩ => ?_) ht
  subst ex
  obtain rfl : u = Value.ref a := rx
  refine getmeth_ok I1 ea cl hm l ?_
  refine PySem.W.callWith_K (first := [.ref a]) (h₀ := X.base) I.ok.mod.kin hm.kp (thn (ha.run pos pins s1 σ H1 _ I1 q) fun us s2 ⟨vs, H2, I2, r, q2⟩ => ⟨I2.kIn, ?_⟩) hst hpl
  exact run_fnSD (us := .ref a :: us) (vs := .ref a :: vs) F hr hb hd (hx σ) I2 (.cons rfl r) q2
theorem pe_methSX0 {CX : CXT} {sp : Sp} {E : L2.St → XK} {ta : TE} {pl : Sem Bool} (he : PE X o ta) (cl : Cls X.K C) (hm : Meth X.K C m fa) (F : FnOk X.prog X.w X.K X.mg X.base CX k fa fd ps sp) (hr : Room k X.A) (hb : Binds X.K fd ps dvs') (hd : Vals dvs dvs') (hx : ∀ σ, PassesAt CX X σ (E σ))
    (ht : eval (.Call (.Attribute o m apos) [] [] pos) X.env = (do
      let ov ← eval o X.env
      standAt apos.atName
      let (f, first) ← holding [ov] (getMethod ov m pl)
      callWith pos f first (backTo pos (starEach [] X.env)) (backToKw pos (keywordEach [] X.env))) := by rfl) :
    PE X (.Call (.Attribute o m apos) [] [] pos) (tMethS C m sp dvs E ta tNil) := by
  refine ⟨fun pins s σ H Q I h => ?_⟩
  refine PySem.W.methodCall_KW (pl := pl) (thn (he.run pins s σ H _ I h) fun u s1 ⟨x, H1, I1, rx, a, dx, fs, ex, ea, l, q⟩ => ?_) ht
  subst ex
  obtain rfl : u = Value.ref a := rx
  refine getmeth_ok I1 ea cl hm l ?_
  exact PySem.W.callWith_K0 (first := [.ref a]) I1.kIn hm.kp (run_fnSD (us := [.ref a]) (vs := [.ref a]) F hr hb hd (hx σ) I1 (.cons rfl .nil) q)
theorem lmeth {K : PySem.W.Frag} (hdd : ∀ A H, RpA K A H dvs dd) (hX : XOk K c Xs W) {we : WE} {wl : WA} : ∀ σ H Q, lE K c (wMeth C m dc dd Xs we wl) σ H Q → tMethS C m (spOf K dc) dvs (fun σ cls d H' => W cls d σ H') (lE K c we) (lA K c wl) σ H Q := fun σ H Q h => by
  obtain ⟨S, Qd, r, h, p⟩ := h
  refine ⟨S, _, r, h, fun x S1 h1 H1 v r1 k1 p1 => ?_⟩
  obtain ⟨gs, hi, hl, h1⟩ := h1
  obtain ⟨a, dx, fs, rfl, ha, hf⟩ := ins_ok r1 p1 hi
  exact ⟨a, dx, fs, rfl, ha, rpf_none hf hl, S1, _, r1, h1, fun ds S2 h2 H2 vs r2 k2 p2 => sp_call r2 (.cons ((p1.pure (ins_pure hi)).kp (kA k2)) (p2.append (hdd _ _))) h2 (p.at (k1.trans k2)) hX⟩
theorem v_methD {pl : Sem Bool} (F : FnOk X.prog X.w X.K X.mg X.base (L2.CX X.prog X.w) k fa fd ps (spOf X.K dc)) (hr : Room k X.A) (cl : Cls X.K C) (hm : Meth X.K C m fa) (hb : Binds X.K fd ps dvs') (hd : Vals dvs dvs') (hdd : ∀ A H, RpA X.K A H dvs dd)
    (tk : Takes X W) (hX : XOk X.K c Xs W) (he : PE X o (lE X.K c we)) (ha : PA X (e :: es) (lA X.K c wl)) (hst : starEach (e :: es) X.env = (false, eval e X.env) :: starEach es X.env := by rfl) (hpl : (backTo pos (starEach es X.env)).any (·.1) = false := by rfl)
    (ht : eval (.Call (.Attribute o m apos) (e :: es) [] pos) X.env = (do
      let ov ← eval o X.env
      standAt apos.atName
      let (f, first) ← holding [ov] (getMethod ov m pl)
      callWith pos f first (backTo pos (starEach (e :: es) X.env)) (backToKw pos (keywordEach [] X.env))) := by rfl) :
    PE X (.Call (.Attribute o m apos) (e :: es) [] pos) (lE X.K c (wMeth C m dc dd Xs we wl)) := pe_imp (pe_methSX he cl hm F hr hb hd (fun σ => passAt tk σ) ha hst hpl ht) (lmeth hdd hX)
theorem v_meth {pl : Sem Bool} (F : FnOk X.prog X.w X.K X.mg X.base (L2.CX X.prog X.w) k fa fd ps (spOf X.K dc)) (hr : Room k X.A) (cl : Cls X.K C) (hm : Meth X.K C m fa) (hb : Binds X.K fd ps [])
    (tk : Takes X W) (hX : XOk X.K c Xs W) (he : PE X o (lE X.K c we)) (ha : PA X (e :: es) (lA X.K c wl)) (hst : starEach (e :: es) X.env = (false, eval e X.env) :: starEach es X.env := by rfl) (hpl : (backTo pos (starEach es X.env)).any (·.1) = false := by rfl)
    (ht : eval (.Call (.Attribute o m apos) (e :: es) [] pos) X.env = (do
      let ov ← eval o X.env
      standAt apos.atName
      let (f, first) ← holding [ov] (getMethod ov m pl)
      callWith pos f first (backTo pos (starEach (e :: es) X.env)) (backToKw pos (keywordEach [] X.env))) := by rfl) :
    PE X (.Call (.Attribute o m apos) (e :: es) [] pos) (lE X.K c (wMeth C m dc [] Xs we wl)) := v_methD F hr cl hm hb .nil (fun _ _ => .nil) tk hX he ha hst hpl ht
theorem v_meth0 {pl : Sem Bool} (F : FnOk X.prog X.w X.K X.mg X.base (L2.CX X.prog X.w) k fa fd ps (spOf X.K dc)) (hr : Room k X.A) (cl : Cls X.K C) (hm : Meth X.K C m fa) (hb : Binds X.K fd ps dvs') (hd : Vals dvs dvs') (hdd : ∀ A H, RpA X.K A H dvs dd)
    (tk : Takes X W) (hX : XOk X.K c Xs W) (he : PE X o (lE X.K c we))
    (ht : eval (.Call (.Attribute o m apos) [] [] pos) X.env = (do
      let ov ← eval o X.env
      standAt apos.atName
      let (f, first) ← holding [ov] (getMethod ov m pl)
      callWith pos f first (backTo pos (starEach [] X.env)) (backToKw pos (keywordEach [] X.env))) := by rfl) :
    PE X (.Call (.Attribute o m apos) [] [] pos) (lE X.K c (wMeth C m dc dd Xs we wNilA)) := pe_imp (pe_methSX0 he cl hm F hr hb hd (fun σ => passAt tk σ) ht) fun σ H Q h => by
  obtain ⟨a1, a2, a3⟩ : tMethS C m (spOf X.K dc) dvs (fun σ cls d H' => W cls d σ H') (lE X.K c we) (lA X.K c wNilA) σ H Q := lmeth hdd hX σ H Q h
  refine ⟨a1, a2, a3.1, a3.2.1, fun d S1 h1 H1 v r1 k1 p1 => ?_⟩
  obtain ⟨a, dx, fs, e1, e2, e3, S, Qd, r, h, p⟩ := a3.2.2 d S1 h1 H1 v r1 k1 p1
  exact ⟨a, dx, fs, e1, e2, e3, p _ _ h _ _ r .refl .nil⟩
/-! a new instance -/
def wMake (C : Addr) (dc : DC) (dd : List Da) (Xs : Value → Option (List (Str × Da)) → Sx → Prop) (wa : WA) : WE := fun S Q => wa S fun vs S1 => ∀ x, S1.M x = none →
  dc (.r x :: (vs ++ dd)) (updM S1.M x (.ins C [])) (fun d M' => d = .n ∧ Q (.r x) ⟨S1.ρ, M'⟩) fun cls ofs M' => Xs cls ofs ⟨S1.ρ, M'⟩
def tMakeS (C : Addr) (sp : Sp) (dvs : List V) (E : L2.St → XK) (t : TA) : TE := fun σ H Q => t σ H fun vs H1 => ∀ x dx, H1 x = none → H1 dx = none → dx ≠ x → sp (.ref x :: (vs ++ dvs)) (upd (upd H1 dx (.own x)) x (.ins C dx [])) (fun v H2 => v = .non ∧ Q (.ref x) H2) (E σ)
theorem run_makeS {CX : CXT} {sp : Sp} {E : XK} {pins : List (Addr × Obj)} {σ : L2.St} {H : Hp} {s : Shared} {Q : VK} {us : List Value} {vs : List V} (M : Mk X.K C fa) (F : FnOk X.prog X.w X.K X.mg X.base CX k fa fd ps sp) (hr : Room (k + 1) X.A) (hb : Binds X.K fd ps dvs') (hd : Vals dvs dvs')
    (hx : PassesAt CX X σ E) (I : Inv X pins σ H s) (r : Vals vs us)
    (h : ∀ x dx, H x = none → H dx = none → dx ≠ x → sp (.ref x :: (vs ++ dvs)) (upd (upd H dx (.own x)) x (.ins C dx [])) (fun v H2 => v = .non ∧ Q (.ref x) H2) E) :
    wpAny (model X.prog X.w) X.A (call (.ref C) us) (EP X pins σ Q) X.xe s := by
  have hq := h (s.heap.objs.size + 1) s.heap.objs.size (I.hok.fresh (Nat.le_succ _)) (I.hok.fresh (Nat.le_refl _)) (Nat.ne_of_lt (Nat.lt_succ_self _))
  have I2 := Inv.made (C := C) I
  have r2 : Vals (V.ref (s.heap.objs.size + 1) :: (vs ++ dvs)) (Value.ref (s.heap.objs.size + 1) :: (us ++ dvs')) := .cons rfl (r.append hd)
  have hl : (Value.ref (s.heap.objs.size + 1) :: us ++ dvs').length = ps.length := by
    have e := r2.length
    rw [F.len _ _ _ _ hq] at e
    exact e.symm
  refine wpAny_call (make_map (f := fa) I.kIn M.makes M.init (beq_iff_eq.mp M.fn) (codeAny_mono (F.run _ X.stack _ _ ⟨Value.ref (s.heap.objs.size + 1) :: us, []⟩ (Value.ref (s.heap.objs.size + 1) :: (us ++ dvs')) _ _ E (hr.make C us [])
    (I2.env0.make C us []) (hb _ (Value.ref (s.heap.objs.size + 1) :: us) I2.kIn hl) r2 hq) fun r s' hq' => ?_))
  cases r with
  | error e => exact hx pins _ _ e s' I2 hq'
  | ok fl =>
    cases fl with
    | ret u =>
      obtain ⟨v, H', I3, rv, ev, q3⟩ := I2.after hq'
      subst ev
      exact ⟨rv, ⟨V.ref (s.heap.objs.size + 1), H', I3, rfl, q3⟩⟩
    | next => exact False.elim hq'
    | brk => exact False.elim hq'
    | cont => exact False.elim hq'
theorem make_ok {K : PySem.W.Frag} {S1 : Sx} {σ : L2.St} {H1 : Hp} {vs : List V} {ds : List Da} {Q : VK} {Qd : Da → Sx → Prop} (hdd : ∀ A H, RpA K A H dvs dd) (hX : XOk K c Xs W) (r1 : Rel K c S1 σ H1) (p1 : RpA K (S1.A c) H1 vs ds) (p : Pst K c S1 σ H1 Qd Q)
    (h2 : ∀ x, S1.M x = none → dc (.r x :: (ds ++ dd)) (updM S1.M x (.ins C [])) (fun d M' => d = .n ∧ Qd (.r x) ⟨S1.ρ, M'⟩) fun cls ofs M' => Xs cls ofs ⟨S1.ρ, M'⟩) (x dx : Addr) (nx : H1 x = none) (ndx : H1 dx = none) (ne : dx ≠ x) :
    spOf K dc (.ref x :: (vs ++ dvs)) (upd (upd H1 dx (.own x)) x (.ins C dx [])) (fun v H2 => v = .non ∧ Q (.ref x) H2) (fun cls d H' => W cls d σ H') := by
  have r2 := r1.new (o := .own x) ndx
  have k2 : Kp S1.W S1.W H1 (upd H1 dx (.own x)) := .same (same_upd ndx)
  have nx2 : upd H1 dx (.own x) x = none := by rw [upd_ne (Ne.symm ne)]; exact nx
  obtain ⟨r3, k3⟩ := r2.newM (m := .ins C []) (o := .ins C dx []) nx2 fun A k => ⟨dx, [], upd_same, .nil⟩
  refine sp_call (Qd := fun d S' => d = .n ∧ Qd (.r x) S') r3 (.cons (.r x) ((p1.kp (kA (k2.trans k3))).append (hdd _ _))) (h2 x (m_none r1 nx)) (fun d S' h H' v r4 k4 p4 => ?_) hX
  obtain ⟨rfl, h⟩ := h
  exact ⟨rs_n p4, p _ _ h _ _ r4 ((k2.trans k3).trans k4) (.inl (.r x))⟩
theorem v_makeD (F : FnOk X.prog X.w X.K X.mg X.base (L2.CX X.prog X.w) k fa fd ps (spOf X.K dc)) (hr : Room (k + 1) X.A) (M : Mk X.K C fa) (hg : Gl X x) (hm : X.mg x = some (.ref C)) (hb : Binds X.K fd ps dvs') (hd : Vals dvs dvs') (hdd : ∀ A H, RpA X.K A H dvs dd)
    (tk : Takes X W) (hX : XOk X.K c Xs W) (ha : PA X (e :: es) (lA X.K c wl)) (hdb : (x == ("__debug__" : Str)) = false := by decide) (he : starEach (e :: es) X.env = (false, eval e X.env) :: starEach es X.env := by rfl) (hpl : (backTo pos (starEach es X.env)).any (·.1) = false := by rfl) :
    PE X (.Call (.Name x p) (e :: es) [] pos) (lE X.K c (wMake C dc dd Xs wl)) := by
  refine pe_imp (t := tMakeS C (spOf X.K dc) dvs (fun σ cls d H' => W cls d σ H') (lA X.K c wl)) ⟨fun pins s σ H Q I h => ?_⟩ fun σ H Q h => ?_
  · refine wpAny_Call_Name_kw (ld_glob I hg hm ?_ hdb)
    refine PySem.W.callWith_K (h₀ := X.base) I.ok.mod.kin M.kp (thn (ha.run pos pins s σ H _ I h) fun us s1 ⟨vs, H1, I1, r, q⟩ => ⟨I1.kIn, ?_⟩) he hpl
    exact run_makeS M F hr hb hd (passAt tk σ) I1 r q
  · obtain ⟨S, Qd, r, h, p⟩ := h
    exact ⟨S, _, r, h, fun ds S1 h1 H1 vs r1 k1 p1 x dx nx ndx ne => make_ok hdd hX r1 p1 (p.at k1) h1 x dx nx ndx ne⟩
theorem v_make (F : FnOk X.prog X.w X.K X.mg X.base (L2.CX X.prog X.w) k fa fd ps (spOf X.K dc)) (hr : Room (k + 1) X.A) (M : Mk X.K C fa) (hg : Gl X x) (hm : X.mg x = some (.ref C)) (hb : Binds X.K fd ps [])
    (tk : Takes X W) (hX : XOk X.K c Xs W) (ha : PA X (e :: es) (lA X.K c wl)) (hdb : (x == ("__debug__" : Str)) = false := by decide) (he : starEach (e :: es) X.env = (false, eval e X.env) :: starEach es X.env := by rfl) (hpl : (backTo pos (starEach es X.env)).any (·.1) = false := by rfl) :
    PE X (.Call (.Name x p) (e :: es) [] pos) (lE X.K c (wMake C dc [] Xs wl)) := v_makeD F hr M hg hm hb .nil (fun _ _ => .nil) tk hX ha hdb he hpl
end
end VL
set_option Elab.async false
set_option linter.all false
set_option maxRecDepth 100000
set_option maxHeartbeats 1000000
namespace VL
open PySem PySem.Spec PyProof.Rows L2
/-! ### own special methods, by data -/
def okB : Da → Bool
  | .b _ => true
  | .n => true
  | .r _ => true
  | .ins _ _ => true
  | _ => false
abbrev DXs := Value → Option (List (Str × Da)) → Sx → Prop
def rdOwn (C : Addr) (dc : DC) (Xs : DXs) : RD := fun x y S Q => ∃ gs, isIns S C x gs ∧ y.isO = false ∧ dc [x, y] S.M (fun d M' => Q d ⟨S.ρ, M'⟩) fun cls ofs M' => Xs cls ofs ⟨S.ρ, M'⟩
def rdOwnB (neg : Bool) (C : Addr) (dc : DC) (Xs : DXs) : RD := fun y x S Q => ∃ gs, isIns S C x gs ∧ y.isO = false ∧ dc [x, y] S.M (fun d M' => match d with
  | .b k => Q (.b (if neg then !k else k)) ⟨S.ρ, M'⟩
  | _ => False) fun cls ofs M' => Xs cls ofs ⟨S.ρ, M'⟩
def rdOwn2 (C : Addr) (dc : DC) (Xs : DXs) : RD := fun x y S Q => ∃ gs gs', isIns S C x gs ∧ isIns S C y gs' ∧ dc [x, y] S.M (fun d M' => okB d = true ∧ Q d ⟨S.ρ, M'⟩) fun cls ofs M' => Xs cls ofs ⟨S.ρ, M'⟩
def OpLS (K : PySem.W.Frag) (c : Cq) (r : L2.St → R2) (rd : RD) : Prop := ∀ σ H S x y dx dy Qd Q, Rel K c S σ H → RpS K (S.A c) σ H x dx → RpS K (S.A c) σ H y dy → rd dx dy S Qd → Pst K c S σ H Qd Q → r σ x y H Q
section
variable {X : Cx} {c : Cq} {k : Nat} {C f : Addr} {fd : FuncData} {ps : List Str} {dc : DC} {Xs : DXs} {W : WX} {pos pos' p apos : Pos} {e a b o i value : Expr} {es : List Expr} {wa wb wv wo wi : WE} {rd : RD} {r : L2.St → R2}
theorem lopS {K : PySem.W.Frag} (L : OpLS K c r rd) : ∀ σ H Q, lE K c (wOp rd wa wb) σ H Q → tOpS r (lE K c wa) (lE K c wb) σ H Q := fun σ H Q h => by
  obtain ⟨S, Qd, rr, h, p⟩ := h
  refine ⟨S, _, rr, h, fun x S1 h1 H1 v1 r1 k1 p1 => ⟨S1, _, r1, h1, fun y S2 h2 H2 v2 r2 k2 p2 => ?_⟩⟩
  exact L σ H2 S2 v1 v2 x y Qd Q r2 (p1.kp (kA k2)) p2 h2 (p.at (k1.trans k2))
theorem v_opS {op : Operator} (ho : OpRS X (binaryOp op) r) (L : OpLS X.K c r rd) (ha : PE X a (lE X.K c wa)) (hb : PE X b (lE X.K c wb)) : PE X (.BinOp a op b pos) (lE X.K c (wOp rd wa wb)) := pe_imp (pe_opS ho ha hb) (lopS L)
theorem v_cmpS {op : CmpOp} (ho : OpRS X (compareOp op) r) (L : OpLS X.K c r rd) (hm : behindInMarks op b = false) (ha : PE X a (lE X.K c wa)) (hb : PE X b (lE X.K c wb)) : PE X (.Compare a [op] [b] pos) (lE X.K c (wOp rd wa wb)) := pe_imp (pe_cmpS ho ha hb hm) (lopS L)
theorem vt_cmpS {op : CmpOp} (ho : OpRS X (compareOp op) r) (L : OpLS X.K c r rd) (hm : behindInMarks op b = false) (ha : PE X a (lE X.K c wa)) (hb : PE X b (lE X.K c wb)) : PT X (.Compare a [op] [b] pos) (lT X.K c (wB (wOp rd wa wb))) :=
  pt_imp (pt_cmpS ho ha hb hm) (lTest (lopS L))
theorem lOwn (hX : XOk X.K c Xs W) : OpLS X.K c (tOwn2 C (spOf X.K dc) (fun σ cls d H' => W cls d σ H')) (rdOwn C dc Xs) := fun σ H S x y dx dy Qd Q r rx ry h p => by
  obtain ⟨gs, hi, yO, h⟩ := h
  obtain ⟨a, ddx, fs, rfl, ha, hf⟩ := ins_ok r rx hi
  exact ⟨a, ddx, fs, rfl, ha, sp_call r (.cons (rx.pure (ins_pure hi)) (.cons (ry.pure yO) .nil)) h p hX⟩
theorem lOwnB (neg : Bool) (hX : XOk X.K c Xs W) : OpLS X.K c (fun σ y x H Q => tOwn2 C (spOf X.K dc) (fun σ cls d H' => W cls d σ H') σ x y H fun v H1 => ∃ b, v = .bl b ∧ Q (.bl (if neg then !b else b)) H1) (rdOwnB neg C dc Xs) := fun σ H S y x dy dx Qd Q r ry rx h p => by
  obtain ⟨gs, hi, yO, h⟩ := h
  obtain ⟨a, ddx, fs, rfl, ha, hf⟩ := ins_ok r rx hi
  refine ⟨a, ddx, fs, rfl, ha, sp_call (Qd := fun d S' => match d with | .b k => Qd (.b (if neg then !k else k)) S' | _ => False) r (.cons (rx.pure (ins_pure hi)) (.cons (ry.pure yO) .nil)) h (fun d S' h' H' v r' k' p' => ?_) hX⟩
  cases d <;> try exact h'.elim
  exact ⟨_, rs_b p', p _ _ h' _ _ r' k' (.inl (.b _))⟩
theorem lOwn2 (hX : XOk X.K c Xs W) : OpLS X.K c (tOwn2s C (spOf X.K dc) (fun σ cls d H' => W cls d σ H')) (rdOwn2 C dc Xs) := fun σ H S x y dx dy Qd Q r rx ry h p => by
  obtain ⟨gs, gs', hi, hi', h⟩ := h
  obtain ⟨a, ddx, fs, rfl, ha, hf⟩ := ins_ok r rx hi
  obtain ⟨a', ddx', fs', rfl, ha', hf'⟩ := ins_ok r ry hi'
  refine ⟨a, ddx, fs, a', ddx', fs', rfl, rfl, ha, ha', sp_call (Qd := fun d S' => okB d = true ∧ Qd d S') r (.cons (rx.pure (ins_pure hi)) (.cons (ry.pure (ins_pure hi')) .nil)) h (fun d S' h' H' v r' k' p' => ?_) hX⟩
  obtain ⟨ok, h'⟩ := h'
  refine ⟨?_, p _ _ h' _ _ r' k' p'⟩
  cases d <;> try cases ok
  · rw [rs_n p']; exact ⟨0, .inr (.inl rfl)⟩
  · rw [rs_b p']; exact ⟨0, .inr (.inr ⟨_, rfl⟩)⟩
  · cases p'.pure rfl with
    | ins _ _ _ => exact ⟨_, .inl rfl⟩
  · rw [rs_r p']; exact ⟨_, .inl rfl⟩
/-- o[i], o's own __getitem__ -/
theorem v_ownIx (o : Own X.K C "__getitem__" f) (hf : PySem.W.fnIn X.K f = true) (F : FnOk X.prog X.w X.K X.mg X.base (L2.CX X.prog X.w) k f fd ps (spOf X.K dc)) (hr : Room (k + 1) X.A) (hb : Binds X.K fd ps []) (tk : Takes X W) (hX : XOk X.K c Xs W) (ha : PE X a (lE X.K c wa)) (hi : PE X b (lE X.K c wb))
    (hsl : ∀ x i, subscripted b true x i = runValue (.builtin "lifetime.subscript" ⟨[x, i], []⟩) := by intro _ _; with_unfolding_all rfl) :
    PE X (.Subscript a b pos) (lE X.K c (wOp (rdOwn C dc Xs) wa wb)) := pe_imp (pe_ownIx o hf F hr hb (fun σ => passAt tk σ) ha hi hsl) (lopS (lOwn hX))
theorem op_own_in (o : Own X.K C "__contains__" f) (F : FnOk X.prog X.w X.K X.mg X.base (L2.CX X.prog X.w) k f fd ps (spOf X.K dc)) (hr : Room k X.A) (hb : Binds X.K fd ps []) (tk : Takes X W) :
    OpRS X (compareOp .In) (fun σ y x H Q => tOwn2 C (spOf X.K dc) (fun σ cls d H' => W cls d σ H') σ x y H fun v H1 => ∃ b, v = .bl b ∧ Q (.bl (if false then !b else b)) H1) := op_ownIn o F hr hb fun σ => passAt tk σ
theorem op_own_notIn (o : Own X.K C "__contains__" f) (F : FnOk X.prog X.w X.K X.mg X.base (L2.CX X.prog X.w) k f fd ps (spOf X.K dc)) (hr : Room k X.A) (hb : Binds X.K fd ps []) (tk : Takes X W) :
    OpRS X (compareOp .NotIn) (fun σ y x H Q => tOwn2 C (spOf X.K dc) (fun σ cls d H' => W cls d σ H') σ x y H fun v H1 => ∃ b, v = .bl b ∧ Q (.bl (if true then !b else b)) H1) := op_ownNotIn o F hr hb fun σ => passAt tk σ
theorem op_own_cmp {op : CmpOp} {m : Str} (hu : X.A.units < cLine) (hm : (cmpInfo op).2.1 = m) (hc : compareOp op = richCompare op) (o : Own X.K C m f) (F : FnOk X.prog X.w X.K X.mg X.base (L2.CX X.prog X.w) k f fd ps (spOf X.K dc)) (hr : Room k X.A) (hb : Binds X.K fd ps []) (tk : Takes X W) :
    OpRS X (compareOp op) (tOwn2s C (spOf X.K dc) (fun σ cls d H' => W cls d σ H')) := op_ownCmp hu hm hc o F hr hb fun σ => passAt tk σ
theorem op_own_bin {op : Operator} {m : Str} (hm : PySem.dunder op.info.2 = m) (hc : PySem.W.selfFirst X.K C = true) (o : Own X.K C m f) (F : FnOk X.prog X.w X.K X.mg X.base (L2.CX X.prog X.w) k f fd ps (spOf X.K dc)) (hr : Room k X.A) (hb : Binds X.K fd ps []) (tk : Takes X W) :
    OpRS X (binaryOp op) (tOwn2s C (spOf X.K dc) (fun σ cls d H' => W cls d σ H')) := op_ownBin hm hc o F hr hb fun σ => passAt tk σ
/-- o[i] = v, o's own __setitem__ -/
def wPutO (C : Addr) (dc : DC) (Xs : DXs) (wv wo wi : WE) : WS := fun D S => wv S fun v S1 => wo S1 fun x S2 => wi S2 fun y S3 => v.isO = false ∧ y.isO = false ∧ ∃ gs, isIns S3 C x gs ∧ dc [x, y, v] S3.M (fun _ M' => D.nx ⟨S3.ρ, M'⟩) fun cls ofs M' => Xs cls ofs ⟨S3.ρ, M'⟩
theorem s_ownPut (ow : Own X.K C "__setitem__" f) (hq : PySem.W.noSeq X.K C = true) (F : FnOk X.prog X.w X.K X.mg X.base (L2.CX X.prog X.w) k f fd ps (spOf X.K dc)) (hr : Room k X.A) (hb : Binds X.K fd ps []) (tk : Takes X W) (hX : XOk X.K c Xs W)
    (hv : PE X value (lE X.K c wv)) (ho : PE X o (lE X.K c wo)) (hi : PE X i (lE X.K c wi)) (hs : swapsWith value (some (.Subscript o i pos')) pos.line X.env = pure false := by rfl)
    (hsw : swapsWithSole [.Subscript o i pos'] value pos.line X.env = pure false := by rfl) (hw : swappedStores [.Subscript o i pos'] value X.env = pure none := by rfl)
    (h1 : (assignEach [.Subscript o i pos'] X.env).map (·.2) = [assign (.Subscript o i pos') X.env] := by rfl)
    (ha : ∀ v, assign (.Subscript o i pos') X.env v = (do
      let ov ← holding [v] (eval o X.env)
      let iv ← holding [v, ov] (eval i X.env)
      standAt pos'
      holding [v, ov, iv] (setItem ov iv v)
      release [v, ov, iv] []) := by intro _; rfl) : PS X (.Assign [.Subscript o i pos'] value pos) (lS X.K c (wPutO C dc Xs wv wo wi)) :=
  ps_imp (ps_ownPut ow hq F hr hb (fun σ => passAt tk σ) hv ho hi hs hsw hw h1 ha) fun D σ H h => by
    obtain ⟨S, Dd, r, h, p⟩ := h
    refine ⟨S, _, r, h, fun v S1 h1 H1 vv r1 k1 p1 => ⟨S1, _, r1, h1, fun x S2 h2 H2 vx r2 k2 p2 => ⟨S2, _, r2, h2, fun y S3 h3 H3 vy r3 k3 p3 => ?_⟩⟩⟩
    obtain ⟨vO, yO, gs, hi, h4⟩ := h3
    have p2' := p2.kp (kA (c := c) k3)
    have p1' := (p1.kp (kA (c := c) (k2.trans k3))).pure vO
    obtain ⟨a, dx, fs, rfl, ha, hf⟩ := ins_ok r3 p2' hi
    refine ⟨a, dx, fs, rfl, ha, sp_call (Qd := fun _ S' => Dd.nx S') r3 (.cons (p2'.pure (ins_pure hi)) (.cons (p3.pure yO) (.cons p1' .nil))) h4 (fun d S' h' H' u r' k' p' => ?_) ?_⟩
    · exact p.nx _ h' _ _ r' (((k1.trans k2).trans k3).trans k')
    · exact hX
end
/-! ### dicts, frozen or shared -/
def Sx.dk (S : Sx) : Da → Option (List (Key × Da))
  | .dk kds => some kds
  | .r p => match S.M p with
    | some (.dk _ kds) => some kds
    | _ => none
  | _ => none
def Sx.dku (S : Sx) : Da → Option (List (Key × Da))
  | .dk kds => some kds
  | .r p => match S.M p with
    | some (.dk none kds) => some kds
    | _ => none
  | _ => none
section
variable {K : PySem.W.Frag} {c : Cq} {S S' : Sx} {σ : L2.St} {H H' : Hp} {A : Addr → Prop} {v : V} {d : Da} {kds : List (Key × Da)}
theorem dku_ok (r : Rel K c S σ H) (h : RpS K (S.A c) σ H v d) (e : S.dku d = some kds) : ∃ a kvs, v = .ref a ∧ H a = some (.dK kvs) ∧ RpK K (S.A c) H kvs kds := by
  cases d <;> try cases e
  case dk =>
    cases h.pure rfl with
    | dk h1 _ h3 => exact ⟨_, _, rfl, h1, h3⟩
  case r p =>
    rw [rs_r h]
    simp only [Sx.dku] at e
    split at e
    · rename_i kds' q
      cases e
      obtain ⟨kvs, h1, h2⟩ := r.mem p _ q
      exact ⟨p, kvs, rfl, h1, h2⟩
    · cases e
theorem dkv_ok (r : Rel K c S σ H) (h : RpS K (S.A c) σ H v d) (e : S.dk d = some kds) : ∃ a kvs, v = .ref a ∧ Rd H a (.dK kvs) ∧ RpK K (S.A c) H kvs kds := by
  cases d <;> try cases e
  case dk =>
    cases h.pure rfl with
    | dk h1 _ h3 => exact ⟨_, _, rfl, .inl h1, h3⟩
  case r p =>
    rw [rs_r h]
    simp only [Sx.dk] at e
    split at e
    · rename_i lk kds' q
      cases e
      obtain ⟨kvs, h1, h2⟩ := dk_ok r q
      exact ⟨p, kvs, rfl, h1, h2⟩
    · cases e
def rdDgetV : RD := fun x y S Q => ∃ kds k d, S.dk x = some kds ∧ y.key = some k ∧ valD kds k = some d ∧ Q d S
def rdDinV (neg : Bool) : RD := fun y x S Q => ∃ kds k, S.dk x = some kds ∧ y.key = some k ∧ Q (.b (if neg then !(valD kds k).isSome else (valD kds k).isSome)) S
theorem lDgetV : OpL K c (fun x y H Q => ∃ a v, x = .ref a ∧ DGet H a y (some v) ∧ Q v H) rdDgetV := fun σ H S x y dx dy Qd Q r rx ry h p => by
  obtain ⟨kds, k, d, e, hk, hv, q⟩ := h
  obtain ⟨a, kvs, rfl, h1, h2⟩ := dkv_ok r rx e
  rcases rpk_val k h2 with ⟨z, _⟩ | ⟨d', v, g1, g2, g3⟩
  · rw [hv] at z; cases z
  · rw [hv] at g1
    cases g1
    exact ⟨a, v, rfl, .inl ⟨kvs, k, h1, key_ok hk ry, g2.symm⟩, p _ _ q _ _ r .refl (.inl g3)⟩
theorem val_same {kvs : List (Key × V)} {k : Key} (h2 : RpK K A H kvs kds) : (valV kvs k).isSome = (valD kds k).isSome := by
  rcases rpk_val k h2 with ⟨z1, z2⟩ | ⟨d', v, g1, g2, g3⟩
  · rw [z1, z2]; rfl
  · rw [g1, g2]; rfl
theorem lDinV : OpL K c (fun y x H Q => ∃ a o, x = .ref a ∧ DGet H a y o ∧ Q (.bl o.isSome) H) (rdDinV false) := fun σ H S y x dy dx Qd Q r ry rx h p => by
  obtain ⟨kds, k, e, hk, q⟩ := h
  obtain ⟨a, kvs, rfl, h1, h2⟩ := dkv_ok r rx e
  refine ⟨a, valV kvs k, rfl, .inl ⟨kvs, k, h1, key_ok hk ry, rfl⟩, ?_⟩
  rw [val_same h2]
  exact p _ _ q _ _ r .refl (.inl (.b _))
theorem lDninV : OpL K c (fun y x H Q => ∃ a o, x = .ref a ∧ DGet H a y o ∧ Q (.bl (!o.isSome)) H) (rdDinV true) := fun σ H S y x dy dx Qd Q r ry rx h p => by
  obtain ⟨kds, k, e, hk, q⟩ := h
  obtain ⟨a, kvs, rfl, h1, h2⟩ := dkv_ok r rx e
  refine ⟨a, valV kvs k, rfl, .inl ⟨kvs, k, h1, key_ok hk ry, rfl⟩, ?_⟩
  rw [val_same h2]
  exact p _ _ q _ _ r .refl (.inl (.b _))
end
section
variable {X : Cx} {c : Cq} {pos pos' p apos : Pos} {e a b o i value tg : Expr} {es rest : List Expr} {we wa wb wv wd wk : WE}
theorem v_dgetV (hu : X.A.units + 1 < cLine) (ha : PE X a (lE X.K c wa)) (hb : PE X b (lE X.K c wb)) (hs : NoSl b) : PE X (.Subscript a b pos) (lE X.K c (wOp rdDgetV wa wb)) := pe_imp (pe_dget hu ha hb hs) fun σ H Q h => lop lDgetV σ H Q h
theorem v_dinV (hu : X.A.units + 1 < cLine) (hm : behindInMarks .In b = false) (ha : PE X a (lE X.K c wa)) (hb : PE X b (lE X.K c wb)) : PE X (.Compare a [.In] [b] pos) (lE X.K c (wOp (rdDinV false) wa wb)) := pe_imp (pe_cmp (pc_din hu ha hb) hm) fun σ H Q h => lop lDinV σ H Q h
theorem v_dninV (hu : X.A.units + 1 < cLine) (hm : behindInMarks .NotIn b = false) (ha : PE X a (lE X.K c wa)) (hb : PE X b (lE X.K c wb)) : PE X (.Compare a [.NotIn] [b] pos) (lE X.K c (wOp (rdDinV true) wa wb)) := pe_imp (pe_cmp (pc_dnotin hu ha hb) hm) fun σ H Q h => lop lDninV σ H Q h
/-- d.get(k) and d.get(k, x) -/
def wDget1 (wd wk : WE) : WE := fun S Q => wd S fun x S1 => (∃ kds, S1.dk x = some kds) ∧ wk S1 fun y S2 => ∃ kds k, S2.dk x = some kds ∧ y.key = some k ∧ Q ((valD kds k).getD .n) S2
def wDget2 (wd wk wz : WE) : WE := fun S Q => wd S fun x S1 => (∃ kds, S1.dk x = some kds) ∧ wk S1 fun y S2 => wz S2 fun z S3 => ∃ kds k, S3.dk x = some kds ∧ y.key = some k ∧ z.isO = false ∧ Q ((valD kds k).getD z) S3
theorem v_dget1 (hu : X.A.units + 1 < cLine) (ho : PE X o (lE X.K c wd)) (he : PE X e (lE X.K c wk)) (m : M1 X o "get" apos e pos) : PE X (.Call (.Attribute o "get" apos) [e] [] pos) (lE X.K c (wDget1 wd wk)) := pe_imp (pe_dget1 hu ho he m) fun σ H Q h => by
  obtain ⟨S, Qd, r, h, p⟩ := h
  refine ⟨S, _, r, h, fun x S1 h1 H1 v r1 k1 p1 => ?_⟩
  obtain ⟨⟨kds, e⟩, h1⟩ := h1
  obtain ⟨a, kvs, rfl, hd, _⟩ := dkv_ok r1 p1 e
  refine ⟨a, rfl, .inl ⟨kvs, hd⟩, S1, _, r1, h1, fun y S2 h2 H2 u r2 k2 p2 => ?_⟩
  obtain ⟨kds2, k, e2, hk, q⟩ := h2
  obtain ⟨a2, kvs2, ea, hd2, rk⟩ := dkv_ok r2 (p1.kp (kA k2)) e2
  cases ea
  refine ⟨valV kvs2 k, .inl ⟨kvs2, k, hd2, key_ok hk p2, rfl⟩, p _ _ q _ _ r2 (k1.trans k2) (.inl ?_)⟩
  rcases rpk_val k rk with ⟨z1, z2⟩ | ⟨d', v, g1, g2, g3⟩
  · rw [z1, z2]; exact .n
  · rw [g1, g2]; exact g3
theorem v_dget2 (hu : X.A.units + 1 < cLine) {f : Expr} {wz : WE} (ho : PE X o (lE X.K c wd)) (he : PE X e (lE X.K c wk)) (hf : PE X f (lE X.K c wz)) (m : M2 X o "get" apos e f pos) : PE X (.Call (.Attribute o "get" apos) [e, f] [] pos) (lE X.K c (wDget2 wd wk wz)) := pe_imp (pe_dget2 hu ho he hf m) fun σ H Q h => by
  obtain ⟨S, Qd, r, h, p⟩ := h
  refine ⟨S, _, r, h, fun x S1 h1 H1 v r1 k1 p1 => ?_⟩
  obtain ⟨⟨kds, e⟩, h1⟩ := h1
  obtain ⟨a, kvs, rfl, hd, _⟩ := dkv_ok r1 p1 e
  refine ⟨a, rfl, .inl ⟨kvs, hd⟩, S1, _, r1, h1, fun y S2 h2 H2 u r2 k2 p2 => ⟨S2, _, r2, h2, fun z S3 h3 H3 t r3 k3 p3 => ?_⟩⟩
  obtain ⟨kds2, k, e2, hk, zO, q⟩ := h3
  obtain ⟨a2, kvs2, ea, hd2, rk⟩ := dkv_ok r3 (p1.kp (kA (k2.trans k3))) e2
  cases ea
  refine ⟨valV kvs2 k, .inl ⟨kvs2, k, hd2, key_ok hk p2, rfl⟩, p _ _ q _ _ r3 ((k1.trans k2).trans k3) (.inl ?_)⟩
  rcases rpk_val k rk with ⟨z1, z2⟩ | ⟨d', v, g1, g2, g3⟩
  · rw [z1, z2]; exact p3.pure zO
  · rw [g1, g2]; exact g3
/-- dict(d): a copy -/
def rDcopy : List V → Hp → VK → Prop := fun xs H Q => ∃ a kvs, xs = [.ref a] ∧ Rd H a (.dK kvs) ∧ ∀ p, H p = none → Q (.ref p) (upd H p (.dK kvs))
theorem call_dcopy : CallR X (.type "dict") rDcopy := by
  intro pins s σ H us vs Q I rv h
  obtain ⟨a, kvs, rfl, hd, q⟩ := h
  cases rv with
  | cons r1 r2 =>
    cases r2
    cases r1
    exact d_copyOf I hd fun p s' np I' => ⟨.ref p, _, I', rfl, q p np⟩
def rdDcopy : RU := fun d S Q => ∃ kds, S.dk d = some kds ∧ ∀ q, S.M q = none → Q (.r q) ⟨S.ρ, updM S.M q (.dk none kds)⟩
theorem lDcopy {K : PySem.W.Frag} : Un1 K c rDcopy rdDcopy := fun σ H S x d Qd Q r rx h p => by
  obtain ⟨kds, e, q⟩ := h
  obtain ⟨a, kvs, rfl, hd, rk⟩ := dkv_ok r rx e
  refine ⟨a, kvs, rfl, hd, fun b nb => ?_⟩
  obtain ⟨r2, k2⟩ := r.newM (o := .dK kvs) (m := .dk none kds) nb fun A k => ⟨kvs, upd_same, rk.kp k⟩
  exact p _ _ (q b (m_none r nb)) _ _ r2 k2 (.inl (.r b))
/-- its truth -/
def wTrD (we : WE) : WT := fun S Q => we S fun d S' => ∃ kds, S'.dku d = some kds ∧ Q (!kds.isEmpty) S'
theorem vTrD (h : PE X e (lE X.K c we)) (he : ∀ whole, isTrue e X.env whole = (do let v ← whole; standAt e.pos; holding [v] (truthy v)) := by intro _; rfl) : PT X e (lT X.K c (wTrD we)) := pt_imp (pt_truth h he) fun σ H Q h => by
  obtain ⟨S, Qd, r, h, p⟩ := h
  refine ⟨S, _, r, h, fun d S1 h1 H1 v r1 k1 p1 => ?_⟩
  obtain ⟨kds, e, q⟩ := h1
  obtain ⟨a, kvs, rfl, hd, rk⟩ := dku_ok r1 p1 e
  exact ⟨_, .inr (.inr ⟨_, hd, rfl⟩), by rw [rpk_empty rk]; exact p _ _ q _ r1 k1⟩
def rdLenD : RU := fun d S Q => ∃ kds, S.dku d = some kds ∧ Q (.i kds.length) S
theorem lLenD {K : PySem.W.Frag} : Un1 K c (rLenA K) rdLenD := fun σ H S x d Qd Q r rx h p => by
  obtain ⟨kds, e, q⟩ := h
  obtain ⟨a, kvs, rfl, hd, rk⟩ := dku_ok r rx e
  exact .inr ⟨_, _, rfl, hd, by rw [rpk_len rk]; exact p _ _ q _ _ r .refl (.inl (.i _))⟩
/-! dict comprehensions -/
def dcGo (wg : WG) (wt : WT) (wk wv : WE) (vs : List Nat) (Q : List (Key × Da) → Sx → Prop) : List Da → List (Key × Da) → Sx → Prop
  | [], acc, S => Q acc S
  | d :: ds, acc, S => wg d (S.wipe vs) fun S2 => wt S2 fun b S3 => if b = true then wk S3 fun y S4 => wv S4 fun z S5 => ∃ k, y.key = some k ∧ z.isO = false ∧ acc.length < sizeLine ∧ dcGo wg wt wk wv vs Q ds (putD acc k z) (S.back S5 vs) else dcGo wg wt wk wv vs Q ds acc (S.back S3 vs)
def wDc (wi : WI) (wg : WG) (wt : WT) (wk wv : WE) (vs : List Nat) : WE := fun S Q => wi S fun ds S1 => dcGo wg wt wk wv vs (fun acc S2 => ∀ q, S2.M q = none → Q (.r q) ⟨S2.ρ, updM S2.M q (.dk none acc)⟩) ds [] (S1.norm vs)
theorem upd_offH2 {H : Hp} {D : Addr} {o : HO} (e : H D = some o) : upd (offH H D) D o = H := upd_offH e
theorem ldc {K : PySem.W.Frag} {wi : WI} {g : TG} {wg : WG} {tt : TT} {wt : WT} {tk tv : TE} {wk wv : WE} {is vs : List Nat} (L : ∀ c' : Cq, c'.n = c.n → LG K c' g wg is) (hv : ∀ i ∈ is, i ∈ vs) (ht : ∀ c' : Cq, c'.n = c.n → ∀ σ H Q, lT K c' wt σ H Q → tt σ H Q)
    (hk : ∀ c' : Cq, c'.n = c.n → ∀ σ H Q, lE K c' wk σ H Q → tk σ H Q) (he : ∀ c' : Cq, c'.n = c.n → ∀ σ H Q, lE K c' wv σ H Q → tv σ H Q) : ∀ σ H Q, lE K c (wDc wi wg wt wk wv vs) σ H Q → tDc (lWk K c wi) g tt tk tv vs σ H Q := fun σ H Q h => by
  obtain ⟨S, Qd, r, h, p⟩ := h
  refine ⟨S, _, r, h, fun ds S1 h1 H1 J r1 k1 ok D nD => ?_⟩
  have nk := r1.nk nD
  have nA : ¬ c.A0 D := fun z => (r1.a0 D z).1 nD
  obtain ⟨r1', _⟩ := r1.plus (o := .dK []) nD
  have sm1 : Same H1 (upd H1 D (.dK [])) := same_upd nD
  let Qe : List (Key × Da) → Sx → Prop := fun acc S2 => ∀ q, S2.M q = none → Qd (.r q) ⟨S2.ρ, updM S2.M q (.dk none acc)⟩
  refine ⟨fun i m H2 => m = ds.length - i ∧ i ≤ ds.length ∧ ∃ S2 acc vacc, Rel K (c.plus D) S2 σ H2 ∧ Kp S1.W S2.W H1 H2 ∧ H2 D = some (.dK vacc) ∧ RpK K (S2.A (c.plus D)) H2 vacc acc ∧ acc.length ≤ sizeLine ∧ dcGo wg wt wk wv vs Qe (ds.drop i) acc S2,
    ⟨ds.length, by simp, Nat.zero_le _, S1.norm vs, [], [], (r1'.back r1' .refl rfl fun _ _ => rfl).1, (Kp.same sm1).trans (r1'.back r1' .refl rfl fun _ _ => rfl).2, upd_same, .nil, Nat.zero_le _, by simpa using h1⟩, ?_⟩
  rintro i m H2 ⟨rfl, hi, S2, acc, vacc, r2, k2, eD, ra, hz, h2⟩
  obtain ⟨go, stop⟩ := ok H2 (fun a => S2.W a ∨ a = D) ⟨k2.keep, fun b z => z.elim (k2.mono b) fun q => .inr (by rw [q]; exact nD)⟩ i
  by_cases hlt : i < ds.length
  · refine .inr ⟨(go ds[i] (List.getElem?_eq_getElem hlt)).1, fun H' => ∃ S2 acc vacc, Rel K (c.plus D) S2 σ H' ∧ Kp S1.W S2.W H1 H' ∧ H' D = some (.dK vacc) ∧ RpK K (S2.A (c.plus D)) H' vacc acc ∧ acc.length ≤ sizeLine ∧ dcGo wg wt wk wv vs Qe (ds.drop (i + 1)) acc S2,
      fun H' q => ⟨ds.length - (i + 1), by omega, rfl, hlt, q⟩, fun x H3 hy => ?_⟩
    obtain ⟨sm, rx⟩ := (go ds[i] (List.getElem?_eq_getElem hlt)).2 x H3 hy
    rw [List.drop_eq_getElem_cons hlt] at h2
    have r3 := r2.same sm
    have k3 : Kp S2.W S2.W H2 H3 := .same sm
    obtain ⟨rw3, kw3⟩ := r3.wipe vs
    have rx' : Rp K ((S2.wipe vs).A (c.plus D)) H3 x ds[i] := rx.kp ⟨fun b u e _ => e, fun b z => by
      rcases z with (z | z) | z
      · exact .inl (.inl z)
      · exact .inl (.inr (.inr z))
      · exact (kw3.mono b z).imp (fun q => .inr (.inl q)) id⟩
    refine (L (c.plus D) rfl).run x ds[i] _ _ H3 _ _ rw3 rx' h2 fun S4 σ4 h4 r4 k4 s4 l4 => ?_
    have l4' : σ4.length = σ.length := by rw [l4, wipe_length]
    have s4' : ∀ j, j ∉ vs → σ4[j]? = σ[j]? := fun j hj => by
      rw [s4 j (fun z => hj (hv j z)), wipe_get hj]
    refine ⟨wipe_eq l4' s4', ht (c.plus D) rfl _ _ _ ⟨S4, _, r4, h4, fun b S5 h5 H5 r5 k5 => ?_⟩⟩
    have k25 : Kp S2.W S5.W H2 H5 := ((k3.trans kw3).trans k4).trans k5
    have D5 : H5 D = some (.dK vacc) := k25.keep D _ eD (.inl (r2.a0 D (.inr rfl)).2)
    refine ite_of h5 (fun h6 => hk (c.plus D) rfl _ _ _ ⟨S5, _, r5, h6, fun y S6 h7 H6 v r6 k6 py => he (c.plus D) rfl _ _ _ ⟨S6, _, r6, h7, fun z S7 h8 H7 u r7 k7 pz => ?_⟩⟩) fun h6 => ?_
    · obtain ⟨kk, hkk, zO, hz2, h9⟩ := h8
      have k27 := (k25.trans k6).trans k7
      have D7 : H7 D = some (.dK vacc) := k27.keep D _ eD (.inl (r2.a0 D (.inr rfl)).2)
      obtain ⟨rb, kb⟩ := r2.back r7 k27 l4' s4'
      have kab := kA (c := c.plus D) (k27.trans kb)
      have ra7 := ra.kp kab
      refine ⟨vacc, kk, key_ok hkk py, D7, by rw [rpk_len' ra]; exact hz2, S2.back S7 vs, putD acc kk z, putK vacc kk u, rb.upD D7 trivial nk, ?_, upd_same, ?_, Nat.le_trans putD_length hz2, h9⟩
      · refine ⟨fun b u eb z => ?_, (k2.trans (k27.trans kb)).mono⟩
        rw [upd_ne (ne_of_none eb nD)]
        exact (k2.trans (k27.trans kb)).keep b u eb z
      · refine (rpk_put ra7 ((pz.pure zO).kp (kA kb))).kp ⟨fun b u eb z => ?_, fun b z => .inl z⟩
        have : b ≠ D := fun q => by
          subst q
          rcases z with z | z
          · exact z (.inl (.inr rfl))
          · rw [D7] at eb
            cases eb
            exact z trivial
        rw [upd_ne this]
        exact eb
    · obtain ⟨rb, kb⟩ := r2.back r5 k25 l4' s4'
      exact ⟨S2.back S5 vs, acc, vacc, rb, k2.trans (k25.trans kb), D5, ra.kp (kA (k25.trans kb)), hz, h6⟩
  · have e : i = ds.length := by omega
    subst e
    rw [List.drop_length] at h2
    obtain ⟨rm, km⟩ := r2.minus eD trivial nA nk
    have h2' : Qe acc S2 := h2
    obtain ⟨r5, k5⟩ := rm.newM (o := .dK vacc) (m := .dk none acc) offH_same fun A k => ⟨vacc, upd_same, (ra.kp km).kp k⟩
    rw [upd_offH eD] at r5 k5
    refine .inl ⟨stop (Nat.le_refl _), p (.r D) _ (h2' D (m_none rm offH_same)) _ _ r5 ?_ (.inl (.r D))⟩
    refine (k1.trans ⟨fun b u eb z => ?_, fun b z => k2.mono b z⟩ : Kp S.W S2.W H (offH H2 D)).trans k5
    rw [offH_ne (ne_of_none eb nD)]
    exact k2.keep b u eb z
theorem v_dc {kx vx tg iter : Expr} {ifs : List Expr} {scope : Scope} {own : List (Str × Nat)} {wi : WI} {wt : WT} {g : TG} {wg : WG} {is : List Nat} (hc : X.calm = true) (hN : X.N.Nodup) (hi : PI X tg iter (lWk X.K c wi)) (ok : BlkOk X.N X.env.scope scope own)
    (L : ∀ c' : Cq, c'.n = c.n → LG X.K c' g wg is) (hg : ∀ (s : Shared) (H : Hp) (C : Addr) (cl : List (Str × Addr)) (fp : List Addr), PG (X.blk s H scope (compEnvC scope cl C X.env) fp) tg g)
    (ht : ∀ (s : Shared) (H : Hp) (C : Addr) (cl : List (Str × Addr)) (fp : List Addr) (c' : Cq), c'.n = c.n → PTs (X.blk s H scope (compEnvC scope cl C X.env) fp) ifs (lT X.K c' wt))
    (hk : ∀ (s : Shared) (H : Hp) (C : Addr) (cl : List (Str × Addr)) (fp : List Addr) (c' : Cq), c'.n = c.n → PE (X.blk s H scope (compEnvC scope cl C X.env) fp) kx (lE X.K c' wk))
    (he : ∀ (s : Shared) (H : Hp) (C : Addr) (cl : List (Str × Addr)) (fp : List Addr) (c' : Cq), c'.n = c.n → PE (X.blk s H scope (compEnvC scope cl C X.env) fp) vx (lE X.K c' wv))
    (hv : ∀ i ∈ is, i ∈ own.map (·.2)) (hs : ∀ x, foldedSetIterable iter X.env x = pure x := by intro _; rfl) : PE X (.DictComp kx vx [⟨tg, iter, ifs, 0⟩] scope pos) (lE X.K c (wDc wi wg wt wk wv (own.map (·.2)))) :=
  pe_imp (pe_dc (tt := fun σ H Q => ∃ c' : Cq, c'.n = c.n ∧ lT X.K c' wt σ H Q) (tk := fun σ H Q => ∃ c' : Cq, c'.n = c.n ∧ lE X.K c' wk σ H Q) (tv := fun σ H Q => ∃ c' : Cq, c'.n = c.n ∧ lE X.K c' wv σ H Q) hc hN hi ok hg
    (fun s H C cl fp => ⟨fun pins s' σ H' Q I ⟨c', hc', h⟩ => (ht s H C cl fp c' hc').run pins s' σ H' Q I h⟩)
    (fun s H C cl fp => ⟨fun pins s' σ H' Q I ⟨c', hc', h⟩ => (hk s H C cl fp c' hc').run pins s' σ H' Q I h⟩)
    (fun s H C cl fp => ⟨fun pins s' σ H' Q I ⟨c', hc', h⟩ => (he s H C cl fp c' hc').run pins s' σ H' Q I h⟩) hs)
    (ldc L hv (fun c' e _ _ _ h => ⟨c', e, h⟩) (fun c' e _ _ _ h => ⟨c', e, h⟩) (fun c' e _ _ _ h => ⟨c', e, h⟩))
/-- for k, v in d.items() -/
def pairD (kd : Key × Da) : Da := .t [keyD kd, kd.2]
def wItems (we : WE) : WI := fun S Q => we S fun d S' => ∃ p od kds, d = .r p ∧ S'.M p = some (.dk (some od) kds) ∧ Q (kds.map pairD) S'
end
end VL
set_option Elab.async false
set_option linter.all false
set_option maxRecDepth 100000
set_option maxHeartbeats 1000000
namespace VL
open PySem PySem.Spec PyProof.Rows L2
section
variable {X : Cx} {c : Cq} {tg e : Expr} {apos cpos : Pos} {we : WE}
theorem v_lkE {e : Expr} (h : PE X e (lE X.K c we)) : PE X e (lE X.K c (wLkE we)) := pe_imp (pe_lock h) fun σ H Q h => by
  obtain ⟨S, Qd, r, ⟨p, kds, e, h⟩, pst⟩ := h
  obtain ⟨kvs, h0, lk⟩ := r.lock e
  refine ⟨p, _, h0, trivial, fun od => ?_⟩
  obtain ⟨r1, k1⟩ := lk od
  refine ⟨_, _, r1, h od, fun d S' q H' v r' k' rv => ?_⟩
  obtain ⟨dO, e', q⟩ := q
  obtain ⟨h', r2, k2, kq⟩ := r.unlock h0 k1 upd_same k' r' e'
  exact ⟨h', pst d _ q _ v r2 k2 (.inl ((rv.pure dO).kq kq))⟩
theorem rpk_getP {K : PySem.W.Frag} {A : Addr → Prop} {H : Hp} : ∀ {kvs : List (Key × V)} {kds : List (Key × Da)} {i : Nat} {d : Da}, RpK K A H kvs kds → (kds.map pairD)[i]? = some d → ∃ k v dk dv, kvs[i]? = some (k, v) ∧ d = .t [dk, dv] ∧ Rp K A H (kV k) dk ∧ Rp K A H v dv
  | _, _, _, _, .nil, h => by simp at h
  | _, _, 0, _, .cons (k := j) (v := v) (d := d) h0 a, h => by
    refine ⟨j, v, keyD (j, d), d, rfl, (Option.some.inj h).symm, ?_, h0⟩
    cases j
    · exact .i _
    · exact .s _
  | _, _, i + 1, _, .cons h0 a, h => rpk_getP (i := i) a h
theorem i_items {elts : List Expr} {kk : Nat} {tpos : Pos} (he : PE X e (lE X.K c we)) (hbase : attributeBase e "items" X.env (eval e X.env) = eval e X.env := by rfl) (hline : (apos.endLine == cpos.line) = true := by rfl) :
    PI X (.Tuple elts kk tpos) (.Call (.Attribute e "items" apos) [] [] cpos) (lWk X.K c (wItems we)) := pi_imp (pi_items he hbase hline) fun σ H R h => by
  obtain ⟨S, Qd, r, h, p⟩ := h
  refine ⟨S, _, r, h, fun d S1 h1 H1 v r1 k1 p1 => ?_⟩
  obtain ⟨q, od, kds, rfl, eM, h2⟩ := h1
  obtain ⟨kvs, g1, g2⟩ := r1.mem q _ eM
  have g1' : H1 q = some (.frz od (.dK kvs)) := g1
  refine ⟨q, od, kvs, rs_r p1, g1', p _ _ h2 _ _ r1 k1 fun H2 W2 k i => ?_⟩
  have e2 : H2 q = some (.frz od (.dK kvs)) := k.keep _ _ g1' (.inr id)
  refine ⟨fun d hd => ?_, fun hl => ⟨e2, by rw [rpk_len' g2]; simpa using hl⟩⟩
  obtain ⟨kk, vv, dk, dv, hv, rfl, rk, rv⟩ := rpk_getP g2 hd
  refine ⟨⟨e2, (List.getElem?_eq_some_iff.mp hv).1⟩, fun x H3 hy => ?_⟩
  obtain ⟨T, k', v', hy, rfl, nT, rfl⟩ := hy
  rw [hv] at hy
  cases hy
  exact ⟨same_upd nT, .t (.inl (.inl upd_same)) (.cons ((rk.kp k.or).kp (.same (same_upd nT))) (.cons ((rv.kp k.or).kp (.same (same_upd nT))) .nil))⟩
end
/-! ### shared objects that never change again become data -/
def dropM (M : Mx) (ps : List Addr) : Mx := fun b => if b ∈ ps then none else M b
inductive Fz (M : Mx) (ps : List Addr) : Da → Da → Prop
  | same (d : Da) : Fz M ps d d
  | dk {p : Addr} {kds : List (Key × Da)} : M p = some (.dk none kds) → p ∈ ps → Fz M ps (.r p) (.dk kds)
inductive FzF (M : Mx) (ps : List Addr) : List (Str × Da) → List (Str × Da) → Prop
  | nil : FzF M ps [] []
  | cons {k : Str} {d d' : Da} {r r' : List (Str × Da)} : Fz M ps d d' → FzF M ps r r' → FzF M ps ((k, d) :: r) ((k, d') :: r')
section
variable {K : PySem.W.Frag} {c : Cq} {S : Sx} {σ : L2.St} {H : Hp}
theorem dropM_in {M : Mx} {ps : List Addr} {b : Addr} (h : b ∈ ps) : dropM M ps b = none := if_pos h
theorem dropM_out {M : Mx} {ps : List Addr} {b : Addr} (h : b ∉ ps) : dropM M ps b = M b := if_neg h
theorem Rel.drop (r : Rel K c S σ H) (ps : List Addr) : Rel K c ⟨S.ρ, dropM S.M ps⟩ σ H ∧ Kp S.W (Sx.W ⟨S.ρ, dropM S.M ps⟩) H H ∧ ∀ p ∈ ps, S.M p ≠ none → ¬ Sx.A ⟨S.ρ, dropM S.M ps⟩ c p := by
  have sub : ∀ b, Sx.W ⟨S.ρ, dropM S.M ps⟩ b → S.W b := fun b z => by
    rcases z with z | z
    · exact .inl z
    · refine .inr fun q => z ?_
      by_cases h : b ∈ ps
      · exact dropM_in h
      · show dropM S.M ps b = none
        rw [dropM_out h]; exact q
  have k : Kp S.W (Sx.W ⟨S.ρ, dropM S.M ps⟩) H H := Kp.refl.sub sub
  have mem : ∀ a m, dropM S.M ps a = some m → S.M a = some m := fun a m e => by
    by_cases h : a ∈ ps
    · rw [dropM_in h] at e; cases e
    · rw [dropM_out h] at e; exact e
  refine ⟨r.next k r.len rfl (fun i d e => ?_) (fun i p ds e => ?_) r.inj (fun i p ds e => ?_) (fun a m e => ?_), k, fun p hp hm z => ?_⟩
  · obtain ⟨v, h1, h2⟩ := r.val i d e
    exact ⟨v, h1, h2.kp (kA k)⟩
  · obtain ⟨h1, vs, h2, h3⟩ := r.own i p ds e
    exact ⟨h1, vs, h2, h3.kp (kA k)⟩
  · have := r.sep i p ds e
    by_cases h : p ∈ ps
    · exact dropM_in h
    · show dropM S.M ps p = none
      rw [dropM_out h]; exact this
  · exact (r.mem a m (mem a m e)).kp (kA k) fun _ z => z
  · rcases z with z | ⟨i, ds, z⟩ | z
    · exact (r.a0 p z).2 (.inr hm)
    · exact hm (r.sep i p ds z)
    · exact z (dropM_in hp)
theorem fz_rp {ps : List Addr} (r : Rel K c S σ H) {v : V} {d d' : Da} (h : Rp K (S.A c) H v d) (f : Fz S.M ps d d') : Rp K (Sx.A ⟨S.ρ, dropM S.M ps⟩ c) H v d' := by
  obtain ⟨r2, k, na⟩ := r.drop ps
  cases f with
  | same d => exact h.kp (kA k)
  | dk e hp =>
    cases h
    obtain ⟨kvs, h1, h2⟩ := r.mem _ _ e
    exact .dk h1 (na _ hp (by rw [e]; exact fun z => by cases z)) (h2.kp (kA k))
theorem fz_rpf {ps : List Addr} (r : Rel K c S σ H) : ∀ {fs : List (Str × V)} {gs gs' : List (Str × Da)}, RpF K (S.A c) H fs gs → FzF S.M ps gs gs' → RpF K (Sx.A ⟨S.ρ, dropM S.M ps⟩ c) H fs gs'
  | _, _, _, .nil, .nil => .nil
  | _, _, _, .cons h a, .cons f g => .cons (fz_rp r h f) (fz_rpf r a g)
end
/-- a new instance, that never changes again, with its dicts -/
def wFrz (we : WE) : WE := fun S Q => we S fun d S' => ∃ x C gs gs' ps, d = .r x ∧ S'.M x = some (.ins C gs) ∧ FzF S'.M (x :: ps) gs gs' ∧ Q (.ins C gs') ⟨S'.ρ, dropM S'.M (x :: ps)⟩
section
variable {X : Cx} {c : Cq} {e : Expr} {we : WE}
theorem vFrz (h : PE X e (lE X.K c we)) : PE X e (lE X.K c (wFrz we)) := pe_imp h fun σ H Q h => by
  obtain ⟨S, Qd, r, h, p⟩ := h
  refine ⟨S, _, r, h, fun d S1 h1 H1 v r1 k1 p1 => ?_⟩
  obtain ⟨x, C, gs, gs', ps, rfl, eM, f, q⟩ := h1
  obtain ⟨dx, fs, g1, g2⟩ := r1.mem x _ eM
  obtain ⟨r2, k2, na⟩ := r1.drop (x :: ps)
  have := rs_r p1
  subst this
  exact p _ _ q _ _ r2 (k1.trans k2) (.inl (.ins g1 (na x (by simp) (by rw [eM]; exact fun z => by cases z)) (fz_rpf r1 g2 f)))
end
end VL
set_option Elab.async false
set_option linter.all false
set_option maxRecDepth 100000
set_option maxHeartbeats 1000000
namespace VL
open PySem PySem.Spec PyProof.Rows L2 LamX NdefX
/-! ### __init__ of an own error, that begins with super().__init__(e) -/
structure FunS (P : Program) (K : PySem.W.Frag) (mg : Str → Option Value) (C : Addr) (qual : Str) (st : Stmt) (c cc f : Addr) (fd : FuncData) : Prop where
  ex : ∃ oc od kV doc pm an ct osl, fd = PySem.W.ksFn "__init__" qual (defArgs st) (defBody st) (defScope st) .none kV doc pm an (.ref c) ct cc ∧ K.lookup f = some ⟨oc, od, .func fd, osl⟩
  cd : PySem.W.codeIn K (.ref c) qual = true
  code : ∃ ccl cdd vs ccs file tf, K.lookup c = some ⟨ccl, cdd, .fields vs, ccs⟩ ∧ vs[2]? = some (.str file tf) ∧ ((P.main.file : Str) == file) = true
  cell : ∃ cl cld csl, K.lookup cc = some ⟨cl, cld, .cell (some (.ref C)), csl⟩
  cls : ∃ cdD, PySem.W.clsIn K C = some cdD
  sub : PySem.W.mroIn K C (.ref C) = some true
  sup : mg "super" = none
  top : (P.main.scope.names.lookup ("super" : Str)).isSome = false
  opq : PySem.W.nsIn K PySem.cStatics "thirdparty.any" = some none
  ini : PySem.W.ks_superIn K C C "__init__" = some (some (.builtin "ValueError.__init__"))
  ve : PySem.W.subIn K (.ref C) (.type "ValueError") = some true
  oex : OexC K C
section
variable {P : Program} {w : World} {K : PySem.W.Frag} {mg : Str → Option Value} {base : Heap} {CX : CXT} {k : Nat} {f C cc c : Addr} {qual : Str} {st : Stmt} {fd : FuncData} {N ps : List Str} {sp : Sp} {e0 : Expr} {rest : List Stmt} {p0 p1 p2 p3 p4 : Pos} {ar : Arg}
abbrev nfS (st : Stmt) (qual : Str) (cc c : Addr) : NF := ⟨"__init__", qual, defArgs st, defBody st, defScope st, [("__class__", cc)], c⟩
/-- a method wrapper of ValueError.__init__ called -/
theorem call_mw {X : Cx} {pins : List (Addr × Obj)} {σ : L2.St} {H : Hp} {s : Shared} {a u : Addr} {us : List Value} {Q : Value → Shared → Prop} (T : OexC X.K C) (I : Inv X pins σ H s) (e : H a = some (exo a C none)) (hu : s.heap.get? u = some (PySem.W.kxs_mw "ValueError.__init__" a))
    (hl : us.length ≤ sizeLine) (h : ∀ s', Inv X pins σ H s' → Q .none s') : wpAny (model X.prog X.w) X.A (call (.ref u) us) Q X.xe s := by
  obtain ⟨nm, q, N, bs, bm, sn, sub, ab, col, dd, k0, k1, k2, k3, k5, hC, hbm⟩ := T.cls
  obtain ⟨t1, ho⟩ := exo_at I.hok e
  obtain ⟨hp, g, d, t, os⟩ := s
  refine wpAny_call (codeAny_of_tree ?_)
  show wpAny _ X.A.in1 (callAny (.ref u) ⟨us, []⟩) _ _ _
  simp only [callAny]
  refine wpAny_bind (wpAny_load hu ?_)
  simp only [PySem.W.kxs_mw, show (Value.type "method-wrapper" == Value.type "method" || Value.type "method-wrapper" == Value.type "builtin_function_or_method" || Value.type "method-wrapper" == Value.type "method-wrapper") = true by decide, if_true]
  refine PySem.W.KFB.if_so (by decide) ?_
  refine wpAny_bind (PySem.W.check_bound_init PySem.F.excBase_ValueError.toExcCallFacts (I.kIn _ _ hC) ho rfl ?_)
  refine wpAny_bind (wpAny_pure (wpAny_pure ?_))
  refine ⟨plainId_quiet PySem.F.excBase_ValueError.init.plain _, codeAny_builtin PySem.F.excBase_ValueError.initEntry ?_⟩
  rw [Around.under_plainId PySem.F.excBase_ValueError.init.plain _]
  refine PySem.W.exc_init_tree (cls := .ref C) (t0 := t1) (dv := none) (c2 := .none) (c3 := .none) (b4 := .bool false) ho hl fun h' kk hx _ => ?_
  have J := I.write (t' := t) (x := a) (e := a) (o := exo a C none) (by rw [e]; exact True.intro) (.inl rfl) kk ⟨_, hx⟩ (exo_ok hx)
  have eu : upd H a (exo a C none) = H := by
    funext b
    by_cases hb : b = a
    · rw [hb, upd_same, e]
    · rw [upd_ne hb]
  rw [eu] at J
  exact h _ J
theorem fn_super (F : FunS P K mg C qual st c cc f fd) (S : NScope N ps ["__class__"] (defScope st)) (hst : defBody st = .Expr (.Call (.Attribute (.Call (.Name "super" p0) [] [] p1) "__init__" p2) [e0] [] p3) p4 :: rest)
    (hpar : ((defArgs st).posonlyargs ++ (defArgs st).args).head? = some ar) (har : N[0]? = some ar.arg) (hloc : (defScope st).names.lookup ar.arg = some .local)
    (hks : (defScope st).names.lookup ("super" : Str) = some .globalImplicit) (hkc : (defScope st).names.lookup ("__class__" : Str) = some .free)
    {pl : Addr → Sem Bool} (hev : ∀ L, eval (.Call (.Attribute (.Call (.Name "super" p0) [] [] p1) "__init__" p2) [e0] [] p3) (envF (nfS st qual cc c) f L) = (do
      let ov ← attributeBase (.Call (.Name "super" p0) [] [] p1) "__init__" (envF (nfS st qual cc c) f L) (eval (.Call (.Name "super" p0) [] [] p1) (envF (nfS st qual cc c) f L))
      standAt p2.atName
      let (g, first) ← holding [ov] (getMethod ov "__init__" (pl L))
      callWith p3 g first (backTo p3 (starEach [e0] (envF (nfS st qual cc c) f L))) []))
    (hse : ∀ L, starEach [e0] (envF (nfS st qual cc c) f L) = (false, eval e0 (envF (nfS st qual cc c) f L)) :: starEach [] (envF (nfS st qual cc c) f L)) (hpl : ∀ L, (backTo p3 (starEach [] (envF (nfS st qual cc c) f L))).any (·.1) = false) (hsw : ∀ L, swapsWith (.Call (.Attribute (.Call (.Name "super" p0) [] [] p1) "__init__" p2) [e0] [] p3) none p4.line (envF (nfS st qual cc c) f L) = pure false)
    (len : ∀ vs H Q E, sp vs H Q E → vs.length = ps.length)
    (hbody : ∀ (A : Around) (outer : List Env) (s : Shared) (H : Hp) (vs : List V) (Q : VK) (E : XK), Room k (A.deeper (envF (nfS st qual cc c) f s.heap.objs.size)) → sp vs H Q E → ∃ a r, vs = .ref a :: r ∧ H a = some (exo a C none) ∧
      ∃ ta t, PA (ncx CX P w K mg base N (nfS st qual cc c) f A outer s H E) [e0] ta ∧ PSs (ncx CX P w K mg base N (nfS st qual cc c) f A outer s H E) rest t ∧
        ta (startF N vs [none]) H fun us H1 => H1 a = some (exo a C none) ∧ us.length ≤ 1000 ∧ t { nx := fun _ H' => Q .non H', rt := Q } (startF N vs [none]) H1) :
    FnOk P w K mg base CX (k + 1) f fd ps sp := by
  obtain ⟨oc, od, kV, doc, pm, an, ct, osl, rfl, lk⟩ := F.ex
  obtain ⟨ccl, cdd, vs0, ccs, file, tf, hcode, hvs, hfile⟩ := F.code
  obtain ⟨ccl2, cld, csl, hcell⟩ := F.cell
  obtain ⟨cdD, hD⟩ := F.cls
  refine ⟨len, fun A outer s H args us vs Q E hr e0' hb r hsp => ?_⟩
  have hl := len _ _ _ _ hsp
  have KX : K.In s.heap := e0'.mod.kin.keeps fun b o e => (e0'.bs b o e).1
  have lim : s.heap.NoLimit := e0'.mod.nolimit.keeps fun b o e => (e0'.bs b o e).1
  have hbase : ∀ b o, K.lookup b = some o → s.heap.get? b = some o ∧ H b = none := fun b o e => e0'.bs b o (e0'.mod.kin b o e)
  have CA : CellsAt (nfS st qual cc c).cl ["__class__"] [none] s.heap H := by
    have one : ∀ y c', ([("__class__", cc)] : List (Str × Addr)).lookup y = some c' → c' = cc ∧ y = "__class__" := fun y c' e => by
      rw [List.lookup_cons] at e
      cases q : (y == "__class__") with
      | true => rw [q] at e; cases e; exact ⟨rfl, eq_of_beq q⟩
      | false => rw [q] at e; cases e
    refine ⟨rfl, fun y c' e => ?_, fun x y c' e1 e2 => ?_, fun i y e => ?_⟩
    · obtain ⟨rfl, rfl⟩ := one y c' e
      exact ⟨(hbase _ _ hcell).2, _, _, (hbase _ _ hcell).1, rfl⟩
    · rw [(one x c' e1).2, (one y c' e2).2]
    · cases i with
      | zero =>
        have : y = "__class__" := by simpa using e.symm
        subst this
        exact ⟨cc, rfl, fun v hv => by simp at hv⟩
      | succ i => simp at e
  refine PySem.ks_codeAny_call_defAt (fd := PySem.W.ksFn "__init__" qual (defArgs st) (defBody st) (defScope st) .none kV doc pm an (.ref c) ct cc) (body := defBody st) hr.depth (KX _ _ lk) rfl lim (PySem.W.codeRec_of KX F.cd) rfl hb S.nocell (fun ⟨n, _⟩ hy => S.par n (List.of_mem_zip hy).1) (fun h₁ hns kp => ?_) S.co S.gen S.kind
  show PySem.wpAt _ (A.deeper (envF (nfS st qual cc c) f s.heap.objs.size)) (.func (defBody st) (envF (nfS st qual cc c) f s.heap.objs.size)) (execs (defBody st) (envF (nfS st qual cc c) f s.heap.objs.size)) _ _ _
  obtain ⟨a, rr, rfl, ha, ta, t, hta, ht, hq⟩ := hbody A outer s H vs Q E (hr.deeper _) hsp
  have I : Inv (ncx CX P w K mg base N (nfS st qual cc c) f A outer s H E) [] (startF N (.ref a :: rr) [none]) H { s with heap := h₁, toks := s.toks + (ps.zip us).length } := inv_startN S hr.hd e0' hl r CA hns kp
  -- the parameter
  obtain ⟨m, hm1, hm2⟩ := I.loc
  obtain ⟨ua, hua, look⟩ := hm2 0 ar.arg (.ref a) har (by unfold startF; rfl) (.inl hloc)
  have hua : ua = .ref a := hua
  subst hua
  have hma : m ar.arg = some (.ref a) := by
    rcases look with ⟨_, e⟩ | ⟨z, _⟩
    · exact e
    · have z : (defScope st).names.lookup ar.arg = some .cell ∨ (defScope st).names.lookup ar.arg = some .free := z
      rw [hloc] at z
      rcases z with z | z <;> cases z
  obtain ⟨t1, hoe⟩ := exo_at I.hok ha
  have X1 := I.kIn
  obtain ⟨oD, hD1, hD2⟩ : ∃ oD, h₁.get? C = some oD ∧ oD.data = .cls cdD := by
    unfold PySem.W.clsIn at hD
    split at hD
    · rename_i c d cd' sl ho
      cases hD
      exact ⟨_, X1 _ _ ho, rfl⟩
    · cases hD
  have naC : a ≠ C := fun z => by
    have h1 : h₁.get? a = some oD := by rw [z]; exact hD1
    rw [show h₁.get? a = _ from hoe] at h1
    cases h1
    cases hD2
  have run : PySem.wpAt (model P w) (A.deeper (envF (nfS st qual cc c) f s.heap.objs.size)) (.func (defBody st) (envF (nfS st qual cc c) f s.heap.objs.size)) (execs (defBody st) (envF (nfS st qual cc c) f s.heap.objs.size)) (SP (ncx CX P w K mg base N (nfS st qual cc c) f A outer s H E) [] { nx := fun _ H' => Q .non H', rt := Q }) (ncx CX P w K mg base N (nfS st qual cc c) f A outer s H E).xe { s with heap := h₁, toks := s.toks + (ps.zip us).length } := by
    have X := ncx CX P w K mg base N (nfS st qual cc c) f A outer s H E
    rw [hst]
    refine PySem.ks_wpAt_execs_cons (PySem.ks_wpAt_Expr_any (PySem.ks_wpAt_MethodCall (PySem.ks_wpAt_super_base hks hkc (by decide) rfl (X1 _ _ lk) rfl hpar rfl (X1 _ _ hcode) rfl hvs hfile F.top ?_) (hev _)) (by unfold interactive; simp [S.kind]) (hsw _))
    obtain ⟨mb, hb1, hb2⟩ := I.mod.blt
    refine PySem.W.ks_loadName_global S.kind hks (Calls.loadGlobal_builtin (I.mod.glob.keeps I.bk) F.sup (hb1.keeps I.bk) ((hb2 _ (by decide)).trans PyProof.Rows.Boot.«super») ⟨rfl, ?_⟩)
    refine wpAny_loadName_free S.kind hkc rfl ⟨_, X1 _ _ hcell, rfl⟩ ?_
    refine wpAny_loadName_local S.kind hloc hm1 hma ?_
    refine PySem.ks_wpAny_isType_cls hD1 hD2 ⟨rfl, ?_⟩
    refine PySem.ks_wpAny_call_super hD1 hD2 hoe rfl (fun c e => by cases e) (PySem.W.looks_mroIn X1 F.sub) (fun h' e kk => ?_)
    have I2 := I.kept (t' := s.toks + (ps.zip us).length) kk
    have X2 := I2.kIn
    have hmro : PySem.W.Looks (model P w) h' (mroOf (.ref C)) cdD.mro := fun A Q E s k q => wpAny_bind ((PySem.W.looks_clsIn X2 hD) A _ E s k (wpAny_pure q))
    have hal : PySem.W.alongIn K "__init__" ((cdD.mro.dropWhile (· != .ref C)).drop 1) = some (some (.builtin "ValueError.__init__")) := by
      have z := F.ini
      unfold PySem.W.ks_superIn at z
      rw [hD] at z
      exact z
    have Ia : PySem.W.InstAt h' a _ C none := ⟨kk _ _ hoe, rfl, rfl, trivial⟩
    refine PySem.W.kxs_getMethod PySem.W.kxs_ValueError e (PySem.W.looks_opaque X2 F.opq) hmro rfl X2 hal (Ia.type.andThen (PySem.W.looks_subIn X2 F.ve)) naC (by decide) ?_
    have I3 := I2.kept (h' := h'.push (PySem.W.kxs_mw "ValueError.__init__" a)) (t' := s.toks + (ps.zip us).length + 1) fun b o q => Heap.get?_push_of_some _ q
    have hu3 : (h'.push (PySem.W.kxs_mw "ValueError.__init__" a)).get? h'.objs.size = some (PySem.W.kxs_mw "ValueError.__init__" a) := Heap.get?_push_size _ rfl
    have I4 := I3.pinned (fp := [h'.objs.size]) (fun b hb => by
      rw [List.mem_singleton.mp hb]
      exact I2.fpOk (Nat.le_refl _) (I2.hok.fresh (Nat.le_refl _))) (fun b hb => by
      rw [List.mem_singleton.mp hb]
      exact ⟨_, hu3, fun v z => by cases z⟩)
    have hta2 := hta.run p3 _ _ _ H _ I4 hq
    have hse2 : starEach [e0] (ncx CX P w K mg base N (nfS st qual cc c) f A outer s H E).env = _ := hse s.heap.objs.size
    rw [hse2] at hta2
    rw [hse s.heap.objs.size]
    refine PySem.W.kxs_callWith (i := "ValueError.__init__") (x := a) (by show (false || (backTo p3 (starEach [] (envF (nfS st qual cc c) f s.heap.objs.size))).any (·.1)) = false; rw [hpl]; rfl) (Calls.evalArgs_plain ?_)
    refine thn hta2 fun us2 s2 hAP => ?_
    obtain ⟨vs2, H2, I5, rv2, ha2, hl2, hq2⟩ := hAP
    have hu5 : s2.heap.get? h'.objs.size = some (PySem.W.kxs_mw "ValueError.__init__" a) := (I5.pin (h'.objs.size, PySem.W.kxs_mw "ValueError.__init__" a) (List.mem_append_right _ (List.mem_append_right _ (mem_pinsAt (by simp) hu3)))).1
    refine ⟨hu5, ?_⟩
    show wpAny (model (ncx CX P w K mg base N (nfS st qual cc c) f A outer s H E).prog _) (ncx CX P w K mg base N (nfS st qual cc c) f A outer s H E).A (call (.ref h'.objs.size) us2) _ _ _
    refine call_mw F.oex I5 ha2 hu5 (by rw [← rv2.length, sizeLine_eq]; omega) fun s3 I6 => ?_
    show PySem.wpAt _ _ _ _ _ _ _
    exact PySem.wpAt_of_wpAny (ht.run [] s3 _ H2 _ (I6.unpinned) hq2)
  refine PySem.ks_wpAt_mono run (fun fl s' hs => ?_) fun e s' hs => hs
  have fin : ∀ {σ' : L2.St} {H' : Hp} {v : V} {u : Value}, Inv (ncx CX P w K mg base N (nfS st qual cc c) f A outer s H E) [] σ' H' s' → L2.RelV v u → Q v H' → CE outer P w H s Q u s' :=
    fun {σ' H' v u} J rv q => ⟨v, H', J.os, J.bare, J.base, J.hok, rv, q⟩
  cases fl with
  | ret u =>
    obtain ⟨v, σ', H', J, rv, q⟩ := hs
    exact fin J rv q
  | next =>
    obtain ⟨σ', H', J, q⟩ := hs
    exact fin (v := V.non) (u := Value.none) J rfl q
  | brk =>
    obtain ⟨_, _, _, q⟩ := hs
    exact False.elim q
  | cont =>
    obtain ⟨_, _, _, q⟩ := hs
    exact False.elim q
end
end VL
set_option Elab.async false
set_option linter.all false
set_option maxRecDepth 100000
set_option maxHeartbeats 1000000
namespace VL
open PySem PySem.Spec PyProof.Rows L2
/-! ### errors with a field -/
def spErr (C : Addr) (fld : Str) : Sp := fun vs H Q _ => ∃ (a : Addr) (z : Str), vs = [.ref a, .str z] ∧ z.length ≤ 1000 ∧ H a = some (exo a C none) ∧
  ∀ dx, H dx = none → dx ≠ a → Q .non (upd (upd H dx (exd dx [(fld, .str z)])) a (exo a C (some dx)))
def wRaiseF (C : Addr) (fld : Str) (Xs : DXs) (we : WE) : WS := fun _ S => we S fun d S1 => ∃ z : Str, d = .s z ∧ z.length ≤ 1000 ∧ Xs (.ref C) (some [(fld, .s z)]) S1
section
variable {X : Cx} {c : Cq} {pos p p2 apos : Pos} {e : Expr} {we : WE} {x fld : Str} {Xs : DXs} {W : WX} {C fI : Addr} {k : Nat} {fd : FuncData} {ps : List Str}
theorem takes_no {X : Cx} : Takes X (fun _ _ _ _ => False) := fun _ _ ⟨_, _, _, _, _, _, _, _, _, _, _, _, _, _, _, _, w⟩ => w.elim
theorem del_upd {H : Hp} {a d : Addr} {o u : HO} (na : H a = none) (nd : d ≠ a) (v : HO) : upd (del (upd (upd H d o) a u) a) d v = upd H d v := by
  funext b
  by_cases hb : b = d
  · subst hb; rw [upd_same, upd_same]
  · rw [upd_ne hb, upd_ne hb]
    by_cases hc : b = a
    · subst hc; rw [del_same, na]
    · rw [del_ne hc, upd_ne hc, upd_ne hb]
theorem s_raiseF (hc : X.calm = true) (tk : Takes X W) (hX : XOk X.K c Xs W) (T : OexC X.K C) (iC : PySem.W.findIn X.K (.ref C) "__init__" = some (some (.ref fI))) (tI : PySem.W.typeIn X.K (.ref fI) = some (.type "function"))
    (F1 : FnOk X.prog X.w X.K X.mg X.base (L2.CX X.prog X.w) k fI fd ps (spErr C fld)) (hr : Room (k + 1) X.A) (hb : Binds X.K fd ps []) (hg : Gl X x) (hm : X.mg x = some (.ref C)) (he : PE X e (lE X.K c we))
    (hdb : (x == ("__debug__" : Str)) = false := by decide) (hst : starEach [e] X.env = (false, eval e X.env) :: starEach [] X.env := by rfl) (hpl : (backTo pos (starEach [] X.env)).any (·.1) = false := by rfl) :
    PS X (.Raise (some (.Call (.Name x p) [e] [] pos)) none apos) (lS X.K c (wRaiseF C fld Xs we)) :=
  ps_imp (ps_raise hc tk (pmk_oex T iC tI F1 hr hb .nil (passes_call takes_no fun _ _ _ _ h => h) hg hm (pa_cons he pa_nil hst) hdb hst hpl)) fun D σ H h => by
    obtain ⟨S, Dd, r, h, pst⟩ := h
    refine ⟨S, _, r, h, fun d S1 h1 H1 v r1 k1 p1 => ?_⟩
    obtain ⟨z, rfl, hz, hx⟩ := h1
    rw [rs_s p1]
    show [V.str z].length ≤ 1000 ∧ _
    refine ⟨by show 1 ≤ 1000; decide, fun a na => ⟨a, z, rfl, hz, upd_same, fun dx nd ne => ⟨rfl, dx, [(fld, .str z)], upd_same, ?_, ?_, ?_⟩⟩⟩
    · rw [upd_ne ne, upd_same]
    · have : upd H1 a (exo a C none) dx = none := nd
      rw [upd_ne ne] at this
      exact this
    · have nd' : H1 dx = none := by
        have : upd H1 a (exo a C none) dx = none := nd
        rw [upd_ne ne] at this
        exact this
      have e1 : upd (del (upd (upd (upd H1 a (exo a C none)) dx (exd dx [(fld, .str z)])) a (exo a C (some dx))) a) dx (.xd [(fld, .str z)]) = upd H1 dx (.xd [(fld, .str z)]) := by
        funext b
        by_cases hb : b = dx
        · subst hb; rw [upd_same, upd_same]
        · rw [upd_ne hb, upd_ne hb]
          by_cases hc : b = a
          · subst hc; rw [del_same, na]
          · rw [del_ne hc, upd_ne hc, upd_ne hb, upd_ne hc]
      rw [e1]
      have r2 := r1.new (o := .xd [(fld, .str z)]) nd'
      exact hX _ _ _ hx _ _ _ r2 ⟨dx, _, rfl, upd_same, .cons (.s z) .nil⟩
end
/-! ### a caught error -/
/-- the caught error's fields, as they stood at the catch -/
def ExD (K : PySem.W.Frag) (c : Cq) (ofs : Option (List (Str × Da))) (d : Option Addr) : Prop := match ofs with
  | none => d = none
  | some gs => ∃ dd fs, d = some dd ∧ c.H0 dd = some (.xd fs) ∧ RpF K (fun b => c.A0 b ∨ c.W0 b) c.H0 fs gs
def wEf (a : Addr) (cls : Value) (C : Addr) (n : Str) (ofs : Option (List (Str × Da))) (we : WE) : WE := fun S Q => we S fun x S1 => x = .r a ∧ cls = .ref C ∧ ∃ gs v, ofs = some gs ∧ gs.lookup n = some v ∧ Q v S1
def wIsE (K : PySem.W.Frag) (a : Addr) (cls : Value) (cv : Value) (we : WE) : WE := fun S Q => we S fun x S1 => x = .r a ∧ ∃ D b, cls = .ref D ∧ ExcC K D ∧ PySem.W.kitOne K (.ref D) cv = some b ∧ Q (.b b) S1
section
variable {X : Cx} {c : Cq} {a C : Addr} {oe : Obj} {cls : Value} {d : Option Addr} {pn : List (Addr × Obj)} {e : Expr} {we : WE} {pos p p2 apos : Pos} {n x y : Str} {ofs : Option (List (Str × Da))} {cv : Value}
theorem v_ef (T : XfC X.K C) (hno : PySem.W.findIn X.K (.ref C) n = some none) (hz : Zc cls d oe) (hf : ∃ vs, oe.data = .fields vs) (E : ExD X.K c ofs d) (he : PE (X.suite a ((a, oe) :: pn)) e (lE X.K c we)) (hb : attributeBase e n X.env (eval e X.env) = eval e X.env := by rfl) :
    PE (X.suite a ((a, oe) :: pn)) (.Attribute e n pos) (lE X.K c (wEf a cls C n ofs we)) := pe_imp (pe_xf T hno hz hf he hb) fun σ H Q h => by
  obtain ⟨S, Qd, r, h, p⟩ := h
  refine ⟨S, _, r, h, fun x S1 h1 H1 v r1 k1 p1 => ?_⟩
  obtain ⟨rfl, rfl, gs, u, rfl, hl, q⟩ := h1
  obtain ⟨dd, fs, rfl, h0, hr⟩ := E
  obtain ⟨y, hy, ry⟩ := rpf_some hr hl
  refine ⟨rs_r p1, rfl, dd, fs, y, rfl, r1.kp.keep _ _ h0 (.inr id), hy, p _ _ q _ _ r1 k1 (.inl (ry.kp ?_))⟩
  exact r1.kp.or
theorem findObj_any {K : PySem.W.Frag} {C : Addr} {od : Option Obj} {name : Str} {a g : Value} (hc : (PySem.W.clsIn K C).isSome = true) (ha : PySem.W.findIn K (.ref C) name = some (some a)) (hg : PySem.W.specialIn K a "__get__" = some (some g)) (ht : PySem.W.takesIn K a = some true) : PySem.W.findObj K C od name = some (.bind g a) := by
  cases od with
  | none => exact PySem.W.findObj_dataN hc ha hg ht
  | some o => exact PySem.W.findObj_data hc ha hg ht
/-- the class of a caught error, whatever its dict -/
theorem cls_any {prog : Program} {w : World} {A : Around} {E : Value → Shared → Prop} {s : Shared} {K : PySem.W.Frag} {x D : Addr} {ox : Obj} {od : Option Obj} {Q : Option Value → Shared → Prop} (C : ExcC K D) (X : K.In s.heap) (I : PySem.W.InstAt s.heap x ox D od) (h : Q (some (.ref D)) { s with toks := s.toks + 1 }) :
    wpAny (model prog w) A (getAttr? (.ref x) "__class__") Q E s := by
  have hf : PySem.W.findObj K D od "__class__" = some (.bind (.builtin "getset_descriptor.__get__") (.builtin "object.__class__")) := findObj_any (by obtain ⟨cd, hc, _⟩ := PySem.W.any_some C.hd; rw [hc]; rfl) C.ha C.hn C.ht
  obtain ⟨hp, g, dr, tk, os⟩ := s
  have T0 := I.type (M := model prog w)
  have T1 := PySem.W.looks_findIn (M := model prog w) X C.hg
  have T2 := PySem.W.looks_findIn (M := model prog w) X C.hk
  have T3 := PySem.W.looks_find (M := model prog w) X I hf
  have isB : PySem.W.Looks (model prog w) hp (isInstance (.ref x) (.type "BaseException")) true := T0.andThen (PySem.W.looks_subIn X C.hs)
  have ne2 : (Value.builtin "BaseException.__getattribute__" == Value.builtin "object.__getattribute__") = false := by decide +kernel
  have ne1 : (onTheHeap (Value.ref D) && Value.builtin "BaseException.__getattribute__" == Value.builtin "object.__getattribute__") = false := by rw [ne2]; rfl
  unfold getAttr? getAttrBy? getAttrBy
  refine wpAny_bind (wpAny_mkText (wpAny_bind (wpAny_attempt (wpAny_holding (wpAny_bind (T0.at (wpAny_bind (T1.at ?_))))))))
  show wpAny _ _ (if (onTheHeap (Value.ref D) && Value.builtin "BaseException.__getattribute__" == Value.builtin "object.__getattribute__") = true then _ else _) _ _ _
  rw [ne1, if_neg Bool.false_ne_true]
  unfold getAttrByItsOwn hookBefore
  refine wpAny_bind ?_
  rw [if_pos (show onTheHeap (Value.ref D) = true from rfl)]
  refine T2.at (wpAny_bind (wpAny_attempt (wpAny_holding ?_)))
  unfold callGetattribute
  rw [show (false && onTheHeap (Value.builtin "BaseException.__getattribute__")) = false from rfl, if_neg Bool.false_ne_true]
  unfold boundAndCalled
  rw [PySem.F.excAttr_ValueError.ga.bind (.ref x)]
  refine wpAny_bind (wpAny_pure ?_)
  show wpAny _ _ (call (.builtin "BaseException.__getattribute__") [.ref x, .str "__class__" tk]) _ _ _
  refine wpAny_call (codeAny_call_builtin PySem.F.excAttr_ValueError.ga.plain PySem.F.entry_bexc_ga ?_)
  refine @PySem.W.check_slot (model prog w) _ _ ⟨hp, g, dr, tk + 1, os⟩ "BaseException.__getattribute__" "BaseException" "__getattribute__" (.ref x) [.str "__class__" tk] [] _ (by decide +kernel) (by decide +kernel) isB (PySem.F.args_bexc_ga (.ref x) (.str "__class__" tk)) ?_
  unfold Builtin.«object.__getattribute__»
  refine wpAny_bind (wpAny_of_eq (a := ((Value.ref x : Value), [Value.str "__class__" tk])) (by first | rfl | (simp only [slotArgs]; rfl)) ?_)
  refine wpAny_bind (wpAny_pure (wpAny_bind (T0.at (wpAny_bind (T3.at ?_)))))
  show wpAny _ _ (holding [Value.builtin "object.__class__"] (call (.builtin "getset_descriptor.__get__") [.builtin "object.__class__", .ref x, .ref D]) >>= ret) _ _ _
  refine wpAny_bind (wpAny_holding (wpAny_call (PySem.W.class_get (s := ⟨hp, g, dr, tk + 1, os⟩) (ox := ox) (od := od) X I C.hm ?_)))
  refine wpAny_pure ?_
  show wpAny _ _ (handedOut (.ref D)) _ _ _
  rw [PySem.W.handedOut_of (v := .ref D) rfl]
  first
    | exact wpAny_pure (wpAny_pure h)
    | exact wpAny_pure h
    | exact wpAny_pure (wpAny_bind (wpAny_pure (wpAny_pure h)))
theorem kitx_any {K : PySem.W.Frag} {x D : Addr} {ox : Obj} (C : ExcC K D) : PySem.W.KitX K (.ref x) (.ref D) (fun h => ∃ od, PySem.W.InstAt h x ox D od) where
  ty := fun _ _ _ ⟨_, I⟩ => I.type
  it := fun _ _ X _ => by
    obtain ⟨cdD, hcD, _⟩ := PySem.W.any_some C.hd
    unfold PySem.W.clsIn at hcD
    split at hcD
    · rename_i c' d' cd' sl' ho
      intro A' Q' E' s' k q
      unfold isType loadHead
      exact wpAny_bind (wpAny_loadPart (k _ _ (X _ _ ho)) (wpAny_pure q))
    · cases hcD
  ne := (PySem.W.handS_kitx_exc (x := x) (ox := ox) C.hg C.hk C.hs C.hd C.ha C.hn C.ht C.hm).ne
  ca := fun X ⟨_, I⟩ k => cls_any C X I k
theorem call_isEX {ofs : Option (List (Str × Da))} (E : ExD X.K c ofs d) (hz : Zc cls d oe) (hf : ∃ vs, oe.data = .fields vs) : CallR (X.suite a ((a, oe) :: pn)) (.builtin "isinstance") (fun xs H Q => (∀ dd fs, c.H0 dd = some (.xd fs) → H dd = some (.xd fs)) ∧ ∃ D, cls = .ref D ∧ ExcC X.K D ∧ rIsE X.K D a xs H Q) := by
  intro pins s σ H xs us Q I rv h
  obtain ⟨keep, D, rfl, ec, v, cv, b, rfl, hcv, e, q⟩ := h
  cases rv with
  | cons rx rr =>
    cases rr with
    | cons rt rr =>
      cases rr
      cases rx
      have := hcv _ rt
      subst this
      obtain ⟨hget, _⟩ := I.pin (a, oe) (List.mem_append.mpr (.inl List.mem_cons_self))
      obtain ⟨vs, hv⟩ := hf
      have J : ∃ od, PySem.W.InstAt s.heap a oe D od := by
        obtain ⟨oc, od, oda, osl⟩ := oe
        obtain ⟨h1, h2⟩ := hz
        dsimp only at h1 h2 hv
        subst h1 h2 hv
        cases ofs with
        | none =>
          have E : od = none := E
          subst E
          exact ⟨none, hget, rfl, rfl, trivial⟩
        | some gs =>
          obtain ⟨dd, fs, rfl, h0, _⟩ := E
          obtain ⟨mA, hns, _⟩ : ObjOk X.prog X.w H s.heap dd (.xd fs) := I.hok dd _ (keep _ _ h0)
          obtain ⟨od, ho, _⟩ := lookIn_ns hns
          exact ⟨some od, hget, rfl, rfl, ho⟩
      exact PySem.W.kia_one (kitx_any ec) I.kIn J e (fun z => nomatch z) fun tk => ⟨.bl b, H, I.kept (t' := tk) fun _ _ z => z, rfl, q⟩
theorem v_isE (hz : Zc cls d oe) (hf : ∃ vs, oe.data = .fields vs) (E : ExD X.K c ofs d) (hg : Gl X "isinstance") (hm : X.mg "isinstance" = none) {v : V} (hn : PE (X.suite a ((a, oe) :: pn)) (.Name y p2) (tC v)) (hv : ∀ u, L2.RelV v u → u = cv) (he : PE (X.suite a ((a, oe) :: pn)) e (lE X.K c we))
    (hst : starEach [e, .Name y p2] (X.suite a ((a, oe) :: pn)).env = (false, eval e (X.suite a ((a, oe) :: pn)).env) :: starEach [.Name y p2] (X.suite a ((a, oe) :: pn)).env := by rfl) (hst2 : starEach [.Name y p2] (X.suite a ((a, oe) :: pn)).env = (false, eval (.Name y p2) (X.suite a ((a, oe) :: pn)).env) :: starEach [] (X.suite a ((a, oe) :: pn)).env := by rfl) (hpl : (backTo pos (starEach [.Name y p2] (X.suite a ((a, oe) :: pn)).env)).any (·.1) = false := by rfl) :
    PE (X.suite a ((a, oe) :: pn)) (.Call (.Name "isinstance" p) [e, .Name y p2] [] pos) (lE X.K c (wIsE X.K a cls cv we)) :=
  pe_imp (pe_callB (call_isEX E hz hf) hg hm (by decide +kernel) (pa_cons he (pa_cons hn pa_nil hst2) hst) (by decide) (by decide) hst hpl) fun σ H Q h => by
    obtain ⟨S, Qd, r, h, p⟩ := h
    refine ⟨S, _, r, h, fun x S1 h1 H1 v1 r1 k1 p1 => ?_⟩
    obtain ⟨rfl, D, b, rfl, ec, kit, q⟩ := h1
    have := rs_r p1
    subst this
    exact ⟨fun dd fs h0 => r1.kp.keep _ _ h0 (.inr id), D, rfl, ec, v, cv, b, rfl, hv, kit, p _ _ q _ _ r1 k1 (.inl (.b b))⟩
end
/-! ### try .. except C as n -/
def tryX (K : PySem.W.Frag) (cv : Value) (i : Nat) (ws : Addr → Value → Option (List (Str × Da)) → WS) (XsO : DXs) (D : Dn) : DXs := fun cls ofs S => ∃ b, PySem.W.exmOne K cls cv = some b ∧
  (b = true → ∀ a, S.M a = none → ws a cls ofs { nx := fun S2 => D.nx (S2.set i .no), rt := D.rt, bk := fun S2 => D.bk (S2.set i .no), ct := fun S2 => D.ct (S2.set i .no) } (S.set i (.val (.r a)))) ∧ (b = false → XsO cls ofs S)
def wTryAs (K : PySem.W.Frag) (cv : Value) (i : Nat) (wb : DXs → WS) (ws : Addr → Value → Option (List (Str × Da)) → WS) (XsO : DXs) : WS := fun D S => wb (tryX K cv i ws XsO D) D S
section
variable {K : PySem.W.Frag} {c : Cq} {S S' : Sx} {σ σ' : L2.St} {H H' : Hp}
/-- a slot is emptied -/
theorem Rel.setN (r : Rel K c S σ H) {i : Nat} : Rel K c (S.set i .no) (σ.set i none) H ∧ Kp S.W (S.set i .no).W H H := by
  have k : Kp S.W (S.set i .no).W H H := by
    refine Kp.refl.sub fun b z => ?_
    rcases z with ⟨j, ds, z⟩ | z
    · rcases get_set z with ⟨_, q⟩ | ⟨_, q⟩
      · cases q
      · exact .inl ⟨j, ds, q⟩
    · exact .inr z
  refine ⟨r.next k (by simp [Sx.set, r.len]) (by simp [Sx.set]) (fun j e he => ?_) (fun j p ds he => ?_) (fun j j' p ds es h1 h2 => ?_) (fun j p ds he => ?_) (fun a m e => ?_), k⟩
  · rcases get_set he with ⟨rfl, q⟩ | ⟨ne, q⟩
    · cases q
    · obtain ⟨v', h1, h2⟩ := r.val j e q
      exact ⟨v', by rw [List.getElem?_set_ne ne]; exact h1, h2.kp (kA k)⟩
  · rcases get_set he with ⟨rfl, q⟩ | ⟨ne, q⟩
    · cases q
    · obtain ⟨h1, vs, h2, h3⟩ := r.own j p ds q
      exact ⟨by rw [List.getElem?_set_ne ne]; exact h1, vs, h2, h3.kp (kA k)⟩
  · rcases get_set h1 with ⟨rfl, q⟩ | ⟨ne, q⟩
    · cases q
    · rcases get_set h2 with ⟨rfl, q'⟩ | ⟨ne', q'⟩
      · cases q'
      · exact r.inj j j' p ds es q q'
  · rcases get_set he with ⟨rfl, q⟩ | ⟨ne, q⟩
    · cases q
    · exact r.sep j p ds q
  · exact (r.mem a m e).kp (kA k) fun _ z => z
/-- the catch begins a count of its own -/
def Cq.at (c : Cq) (S : Sx) (H : Hp) : Cq := ⟨c.A0, S.W, H, c.n⟩
theorem Rel.atC (r : Rel K c S σ H) : Rel K (c.at S H) S σ H := ⟨r.len, r.cn, r.val, r.own, r.inj, r.sep, r.mem, r.a0, .refl⟩
theorem Rel.unat (r : Rel K c S σ H) (r' : Rel K (c.at S H) S' σ' H') : Rel K c S' σ' H' := ⟨r'.len, r'.cn, r'.val, r'.own, r'.inj, r'.sep, r'.mem, r'.a0, r.kp.trans r'.kp⟩
theorem exd_at2 {ofs : Option (List (Str × Da))} {d : Option Addr} (r : Rel K c S σ H) (h : XdOk K (S.A c) H ofs d) : ExD K (c.at S H) ofs d := by
  cases ofs with
  | none => exact h
  | some gs =>
    obtain ⟨a, fs, e1, e2, e3⟩ := h
    exact ⟨a, fs, e1, e2, e3⟩
end
section
variable {X : Cx} {c : Cq} {x n : Str} {cv : Value} {i : Nat} {body suite : List Stmt} {b₀ : Stmt} {np pos pos' : Pos} {wb : DXs → WS} {ws : Addr → Value → Option (List (Str × Da)) → WS} {XsO : DXs} {Wout : WX}
theorem s_tryAs (hs : X.stack = X.env :: X.outer) (hf : X.env.frame = some X.env.locals) (hN : X.N.Nodup) (hi : X.N[i]? = some n) (hln : X.env.kindOf n = some .local) (hc : Names X x cv) (hn : i < c.n) (tk : Takes X Wout) (hX : XOk X.K c XsO Wout)
    (hb : ∀ (W : WX) (pn : List (Addr × Obj)) (xe : Value → Shared → Prop) (Xs : DXs) (c' : Cq), c'.n = c.n → Takes (X.tr pn xe) W → XOk X.K c' Xs W → PassesOwn (model X.prog X.w) X.A X.env xe → PSs (X.tr pn xe) body (lS X.K c' (wb Xs)))
    (hsu : ∀ (a : Addr) (oe : Obj) (cls : Value) (d : Option Addr) (ofs : Option (List (Str × Da))) (pn : List (Addr × Obj)) (c' : Cq), Zc cls d oe → (∃ vs, oe.data = .fields vs) → c'.n = c.n → ExD X.K c' ofs d → PSs (X.suite a ((a, oe) :: pn)) (b₀ :: suite) (lS X.K c' (ws a cls ofs))) :
    PS X (.Try body [.ExceptHandler (some (.Name x np)) (some n) (b₀ :: suite) pos'] [] [] pos) (lS X.K c (wTryAs X.K cv i wb ws XsO)) :=
  ps_imp (ps_try_as (i := i) (tb := fun W D σ H => ∃ Xs c', c'.n = c.n ∧ XOk X.K c' Xs W ∧ lS X.K c' (wb Xs) D σ H) (ts := fun a cls d D σ H => ∃ ofs c', c'.n = c.n ∧ ExD X.K c' ofs d ∧ lS X.K c' (ws a cls ofs) D σ H) hs hf hN hi hln hc tk
    (fun W pn xe tk' po => ⟨fun pins s σ H D I ⟨Xs, c', hc', hXs, h⟩ => (hb W pn xe Xs c' hc' tk' hXs po).run pins s σ H D I h⟩)
    (fun a oe cls d pn hz hf => ⟨fun pins s σ H D I ⟨ofs, c', hc', E, h⟩ => (hsu a oe cls d ofs pn c' hz hf hc' E).run pins s σ H D I h⟩)) fun D σ H h => by
    obtain ⟨S, Dd, r, h, pst⟩ := h
    refine ⟨_, c.at S H, rfl, fun cls ofs S' hx σ' H' d r'' hd => ?_, S, Dd, r.atC, h, ⟨fun S' q σ' H' r' k' => pst.nx S' q σ' H' (r.unat r') k', fun d S' q σ' H' v r' k' rv => pst.rt d S' q σ' H' v (r.unat r') k' rv, fun S' q σ' H' r' k' => pst.bk S' q σ' H' (r.unat r') k', fun S' q σ' H' r' k' => pst.ct S' q σ' H' (r.unat r') k'⟩⟩
    have r' := r.unat r''
    have k' : Kp S.W S'.W H H' := r''.kp
    obtain ⟨b, hb1, hyes, hno⟩ := hx
    refine ⟨b, hb1, fun eb a na => ?_, fun eb => hX _ _ _ (hno eb) _ _ _ r' hd⟩
    have hi' : i < S'.ρ.length := by rw [r'.cn]; exact hn
    obtain ⟨r2, k2⟩ := r'.setV (v := .ref a) (d := .r a) (.r a) hi'
    have hd2 : XdOk X.K (Sx.A (S'.set i (.val (.r a))) c) H' ofs d := by
      cases ofs with
      | none => exact hd
      | some gs =>
        obtain ⟨q, fs, e1, e2, e3⟩ := hd
        exact ⟨q, fs, e1, e2, e3.kp (kA k2)⟩
    refine ⟨ofs, c.at (S'.set i (.val (.r a))) H', rfl, exd_at2 r2 hd2, _, _, r2.atC, hyes eb a (m_none r' na), ?_⟩
    have hsl : ∀ {S2 : Sx} {σ2 : L2.St} {H2 : Hp}, Rel X.K (c.at (S'.set i (.val (.r a))) H') S2 σ2 H2 → Kp (Sx.W (S'.set i (.val (.r a)))) S2.W H' H2 → Rel X.K c (S2.set i .no) (σ2.set i none) H2 ∧ Kp S.W (S2.set i .no).W H H2 := fun r3 k3 => by
      obtain ⟨r4, k4⟩ := (r2.unat r3).setN (i := i)
      exact ⟨r4, ((k'.trans k2).trans k3).trans k4⟩
    refine ⟨fun S2 q σ2 H2 r3 k3 => ?_, fun d S2 q σ2 H2 v r3 k3 rv => ?_, fun S2 q σ2 H2 r3 k3 => ?_, fun S2 q σ2 H2 r3 k3 => ?_⟩
    · obtain ⟨r4, k4⟩ := hsl r3 k3
      exact pst.nx _ q _ _ r4 k4
    · exact pst.rt d S2 q σ2 H2 v (r2.unat r3) ((k'.trans k2).trans k3) rv
    · obtain ⟨r4, k4⟩ := hsl r3 k3
      exact pst.bk _ q _ _ r4 k4
    · obtain ⟨r4, k4⟩ := hsl r3 k3
      exact pst.ct _ q _ _ r4 k4
/-- try .. except C -/
def tryO (K : PySem.W.Frag) (cv : Value) (ws : WS) (XsO : DXs) (D : Dn) : DXs := fun cls ofs S => ∃ b, PySem.W.exmOne K cls cv = some b ∧ (b = true → ws D S) ∧ (b = false → XsO cls ofs S)
def wTryO (K : PySem.W.Frag) (cv : Value) (wb : DXs → WS) (ws : WS) (XsO : DXs) : WS := fun D S => wb (tryO K cv ws XsO D) D S
theorem s_tryO {ws : WS} (hs : X.stack = X.env :: X.outer) (hf : X.env.frame = some X.env.locals) (hc : Names X x cv) (tk : Takes X Wout) (hX : XOk X.K c XsO Wout)
    (hb : ∀ (W : WX) (pn : List (Addr × Obj)) (xe : Value → Shared → Prop) (Xs : DXs) (c' : Cq), c'.n = c.n → Takes (X.tr pn xe) W → XOk X.K c' Xs W → PassesOwn (model X.prog X.w) X.A X.env xe → PSs (X.tr pn xe) body (lS X.K c' (wb Xs)))
    (hsu : ∀ (a : Addr) (oe : Obj) (cls : Value) (d : Option Addr) (pn : List (Addr × Obj)), Zc cls d oe → (∃ vs, oe.data = .fields vs) → PSs (X.suite a ((a, oe) :: pn)) (b₀ :: suite) (lS X.K c ws)) :
    PS X (.Try body [.ExceptHandler (some (.Name x np)) none (b₀ :: suite) pos'] [] [] pos) (lS X.K c (wTryO X.K cv wb ws XsO)) :=
  ps_imp (ps_try_only (tb := fun W D σ H => ∃ Xs c', c'.n = c.n ∧ XOk X.K c' Xs W ∧ lS X.K c' (wb Xs) D σ H) (ts := fun a cls d D σ H => lS X.K c ws D σ H) hs hf hc tk
    (fun W pn xe tk' po => ⟨fun pins s σ H D I ⟨Xs, c', hc', hXs, h⟩ => (hb W pn xe Xs c' hc' tk' hXs po).run pins s σ H D I h⟩)
    (fun a oe cls d pn hz hf => hsu a oe cls d pn hz hf)) fun D σ H h => by
    obtain ⟨S, Dd, r, h, pst⟩ := h
    refine ⟨_, c.at S H, rfl, fun cls ofs S' hx σ' H' d r'' hd => ?_, S, Dd, r.atC, h, ⟨fun S' q σ' H' r' k' => pst.nx S' q σ' H' (r.unat r') k', fun d S' q σ' H' v r' k' rv => pst.rt d S' q σ' H' v (r.unat r') k' rv, fun S' q σ' H' r' k' => pst.bk S' q σ' H' (r.unat r') k', fun S' q σ' H' r' k' => pst.ct S' q σ' H' (r.unat r') k'⟩⟩
    have r' := r.unat r''
    have k' : Kp S.W S'.W H H' := r''.kp
    obtain ⟨b, hb1, hyes, hno⟩ := hx
    exact ⟨b, hb1, fun eb a na => ⟨S', Dd, r', hyes eb, pst.at k'⟩, fun eb => hX _ _ _ (hno eb) _ _ _ r' hd⟩
end
end VL
set_option Elab.async false
set_option linter.all false
set_option maxRecDepth 100000
set_option maxHeartbeats 1000000
namespace VL
open PySem PySem.Spec PyProof.Rows L2 LamX NdefX
/-! ### what a law's text has, said of its names -/
structure Dfn (K : PySem.W.Frag) (mg : Str → Option Value) (x : Str) (st : Stmt) (ps : List Str) (f : Addr) (fd : FuncData) : Prop where
  F : Fun K x x st f fd
  b : Binds K fd ps []
  g : mg x = some (.ref f)
structure Mtd (K : PySem.W.Frag) (C : Addr) (x qual : Str) (st : Stmt) (ps : List Str) (f : Addr) (fd : FuncData) : Prop where
  F : Fun K x qual st f fd
  b : Binds K fd ps []
  m : Meth K C x f
  ff : PySem.W.fnIn K f = true
theorem Mtd.own {K : PySem.W.Frag} {C : Addr} {x qual : Str} {st : Stmt} {ps : List Str} {f : Addr} {fd : FuncData} (m : Mtd K C x qual st ps f fd) : Own K C x f := ⟨m.m.at_, m.m.fn⟩
/-- with defaults, that are all written over here -/
structure MtdD (K : PySem.W.Frag) (C : Addr) (x qual : Str) (st : Stmt) (ps : List Str) (dvs : List V) (f : Addr) (fd : FuncData) : Prop where
  F : L2.FunD K x qual (defArgs st) (defBody st) (defScope st) dvs [] f fd
  b : Binds K fd ps []
structure ClsX (K : PySem.W.Frag) (mg : Str → Option Value) (x : Str) (C : Addr) : Prop where
  cl : Cls K C
  g : mg x = some (.ref C)
  nq : PySem.W.noSeq K C = true
structure ErrC (K : PySem.W.Frag) (mg : Str → Option Value) (x : Str) (C : Addr) : Prop where
  g : mg x = some (.ref C)
  kp : PySem.W.keepIn K (.ref C) = true
  ex : PySem.W.excIn K C [.type "ValueError", .type "Exception", .type "BaseException", .type "object"] "ValueError.__new__" = true
  sb : PySem.W.subIn K (.ref C) (.type "BaseException") = some true
  ty : PySem.W.typeIn K (.ref C) = some (.type "type")
  hd : PySem.W.hasDictIn K C = true
  ec : ExcC K C
structure ErrN (K : PySem.W.Frag) (mg : Str → Option Value) (x : Str) (C : Addr) : Prop where
  g : mg x = some (.ref C)
structure ErrI (P : Program) (K : PySem.W.Frag) (mg : Str → Option Value) (x fld : Str) (st : Stmt) (C i c cc : Addr) (fi : FuncData) : Prop where
  g : mg x = some (.ref C)
  ec : ExcC K C
  oex : OexC K C
  iC : PySem.W.findIn K (.ref C) "__init__" = some (some (.ref i))
  tI : PySem.W.typeIn K (.ref i) = some (.type "function")
  ib : Binds K fi ["self", fld] []
  xf : XfC K C
  n : PySem.W.findIn K (.ref C) fld = some none
  s : FunS P K mg C (x ++ ".__init__") st c cc i fi
section
variable {P : Program} {w : World} {K : PySem.W.Frag} {mg : Str → Option Value} {base : Heap}
theorem okDD {x qual : Str} {st : Stmt} {f : Addr} {fd : FuncData} {N ps : List Str} {k : Nat} {dc : DC} {dvs : List V} {kws : List (Str × V)} (F : L2.FunD K x qual (defArgs st) (defBody st) (defScope st) dvs kws f fd) (S : FnScope N ps (defScope st)) (hl : ∀ ds M Q X, dc ds M Q X → ds.length = ps.length)
    (hbody : ∀ (cdv : Value) (A : Around) (outer : List Env) (s : Shared) (H : Hp) (E : XK) (c : Cq) (ds : List Da) (M : Mx) (Qd : Da → Mx → Prop) (Xd : DX), c.n = N.length → Room k (A.deeper (envOfC qual (defScope st) s.heap.objs.size f cdv)) → dc ds M Qd Xd →
      XOk K c (fun cls ofs S' => Xd cls ofs S'.M) (fun cls d _ H' => E cls d H') →
      ∃ wb : WS, PSs (cxOf (L2.CX P w) P w K mg base N qual (defScope st) f cdv A outer s H E) (defBody st) (lS K c wb) ∧ wb { nx := fun S' => Qd .n S'.M, rt := fun d S' => Qd d S'.M } ⟨startD N.length ds, M⟩) :
    FnOk P w K mg base (L2.CX P w) (k + 1) f fd ps (spOf K dc) := by
  refine F.ok S (fun vs H Q E h => ?_) (fun cdv A outer s H vs Q E hr h => ?_)
  · obtain ⟨A0, M, ds, Qd, Xd, rp, _, _, hd, _⟩ := h
    rw [rp.length]
    exact hl _ _ _ _ hd
  obtain ⟨A0, M, ds, Qd, Xd, rp, mem, a0, hd, hQ, hE⟩ := h
  have hpl : ps.length ≤ N.length := by have := congrArg List.length S.pre; rw [List.length_take] at this; omega
  let c : Cq := ⟨A0, wM M, H, N.length⟩
  have done : ∀ {S' : Sx} {σ' : L2.St} {H' : Hp}, Rel K c S' σ' H' → Kp (wM M) (wM S'.M) H H' ∧ Mem K A0 S'.M H' ∧ ∀ b, (A0 b ∨ wM S'.M b) → S'.A c b := fun r => by
    refine ⟨r.kp.sub fun b z => .inr z, r.memM fun b z => .inl z, fun b z => z.imp id .inr⟩
  obtain ⟨wb, h1, h2⟩ := hbody cdv A outer s H E c ds M Qd Xd rfl hr hd fun cls ofs S' hx σ' H' d r hd' => by
    obtain ⟨k1, m1, s1⟩ := done r
    refine hE cls ofs S'.M hx H' d k1 m1 ?_
    cases ofs with
    | none => exact hd'
    | some gs =>
      obtain ⟨a, fs, e1, e2, e3⟩ := hd'
      exact ⟨a, fs, e1, e2, e3.kp ⟨fun _ _ z _ => z, fun b z => .inl (s1 b z)⟩⟩
  refine ⟨lS K c wb, h1, _, _, start_rel (c := c) rfl (by rw [rp.length, hl _ _ _ _ hd]; exact hpl) rp mem a0 rfl rfl, h2, ⟨fun S' hq σ' H' r _ => ?_, fun d S' hq σ' H' v r _ rv => ?_, fun _ h => h.elim, fun _ h => h.elim⟩⟩
  · obtain ⟨k1, m1, s1⟩ := done r
    exact hQ _ _ hq _ _ k1 m1 .n
  · obtain ⟨k1, m1, s1⟩ := done r
    exact hQ _ _ hq _ _ k1 m1 (rv.anti s1)
theorem app_len {a b : Str} {n m : Nat} (ha : a.length ≤ n) (hb : b.length ≤ m) : (a ++ b).length ≤ n + m := by
  have e : (a ++ b).length = a.length + b.length := by
    obtain ⟨x⟩ := a
    obtain ⟨y⟩ := b
    show (x ++ y).size = x.size + y.size
    exact Array.size_append
  omega
end
end VL
set_option Elab.async false
set_option linter.all false
set_option maxRecDepth 100000
set_option maxHeartbeats 1000000
namespace VL
open PySem PySem.Spec PyProof.Rows L2
/-! ### stocks -/
structure ShpS (sh : List (Str × Str)) : Prop where
  shp : Shp sh
  hi : sh.length ≤ 7
  l10 : ∀ x ∈ sh, x.1.cps.toList.length ≤ 10
  mks : ∀ x ∈ sh, ∀ c ∈ x.2.cps.toList, c = 43 ∨ c = 45
/-- what lies under what: bases, each under an earlier one -/
structure Und (sh un : List (Str × Str)) : Prop where
  nd : (un.map (·.1)).Nodup
  hi : un.length ≤ 7
  up : ∀ x ∈ un, ∃ i j : Nat, i < j ∧ sh[j]? = some (x.1, Str.empty) ∧ sh[i]? = some (x.2, Str.empty)
theorem nodup_inj {α : Type} : ∀ {l : List α} {i j : Nat} {x : α}, l.Nodup → l[i]? = some x → l[j]? = some x → i = j
  | [], _, _, _, _, h, _ => by simp at h
  | a :: l, 0, 0, _, _, _, _ => rfl
  | a :: l, 0, j + 1, x, nd, h1, h2 => by
    simp at h1 h2
    exact absurd (h1 ▸ List.mem_of_getElem? h2) (List.nodup_cons.mp nd).1
  | a :: l, i + 1, 0, x, nd, h1, h2 => by
    simp at h1 h2
    exact absurd (h2 ▸ List.mem_of_getElem? h1) (List.nodup_cons.mp nd).1
  | a :: l, i + 1, j + 1, x, nd, h1, h2 => by
    simp at h1 h2
    rw [nodup_inj (List.nodup_cons.mp nd).2 h1 h2]
theorem bases_snoc {sh : List (Str × Str)} {ws : List Str} {n : Nat} {x : Str × Str} (h : ∀ j, j < n → ∃ z, ws[j]? = some z ∧ sh[j]? = some (z, Str.empty)) (hl : n ≤ sh.length) : ∀ j, j < n → ∃ z, ws[j]? = some z ∧ (sh ++ [x])[j]? = some (z, Str.empty) := fun j hj => by
  obtain ⟨z, h1, h2⟩ := h j hj
  exact ⟨z, h1, by rw [List.getElem?_append_left (by omega)]; exact h2⟩
theorem base_get {sh : List (Str × Str)} {ws : List Str} {nb j : Nat} (h1 : sh.map (·.1) = ksOf ws nb 0) (h2 : ∀ x ∈ sh, x.2 = Str.empty) (hj : j < nb) (hw : j < ws.length) : sh[j]? = some (ws[j], Str.empty) := by
  have e : (sh.map (·.1))[j]? = some ws[j] := by
    rw [h1]
    unfold ksOf
    rw [List.take_zero, List.append_nil, List.getElem?_take_of_lt hj, List.getElem?_eq_getElem hw]
  rw [List.getElem?_map] at e
  cases q : sh[j]? with
  | none => rw [q] at e; cases e
  | some x =>
    rw [q] at e
    have e2 := h2 x (List.mem_of_getElem? q)
    obtain ⟨a, b⟩ := x
    cases e
    rw [show b = Str.empty from e2]; rfl
theorem Wds.l10 {b : Bool} {st : Nat} {fl lg : List Nat} {ws : List Str} (h : Wds b st fl lg ws) (hl : ws.length ≤ 7) (hf : fl.length ≤ 3) (hg : lg.length ≤ 1) : ∀ z ∈ ws, z.cps.toList.length ≤ 10 := fun z hz => by
  obtain ⟨j, hj, e⟩ := List.mem_iff_getElem.mp hz
  have e2 := h.at_ j hj
  rw [e] at e2
  have hl2 : (wl b st fl lg j).length = 1 + fl.length + j * lg.length := by
    unfold wl
    cases b <;> simp <;> omega
  have : j * lg.length ≤ 6 * 1 := Nat.mul_le_mul (by omega) hg
  rw [e2, hl2]
  omega
/-! the forms inside a form, from the left -/
mutual
def Da.subs : Da → List Da
  | .t (h :: fs) => .t (h :: fs) :: subsL fs
  | d => [d]
def subsL : List Da → List Da
  | [] => []
  | d :: ds => d.subs ++ subsL ds
end
theorem subsL_app : ∀ (a b : List Da), subsL (a ++ b) = subsL a ++ subsL b
  | [], b => by simp [subsL]
  | d :: a, b => by simp [subsL, subsL_app a b]
end VL
set_option Elab.async false
set_option linter.all false
set_option maxRecDepth 100000
set_option maxHeartbeats 1000000
namespace VL
open PySem PySem.Spec PyProof.Rows L2
/-! ### dict comprehensions whose turns change nothing -/
theorem dcGo_of {wg : WG} {wt : WT} {wk wv : WE} {vs : List Nat} {Q : List (Key × Da) → Sx → Prop} (I : List Da → List (Key × Da) → Sx → Prop)
    (step : ∀ d ds acc S, I (d :: ds) acc S → ∀ R : List (Key × Da) → Sx → Prop, (∀ acc' S', I ds acc' S' → R acc' S') → wg d (S.wipe vs) fun S2 => wt S2 fun b S3 => if b = true then wk S3 fun y S4 => wv S4 fun z S5 => ∃ k, y.key = some k ∧ z.isO = false ∧ acc.length < sizeLine ∧ R (putD acc k z) (S.back S5 vs) else R acc (S.back S3 vs))
    (stop : ∀ acc S, I [] acc S → Q acc S) : ∀ ds acc S, I ds acc S → dcGo wg wt wk wv vs Q ds acc S
  | [], acc, S, h => stop acc S h
  | d :: ds, acc, S, h => step d ds acc S h _ fun acc' S' h' => dcGo_of I step stop ds acc' S' h'
/-- keys that differ: the pairs in order -/
theorem dc_map {wg : WG} {wk wv : WE} {vs : List Nat} {Q : List (Key × Da) → Sx → Prop} {S : Sx} {ds : List Da} (f : Da → Key) (g : Da → Da)
    (h : ∀ d ∈ ds, ∀ (R1 : Da → Da → Sx → Prop), (∀ y S4, y.key = some (f d) → Agr (S.norm vs) S4 vs → R1 y (g d) S4) → wg d ((S.norm vs).wipe vs) fun S2 => wk S2 fun y S3 => wv S3 fun z S4 => R1 y z S4)
    (nd : (ds.map f).Nodup) (hO : ∀ d ∈ ds, (g d).isO = false) (hz : ds.length ≤ sizeLine) (q : Q (ds.map fun d => (f d, g d)) (S.norm vs)) : dcGo wg wYes wk wv vs Q ds [] (S.norm vs) := by
  refine dcGo_of (fun rest acc S' => S' = S.norm vs ∧ ∃ done, ds = done ++ rest ∧ acc = done.map fun d => (f d, g d)) (fun d rest acc S' ⟨e, done, e1, e2⟩ R hR => ?_) (fun acc S' ⟨e, done, e1, e2⟩ => ?_) ds [] (S.norm vs) ⟨rfl, [], rfl, rfl⟩
  · subst e
    have hd : d ∈ ds := by rw [e1]; simp
    refine h d hd _ fun y S4 ky hb => ⟨_, ky, hO d hd, ?_, hR _ _ ⟨hb.back, done ++ [d], by simp [e1], ?_⟩⟩
    · have ld : done.length < ds.length := by rw [e1]; simp
      have la : acc.length = done.length := by rw [e2]; simp
      omega
    · have nin : f d ∉ done.map f := fun hx => by
        rw [e1, List.map_append, List.map_cons] at nd
        exact (List.nodup_append.mp nd).2.2 _ hx _ (by simp) rfl
      have : putD acc (f d) (g d) = acc ++ [(f d, g d)] := by
        unfold putD
        rw [if_neg]
        rw [e2]
        intro hx
        simp only [List.any_eq_true, decide_eq_true_eq] at hx
        obtain ⟨p, hp, ep⟩ := hx
        obtain ⟨d', hd', rfl⟩ := List.mem_map.mp hp
        exact nin (List.mem_map.mpr ⟨d', hd', ep⟩)
      rw [this, e2]
      simp
  · subst e
    rw [List.append_nil] at e1
    rw [e2, ← e1]
    exact q
/-! ### going up -/
theorem inD_s : ∀ (z : Str) (l : List Str), inD (.s z) (l.map Da.s) = decide (z ∈ l) := fun z l => by
  unfold inD inV
  induction l with
  | nil => simp
  | cons a l ih =>
    simp only [List.map_cons, List.any_cons] at ih ⊢
    rw [ih]
    have : eqV (Da.s a).va (Da.s z).va = decide (z = a) := by
      show eqV (V.str a) (V.str z) = _
      unfold eqV
      by_cases h : z = a
      · subst h; simp
      · simp [h, Ne.symm h]
    rw [this]
    simp
def upS (un : List (Str × Str)) (z : Str) : Option Str := (un.find? fun x => decide (x.1 = z)).map (·.2)
def chn (un : List (Str × Str)) : Nat → Str → List Str
  | 0, z => [z]
  | n + 1, z => z :: (match upS un z with
    | none => []
    | some a => chn un n a)
theorem valD_up : ∀ (un : List (Str × Str)) (z : Str), valD (shD un) (.inr z) = (upS un z).map Da.s := fun un z => by
  unfold valD upS shD
  induction un with
  | nil => rfl
  | cons x un ih =>
    simp only [List.map_cons, List.find?_cons]
    by_cases h : x.1 = z
    · subst h; simp
    · have : ¬ (Sum.inr x.1 : Key) = Sum.inr z := fun e => h (Sum.inr.inj e)
      simp only [h, this, decide_false]
      exact ih
theorem upS_mem {un : List (Str × Str)} {z a : Str} (h : upS un z = some a) : (z, a) ∈ un := by
  unfold upS at h
  cases e : un.find? (fun x => decide (x.1 = z)) with
  | none => rw [e] at h; cases h
  | some x =>
    rw [e] at h
    have h1 := List.find?_some e
    have h2 := List.mem_of_find?_eq_some e
    cases h
    have : x.1 = z := of_decide_eq_true h1
    rw [← this]
    exact h2
/-- the place of what is reached sinks -/
theorem upS_lt {sh un : List (Str × Str)} (s : Shp sh) (u : Und sh un) {z a : Str} {j : Nat} {v : Str} (hz : sh[j]? = some (z, v)) (h : upS un z = some a) : ∃ i, i < j ∧ sh[i]? = some (a, Str.empty) := by
  obtain ⟨i, j', hij, h1, h2⟩ := u.up _ (upS_mem h)
  have e : j' = j := nodup_inj (l := sh.map (·.1)) s.nd (by rw [List.getElem?_map, h1]; rfl) (by rw [List.getElem?_map, hz]; rfl)
  exact ⟨i, by omega, h2⟩
/-- enough steps are enough -/
theorem chn_more {sh un : List (Str × Str)} (s : Shp sh) (u : Und sh un) (j : Nat) : ∀ {z v : Str} {n m : Nat}, sh[j]? = some (z, v) → j ≤ n → j ≤ m → chn un n z = chn un m z := by
  induction j using Nat.strongRecOn with
  | _ j ih =>
    intro z v n m h hn hm
    cases e : upS un z with
    | none =>
      cases n <;> cases m <;> simp [chn, e]
    | some a =>
      obtain ⟨i, hi, ha⟩ := upS_lt s u h e
      obtain ⟨n', rfl⟩ : ∃ n', n = n' + 1 := ⟨n - 1, by omega⟩
      obtain ⟨m', rfl⟩ : ∃ m', m = m' + 1 := ⟨m - 1, by omega⟩
      have := ih i hi ha (show i ≤ n' by omega) (show i ≤ m' by omega)
      simp only [chn, e, this]
def chD (sh un : List (Str × Str)) : List (Key × Da) := sh.map fun x => (Sum.inr x.1, Da.t ((chn un 7 x.1).map Da.s))
def stD (C : Addr) (sh un : List (Str × Str)) : Da := .ins C [("shapes", .dk (shD sh)), ("under", .dk (shD un)), ("chains", .dk (chD sh un))]
theorem at_end {xs : List Str} {y : Str} (h : xs.length < 1000) : atI ((xs ++ [y]).map Da.s) (-1) = some (.s y) := by
  rw [List.map_append]
  exact at_last (by rw [List.length_map]; omega)
theorem occ_pm {c : Nat} (h : c = 43 ∨ c = 45) : (!(Builtin.Str.occurrences (Str.ofString "+-") ⟨#[c]⟩ 0 (Str.ofString "+-").length 1).isEmpty) = true := by
  rcases h with rfl | rfl <;> decide +kernel
/-! ### fitting -/
def okF (sh : List (Str × Str)) : Da → Bool
  | .t (.s z :: fs) => sh.any fun x => decide (x.1 = z) && decide (x.2.cps.toList.length = fs.length)
  | _ => true
def fitB (sh : List (Str × Str)) (d : Da) : Bool := d.subs.all (okF sh)
theorem shv {sh : List (Str × Str)} (z : Str) : valD (shD sh) (.inr z) = (upS sh z).map Da.s := valD_up sh z
theorem upS_some {sh : List (Str × Str)} (nd : (sh.map (·.1)).Nodup) {z v : Str} (h : (z, v) ∈ sh) : upS sh z = some v := by
  have := valD_shD nd h
  rw [valD_up] at this
  cases e : upS sh z with
  | none => rw [e] at this; cases this
  | some a => rw [e] at this; cases this; rfl
theorem okF_eq {sh : List (Str × Str)} (nd : (sh.map (·.1)).Nodup) (z : Str) (fs : List Da) : okF sh (.t (.s z :: fs)) = match upS sh z with
    | some v => decide (v.cps.toList.length = fs.length)
    | none => false := by
  unfold okF
  cases e : upS sh z with
  | none =>
    show (sh.any fun x => decide (x.1 = z) && decide (x.2.cps.toList.length = fs.length)) = false
    rw [List.any_eq_false]
    intro x hx
    have : x.1 ≠ z := fun q => by
      have := upS_some nd (z := z) (v := x.2) (by rw [← q]; exact hx)
      rw [e] at this
      cases this
    simp [this]
  | some v =>
    have hm := upS_mem e
    show (sh.any fun x => decide (x.1 = z) && decide (x.2.cps.toList.length = fs.length)) = decide (v.cps.toList.length = fs.length)
    by_cases h : v.cps.toList.length = fs.length
    · rw [decide_eq_true h, List.any_eq_true]
      exact ⟨_, hm, by simp [h]⟩
    · rw [decide_eq_false h, List.any_eq_false]
      intro x hx
      by_cases q : x.1 = z
      · have := upS_some nd (z := z) (v := x.2) (by rw [← q]; exact hx)
        rw [e] at this
        cases this
        rw [decide_eq_false h, Bool.and_false]
        exact Bool.false_ne_true
      · simp [q]
mutual
theorem fo_fit {sh : List (Str × Str)} {lt : Str} : ∀ {n : Nat} {f : Da}, Fo sh lt n f → fitB sh f = true
  | _, _, .lt _ => by simp [fitB, Da.subs, okF]
  | _, _, .nd (z := z) (v := v) (fs := fs) hz hl h => by
    unfold fitB
    rw [Da.subs, List.all_cons]
    have h1 : okF sh (.t (.s z :: fs)) = true := by
      unfold okF
      rw [List.any_eq_true]
      exact ⟨_, hz, by simp [hl]⟩
    rw [h1, Bool.true_and]
    exact fos_fit h
theorem fos_fit {sh : List (Str × Str)} {lt : Str} : ∀ {n : Nat} {fs : List Da}, (∀ f ∈ fs, Fo sh lt n f) → (subsL fs).all (okF sh) = true
  | _, [], _ => by simp [subsL]
  | _, f :: fs, h => by
    rw [subsL, List.all_append, show f.subs.all (okF sh) = true from fo_fit (h f (by simp)), fos_fit fun g hg => h g (by simp [hg])]
    rfl
end
end VL
set_option Elab.async false
set_option linter.all false
set_option maxRecDepth 100000
set_option maxHeartbeats 1000000
namespace VL
open PySem PySem.Spec PyProof.Rows L2
section
variable {X : Cx} {c : Cq} {pos : Pos} {a b : Expr} {wa wb : WE}
theorem vt_dinV (hu : X.A.units + 1 < cLine) (hm : behindInMarks .In b = false) (ha : PE X a (lE X.K c wa)) (hb : PE X b (lE X.K c wb)) : PT X (.Compare a [.In] [b] pos) (lT X.K c (wB (wOp (rdDinV false) wa wb))) := pt_imp (pt_cmp (pc_din hu ha hb) hm) (lTest fun σ H Q h => lop lDinV σ H Q h)
theorem vt_dninV (hu : X.A.units + 1 < cLine) (hm : behindInMarks .NotIn b = false) (ha : PE X a (lE X.K c wa)) (hb : PE X b (lE X.K c wb)) : PT X (.Compare a [.NotIn] [b] pos) (lT X.K c (wB (wOp (rdDinV true) wa wb))) := pt_imp (pt_cmp (pc_dnotin hu ha hb) hm) (lTest fun σ H Q h => lop lDninV σ H Q h)
end
end VL
set_option Elab.async false
set_option linter.all false
set_option maxRecDepth 100000
set_option maxHeartbeats 1000000
namespace VL
open PySem PySem.Spec PyProof.Rows L2
/-! ### drawn forms are forms, small, and may be compared -/
def bz : Nat → Nat
  | 0 => 1
  | n + 1 => 2 + 3 * bz n
theorem szs_le {n : Nat} : ∀ {fs : List Da}, (∀ f ∈ fs, f.sz ≤ n) → szs fs ≤ fs.length * n
  | [], _ => by simp [szs]
  | f :: fs, h => by
    have h1 := h f (by simp)
    have h2 := szs_le (fs := fs) (n := n) fun g hg => h g (by simp [hg])
    rw [szs, List.length_cons, Nat.add_mul]
    omega
theorem fo_sz {sh : List (Str × Str)} {lt : Str} (hs : Shp sh) : ∀ {n : Nat} {f : Da}, Fo sh lt n f → f.sz ≤ bz n := by
  intro n f h
  induction h with
  | @lt n c hc =>
    have : 1 ≤ bz n := by cases n <;> simp [bz] <;> omega
    simpa [Da.sz] using this
  | @nd n z v fs hz hl _ ih =>
    have h1 := szs_le ih
    have h2 : fs.length ≤ 3 := by rw [hl]; exact hs.ar _ hz
    have h3 : fs.length * bz n ≤ 3 * bz n := Nat.mul_le_mul_right _ h2
    simp only [Da.sz, szs, bz]
    omega
theorem fo_fk {sh : List (Str × Str)} (hs : Shp sh) : ∀ {n : Nat} {f : Da}, Fo sh (Str.ofString "") n f → Fk false f := by
  intro n f h
  induction h with
  | @lt n c hc =>
    rw [empty_str] at hc
    simp at hc
  | @nd n z v fs hz hl _ ih => exact .nd (hs.wd _ hz) (by rw [hl]; exact hs.ar _ hz) ih
theorem fo_fkl {sh : List (Str × Str)} {lt : Str} (hs : Shp sh) (hc : ∀ c ∈ lt.cps.toList, 65 ≤ c ∧ c ≤ 90) : ∀ {n : Nat} {f : Da}, Fo sh lt n f → Fk true f := by
  intro n f h
  induction h with
  | @lt n c h => exact .lt rfl (hc c h).1 (hc c h).2
  | @nd n z v fs hz hl _ ih => exact .nd (hs.wd _ hz) (by rw [hl]; exact hs.ar _ hz) ih
theorem wd_lit {z : Str} (h : (decide (1 ≤ z.cps.toList.length) && decide (z.cps.toList.length ≤ 12) && z.cps.toList.all fun c => decide (97 ≤ c) && decide (c ≤ 122)) = true) : Wd z := by
  simp only [Bool.and_eq_true, decide_eq_true_eq, List.all_eq_true] at h
  exact ⟨h.1.1, h.1.2, fun c hc => h.2 c hc⟩
theorem fo_pd {sh : List (Str × Str)} {lt : Str} (hs : Shp sh) (hc : ∀ c ∈ lt.cps.toList, 65 ≤ c ∧ c ≤ 90) : ∀ {n : Nat} {f : Da}, Fo sh lt n f → Pd f n := by
  intro n f h
  induction h with
  | @lt n c h =>
    refine .s ?_
    unfold PyData.strOk
    rw [Array.all_eq_true']
    intro x hx
    have : x = c := by simpa using hx
    subst this
    have := hc x h
    exact decide_eq_true (by omega)
  | @nd n z v fs hz hl _ ih =>
    refine .t fun d hd => ?_
    rcases List.mem_cons.mp hd with rfl | hd
    · exact .s (wd_ok (hs.wd _ hz))
    · exact ih d hd
theorem no_lt : ∀ c ∈ (Str.ofString "").cps.toList, 65 ≤ c ∧ c ≤ 90 := by rw [empty_str]; intro c h; simp at h
theorem fo_eqb {sh : List (Str × Str)} {lt : Str} {n : Nat} {f : Da} (hs : Shp sh) (hc : ∀ c ∈ lt.cps.toList, 65 ≤ c ∧ c ≤ 90) (h : Fo sh lt n f) (hn : n ≤ 64) : f.eqb = true := (fo_pd hs hc h).eqb hn
end VL
set_option Elab.async false
set_option linter.all false
set_option maxRecDepth 100000
set_option maxHeartbeats 1000000
namespace VL
open PySem PySem.Spec PyProof.Rows L2
/-! ### dicts compared, their values plain data -/
theorem u65 {k : Nat} {A : Around} (r : Room k A) : A.units + 65 < cLine := by have := r.un; omega
inductive KDs (K : PySem.W.Frag) (H : Hp) (ls : List (Key × V)) : List (Key × V) → Bool → Prop
  | nil : KDs K H ls [] true
  | miss {k : Key} {v : V} {r : List (Key × V)} : valV ls k = none → KDs K H ls ((k, v) :: r) false
  | hit {k : Key} {v u : V} {d e : PyData} {r : List (Key × V)} {b : Bool} : valV ls k = some u → Dp K H v d → Dp K H u e → SeqAt.shaped d = true → SeqAt.shaped e = true → KDs K H ls r b → KDs K H ls ((k, v) :: r) (PyData.eqv d e && b)
section
variable {X : Cx} {pins : List (Addr × Obj)} {σ : L2.St} {H : Hp} {s : Shared}
theorem hits_of (I : Inv X pins σ H s) {A : Around} (hu : A.units + 64 < cLine) {ls : List (Key × V)} {vb : List (Key × Value)} (rb : KV ls vb) : ∀ {ks : List (Key × V)} {va : List (Key × Value)} {b : Bool}, KDs X.K H ls ks b → KV ks va → PySem.W.KeqHits A s vb va b := by
  intro ks va b h
  induction h generalizing va with
  | nil => intro ra; cases ra; exact .nil
  | @miss k v r hn =>
    intro ra
    cases ra with
    | @cons p q ps qs h t =>
      obtain ⟨h1, h2⟩ := h
      obtain ⟨k', v'⟩ := q
      cases (show k = k' from h1)
      have rr := rb.val k
      rw [hn] at rr
      cases e : valueAt vb k with
      | none => exact .miss e
      | some z => rw [e] at rr; exact rr.elim
  | @hit k v u d e r b hv d1 d2 s1 s2 _ ih =>
    intro ra
    cases ra with
    | @cons p q ps qs h t =>
      obtain ⟨h1, h2⟩ := h
      obtain ⟨k', v'⟩ := q
      cases (show k = k' from h1)
      have rr : RelO (some u) (valueAt vb k) := by rw [← hv]; exact rb.val k
      obtain ⟨y, hy, ry⟩ := rr.some_of
      obtain ⟨as, r1⟩ := Dp.reads I d v _ d1 h2
      obtain ⟨bs, r2⟩ := Dp.reads I e u _ d2 ry
      exact .hit hy (SeqAt.eqAt_reads d e A s _ _ as bs r1 r2 (SeqAt.canLay_of_shaped s1) (SeqAt.canLay_of_shaped s2) (SeqAt.room_of_shaped s1 hu)) (ih t)
def rEqKD (K : PySem.W.Frag) (ne : Bool) : R2 := fun x y H Q => ∃ a b ks ls r, x = .ref a ∧ y = .ref b ∧ H a = some (.dK ks) ∧ H b = some (.dK ls) ∧ KDs K H ls ks r ∧ Q (.bl (ne ^^ (ks.length == ls.length && r))) H
theorem op_eqKD (hu : X.A.units + 65 < cLine) : OpR X (compareOp .Eq) (rEqKD X.K false) := by
  intro pins s σ H x y v u Q I rx ry h
  obtain ⟨a, b, ks, ls, r, rfl, rfl, ea, eb, hp, q⟩ := h
  obtain rfl : v = Value.ref a := rx
  obtain rfl : u = Value.ref b := ry
  obtain ⟨_, ya, va, ra, da⟩ := (show ObjOk X.prog X.w H s.heap a (.dK ks) from I.hok a _ ea)
  obtain ⟨_, yb, vb, rb, db⟩ := (show ObjOk X.prog X.w H s.heap b (.dK ls) from I.hok b _ eb)
  rw [ra.length, rb.length, Bool.false_xor] at q
  exact PySem.W.keq_eq (knd := mixKind X.prog X.w) (r := r) ya yb da db (by omega) (fun _ => hits_of I (by show X.A.units + 1 + 64 < cLine; omega) rb hp ra) ⟨.bl _, H, I, rfl, q⟩
theorem op_neKD (hu : X.A.units + 65 < cLine) : OpR X (compareOp .NotEq) (rEqKD X.K true) := by
  intro pins s σ H x y v u Q I rx ry h
  obtain ⟨a, b, ks, ls, r, rfl, rfl, ea, eb, hp, q⟩ := h
  obtain rfl : v = Value.ref a := rx
  obtain rfl : u = Value.ref b := ry
  obtain ⟨_, ya, va, ra, da⟩ := (show ObjOk X.prog X.w H s.heap a (.dK ks) from I.hok a _ ea)
  obtain ⟨_, yb, vb, rb, db⟩ := (show ObjOk X.prog X.w H s.heap b (.dK ls) from I.hok b _ eb)
  rw [ra.length, rb.length, Bool.true_xor] at q
  exact PySem.W.keq_ne (knd := mixKind X.prog X.w) (r := r) ya yb da db (by omega) (fun _ => hits_of I (by show X.A.units + 1 + 64 < cLine; omega) rb hp ra) ⟨.bl _, H, I, rfl, q⟩
end
section
variable {K : PySem.W.Frag} {c : Cq}
def eqKD (ks ls : List (Key × Da)) : Bool := (ks.length == ls.length) && ks.all fun p => match valD ls p.1 with
  | some d => PyData.eqv p.2.py d.py
  | none => false
/-- dicts shared and unlocked, by their data; ne: != -/
def rdEqKD (ne : Bool) : RD := fun x y S Q => ∃ ks ls, S.dku x = some ks ∧ S.dku y = some ls ∧ (∀ p ∈ ks, p.2.eqb = true) ∧ (∀ p ∈ ls, p.2.eqb = true) ∧ Q (.b (ne ^^ eqKD ks ls)) S
theorem valD_mem {ls : List (Key × Da)} {k : Key} {d : Da} (h : valD ls k = some d) : ∃ k', (k', d) ∈ ls := by
  unfold valD at h
  cases f : ls.find? (fun kd => decide (kd.1 = k)) with
  | none => rw [f] at h; cases h
  | some kd =>
    rw [f] at h
    cases h
    exact ⟨kd.1, List.mem_of_find?_eq_some f⟩
theorem kds_of {A : Addr → Prop} {H : Hp} {kvs : List (Key × V)} {ls : List (Key × Da)} (h2 : RpK K A H kvs ls) (p2 : ∀ p ∈ ls, p.2.eqb = true) : ∀ {us : List (Key × V)} {ks : List (Key × Da)}, RpK K A H us ks → (∀ p ∈ ks, p.2.eqb = true) → KDs K H kvs us (ks.all fun p => match valD ls p.1 with
    | some d => PyData.eqv p.2.py d.py
    | none => false)
  | _, _, .nil, _ => .nil
  | _, _, .cons (k := k) (d := d) h a, p1 => by
    have e1 := eqb_shaped (p1 (k, d) (by simp))
    have ih := kds_of h2 p2 a fun p hp => p1 p (by simp [hp])
    rw [List.all_cons]
    rcases rpk_val k h2 with ⟨z1, z2⟩ | ⟨d', v', g1, g2, g3⟩
    · rw [z1, Bool.false_and]
      exact .miss z2
    · rw [g1]
      obtain ⟨k', hm⟩ := valD_mem g1
      have e2 := eqb_shaped (p2 _ hm)
      exact .hit g2 (h.dp e1.2) (g3.dp e2.2) e1.1 e2.1 ih
theorem lEqKD {ne : Bool} : OpL K c (rEqKD K ne) (rdEqKD ne) := fun σ H S x y dx dy Qd Q r rx ry h p => by
  obtain ⟨ks, ls, e1, e2, h1, h2, q⟩ := h
  obtain ⟨a, us, rfl, g1, g2⟩ := dku_ok r rx e1
  obtain ⟨b, vs, rfl, g3, g4⟩ := dku_ok r ry e2
  refine ⟨a, b, us, vs, _, rfl, rfl, g1, g3, kds_of g4 h2 g2 h1, ?_⟩
  rw [rpk_len g2, rpk_len g4]
  exact p _ _ q _ _ r .refl (.inl (.b _))
theorem eqKD_self {ks : List (Key × Da)} (nd : (ks.map (·.1)).Nodup) (h : ∀ p ∈ ks, p.2.eqb = true) : eqKD ks ks = true := by
  unfold eqKD
  rw [beq_self_eq_true, Bool.true_and, List.all_eq_true]
  intro p hp
  have : valD ks p.1 = some p.2 := by
    unfold valD
    have : ks.find? (fun kd => decide (kd.1 = p.1)) = some p := by
      clear h
      induction ks with
      | nil => cases hp
      | cons a r ih =>
        rw [List.map_cons, List.nodup_cons] at nd
        rcases List.mem_cons.mp hp with rfl | hp'
        · simp
        · have : a.1 ≠ p.1 := fun e => nd.1 (List.mem_map.mpr ⟨p, hp', e.symm⟩)
          rw [List.find?_cons_of_neg (by simpa using this)]
          exact ih nd.2 hp'
    rw [this]
    rfl
  rw [this]
  exact eqv_self (h p hp)
end
end VL
set_option Elab.async false
set_option linter.all false
set_option maxRecDepth 100000
set_option maxHeartbeats 1000000
namespace VL
open PySem PySem.Spec PyProof.Rows L2
/-! ### "..".join(texts) -/
section
variable {X : Cx} {c : Cq} {o e : Expr} {wo we : WE} {pos apos : Pos}
def wJoin (wo we : WE) : WE := fun S Q => wo S fun x S1 => ∃ a, x = .s a ∧ we S1 fun y S2 => ∃ ys : List Str, S2.sq y = some (ys.map .s) ∧ (ys.map (·.length)).sum + ys.length * a.length ≤ 16777216 ∧ Q (.s (Txt.join a ys)) S2
theorem rpa_strs {K : PySem.W.Frag} {A : Addr → Prop} {H : Hp} : ∀ {ys : List Str} {vs : List V}, RpA K A H vs (ys.map .s) → vs = ys.map V.str
  | [], _, .nil => rfl
  | y :: ys, _, .cons h a => by
    have := rs_s (σ := []) (.inl h)
    subst this
    rw [rpa_strs a]
    rfl
theorem v_join (ho : PE X o (lE X.K c wo)) (he : PE X e (lE X.K c we)) (hs : starEach [e] X.env = [(false, eval e X.env)] := by rfl) (hbase : attributeBase o "join" X.env (eval o X.env) = eval o X.env := by rfl) (hline : (apos.endLine == pos.line) = true := by rfl) :
    PE X (.Call (.Attribute o "join" apos) [e] [] pos) (lE X.K c (wJoin wo we)) := pe_imp (pe_join ho he hs hbase hline) fun σ H Q h => by
  obtain ⟨S, Qd, r, h, p⟩ := h
  refine ⟨S, _, r, h, fun d S1 h1 H1 v r1 k1 p1 => ?_⟩
  obtain ⟨a, rfl, h2⟩ := h1
  have ea := rs_s p1
  subst ea
  refine ⟨⟨a, rfl⟩, S1, _, r1, h2, fun y S2 h3 H2 u r2 k2 p2 => ?_⟩
  obtain ⟨ys, e1, hz, q⟩ := h3
  obtain ⟨w, vs, rfl, g1, g2⟩ := sq_ok r2 p2 e1
  have ev := rpa_strs g2
  subst ev
  exact ⟨a, w, ys, rfl, rfl, g1, hz, p _ _ q _ _ r2 (k1.trans k2) (.inl (.s _))⟩
end
theorem joinL_nil : ∀ (ps : List (List Nat)), TL.joinL [] ps = ps.flatten
  | [] => rfl
  | [p] => by simp [TL.joinL]
  | p :: q :: r => by rw [TL.joinL, joinL_nil (q :: r)]; simp
theorem join_chars (cs : List Nat) : (Txt.join (Str.ofString "") (cs.map fun c => ⟨#[c]⟩)).cps.toList = cs := by
  rw [TL.join_eq]
  have h := TL.tl_join (Str.ofString "") (cs.map fun c => (⟨#[c]⟩ : Str))
  have e : TL.tl (Str.ofString "") = [] := by rw [empty_str]
  rw [e, joinL_nil] at h
  have : (List.map TL.tl (cs.map fun c => (⟨#[c]⟩ : Str))).flatten = cs := by
    clear h
    rw [List.map_map]
    induction cs with
    | nil => rfl
    | cons c cs ih => simp only [List.map_cons, List.flatten_cons]; rw [ih]; rfl
  rw [this] at h
  exact h
end VL
set_option Elab.async false
set_option linter.all false
set_option maxRecDepth 100000
set_option maxHeartbeats 1000000
namespace VL
open PySem PySem.Spec PyProof.Rows L2 RT StX
section
variable {X : Cx} {c : Cq} {pos p : Pos} {e tg : Expr} {es : List Expr} {we : WE} {wl wr : WA}
/-! ### reversed(..) of what stands still -/
def wRevI (we : WE) : WI := fun S Q => we S fun d S' => match d with
  | .l ds => Q ds.reverse S'
  | .t ds => Q ds.reverse S'
  | _ => False
theorem it_rlist {K : PySem.W.Frag} {q : Addr} {vs : List V} {ds : List Da} {W A : Addr → Prop} {H : Hp} (hq : H q = some (.lst vs)) (nW : ¬ (c.A0 q ∨ W q)) (ha : RpA K (fun a => c.A0 a ∨ W a) H vs ds) : ItOk K c (Itv K q vs.length) ds.reverse W H := fun H2 W2 k i => by
  have e2 : H2 q = some (.lst vs) := k.keep _ _ hq (.inl fun z => nW (.inr z))
  have hl := ha.length
  refine ⟨fun d hd => ?_, fun h => by show vs.length ≤ i; rw [List.length_reverse] at h; omega⟩
  have lt : i < ds.length := by
    have := (List.getElem?_eq_some_iff.mp hd).1
    rwa [List.length_reverse] at this
  rw [List.getElem?_reverse lt] at hd
  obtain ⟨v, hv, rv⟩ := ha.get hd
  rw [← hl] at hv
  refine ⟨⟨by omega, vs, v, SqL.of e2, hv⟩, fun x H3 hy => ?_⟩
  obtain ⟨rfl, hy⟩ := hy
  have := hy vs (SqL.of e2)
  rw [hv] at this
  cases this
  exact ⟨Same.refl _, rv.kp k.or⟩
theorem it_rtup {K : PySem.W.Frag} {q : Addr} {vs : List V} {ds : List Da} {W A : Addr → Prop} {H : Hp} (hq : SqT K H q vs) (ha : RpA K (fun a => c.A0 a ∨ W a) H vs ds) : ItOk K c (ItvT K q vs.length) ds.reverse W H := fun H2 W2 k i => by
  have e2 := sqt_kp k hq
  have hl := ha.length
  refine ⟨fun d hd => ?_, fun h => by show vs.length ≤ i; rw [List.length_reverse] at h; omega⟩
  have lt : i < ds.length := by
    have := (List.getElem?_eq_some_iff.mp hd).1
    rwa [List.length_reverse] at this
  rw [List.getElem?_reverse lt] at hd
  obtain ⟨v, hv, rv⟩ := ha.get hd
  rw [← hl] at hv
  refine ⟨⟨by omega, vs, v, e2, hv⟩, fun x H3 hy => ?_⟩
  obtain ⟨rfl, hy⟩ := hy
  have := hy vs e2
  rw [hv] at this
  cases this
  exact ⟨Same.refl _, rv.kp k.or⟩
theorem i_rev (hg : Gl X "reversed") (hm : X.mg "reversed" = none) (he : PE X e (lE X.K c we)) (hs : starEach [e] X.env = (false, eval e X.env) :: starEach [] X.env := by rfl) : PI X tg (.Call (.Name "reversed" p) [e] [] pos) (lWk X.K c (wRevI we)) :=
  pi_imp (pi_revA hg hm he hs) fun σ H R h => by
  obtain ⟨S, Qd, r, h, p⟩ := h
  refine ⟨S, _, r, h, fun d S1 h1 H1 v r1 k1 p1 => ?_⟩
  cases d <;> try exact h1.elim
  · obtain ⟨q, vs, rfl, g1, g2⟩ := tup_ok p1
    exact ⟨q, vs, rfl, .inr ⟨g1, p _ _ h1 _ _ r1 k1 (it_rtup (A := fun _ => False) g1 g2)⟩⟩
  · cases p1.pure rfl with
    | l g1 g2 g3 => exact ⟨_, _, rfl, .inl ⟨SqL.of g1, p _ _ h1 _ _ r1 k1 (it_rlist (A := fun _ => False) g1 g2 g3)⟩⟩
theorem dk_r {S : Sx} {p : Addr} {lk : Option Obj} {kds : List (Key × Da)} (h : S.M p = some (.dk lk kds)) : S.dk (.r p) = some kds := by
  show (match S.M p with | some (.dk _ kds) => some kds | _ => none) = _
  rw [h]
theorem dku_r {S : Sx} {p : Addr} {kds : List (Key × Da)} (h : S.M p = some (.dk none kds)) : S.dku (.r p) = some kds := by
  show (match S.M p with | some (.dk none kds) => some kds | _ => none) = _
  rw [h]
/-! ### stars -/
def wStar (we : WE) (wr : WA) : WA := fun S Q => we S fun d S1 => ∃ ds, d.isO = false ∧ S1.sq d = some ds ∧ (∀ x ∈ ds, x.isO = false) ∧ wr S1 fun es S2 => Q (ds ++ es) S2
theorem v_star (he : PE X e (lE X.K c we)) (hr : PA X es (lA X.K c wr)) (hs : starEach (.Starred e p :: es) X.env = (true, eval e X.env) :: starEach es X.env := by rfl) : PA X (.Starred e p :: es) (lA X.K c (wStar we wr)) := pa_imp (pa_star he hr hs) fun σ H Q h => by
  obtain ⟨S, Qd, r, h, p⟩ := h
  refine ⟨S, _, r, h, fun d S1 h1 H1 v r1 k1 p1 => ?_⟩
  obtain ⟨ds, dO, e1, hO, h2⟩ := h1
  obtain ⟨w, vs, rfl, g1, g2⟩ := sq_ok r1 p1 e1
  exact ⟨w, vs, rfl, g1.elim .inr .inl, S1, _, r1, h2, fun es S2 h3 H2 us r2 k2 p2 => p _ _ h3 _ _ r2 (k1.trans k2) ((g2.kp (kA k2)).append p2)⟩
end
end VL
set_option Elab.async false
set_option linter.all false
set_option maxRecDepth 100000
set_option maxHeartbeats 1000000
namespace VL
open PySem PySem.Spec PyProof.Rows L2 ItX Builtin
/-! ### a class's own __iter__ that gives iter(self.F), F a dict -/
def KtO (d it : Addr) (n ep : Nat) : HO := .ext fun h => h.IsKeyIter it d 0 n ep
section
variable {prog : Program} {w : World} {A : Around} {E : Value → Shared → Prop} {s : Shared} {K : PySem.W.Frag} {x C f : Addr} {ox : Obj} {od : Option Obj}
theorem call_iterD {d : Addr} {o : Obj} {es : Array DictEntry} {ep : Nat} {Q : Value → Shared → Prop} (hd : (d == sysModules) = false) (ho : s.heap.get? d = some o) (hc : o.ExactDict) (hdat : o.data = .dict es ep)
    (hQ : Q (.ref s.heap.objs.size) { s with heap := s.heap.push { cls := .type "dict_keyiterator", data := .fields #[.ref d, .int 0 0, .int es.size 0, .int ep 0] } }) :
    wpAny (model prog w) A (call (.builtin "iter") [.ref d]) Q E s := by
  refine Calls.call_function_entry (by decide +kernel) (by decide +kernel) PySem.W.kdk_entry_iter (PySem.W.kdk_args_iter _) ?_
  unfold Builtin.«iter»
  refine wpAny_bind (m := someArgs "iter" 1 2 _) (wpAny_of_eq (a := [Value.ref d]) (by first | rfl | kernel_rfl!) ?_)
  show wpAny _ _ (pyIter (.ref d) >>= _) _ _ _
  refine wpAny_bind (iter_keys hd ho hc hdat ?_)
  exact wpAny_pure ⟨_, rfl, hQ⟩
theorem ifBound_K {M : Model} {name : Str} {refuse : Sem Value} {Q : Option Value → Shared → Prop} (X : K.In s.heap) (I : PySem.W.InstAt s.heap x ox C od) (hs : PySem.W.findIn K (.ref C) name = some (some (.ref f))) (hf : PySem.W.isFn K (.ref f) = true)
    (h : wpAny M A (call (.ref f) [.ref x]) (fun v => Q (some v)) E s) : wpAny M A (callSpecialIfBoundUnlessNone? (.ref x) name refuse) Q E s := by
  simp only [callSpecialIfBoundUnlessNone?, bindSpecialIfBound?]
  have b := (PySem.W.bind_fn (M := M) X (.ref x) (beq_iff_eq.mp hf))
  have fin : wpAny M A (call (.ref f) [.ref x] >>= fun v => pure (some v)) Q E s := wpAny_bind (wpAny_mono h (fun v s' h' => wpAny_pure h') fun _ _ h' => h')
  refine wpAny_holding (wpAny_bind (wpAny_bind (wpAny_bind (I.type.here ((PySem.W.looks_findIn X hs).here ?_)))))
  refine wpAny_bind (wpAny_askSetting (wpAny_ite ?_))
  split
  · exact wpAny_bind (b.here (wpAny_pure fin))
  · exact wpAny_tryCatch (wpAny_bind (b.here (wpAny_pure fin)))
theorem pyIter_K {Q : Value → Shared → Prop} (X : K.In s.heap) (I : PySem.W.InstAt s.heap x ox C od) (hs : PySem.W.findIn K (.ref C) "__iter__" = some (some (.ref f))) (hf : PySem.W.isFn K (.ref f) = true)
    (h : wpAny (model prog w) A (call (.ref f) [.ref x]) (fun v s' => ∃ it d i n ep, v = .ref it ∧ s'.heap.IsKeyIter it d i n ep ∧ Q v s') E s) : wpAny (model prog w) A (pyIter (.ref x)) Q E s := by
  unfold pyIter
  refine wpAny_bind (wpAny_bind (I.type.here ((PySem.W.looks_findIn X hs).here ?_)))
  dsimp only
  refine wpAny_bind (ifBound_K X I hs hf (wpAny_mono h (fun v s' ⟨it, d, i, n, ep, e, hk, q⟩ => ?_) fun _ _ z => z))
  subst e
  dsimp only
  obtain ⟨o, ho, hc, _⟩ := hk
  exact wpAny_bind (wpAny_specialOf (T := "dict_keyiterator") (name := Str.ofString "__next__") ⟨o, ho, hc⟩ F.slot_dict_keyiterator_next.lookup (wpAny_pure q))
end
section
variable {X : Cx} {tg e : Expr} {te : TE}
theorem ktO_ok {P : Program} {w : World} {H : Hp} {h : Heap} {d it : Addr} {n ep : Nat} (e : h.IsKeyIter it d 0 n ep) : ObjOk P w H h it (KtO d it n ep) := ⟨e, ⟨_, e.choose_spec.1⟩, fun h1 h2 q k => q.at fun o ho => k o ho⟩
def rIterK (n : Nat) : List V → Hp → VK → Prop := fun xs H Q => ∃ d o kvs, xs = [.ref d] ∧ H d = some (.frz o (.dK kvs)) ∧ ∀ it es ep, o.data = .dict es ep → H it = none → n ≤ it → Q (.ref it) (upd H it (KtO d it kvs.length ep))
theorem call_iterK : CallR X (.builtin "iter") (rIterK X.s_0.heap.objs.size) := by
  intro pins s σ H xs us Q I r h
  obtain ⟨d, o, kvs, rfl, hd, q⟩ := h
  obtain rfl := Vals.ref1 r
  obtain ⟨hs, hgd, hx, es, ep, vs, hdt, hsz, kv, hm⟩ := I.frzK hd
  refine call_iterD hs hgd hx hdt ?_
  refine ⟨.ref s.heap.objs.size, _, I.laid (t' := s.toks) (fun b u e => Heap.get?_push_of_some _ e) (Nat.le_refl _) (ktO_ok ⟨_, Heap.get?_push_size _ rfl, rfl, ?_⟩), rfl, q _ _ _ hdt (I.hok.fresh (Nat.le_refl _)) I.sz⟩
  rw [hsz] <;> rfl
end
section
variable {P : Program} {w : World} {K : PySem.W.Frag} {mg : Str → Option Value} {base : Heap}
theorem fn_run1 {CX : CXT} {k : Nat} {f : Addr} {name qual : Str} {params : Arguments} {body : List Stmt} {scope : Scope} {dV kV doc pm cdv ct oc : Value} {an od : Option Addr}
    {osl : Array (Option Value)} {N ps : List Str} (lk : K.lookup f = some ⟨oc, od, .func (PySem.W.fnOf name qual params body scope dV kV doc pm an cdv ct), osl⟩) (hcd : PySem.W.codeIn K cdv qual = true) (S : FnScope N ps scope)
    {A : Around} {outer : List Env} {s : Shared} {H : Hp} {args : Args} {us : List Value} {vs : List V} {Q : VK} {E : XK} (hr : Room (k + 1) A) (e0 : Env0 P w K mg base A outer s H) (hb : BindsTo s (PySem.W.fnOf name qual params body scope dV kV doc pm an cdv ct) args (ps.zip us)) (r : Vals vs us) (hl : vs.length = ps.length)
    (hbody : ∃ t, PSs (cxOf CX P w K mg base N qual scope f cdv A outer s H E) body t ∧ t { nx := fun _ H' => Q .non H', rt := Q } (start N vs) H) :
    codeAny (model P w) A (.call (.ref f) args) (CR CX outer P w H s Q E) s := by
  have KX : K.In s.heap := e0.mod.kin.keeps fun b o e => (e0.bs b o e).1
  have lim : s.heap.NoLimit := e0.mod.nolimit.keeps fun b o e => (e0.bs b o e).1
  have hkind : ∀ y ∈ ps.zip us, scope.names.lookup y.1 = some .local ∨ (scope.names.lookup y.1 = some .cell ∧ ((cellsFrom (s.heap.objs.size + 1) scope.names []).lookup y.1).isSome = true) := fun ⟨n, v⟩ hy => by
    rcases S.par n (List.of_mem_zip hy).1 with q | q
    · exact .inl q
    · exact .inr ⟨q, PySem.W.cellsFrom_some _ _ _ (.inl q)⟩
  refine codeAny_call_function hr.depth (KX _ _ lk) rfl S.co S.gen rfl (PySem.W.codeRec_of KX hcd) (hb _ _ _ _ ?_)
  refine wpAny_newFunctionEnv_cells S.kind hkind fun env he s1 x => ?_
  subst he
  refine ⟨lim.keeps x.toInCall.keep, codeAny_func ?_⟩
  obtain ⟨t, ht, hq⟩ := hbody
  have I : Inv (cxOf CX P w K mg base N qual scope f cdv A outer s H E) [] (start N vs) H s1 := inv_start S hr.hd e0 hl r x
  refine wpAny_mono (ht.run [] s1 (start N vs) H _ I hq) (fun fl s' hs => ?_) fun e s' hs => hs
  have fin : ∀ {σ' : L2.St} {H' : Hp} {v : V} {u : Value}, Inv (cxOf CX P w K mg base N qual scope f cdv A outer s H E) [] σ' H' s' → RelV v u → Q v H' → CE outer P w H s Q u s' :=
    fun {σ' H' v u} J rv q => ⟨v, H', J.os, J.bare, J.base, J.hok, rv, q⟩
  cases fl with
  | ret u =>
    obtain ⟨v, σ', H', J, rv, q⟩ := hs
    exact fin J rv q
  | next =>
    obtain ⟨σ', H', J, q⟩ := hs
    exact fin (v := V.non) (u := Value.none) J rfl q
  | brk =>
    obtain ⟨_, _, _, q⟩ := hs
    exact False.elim q
  | cont =>
    obtain ⟨_, _, _, q⟩ := hs
    exact False.elim q
/-- what a call of such an __iter__ does -/
structure ItrOk (P : Program) (w : World) (K : PySem.W.Frag) (mg : Str → Option Value) (base : Heap) (C f : Addr) (fl : Str) : Prop where
  run : ∀ (A : Around) (outer : List Env) (s : Shared) (H : Hp) (a dx d : Addr) (fs : List (Str × V)) (o : Obj) (kvs : List (Key × V)), Room 1 A → Env0 P w K mg base A outer s H → H a = some (.ins C dx fs) → fs.lookup fl = some (.ref d) → H d = some (.frz o (.dK kvs)) →
    codeAny (model P w) A (.call (.ref f) ⟨[.ref a], []⟩) (CR CX0 outer P w H s (fun v H' => ∃ it es ep, o.data = .dict es ep ∧ v = .ref it ∧ s.heap.objs.size ≤ it ∧ H it = none ∧ H' = upd H it (KtO d it kvs.length ep)) E0) s
theorem itr_of {C f : Addr} {fl qual : Str} {st : Stmt} {fd : FuncData} (F : Fun K "__iter__" qual st f fd) (b : Binds K fd ["self"] []) (S : FnScope ["self"] ["self"] (defScope st)) (cl : Cls K C) (na : NoAttr K C fl)
    (hps : ∀ (cdv : Value) (A : Around) (outer : List Env) (s : Shared) (H : Hp), PSs (cxOf CX0 P w K mg base ["self"] qual (defScope st) f cdv A outer s H E0) (defBody st) (tRet fun σ H Q => tFld K (tVar 0) fl σ H fun x H1 => rIterK s.heap.objs.size [x] H1 Q)) : ItrOk P w K mg base C f fl := by
  refine ⟨fun A outer s H a dx d fs o kvs hr e0 ea el ed => ?_⟩
  obtain ⟨oc, od, kV, doc, pm, an, cdv, ct, osl, rfl, lk, hcd⟩ := F.ex
  have KX : K.In s.heap := e0.mod.kin.keeps fun b o e => (e0.bs b o e).1
  have hb := b s [.ref a] KX rfl
  refine fn_run1 (k := 0) (vs := [.ref a]) lk hcd S hr e0 hb (.cons rfl .nil) rfl ⟨_, hps cdv A outer s H, ?_⟩
  show tFld K (tVar 0) fl _ _ _
  refine ⟨_, rfl, a, C, dx, fs, .ref d, rfl, ea, cl, na, el, d, o, kvs, rfl, ed, fun it es ep ho nh hn => ⟨it, es, ep, ho, rfl, hn, nh, rfl⟩⟩
end
section
variable {X : Cx} {tg e : Expr} {te : TE} {C f : Addr} {fl : Str}
/-- for x in o, o's own __iter__ being such -/
def iOwnK (C : Addr) (fl : Str) (te : TE) : TI := fun σ H R => te σ H fun x H1 => ∃ a dx d fs o kvs, x = .ref a ∧ H1 a = some (.ins C dx fs) ∧ fs.lookup fl = some (.ref d) ∧ H1 d = some (.frz o (.dK kvs)) ∧ R (Itk d o kvs) H1
theorem pi_ownK (ow : Own X.K C "__iter__" f) (T : ItrOk X.prog X.w X.K X.mg X.base C f fl) (hr : Room 1 X.A) (he : PE X e te) : PI X tg e (iOwnK C fl te) := by
  refine ⟨fun pins s σ H R I h => ?_⟩
  refine thn (he.run pins s σ H _ I h) fun u s1 ⟨x, H1, I1, rx, a, dx, d, fs, o, kvs, ex, ea, el, ed, q⟩ => ?_
  subst ex
  obtain rfl : u = Value.ref a := rx
  obtain ⟨ox, od, J⟩ := ins_at I1 ea
  refine pyIter_K I1.kIn J ow.at_ ow.fn (wpAny_call (codeAny_mono (T.run X.A X.stack s1 H1 a dx d fs o kvs hr I1.env0 ea el ed) fun r s2 hq => ?_))
  cases r with
  | error e => exact hq.elim
  | ok fl' =>
    cases fl' with
    | ret u =>
      obtain ⟨v, H2, I2, rv, it, es, ep, ho, rfl, hn, nh, rfl⟩ := I1.after hq
      obtain rfl : u = Value.ref it := rv
      have hk : s2.heap.IsKeyIter it d 0 kvs.length ep := (I2.hok it _ upd_same).1
      have I3 := inv_drop I2 (a := it) upd_same
      have fp := inv_fp I2 (a := it) upd_same (Nat.le_trans I1.sz hn)
      rw [dropH_upd nh] at I3 fp
      exact ⟨it, d, 0, _, ep, rfl, hk, it, [it], _, Itk d o kvs, H1, rfl, I3, turn_keys it ho, hk, fun b hb => by rw [List.mem_singleton.mp hb]; exact fp, q⟩
    | next => exact hq.elim
    | brk => exact hq.elim
    | cont => exact hq.elim
end
end VL
set_option Elab.async false
set_option linter.all false
set_option maxRecDepth 100000
set_option maxHeartbeats 1000000
namespace VL
open PySem PySem.Spec PyProof.Rows L2
section
variable {X : Cx} {c : Cq} {tg e : Expr} {we : WE} {C f : Addr} {fl : Str}
/-- for x in o: the keys of o's dict, which is locked the while -/
def wOwnK (C : Addr) (fl : Str) (we : WE) : WI := fun S Q => we S fun d S' => ∃ gs q od kds, isIns S' C d gs ∧ gs.lookup fl = some (.r q) ∧ S'.M q = some (.dk (some od) kds) ∧ Q (kds.map keyD) S'
theorem i_ownK (ow : Own X.K C "__iter__" f) (T : ItrOk X.prog X.w X.K X.mg X.base C f fl) (hr : Room 1 X.A) (he : PE X e (lE X.K c we)) : PI X tg e (lWk X.K c (wOwnK C fl we)) := pi_imp (pi_ownK ow T hr he) fun σ H R h => by
  obtain ⟨S, Qd, r, h, p⟩ := h
  refine ⟨S, _, r, h, fun d S1 h1 H1 v r1 k1 p1 => ?_⟩
  obtain ⟨gs, q, od, kds, hi, hl, eM, h2⟩ := h1
  obtain ⟨a, dx, fs, rfl, ha, hf⟩ := ins_ok r1 p1 hi
  obtain ⟨u, hu, ru⟩ := rpf_some hf hl
  have eu := rs_r (σ := []) (.inl ru)
  subst eu
  obtain ⟨kvs, g1, g2⟩ := r1.mem q _ eM
  have g1' : H1 q = some (.frz od (.dK kvs)) := g1
  refine ⟨a, dx, q, fs, od, kvs, rfl, ha, hu, g1', p _ _ h2 _ _ r1 k1 fun H2 W2 k i => ?_⟩
  have e2 : H2 q = some (.frz od (.dK kvs)) := k.keep _ _ g1' (.inr id)
  refine ⟨fun d hd => ?_, fun hl => ⟨e2, by rw [rpk_len' g2]; simpa using hl⟩⟩
  obtain ⟨kk, vv', hv, rv⟩ := rpk_get g2 hd
  refine ⟨⟨e2, (List.getElem?_eq_some_iff.mp hv).1⟩, fun x H3 hy => ?_⟩
  obtain ⟨rfl, k', v', hy, rfl⟩ := hy
  rw [hv] at hy
  cases hy
  exact ⟨Same.refl _, rv.kp k.or⟩
end
end VL
set_option Elab.async false
set_option linter.all false
set_option maxRecDepth 100000
set_option maxHeartbeats 1000000
namespace VL
open PySem PySem.Spec PyProof.Rows L2
/-! ### comprehensions over a list that may change, and doesn't -/
def lstAt (S : Sx) (d : Da) (p : Addr) (all : List Da) : Prop := match d with
  | .o i => S.ρ[i]? = some (.own p all)
  | .r q => q = p ∧ S.M p = some (.lst all)
  | _ => False
def lcGoR (ck : Sx → Prop) (wg : WG) (wt : WT) (we : WE) (vs : List Nat) (Q : List Da → Sx → Prop) : List Da → List Da → Sx → Prop
  | [], acc, S => ck S ∧ Q acc S
  | d :: ds, acc, S => ck S ∧ wg d (S.wipe vs) fun S2 => wt S2 fun b S3 => if b = true then we S3 fun y S4 => y.isO = false ∧ acc.length < sizeLine ∧ lcGoR ck wg wt we vs Q ds (acc ++ [y]) (S.back S4 vs) else lcGoR ck wg wt we vs Q ds acc (S.back S3 vs)
theorem lcGoR_ck {ck : Sx → Prop} {wg : WG} {wt : WT} {we : WE} {vs : List Nat} {Q : List Da → Sx → Prop} {ds acc : List Da} {S : Sx} (h : lcGoR ck wg wt we vs Q ds acc S) : ck S := by
  cases ds with
  | nil => exact h.1
  | cons d ds => exact h.1
def wLcR (w0 : WE) (wg : WG) (wt : WT) (we : WE) (vs : List Nat) : WA := fun S Q => w0 S fun d S1 => ∃ p all, lstAt S1 d p all ∧ lcGoR (fun S => lstAt S d p all) wg wt we vs Q all [] (S1.norm vs)
section
variable {K : PySem.W.Frag} {c : Cq}
theorem at_ok {S : Sx} {σ : L2.St} {H : Hp} {d : Da} {p : Addr} {all : List Da} (r : Rel K c S σ H) (h : lstAt S d p all) : ∃ vs, H p = some (.lst vs) ∧ RpA K (S.A c) H vs all := by
  cases d with
  | o i =>
    obtain ⟨_, vs, h1, h2⟩ := r.own _ _ _ h
    exact ⟨vs, h1, h2⟩
  | r q => exact r.mem p _ h.2
  | _ => exact h.elim
theorem at_v {S : Sx} {σ : L2.St} {H : Hp} {v : V} {d : Da} {p : Addr} {all : List Da} (r : Rel K c S σ H) (rv : RpS K (S.A c) σ H v d) (h : lstAt S d p all) : v = .ref p := by
  cases d with
  | o i =>
    obtain ⟨h1, _⟩ := r.own _ _ _ h
    rcases rv with rv | ⟨j, e, h2⟩
    · cases rv
    · cases e
      rw [h1] at h2
      cases h2
      rfl
  | r q =>
    obtain ⟨rfl, _⟩ := h
    exact rs_r rv
  | _ => exact h.elim
theorem llcR {w0 : WE} {g : TG} {wg : WG} {wt : WT} {we : WE} {tt : TT} {te : TE} {is vs : List Nat} (L : ∀ c' : Cq, c'.n = c.n → LG K c' g wg is) (hv : ∀ i ∈ is, i ∈ vs) (ht : ∀ c' : Cq, c'.n = c.n → ∀ σ H Q, lT K c' wt σ H Q → tt σ H Q)
    (he : ∀ c' : Cq, c'.n = c.n → ∀ σ H Q, lE K c' we σ H Q → te σ H Q) : ∀ σ H Q, lL K c (wLcR w0 wg wt we vs) σ H Q → tLc (fun σ H R => lE K c w0 σ H fun x H1 => ∃ a, x = .ref a ∧ (((∃ xs, SqL K H1 a xs) ∧ R (Itl K a) H1) ∨ ((∃ xs, SqT K H1 a xs) ∧ R (Itt K a) H1))) g tt te vs σ H Q := fun σ H Q h => by
  obtain ⟨S, Qd, r, h, p⟩ := h
  refine ⟨S, _, r, h, fun d0 S1 h1 H1 v1 r1 k1 p1 => ?_⟩
  obtain ⟨q0, ds, ha, h1⟩ := h1
  obtain ⟨vs1, g1, _⟩ := at_ok r1 ha
  refine ⟨q0, at_v r1 p1 ha, .inl ⟨⟨vs1, SqL.of g1⟩, fun D nD => ?_⟩⟩
  have nk := r1.nk nD
  have nA : ¬ c.A0 D := fun z => (r1.a0 D z).1 nD
  obtain ⟨r1', _⟩ := r1.plus (o := .lst []) nD
  have sm1 : Same H1 (upd H1 D (.lst [])) := same_upd nD
  refine ⟨fun i m H2 => m = ds.length - i ∧ i ≤ ds.length ∧ ∃ S2 acc vacc, Rel K (c.plus D) S2 σ H2 ∧ Kp S1.W S2.W H1 H2 ∧ H2 D = some (.lst vacc) ∧ RpA K (S2.A (c.plus D)) H2 vacc acc ∧ acc.length ≤ sizeLine ∧ lcGoR (fun S => lstAt S d0 q0 ds) wg wt we vs Qd (ds.drop i) acc S2,
    ⟨ds.length, by simp, Nat.zero_le _, S1.norm vs, [], [], (r1'.back r1' .refl rfl fun _ _ => rfl).1, (Kp.same sm1).trans (r1'.back r1' .refl rfl fun _ _ => rfl).2, upd_same, .nil, Nat.zero_le _, by simpa using h1⟩, ?_⟩
  rintro i m H2 ⟨rfl, hi, S2, acc, vacc, r2, k2, eD, ra, hz, h2⟩
  obtain ⟨vs2, g2, ga⟩ := at_ok r2 (lcGoR_ck h2)
  by_cases hlt : i < ds.length
  · obtain ⟨v', hv', rv⟩ := ga.get (List.getElem?_eq_getElem hlt)
    refine .inr ⟨⟨vs2, v', SqL.of g2, hv'⟩, fun H' => ∃ S2 acc vacc, Rel K (c.plus D) S2 σ H' ∧ Kp S1.W S2.W H1 H' ∧ H' D = some (.lst vacc) ∧ RpA K (S2.A (c.plus D)) H' vacc acc ∧ acc.length ≤ sizeLine ∧ lcGoR (fun S => lstAt S d0 q0 ds) wg wt we vs Qd (ds.drop (i + 1)) acc S2,
      fun H' q => ⟨ds.length - (i + 1), by omega, rfl, hlt, q⟩, fun x H3 hy => ?_⟩
    obtain ⟨rfl, hy⟩ := hy
    have := hy vs2 (SqL.of g2)
    rw [hv'] at this
    cases this
    rw [List.drop_eq_getElem_cons hlt] at h2
    have h2 := h2.2
    obtain ⟨rw3, kw3⟩ := r2.wipe vs
    have rx' : Rp K ((S2.wipe vs).A (c.plus D)) H3 v' ds[i] := rv.kp (kA kw3)
    refine (L (c.plus D) rfl).run v' ds[i] _ _ H3 _ _ rw3 rx' h2 fun S4 σ4 h4 r4 k4 s4 l4 => ?_
    have l4' : σ4.length = σ.length := by rw [l4, wipe_length]
    have s4' : ∀ j, j ∉ vs → σ4[j]? = σ[j]? := fun j hj => by
      rw [s4 j (fun z => hj (hv j z)), wipe_get hj]
    refine ⟨wipe_eq l4' s4', ht (c.plus D) rfl _ _ _ ⟨S4, _, r4, h4, fun b S5 h5 H5 r5 k5 => ?_⟩⟩
    have k25 : Kp S2.W S5.W H3 H5 := (kw3.trans k4).trans k5
    have D5 : H5 D = some (.lst vacc) := k25.keep D _ eD (.inl (r2.a0 D (.inr rfl)).2)
    refine ite_of h5 (fun h6 => he (c.plus D) rfl _ _ _ ⟨S5, _, r5, h6, fun y S6 h7 H6 v r6 k6 py => ?_⟩) fun h6 => ?_
    · obtain ⟨py0, hz2, h8⟩ := h7
      have k26 := k25.trans k6
      have D6 : H6 D = some (.lst vacc) := k26.keep D _ eD (.inl (r2.a0 D (.inr rfl)).2)
      obtain ⟨rb, kb⟩ := r2.back r6 k26 l4' s4'
      have kab := kA (c := c.plus D) (k26.trans kb)
      have ra6 := ra.kp kab
      refine ⟨vacc, D6, by rw [ra.length]; exact hz2, S2.back S6 vs, acc ++ [y], vacc ++ [v], rb.upD D6 trivial nk, ?_, upd_same, ?_, by rw [List.length_append]; exact hz2, h8⟩
      · refine ⟨fun b u eb z => ?_, (k2.trans (k26.trans kb)).mono⟩
        rw [upd_ne (ne_of_none eb nD)]
        exact (k2.trans (k26.trans kb)).keep b u eb z
      · refine (ra6.snoc ((py.pure py0).kp (kA kb))).kp ⟨fun b u eb z => ?_, fun b z => .inl z⟩
        have : b ≠ D := fun q => by
          subst q
          rcases z with z | z
          · exact z (.inl (.inr rfl))
          · rw [D6] at eb
            cases eb
            exact z trivial
        rw [upd_ne this]
        exact eb
    · obtain ⟨rb, kb⟩ := r2.back r5 k25 l4' s4'
      exact ⟨S2.back S5 vs, acc, vacc, rb, k2.trans (k25.trans kb), D5, ra.kp (kA (k25.trans kb)), hz, h6⟩
  · have e : i = ds.length := by omega
    subst e
    rw [List.drop_length] at h2
    obtain ⟨rm, km⟩ := r2.minus eD trivial nA nk
    have q := p acc S2 h2.2 (offH H2 D) D vacc rm ?_ offH_same (ra.kp km) hz
    · rw [upd_offH eD] at q
      exact .inl ⟨⟨vs2, SqL.of g2, by rw [ga.length]; exact Nat.le_refl _⟩, q⟩
    · refine k1.trans ⟨fun b u eb z => ?_, fun b z => k2.mono b z⟩
      rw [offH_ne (ne_of_none eb nD)]
      exact k2.keep b u eb z
end
section
variable {X : Cx} {c : Cq} {pos : Pos} {tg : Expr} {w0 we : WE} {wt : WT}
theorem v_lcR {elt tg iter : Expr} {ifs : List Expr} {scope : Scope} {own : List (Str × Nat)} {g : TG} {wg : WG} {is : List Nat} (hc : X.calm = true) (hN : X.N.Nodup) (hi : PE X iter (lE X.K c w0)) (ok : BlkOk X.N X.env.scope scope own)
    (L : ∀ c' : Cq, c'.n = c.n → LG X.K c' g wg is) (hg : ∀ (s : Shared) (H : Hp) (C : Addr) (cl : List (Str × Addr)) (fp : List Addr), PG (X.blk s H scope (compEnvC scope cl C X.env) fp) tg g)
    (ht : ∀ (s : Shared) (H : Hp) (C : Addr) (cl : List (Str × Addr)) (fp : List Addr) (c' : Cq), c'.n = c.n → PTs (X.blk s H scope (compEnvC scope cl C X.env) fp) ifs (lT X.K c' wt))
    (he : ∀ (s : Shared) (H : Hp) (C : Addr) (cl : List (Str × Addr)) (fp : List Addr) (c' : Cq), c'.n = c.n → PE (X.blk s H scope (compEnvC scope cl C X.env) fp) elt (lE X.K c' we))
    (hv : ∀ i ∈ is, i ∈ own.map (·.2)) (hs : ∀ x, foldedSetIterable iter X.env x = pure x := by intro _; rfl) : PE X (.ListComp elt [⟨tg, iter, ifs, 0⟩] scope pos) (lL X.K c (wLcR w0 wg wt we (own.map (·.2)))) :=
  pe_imp (pe_lc (tt := fun σ H Q => ∃ c' : Cq, c'.n = c.n ∧ lT X.K c' wt σ H Q) (te := fun σ H Q => ∃ c' : Cq, c'.n = c.n ∧ lE X.K c' we σ H Q) hc hN (pi_lt hi) ok hg
    (fun s H C cl fp => ⟨fun pins s' σ H' Q I ⟨c', hc', h⟩ => (ht s H C cl fp c' hc').run pins s' σ H' Q I h⟩)
    (fun s H C cl fp => ⟨fun pins s' σ H' Q I ⟨c', hc', h⟩ => (he s H C cl fp c' hc').run pins s' σ H' Q I h⟩) hs)
    (llcR L hv (fun c' e _ _ _ h => ⟨c', e, h⟩) (fun c' e _ _ _ h => ⟨c', e, h⟩))
theorem s_valLcR {i : Nat} {y : Str} {py spos : Pos} {elt tg iter : Expr} {ifs : List Expr} {scope : Scope} {own : List (Str × Nat)} {g : TG} {wg : WG} {is : List Nat} (hc : X.calm = true) (hN : X.N.Nodup) (hy : X.N[i]? = some y) (hyl : X.env.scope.names.lookup y = some .local) (hn : i < c.n)
    (hsw : swapsWith (.ListComp elt [⟨tg, iter, ifs, 0⟩] scope pos) (some (.Name y py)) spos.line X.env = pure true) (hi : PE X iter (lE X.K c w0)) (ok : BlkOk X.N X.env.scope scope own)
    (L : ∀ c' : Cq, c'.n = c.n → LG X.K c' g wg is) (hg : ∀ (s : Shared) (H : Hp) (C : Addr) (cl : List (Str × Addr)) (fp : List Addr), PG (X.blk s H scope (compEnvC scope cl C X.env) fp) tg g)
    (ht : ∀ (s : Shared) (H : Hp) (C : Addr) (cl : List (Str × Addr)) (fp : List Addr) (c' : Cq), c'.n = c.n → PTs (X.blk s H scope (compEnvC scope cl C X.env) fp) ifs (lT X.K c' wt))
    (he : ∀ (s : Shared) (H : Hp) (C : Addr) (cl : List (Str × Addr)) (fp : List Addr) (c' : Cq), c'.n = c.n → PE (X.blk s H scope (compEnvC scope cl C X.env) fp) elt (lE X.K c' we))
    (hv : ∀ i ∈ is, i ∈ own.map (·.2)) (hs : ∀ x, foldedSetIterable iter X.env x = pure x := by intro _; rfl) : PS X (.Assign [.Name y py] (.ListComp elt [⟨tg, iter, ifs, 0⟩] scope pos) spos) (lS X.K c (wSet i (wOf (wLcR w0 wg wt we (own.map (·.2)))))) :=
  ps_imp (ps_setLc (i := i) (tt := fun σ H Q => ∃ c' : Cq, c'.n = c.n ∧ lT X.K c' wt σ H Q) (te := fun σ H Q => ∃ c' : Cq, c'.n = c.n ∧ lE X.K c' we σ H Q) hc hN hy hyl hsw (pi_lt hi) ok hg
    (fun s H C cl fp => ⟨fun pins s' σ H' Q I ⟨c', hc', h⟩ => (ht s H C cl fp c' hc').run pins s' σ H' Q I h⟩)
    (fun s H C cl fp => ⟨fun pins s' σ H' Q I ⟨c', hc', h⟩ => (he s H C cl fp c' hc').run pins s' σ H' Q I h⟩) hs)
    (lset hn fun σ H Q h => llcR L hv (fun c' e _ _ _ h => ⟨c', e, h⟩) (fun c' e _ _ _ h => ⟨c', e, h⟩) σ H Q (by
      obtain ⟨S, Qd, r, h, q⟩ := h
      refine ⟨S, _, r, h, fun ds S1 h1 H1 w vs r1 k1 nw p1 _ => ?_⟩
      obtain ⟨r2, k2, nA⟩ := r1.alloc (o := .lst vs) nw
      exact q _ _ h1 _ _ r2 (k1.trans k2) (.inl (.l upd_same nA (p1.kp (kA k2))))))
end
end VL
set_option Elab.async false
set_option linter.all false
set_option maxRecDepth 100000
set_option maxHeartbeats 1000000
namespace VL
open PySem PySem.Spec PyProof.Rows L2
theorem via_tail {P : Prop} {TOk : Sx → Prop} (cont : Sx → Prop) (main : (∀ S, TOk S → cont S) → P) (tail : ∀ S, TOk S → cont S) : P := main tail
theorem lcR_map {ck : Sx → Prop} {wg : WG} {we : WE} {vs : List Nat} {Q : List Da → Sx → Prop} {S : Sx} {ds : List Da} (g : Da → Da) (hc : ck (S.norm vs))
    (h : ∀ d ∈ ds, ∀ (R1 : Da → Sx → Prop), (∀ S4, Agr (S.norm vs) S4 vs → R1 (g d) S4) → wg d ((S.norm vs).wipe vs) fun S2 => we S2 R1)
    (hO : ∀ d ∈ ds, (g d).isO = false) (hz : ds.length ≤ sizeLine) (q : Q (ds.map g) (S.norm vs)) : lcGoR ck wg wYes we vs Q ds [] (S.norm vs) := by
  have go : ∀ (rest done : List Da), ds = done ++ rest → lcGoR ck wg wYes we vs Q rest (done.map g) (S.norm vs) := by
    intro rest
    induction rest with
    | nil =>
      intro done e
      rw [List.append_nil] at e
      subst e
      exact ⟨hc, q⟩
    | cons d rest ih =>
      intro done e
      have hd : d ∈ ds := by rw [e]; simp
      have le := congrArg List.length e
      rw [List.length_append, List.length_cons] at le
      refine ⟨hc, h d hd _ fun S4 hb => ⟨hO d hd, by rw [List.length_map]; omega, ?_⟩⟩
      rw [hb.back, show done.map g ++ [g d] = (done ++ [d]).map g by simp]
      exact ih (done ++ [d]) (by rw [e]; simp)
  exact go ds [] rfl
theorem forGoR_of {wg : WG} {wb : WS} {D : Dn} {p : Addr} {all : List Da} (I : List Da → Sx → Prop) (ck : ∀ ds S, I ds S → S.M p = some (.lst all)) (step : ∀ d ds S, I (d :: ds) S → ∀ R : Sx → Prop, (∀ S', I ds S' → R S') → wg d S fun S2 => wb { D with nx := R, ct := R, bk := D.nx } S2) (stop : ∀ S, I [] S → D.nx S) :
    ∀ ds S, I ds S → forGoR wg wb D p all ds S
  | [], S, h => ⟨ck _ _ h, stop S h⟩
  | d :: ds, S, h => ⟨ck _ _ h, step d ds S h _ fun S' h' => forGoR_of I ck step stop ds S' h'⟩
theorem valD_snoc {l : List (Key × Da)} {k k' : Key} {d : Da} : valD (l ++ [(k', d)]) k = (valD l k).or (if k' = k then some d else none) := by
  unfold valD
  rw [List.find?_append]
  cases e : l.find? (fun kd => decide (kd.1 = k)) with
  | some x => rfl
  | none =>
    by_cases h : k' = k
    · subst h; simp
    · simp [h]
theorem valD_some_iff {kds : List (Key × Da)} {k : Key} : (valD kds k).isSome = kds.any fun kd => decide (kd.1 = k) := by
  unfold valD
  rw [Option.isSome_map, List.isSome_find?]
theorem valD_none {l : List (Key × Da)} {k : Key} (h : k ∉ l.map (·.1)) : valD l k = none := by
  unfold valD
  rw [List.find?_eq_none.mpr]
  · rfl
  · intro x hx e
    exact h (List.mem_map.mpr ⟨x, hx, of_decide_eq_true e⟩)
end VL
set_option Elab.async false
set_option linter.all false
set_option maxRecDepth 100000
set_option maxHeartbeats 1000000
namespace VL
open PySem PySem.Spec PyProof.Rows L2
/-! ### calls by keywords alone, written in the parameters' order; the last ones may lack -/
structure KB0 (K : PySem.W.Frag) (fd : FuncData) (ps ks : List Str) (dvs : List V) (ds : List Value) : Prop where
  r : Vals dvs ds
  to : ∀ (s : Shared) (us : List Value), K.In s.heap → us.length = ks.length → BindsTo s fd ⟨[], ks.zip us⟩ (ps.zip (us ++ ds))
  len : ps.length = ks.length + ds.length
section
variable {X : Cx} {CX : CXT} {k : Nat} {f : Addr} {fd : FuncData} {ps ks : List Str} {sp : Sp} {E : L2.St → XK} {x : Str} {p pos kpos : Pos} {e : Expr} {kws : List Keyword} {tk : TA} {dvs : List V} {ds : List Value} {nm : Option Str}
theorem run_k0 {pins : List (Addr × Obj)} {σ : L2.St} {H : Hp} {s : Shared} {Q : VK} {us : List Value} {vs : List V} (F : FnOk X.prog X.w X.K X.mg X.base CX k f fd ps sp) (hr : Room k X.A) (hb : KB0 X.K fd ps ks dvs ds) (hx : PassesAt CX X σ (E σ))
    (I : Inv X pins σ H s) (r : Vals vs us) (h : sp (vs ++ dvs) H Q (E σ)) : wpAny (model X.prog X.w) X.A (call (.ref f) [] (ks.zip us)) (EP X pins σ Q) X.xe s := by
  have hl := F.len _ _ _ _ h
  rw [List.length_append, hb.len, hb.r.length, r.length] at hl
  have hb2 := hb.to s us I.kIn (by omega)
  refine wpAny_call (codeAny_mono (F.run X.A X.stack s H ⟨[], ks.zip us⟩ (us ++ ds) (vs ++ dvs) Q (E σ) hr I.env0 hb2 (r.append hb.r) h) fun r s' hq => ?_)
  cases r with
  | error e => exact hx pins H s e s' I hq
  | ok fl =>
    cases fl with
    | ret u => exact I.after hq
    | next => exact False.elim hq
    | brk => exact False.elim hq
    | cont => exact False.elim hq
theorem pe_k0 (F : FnOk X.prog X.w X.K X.mg X.base CX k f fd ps sp) (hr : Room k X.A) (hg : Gl X x) (hm : X.mg x = some (.ref f)) (hk : PySem.W.keepIn X.K (.ref f) = true) (hb : KB0 X.K fd ps ks dvs ds) (hx : ∀ σ, PassesAt CX X σ (E σ))
    (hkw : PK X kws tk) (hall : (backToKw pos (keywordEach kws X.env)).all (·.1.isSome) = true := by rfl) (hks : (backToKw pos (keywordEach kws X.env)).filterMap (·.1) = ks := by rfl)
    (hdb : (x == ("__debug__" : Str)) = false := by decide)
    (hpl : ((backTo pos (starEach [] X.env)).any (·.1) || (backToKw pos (keywordEach kws X.env)).any (·.1.isNone)) = false := by rfl) :
    PE X (.Call (.Name x p) [] kws pos) (fun σ H Q => tk σ H fun zs H2 => sp (zs ++ dvs) H2 Q (E σ)) := by
  refine ⟨fun pins s σ H Q I h => ?_⟩
  refine wpAny_Call_Name_kw (ld_glob I hg hm ?_ hdb)
  refine PySem.W.callWith_KW0 (h₀ := X.base) I.ok.mod.kin hk hall ?_ hpl
  refine thn (hkw.run pos pins s σ H _ I h) fun ws s2 ⟨zs, H2, I2, rz, q2⟩ => ⟨I2.kIn, ?_⟩
  rw [hks]
  exact run_k0 F hr hb (hx σ) I2 rz q2
end
section
variable {X : Cx} {c : Cq} {e : Expr} {kws : List Keyword} {we : WE} {wr wl : WA} {nm : Option Str} {kpos pos p : Pos}
theorem pk_imp {t t' : TA} (h : PK X kws t) (i : ∀ σ H Q, t' σ H Q → t σ H Q) : PK X kws t' := ⟨fun pos pins s σ H Q I hq => h.run pos pins s σ H Q I (i σ H Q hq)⟩
theorem v_knil : PK X [] (lA X.K c wNil) := pk_imp pk_nil fun σ H Q h => by
  obtain ⟨S, Qd, r, h, p⟩ := h
  exact p _ _ h _ _ r .refl .nil
theorem v_kcons (he : PE X e (lE X.K c we)) (hr : PK X kws (lA X.K c wr)) : PK X (⟨nm, e, kpos⟩ :: kws) (lA X.K c (wCons we wr)) := pk_imp (pk_cons he hr) fun σ H Q h => by
  obtain ⟨S, Qd, r, h, p⟩ := h
  refine ⟨S, _, r, h, fun d S1 h1 H1 v r1 k1 p1 => ⟨S1, _, r1, h1.2, fun ds S2 h2 H2 vs r2 k2 p2 => ?_⟩⟩
  exact p _ _ h2 _ _ r2 (k1.trans k2) (.cons ((p1.pure h1.1).kp (kA k2)) p2)
end
structure DfnK (K : PySem.W.Frag) (mg : Str → Option Value) (x : Str) (st : Stmt) (ps : List Str) (f : Addr) (fd : FuncData) : Prop where
  F : L2.FunD K x x (defArgs st) (defBody st) (defScope st) [] [] f fd
  b : KB0 K fd ps ps [] []
  g : mg x = some (.ref f)
section
variable {X : Cx} {c : Cq} {k : Nat} {f : Addr} {fd : FuncData} {ps ks : List Str} {dc : DC} {x : Str} {p pos : Pos} {kws : List Keyword} {wl : WA} {Xs : Value → Option (List (Str × Da)) → Sx → Prop} {W : WX}
theorem v_callKw (F : FnOk X.prog X.w X.K X.mg X.base (L2.CX X.prog X.w) k f fd ps (spOf X.K dc)) (hr : Room k X.A) (hg : Gl X x) (hm : X.mg x = some (.ref f)) (hk : PySem.W.keepIn X.K (.ref f) = true) (hb : KB0 X.K fd ps ks [] [])
    (tk : Takes X W) (hX : XOk X.K c Xs W) (hkw : PK X kws (lA X.K c wl)) (hall : (backToKw pos (keywordEach kws X.env)).all (·.1.isSome) = true := by rfl) (hks : (backToKw pos (keywordEach kws X.env)).filterMap (·.1) = ks := by rfl)
    (hdb : (x == ("__debug__" : Str)) = false := by decide) (hpl : ((backTo pos (starEach [] X.env)).any (·.1) || (backToKw pos (keywordEach kws X.env)).any (·.1.isNone)) = false := by rfl) :
    PE X (.Call (.Name x p) [] kws pos) (lE X.K c (wCall dc [] Xs wl)) := pe_imp (pe_k0 F hr hg hm hk hb (fun σ => passAt tk σ) hkw hall hks hdb hpl) fun σ H Q h => by
  obtain ⟨S, Qd, r, h, p⟩ := h
  exact ⟨S, _, r, h, fun ds S1 h1 H1 vs r1 k1 p1 => sp_call r1 (p1.append .nil) h1 (p.at k1) hX⟩
end
end VL
set_option Elab.async false
set_option linter.all false
set_option maxRecDepth 100000
set_option maxHeartbeats 1000000
namespace VL
open PySem PySem.Spec PyProof.Rows L2 ItX Builtin
/-! ### a class's own __iter__ that gives iter(self.F.G), G a dict of the object at F -/
section
variable {P : Program} {w : World} {K : PySem.W.Frag} {mg : Str → Option Value} {base : Heap}
structure ItrOk2 (P : Program) (w : World) (K : PySem.W.Frag) (mg : Str → Option Value) (base : Heap) (C f : Addr) (f1 : Str) (C2 : Addr) (f2 : Str) : Prop where
  run : ∀ (A : Around) (outer : List Env) (s : Shared) (H : Hp) (a dx b dy d : Addr) (fs gs : List (Str × V)) (o : Obj) (kvs : List (Key × V)), Room 1 A → Env0 P w K mg base A outer s H → H a = some (.ins C dx fs) → fs.lookup f1 = some (.ref b) → H b = some (.ins C2 dy gs) → gs.lookup f2 = some (.ref d) → H d = some (.frz o (.dK kvs)) →
    codeAny (model P w) A (.call (.ref f) ⟨[.ref a], []⟩) (CR CX0 outer P w H s (fun v H' => ∃ it es ep, o.data = .dict es ep ∧ v = .ref it ∧ s.heap.objs.size ≤ it ∧ H it = none ∧ H' = upd H it (KtO d it kvs.length ep)) E0) s
theorem itr_of2 {C C2 f : Addr} {f1 f2 qual : Str} {st : Stmt} {fd : FuncData} (F : Fun K "__iter__" qual st f fd) (b : Binds K fd ["self"] []) (S : FnScope ["self"] ["self"] (defScope st)) (cl : Cls K C) (na : NoAttr K C f1) (cl2 : Cls K C2) (na2 : NoAttr K C2 f2)
    (hps : ∀ (cdv : Value) (A : Around) (outer : List Env) (s : Shared) (H : Hp), PSs (cxOf CX0 P w K mg base ["self"] qual (defScope st) f cdv A outer s H E0) (defBody st) (tRet fun σ H Q => tFld K (tFld K (tVar 0) f1) f2 σ H fun x H1 => rIterK s.heap.objs.size [x] H1 Q)) : ItrOk2 P w K mg base C f f1 C2 f2 := by
  refine ⟨fun A outer s H a dx b2 dy d fs gs o kvs hr e0 ea el eb el2 ed => ?_⟩
  obtain ⟨oc, od, kV, doc, pm, an, cdv, ct, osl, rfl, lk, hcd⟩ := F.ex
  have KX : K.In s.heap := e0.mod.kin.keeps fun b o e => (e0.bs b o e).1
  have hb := b s [.ref a] KX rfl
  refine fn_run1 (k := 0) (vs := [.ref a]) lk hcd S hr e0 hb (.cons rfl .nil) rfl ⟨_, hps cdv A outer s H, ?_⟩
  show tFld K (tFld K (tVar 0) f1) f2 _ _ _
  refine ⟨_, rfl, a, C, dx, fs, .ref b2, rfl, ea, cl, na, el, b2, C2, dy, gs, .ref d, rfl, eb, cl2, na2, el2, d, o, kvs, rfl, ed, fun it es ep ho nh hn => ⟨it, es, ep, ho, rfl, hn, nh, rfl⟩⟩
end
section
variable {X : Cx} {tg e : Expr} {te : TE} {C C2 f : Addr} {f1 f2 : Str} {c : Cq} {we : WE}
def iOwnK2 (C : Addr) (f1 : Str) (C2 : Addr) (f2 : Str) (te : TE) : TI := fun σ H R => te σ H fun x H1 => ∃ a dx b dy d fs gs o kvs, x = .ref a ∧ H1 a = some (.ins C dx fs) ∧ fs.lookup f1 = some (.ref b) ∧ H1 b = some (.ins C2 dy gs) ∧ gs.lookup f2 = some (.ref d) ∧ H1 d = some (.frz o (.dK kvs)) ∧ R (Itk d o kvs) H1
theorem pi_ownK2 (ow : Own X.K C "__iter__" f) (T : ItrOk2 X.prog X.w X.K X.mg X.base C f f1 C2 f2) (hr : Room 1 X.A) (he : PE X e te) : PI X tg e (iOwnK2 C f1 C2 f2 te) := by
  refine ⟨fun pins s σ H R I h => ?_⟩
  refine thn (he.run pins s σ H _ I h) fun u s1 ⟨x, H1, I1, rx, a, dx, b, dy, d, fs, gs, o, kvs, ex, ea, el, eb, el2, ed, q⟩ => ?_
  subst ex
  obtain rfl : u = Value.ref a := rx
  obtain ⟨ox, od, J⟩ := ins_at I1 ea
  refine pyIter_K I1.kIn J ow.at_ ow.fn (wpAny_call (codeAny_mono (T.run X.A X.stack s1 H1 a dx b dy d fs gs o kvs hr I1.env0 ea el eb el2 ed) fun r s2 hq => ?_))
  cases r with
  | error e => exact hq.elim
  | ok fl' =>
    cases fl' with
    | ret u =>
      obtain ⟨v, H2, I2, rv, it, es, ep, ho, rfl, hn, nh, rfl⟩ := I1.after hq
      obtain rfl : u = Value.ref it := rv
      have hk : s2.heap.IsKeyIter it d 0 kvs.length ep := (I2.hok it _ upd_same).1
      have I3 := inv_drop I2 (a := it) upd_same
      have fp := inv_fp I2 (a := it) upd_same (Nat.le_trans I1.sz hn)
      rw [dropH_upd nh] at I3 fp
      exact ⟨it, d, 0, _, ep, rfl, hk, it, [it], _, Itk d o kvs, H1, rfl, I3, turn_keys it ho, hk, fun b hb => by rw [List.mem_singleton.mp hb]; exact fp, q⟩
    | next => exact hq.elim
    | brk => exact hq.elim
    | cont => exact hq.elim
def wOwnK2 (C : Addr) (f1 : Str) (C2 : Addr) (f2 : Str) (we : WE) : WI := fun S Q => we S fun d S' => ∃ gs t gs2 q od kds, isIns S' C d gs ∧ gs.lookup f1 = some (.r t) ∧ S'.M t = some (.ins C2 gs2) ∧ gs2.lookup f2 = some (.r q) ∧ S'.M q = some (.dk (some od) kds) ∧ Q (kds.map keyD) S'
theorem i_ownK2 (ow : Own X.K C "__iter__" f) (T : ItrOk2 X.prog X.w X.K X.mg X.base C f f1 C2 f2) (hr : Room 1 X.A) (he : PE X e (lE X.K c we)) : PI X tg e (lWk X.K c (wOwnK2 C f1 C2 f2 we)) := pi_imp (pi_ownK2 ow T hr he) fun σ H R h => by
  obtain ⟨S, Qd, r, h, p⟩ := h
  refine ⟨S, _, r, h, fun d S1 h1 H1 v r1 k1 p1 => ?_⟩
  obtain ⟨gs, t, gs2, q, od, kds, hi, hl, eT, hl2, eM, h2⟩ := h1
  obtain ⟨a, dx, fs, rfl, ha, hf⟩ := ins_ok r1 p1 hi
  obtain ⟨u, hu, ru⟩ := rpf_some hf hl
  have eu := rs_r (σ := []) (.inl ru)
  subst eu
  obtain ⟨dy, fs2, ht, hf2⟩ := r1.mem t _ eT
  obtain ⟨u2, hu2, ru2⟩ := rpf_some hf2 hl2
  have eu2 := rs_r (σ := []) (.inl ru2)
  subst eu2
  obtain ⟨kvs, g1, g2⟩ := r1.mem q _ eM
  have g1' : H1 q = some (.frz od (.dK kvs)) := g1
  refine ⟨a, dx, t, dy, q, fs, fs2, od, kvs, rfl, ha, hu, ht, hu2, g1', p _ _ h2 _ _ r1 k1 fun H2 W2 k i => ?_⟩
  have e2 : H2 q = some (.frz od (.dK kvs)) := k.keep _ _ g1' (.inr id)
  refine ⟨fun d hd => ?_, fun hl => ⟨e2, by rw [rpk_len' g2]; simpa using hl⟩⟩
  obtain ⟨kk, vv', hv, rv⟩ := rpk_get g2 hd
  refine ⟨⟨e2, (List.getElem?_eq_some_iff.mp hv).1⟩, fun x H3 hy => ?_⟩
  obtain ⟨rfl, k', v', hy, rfl⟩ := hy
  rw [hv] at hy
  cases hy
  exact ⟨Same.refl _, rv.kp k.or⟩
end
end VL
set_option Elab.async false
set_option linter.all false
set_option maxRecDepth 100000
set_option maxHeartbeats 1000000
namespace VL
open PySem PySem.Spec PyProof.Rows L2
/-! ### list.count over whole numbers -/
def rdCount : RD := fun d y S Q => match y with
  | .i k => ∃ ns : List Int, S.lst d = some (ns.map .i) ∧ Q (.i ((ns.count k : Nat) : Int)) S
  | _ => False
theorem lCount {K : PySem.W.Frag} {c : Cq} : MetL K c (rCntI K) rdCount := fun σ H S x y d i Qd Q r rx ry h p => by
  cases i <;> try exact h.elim
  rename_i k
  obtain ⟨ns, e, q⟩ := h
  obtain ⟨w, vs, rfl, g1, g2⟩ := lst_ok r rx e
  have ev := rpa_ints g2
  subst ev
  have ey := rs_i ry
  subst ey
  exact ⟨w, ns, k, rfl, rfl, SqL.of g1, p _ _ q _ _ r .refl (.inl (.i _))⟩
end VL
set_option Elab.async false
set_option linter.all false
set_option maxRecDepth 100000
set_option maxHeartbeats 1000000
namespace VL
open PySem PySem.Spec PyProof.Rows L2
/-! ### x op= e, x an instance whose class writes the method itself -/
section
variable {M : Model} {A : Around} {E : Value → Shared → Prop} {s : Shared} {K : PySem.W.Frag} {x C L f : Addr} {h₀ : Heap} {m : Str → Option Value} {ox : Obj} {od : Option Obj} {v : Value}
theorem fillsI_own {h : Heap} {nm : String} {add : Bool} {cd : ClassData} {rest : List Value} (X : K.In h) (hc : PySem.W.clsIn K C = some cd) (hm : cd.mro = .ref C :: rest) (hs : PySem.W.findIn K (.ref C) (PySem.dunderI nm) = some (some (.ref f))) : PySem.W.Looks M h (fillsInplaceSlot (.ref C) nm add) true := by
  intro A Q E s k q
  unfold fillsInplaceSlot
  refine wpAny_bind ((PySem.W.looks_clsIn X hc).andThen (f := fun cd => pure cd.mro) .now A _ E s k ?_)
  rw [hm, List.anyM_cons]
  refine wpAny_bind ?_
  refine wpAny_bind (PySem.W.looks_findIn X hs A _ E s k ?_)
  dsimp only
  rw [if_pos (show (!ownNameWrapper (.ref f) (PySem.dunderI nm)) = true from rfl)]
  refine wpAny_pure ?_
  rw [if_pos rfl]
  exact wpAny_pure q
theorem inplace_own {prog : Program} {w : World} {op : Operator} {b : Value} {Q : Value → Shared → Prop} (F : Fr h₀ L s.heap m) (X₀ : K.In h₀) (I : PySem.W.InstAt s.heap x ox C od) (hc : PySem.W.selfFirst K C = true)
    (hs : PySem.W.findIn K (.ref C) (PySem.dunderI op.info.2) = some (some (.ref f))) (hf : PySem.W.isFn K (.ref f) = true)
    (h : wpAny (model prog w) A (call (.ref f) [.ref x, b]) (PySem.W.CmpBack Q) E s) : wpAny (model prog w) A (inplaceOp op (.ref x) b) Q E s := by
  have X := X₀.keeps F.keep
  obtain ⟨cd, hcd, hm⟩ := PySem.W.any_some hc
  obtain ⟨rest, hm⟩ : ∃ rest, cd.mro = .ref C :: rest := by
    cases q : cd.mro with
    | nil => rw [q] at hm; cases hm
    | cons a r => rw [q] at hm; exact ⟨r, by rw [List.head?_cons] at hm; cases (beq_iff_eq.mp hm); rfl⟩
  unfold inplaceOp
  refine wpAny_holding (wpAny_bind (I.type.here (wpAny_bind ((fillsI_own X hcd hm hs).here ?_))))
  rw [if_pos rfl]
  refine wpAny_bind (m := tryMethod (.ref x) _ b) ?_
  unfold tryMethod
  refine wpAny_bind (PySem.W.special_fn X I hs (beq_iff_eq.mp hf) (wpAny_mono h (fun v s' hv => ?_) fun _ _ e => e))
  cases v <;> first | exact hv.elim | exact wpAny_pure (wpAny_bind (wpAny_rule (wpAny_pure hv)))
end
def IpRS (X : Cx) (op : Operator) (r : L2.St → R2) : Prop :=
  ∀ (pins : List (Addr × Obj)) (s : Shared) (σ : L2.St) (H : Hp) (x y : V) (v u : Value) (Q : VK), Inv X pins σ H s → RelV x v → RelV y u → r σ x y H Q →
    wpAny (model X.prog X.w) X.A (inplaceOp op v u) (EP X pins σ Q) X.xe s
def tAugO (i : Nat) (te : TE) (r : L2.St → R2) : TS := fun D σ H => ∃ x, σ[i]? = some (some x) ∧ te σ H fun y H1 => r σ x y H1 fun z H2 => D.nx (σ.set i (some z)) H2
section
variable {X : Cx} {CX : CXT} {k : Nat} {C f : Addr} {fd : FuncData} {ps : List Str} {sp : Sp} {E : L2.St → XK} {pos : Pos} {e : Expr} {te : TE} {r : L2.St → R2}
theorem ip_own {op : Operator} {m : Str} (hm : PySem.dunderI op.info.2 = m) (hc : PySem.W.selfFirst X.K C = true) (o : Own X.K C m f) (F : FnOk X.prog X.w X.K X.mg X.base CX k f fd ps sp) (hr : Room k X.A) (hb : Binds X.K fd ps []) (hx : ∀ σ, PassesAt CX X σ (E σ)) :
    IpRS X op (tOwn2s C sp E) := by
  intro pins s σ H x y v u Q I rx ry h
  obtain ⟨p, dx, fs, p2, dy, gs, rfl, rfl, ep, ep2, q⟩ := h
  obtain rfl : v = Value.ref p := rx
  obtain rfl : u = Value.ref p2 := ry
  obtain ⟨ox, od, J⟩ := ins_at I ep
  obtain ⟨mm, hF⟩ := I.fr
  refine inplace_own (op := op) hF I.ok.mod.kin J hc (by rw [hm]; exact o.at_) o.fn ?_
  refine thn (run_fnSD (Q := fun v H1 => (∃ p, v = .ref p ∨ v = .non ∨ ∃ b, v = .bl b) ∧ Q v H1) (dvs := []) (ds := []) (us := [.ref p, .ref p2]) (vs := [.ref p, .ref p2]) F hr hb .nil (hx σ) I (.cons rfl (.cons rfl .nil)) q) fun r s1 ⟨z, H1, I1, rz, ez, q2⟩ => ?_
  exact back_of rz ez ⟨z, H1, I1, rz, q2⟩
theorem ps_augO {i : Nat} {x : Str} {op : Operator} {pos' : Pos} (hN : X.N.Nodup) (hi : X.N[i]? = some x) (hx : Loc X.env.scope x) (he : PE X e te) (ho : IpRS X op r) (hf : X.fn x = true ∨ X.env.scope.names.lookup x = some .local := by first | exact .inl rfl | exact .inr rfl | assumption) :
    PS X (.AugAssign (.Name x pos') op e pos) (tAugO i te r) := by
  refine ⟨fun pins s σ H D I h => ?_⟩
  obtain ⟨v, e1, h⟩ := h
  obtain ⟨m, hn, hl⟩ := I.loc
  have vis : Vis X.env.scope x := by rcases hx with k | k; exact .inl k; exact .inr (.inl k)
  obtain ⟨u, r, l⟩ := hl i x v hi e1 vis
  refine wpAny_AugAssign_Name ?_
  have go : wpAny (model X.prog X.w) X.A (eval e X.env) (fun w s₂ => wpAny (model X.prog X.w) X.A (inplaceOp op u w) (fun r s₃ => wpAny (model X.prog X.w) X.A (storeName X.env x r) (fun _ => SP X pins D .next) X.xe s₃) X.xe s₂) X.xe s := by
    refine thn (he.run pins s σ H _ I h) fun w s1 ⟨y, H1, I1, r1, q1⟩ => ?_
    refine thn (ho pins s1 σ H1 v y u w _ I1 r r1 q1) fun z s2 ⟨zv, H2, I2, r2, q2⟩ => ?_
    exact store_ok I2 hN hi hx r2 (fun s3 I3 => ⟨_, H2, I3, q2⟩) hf
  rcases l with ⟨hk, hm⟩ | ⟨hk, c, hc, hcell⟩
  · exact wpAny_loadName_local I.ok.kind hk hn hm go
  · rcases hk with hk | hk
    · exact wpAny_loadName_cell I.ok.kind hk hc hcell go
    · rcases hx with k | k
      · have : X.env.scope.names.lookup x = some .free := hk
        rw [k] at this; cases this
      · have : X.env.scope.names.lookup x = some .free := hk
        rw [k] at this; cases this
end
def wAugO (i : Nat) (rd : RD) (we : WE) : WS := fun D S => ∃ a, S.ρ[i]? = some (.val a) ∧ a.isO = false ∧ we S fun y S1 => rd a y S1 fun d S' => d.isO = false ∧ D.nx (S'.set i (.val d))
section
variable {X : Cx} {c : Cq} {k : Nat} {C f : Addr} {fd : FuncData} {ps : List Str} {dc : DC} {Xs : DXs} {W : WX} {pos : Pos} {e : Expr} {we : WE} {rd : RD} {r : L2.St → R2}
theorem s_augO {i : Nat} {x : Str} {op : Operator} {pos' : Pos} (hN : X.N.Nodup) (hi : X.N[i]? = some x) (hx : Loc X.env.scope x) (hn : i < c.n) (ho : IpRS X op r) (L : OpLS X.K c r rd) (he : PE X e (lE X.K c we)) (hf : X.fn x = true ∨ X.env.scope.names.lookup x = some .local := by first | exact .inl rfl | exact .inr rfl) :
    PS X (.AugAssign (.Name x pos') op e pos) (lS X.K c (wAugO i rd we)) := ps_imp (ps_augO hN hi hx he ho hf) fun D σ H h => by
  obtain ⟨S, Dd, rr, ⟨a, ea, aO, h⟩, p⟩ := h
  obtain ⟨v, h1, h2⟩ := rr.val i a ea
  refine ⟨v, h1, S, _, rr, h, fun y S1 h1' H1 vy r1 k1 p1 => ?_⟩
  have pa0 : RpS X.K (S.A c) σ H v a := .inl h2
  have pa := pa0.kp (kA (c := c) k1)
  refine L σ H1 S1 v vy a y (fun d S' => d.isO = false ∧ Dd.nx (S'.set i (.val d))) _ r1 pa p1 h1' fun d S' h' H' z r' k' pz => ?_
  obtain ⟨r2, k2⟩ := r'.setV (i := i) (pz.pure h'.1) (by rw [r'.cn]; exact hn)
  exact p.nx _ h'.2 _ _ r2 ((k1.trans k').trans k2)
theorem ip_own_aug {op : Operator} {m : Str} (hm : PySem.dunderI op.info.2 = m) (hc : PySem.W.selfFirst X.K C = true) (o : Own X.K C m f) (F : FnOk X.prog X.w X.K X.mg X.base (L2.CX X.prog X.w) k f fd ps (spOf X.K dc)) (hr : Room k X.A) (hb : Binds X.K fd ps []) (tk : Takes X W) :
    IpRS X op (tOwn2s C (spOf X.K dc) (fun σ cls d H' => W cls d σ H')) := ip_own hm hc o F hr hb fun σ => passAt tk σ
end
end VL
set_option Elab.async false
set_option linter.all false
set_option maxRecDepth 100000
set_option maxHeartbeats 1000000
namespace VL
open PySem PySem.Spec PyProof.Rows L2
/-! ### not in, of trees -/
def rdNotInR : RD := fun x y S Q => ∃ ds, S.lst y = some ds ∧ x.eqb = true ∧ (Da.l ds).eqb = true ∧ Q (.b (!(pys ds).any fun z => PyData.eqv z x.py)) S
theorem lNotInR {K : PySem.W.Frag} {c : Cq} : OpL K c (rNotInD K) rdNotInR := fun σ H S x y dx dy Qd Q r rx ry h p => by
  obtain ⟨ds, hl, h1, h2, h⟩ := h
  obtain ⟨q, vs, rfl, g1, g2⟩ := lst_ok r ry hl
  have hp := (eqb_shaped h2).2
  have hs := (eqb_shaped h2).1
  rw [Da.py] at hs
  exact ⟨_, _, (rx.pure (eqb_no h1)).dp (eqb_shaped h1).2, .lst (SqL.of g1) (RpA.dp (by simpa [Da.pl] using hp) g2), (eqb_shaped h1).1, hs, p _ _ h _ _ r .refl (.inl (.b _))⟩
end VL
set_option Elab.async false
set_option linter.all false
set_option maxRecDepth 100000
set_option maxHeartbeats 1000000
namespace VL
open PySem PySem.Spec PyProof.Rows L2
/-! ### f-strings -/
section
variable {X : Cx} {c : Cq} {e : Expr} {es : List Expr} {we : WE} {pos : Pos}
def wFmt (we : WE) : WE := fun S Q => we S fun d S' => match d with
  | .s z => z.length ≤ sizeLine ∧ Q (.s z) S'
  | .i k => k.natAbs.log2 < 1920 ∧ Q (.s (Str.ofString (toString k))) S'
  | _ => False
theorem v_fmt (he : PE X e (lE X.K c we)) : PE X (.FormattedValue e (-1) none pos) (lE X.K c (wFmt we)) := pe_imp (pe_fmt he) fun σ H Q h => by
  obtain ⟨S, Qd, r, h, p⟩ := h
  refine ⟨S, _, r, h, fun d S1 h1 H1 v r1 k1 p1 => ?_⟩
  cases d <;> try exact h1.elim
  · exact .inr ⟨_, rs_i p1, h1.1, p _ _ h1.2 _ _ r1 k1 (.inl (.s _))⟩
  · exact .inl ⟨_, rs_s p1, h1.1, p _ _ h1.2 _ _ r1 k1 (.inl (.s _))⟩
inductive PJV (X : Cx) (c : Cq) : List Expr → List WE → Prop where
  | nil : PJV X c [] []
  | cons {e : Expr} {t : WE} {es : List Expr} {ts : List WE} (h : PE X e (lE X.K c t)) (r : PJV X c es ts) : PJV X c (e :: es) (t :: ts)
theorem PJV.pj {ts : List WE} (h : PJV X c es ts) : PJ X es (ts.map (lE X.K c)) := by
  induction h with
  | nil => exact .nil
  | cons h r ih => exact .cons h ih
def wJs : List WE → Str → WE
  | [], acc => fun S Q => Q (.s acc) S
  | w :: ws, acc => fun S Q => w S fun d S1 => ∃ y, d = .s y ∧ (acc ++ y).length ≤ sizeLine ∧ wJs ws (acc ++ y) S1 Q
theorem ljs {K : PySem.W.Frag} : ∀ (ws : List WE) (acc : Str) (σ : L2.St) (H : Hp) (S : Sx) (Qd : Da → Sx → Prop) (Q : VK), Rel K c S σ H → wJs ws acc S Qd → Pst K c S σ H Qd Q → tJs (ws.map (lE K c)) acc σ H fun out H1 => Q (.str out) H1
  | [], acc, σ, H, S, Qd, Q, r, h, p => p _ _ h _ _ r .refl (.inl (.s _))
  | w :: ws, acc, σ, H, S, Qd, Q, r, h, p => ⟨S, _, r, h, fun d S1 h1 H1 v r1 k1 p1 => by
    obtain ⟨y, rfl, hz, h2⟩ := h1
    exact ⟨y, rs_s p1, hz, ljs ws _ _ _ _ _ _ r1 h2 (p.at k1)⟩⟩
theorem v_joined {v1 v2 : Expr} {rest : List Expr} {ws : List WE} (h : PJV X c (v1 :: v2 :: rest) ws) : PE X (.JoinedStr (v1 :: v2 :: rest) pos) (lE X.K c (wJs ws Str.empty)) := pe_imp (pe_joined h.pj) fun σ H Q h => by
  obtain ⟨S, Qd, r, h, p⟩ := h
  exact ljs ws _ _ _ _ _ _ r h p
theorem v_joined1 (he : PE X e (lE X.K c we)) : PE X (.JoinedStr [e] pos) (lE X.K c we) := pe_joined1 he
end
/-! ### with a format -/
def spcs (n : Nat) : Str := ⟨(List.replicate n 32).toArray⟩
def padR (x : Str) (n : Nat) : Str := x ++ spcs (n - x.length)
def padI (k : Int) (n : Nat) : Str := spcs (n - (Str.ofString (toString k)).length) ++ Str.ofString (toString k)
open Builtin Builtin.Str Builtin.Int Builtin.Float in
theorem padR_eq (x : Str) (n : Nat) : padded x 0 (n - x.length) 32 = padR x n := by
  show (⟨_⟩ : Str) = ⟨_⟩
  congr 1
  simp [spcs]
open Builtin Builtin.Str Builtin.Int Builtin.Float PySem.W in
theorem meets_fmt12 {x : Str} (hx : x.length ≤ 12) (t : Tok) : ∀ u, Meets («str.__format__» ⟨[.str x t, .str (Str.ofString "<12") u], []⟩) (fun _ R s => ∀ t' k, R (.ok (.ret (.str (padR x 12) t'))) { s with toks := k }) := by
  intro u
  apply KPc.meets_of
  intro prog w A s Q E hq
  unfold Builtin.«str.__format__»
  refine wpAny_bind (wpAny_of_eq (a := (_, _, _)) rfl ?_)
  refine wpAny_bind (wpAny_of_eq (a := some _) rfl ?_)
  kxf_if
  kxf_if
  refine wpAny_bind (KXf.cut_str ?_)
  have hp : parseFormatSpec (Str.ofString "<12").cps.toList "str" 60 = .ok { align := 60, width := some 12 } := by rfl
  rw [hp]
  lift_lets
  intro checked
  have hck : checked = (strField x { align := 60, width := some 12 } "str" >>= fun r => Except.ok (some r)) := rfl
  have e2 : strField x { align := 60, width := some 12 } "str" = .ok (if x.length = 12 then none else some (padR x 12)) := by
    unfold strField
    by_cases e : x.length = 12
    · rw [if_pos e]
      simp [e]
      rfl
    · have : ¬ (12 ≤ x.length) := by omega
      rw [if_neg e]
      simp [this]
      have h1 : strSub x 0 x.length = x := by
        show (⟨_⟩ : Str) = _
        have : x.cps.extract 0 x.length = x.cps := Array.extract_size
        rw [this]
      rw [h1]
      exact congrArg (fun y => Except.ok (some y)) (padR_eq x 12)
  rw [e2] at hck
  clear_value checked
  subst hck
  have hl : (padR x 12).length ≤ sizeLine := by
    show (_ ++ _ : Str).cps.size ≤ _
    rw [PySem.Str.cps_append, Array.size_append]
    have h3 : x.cps.size ≤ 12 := hx
    have : (spcs (12 - x.length)).cps.size = 12 - x.length := by simp [spcs]
    rw [this, sizeLine_eq]
    omega
  by_cases e : x.length = 12
  · rw [if_pos e]
    have h0 : padR x 12 = x := by
      unfold padR
      rw [e]
      show (⟨_⟩ : Str) = _
      have : (x.cps ++ (spcs 0).cps) = x.cps := by simp [spcs]
      exact congrArg Str.mk this
    refine wpAny_bind (wpAny_rule ?_)
    exact KXf.ret_same h0.symm hq
  · rw [if_neg e]
    exact KXf.ret_text rfl hl hq
open Builtin Builtin.Str Builtin.Int Builtin.Float PySem.W in
theorem meets_fmt3 {k : Int} (h0 : 0 ≤ k) (h1 : k < 11) (t : Tok) : ∀ u, Meets («int.__format__» ⟨[.int k t, .str (Str.ofString ">3") u], []⟩) (fun _ R s => ∀ t' tk, R (.ok (.ret (.str (padI k 3) t'))) { s with toks := tk }) := by
  have : k = 0 ∨ k = 1 ∨ k = 2 ∨ k = 3 ∨ k = 4 ∨ k = 5 ∨ k = 6 ∨ k = 7 ∨ k = 8 ∨ k = 9 ∨ k = 10 := by omega
  rcases this with rfl | rfl | rfl | rfl | rfl | rfl | rfl | rfl | rfl | rfl | rfl <;>
  (intro u
   apply KPc.meets_of
   intro _ _ _ _ _ _ hq
   unfold Builtin.«int.__format__»
   refine wpAny_bind (wpAny_of_eq (a := (_, _)) rfl ?_)
   refine wpAny_bind (wpAny_of_eq (a := _) rfl ?_)
   kxf_if
   refine wpAny_bind (wpAny_typeNameOf (T := "str") (typeIs_str _ _ _) (by decide) fun _ => ?_)
   refine wpAny_bind (wpAny_of_eq (a := some _) rfl ?_)
   kxf_if
   kxf_if
   refine wpAny_bind (wpAny_typeNameOfCut_int ?_)
   (repeat kxf_if)
   (try (refine wpAny_bind (wpAny_of_eq (overDigitLimit_small (by decide +kernel)) ?_); (repeat kxf_if)))
   refine KXf.ret_text (by first | rfl | decide +kernel) (by decide +kernel) hq)
section
variable {X : Cx} {c : Cq} {e sp : Expr} {we : WE} {te : TE} {pos p2 p3 : Pos}
theorem pe_fmt12 (he : PE X e te) (hs : PE X sp (tC (.str (Str.ofString "<12")))) : PE X (.FormattedValue e (-1) (some sp) pos) (fun σ H Q => te σ H fun x H1 => ∃ y, x = .str y ∧ y.length ≤ 12 ∧ Q (.str (padR y 12)) H1) := by
  refine ⟨fun pins s σ H Q I h => ?_⟩
  refine wpAny_FormattedValue_spec (thn (he.run pins s σ H _ I h) fun v s1 hv => ?_)
  obtain ⟨x, H1, I1, r1, y, rfl, hy, q⟩ := hv
  obtain ⟨t, rfl⟩ := r1
  refine thn (hs.run pins s1 σ H1 (fun x H2 => x = .str (Str.ofString "<12") ∧ Q (.str (padR y 12)) H2) I1 ⟨rfl, q⟩) fun v2 s2 hv2 => ?_
  obtain ⟨x2, H2, I2, r2, e2, q2⟩ := hv2
  subst e2
  obtain ⟨t2, rfl⟩ := r2
  exact ⟨_, _, rfl, PySem.W.KXf.field_str rfl rfl (by decide +kernel) (by decide +kernel) (meets_fmt12 hy t) fun t' k => ⟨.str _, H2, I2.tok _, ⟨_, rfl⟩, q2⟩⟩
theorem pe_fmt3 (he : PE X e te) (hs : PE X sp (tC (.str (Str.ofString ">3")))) : PE X (.FormattedValue e (-1) (some sp) pos) (fun σ H Q => te σ H fun x H1 => ∃ y, x = .int y ∧ 0 ≤ y ∧ y < 11 ∧ Q (.str (padI y 3)) H1) := by
  refine ⟨fun pins s σ H Q I h => ?_⟩
  refine wpAny_FormattedValue_spec (thn (he.run pins s σ H _ I h) fun v s1 hv => ?_)
  obtain ⟨x, H1, I1, r1, y, rfl, hy, hy2, q⟩ := hv
  obtain ⟨t, rfl⟩ := r1
  refine thn (hs.run pins s1 σ H1 (fun x H2 => x = .str (Str.ofString ">3") ∧ Q (.str (padI y 3)) H2) I1 ⟨rfl, q⟩) fun v2 s2 hv2 => ?_
  obtain ⟨x2, H2, I2, r2, e2, q2⟩ := hv2
  subst e2
  obtain ⟨t2, rfl⟩ := r2
  exact ⟨_, _, rfl, PySem.W.KXf.field_int rfl (by decide +kernel) (by decide +kernel) (meets_fmt3 hy hy2 t) fun t' k => ⟨.str _, H2, I2.tok _, ⟨_, rfl⟩, q2⟩⟩
def wFmt12 (we : WE) : WE := fun S Q => we S fun d S' => ∃ z, d = .s z ∧ z.length ≤ 12 ∧ Q (.s (padR z 12)) S'
def wFmt3 (we : WE) : WE := fun S Q => we S fun d S' => ∃ k, d = .i k ∧ 0 ≤ k ∧ k < 11 ∧ Q (.s (padI k 3)) S'
theorem v_fmt12 {j : Nat} (he : PE X e (lE X.K c we)) : PE X (.FormattedValue e (-1) (some (.JoinedStr [.Constant (.str (Str.ofString "<12")) j p2] p3)) pos) (lE X.K c (wFmt12 we)) := pe_imp (pe_fmt12 he (pe_joined1 pe_str)) fun σ H Q h => by
  obtain ⟨S, Qd, r, h, p⟩ := h
  refine ⟨S, _, r, h, fun d S1 h1 H1 v r1 k1 p1 => ?_⟩
  obtain ⟨z, rfl, hz, h2⟩ := h1
  exact ⟨z, rs_s p1, hz, p _ _ h2 _ _ r1 k1 (.inl (.s _))⟩
theorem v_fmt3 {j : Nat} (he : PE X e (lE X.K c we)) : PE X (.FormattedValue e (-1) (some (.JoinedStr [.Constant (.str (Str.ofString ">3")) j p2] p3)) pos) (lE X.K c (wFmt3 we)) := pe_imp (pe_fmt3 he (pe_joined1 pe_str)) fun σ H Q h => by
  obtain ⟨S, Qd, r, h, p⟩ := h
  refine ⟨S, _, r, h, fun d S1 h1 H1 v r1 k1 p1 => ?_⟩
  obtain ⟨z, rfl, h0, hz, h2⟩ := h1
  exact ⟨z, rs_i p1, h0, hz, p _ _ h2 _ _ r1 k1 (.inl (.s _))⟩
end
end VL
set_option Elab.async false
set_option linter.all false
set_option maxRecDepth 100000
set_option maxHeartbeats 1000000
namespace VL
open PySem PySem.Spec PyProof.Rows L2
section
variable {X : Cx} {c : Cq} {pos pos' : Pos} {e value o i : Expr} {we wa wb wv wd wk : WE}
/-! ### one reading or the other -/
def wEi (wa wb : WE) : WE := fun S Q => wa S Q ∨ wb S Q
theorem vEi (ha : PE X e (lE X.K c wa)) (hb : PE X e (lE X.K c wb)) : PE X e (lE X.K c (wEi wa wb)) := ⟨fun pins s σ H Q I h => by
  obtain ⟨S, Qd, r, h, p⟩ := h
  rcases h with h | h
  · exact ha.run pins s σ H Q I ⟨S, Qd, r, h, p⟩
  · exact hb.run pins s σ H Q I ⟨S, Qd, r, h, p⟩⟩
/-! ### xs[i] = v -/
def wPutL (wv wd wk : WE) : WS := fun D S => wv S fun v S1 => wd S1 fun x S2 => wk S2 fun y S3 => v.isO = false ∧ ∃ ds k j S4, S3.lst x = some ds ∧ y = .i k ∧ ixN ds.length k = some j ∧ S3.putL x (ds.set j v) = some S4 ∧ D.nx S4
theorem s_putL (hv : PE X value (lE X.K c wv)) (ho : PE X o (lE X.K c wd)) (hi : PE X i (lE X.K c wk)) (hs : swapsWithSole [.Subscript o i pos'] value pos.line X.env = pure false := by rfl) (hw : swappedStores [.Subscript o i pos'] value X.env = pure none := by rfl)
    (h1 : (assignEach [.Subscript o i pos'] X.env).map (·.2) = [assign (.Subscript o i pos') X.env] := by rfl) (ha : ∀ v, assign (.Subscript o i pos') X.env v = (do
      let ov ← holding [v] (eval o X.env)
      let iv ← holding [v, ov] (eval i X.env)
      standAt pos'
      holding [v, ov, iv] (setItem ov iv v)
      release [v, ov, iv] []) := by intro _; rfl) : PS X (.Assign [.Subscript o i pos'] value pos) (lS X.K c (wPutL wv wd wk)) := ps_imp (ps_asg hv (pg_sub ho hi set_list ha) hs hw h1) fun D σ H h => by
  obtain ⟨S, Dd, r, h, pst⟩ := h
  refine ⟨S, _, r, h, fun dv S1 h1 H1 v r1 k1 p1 => ⟨S1, _, r1, h1, fun dx S2 h2 H2 x r2 k2 p2 => ⟨S2, _, r2, h2, fun dy S3 h3 H3 y r3 k3 p3 => ?_⟩⟩⟩
  obtain ⟨vO, ds, k, j, S4, e1, rfl, hj, e2, h4⟩ := h3
  obtain ⟨q, vs, rfl, g1, g2⟩ := lst_ok r3 (p2.kp (kA k3)) e1
  obtain ⟨q', old, e', g3, g4⟩ := putL_ok r3 (p2.kp (kA k3)) e2
  cases e'
  rw [g1] at g3
  cases g3
  obtain ⟨r4, k4⟩ := g4 _ (g2.set (j := j) ((p1.pure vO).kp (kA (k2.trans k3))))
  exact ⟨q, vs, k, j, rfl, rs_i p3, g1, by rw [g2.length]; exact hj, pst.nx _ h4 _ _ r4 (((k1.trans k2).trans k3).trans k4)⟩
end
end VL
set_option Elab.async false
set_option linter.all false
set_option maxRecDepth 100000
set_option maxHeartbeats 1000000
namespace VL
open PySem PySem.Spec PyProof.Rows L2
/-! ### dicts with nested keys: by values -/
section
variable {X : Cx} {pins : List (Addr × Obj)} {σ : L2.St} {H : Hp} {s : Shared} {A : Addr → Prop}
mutual
theorem nest_is (I : Inv X pins σ H s) : ∀ {v : V} {d : Da} {u : Value}, Rp X.K A H v d → d.nkB = true → RelV v u → NestedIs s.heap d.nk u
  | _, _, u, .n, _, r => by cases (show u = Value.none from r); exact .none
  | _, _, u, .b x, _, r => by cases (show u = Value.bool x from r); rw [Da.nk]; exact .bool rfl
  | _, _, u, .i k, _, r => by obtain ⟨t, e⟩ := (show ∃ t, u = Value.int k t from r); subst e; rw [Da.nk]; exact .int k t
  | _, _, u, .s z, _, r => by obtain ⟨t, e⟩ := (show ∃ t, u = Value.str z t from r); subst e; rw [Da.nk]; exact .text z t
  | _, _, _, .r a, h, _ => by cases h
  | _, _, _, .ty _, h, _ => by cases h
  | _, _, _, .sc _, h, _ => by cases h
  | _, _, u, .t (a := a) (ds := ds) hq ha, h, r => by
    cases (show u = Value.ref a from r)
    obtain ⟨its, rv, ht, hz⟩ := I.tuple hq
    obtain ⟨o, h1, h2, n, h3⟩ := ht
    rw [Da.nkB] at h
    rw [Da.nk]
    exact .tup h1 h2 h3 (by simpa using nest_all I ha h rv)
  | _, _, _, .l _ _ _, h, _ => by cases h
  | _, _, _, .dk _ _ _, h, _ => by cases h
  | _, _, _, .ins _ _ _, h, _ => by cases h
theorem nest_all (I : Inv X pins σ H s) : ∀ {vs : List V} {ds : List Da} {us : List Value}, RpA X.K A H vs ds → nkBs ds = true → Vals vs us → NestedAll s.heap (nks ds) us
  | _, _, _, .nil, _, .nil => .nil
  | _, _, _, .cons (d := d) (ds := ds) h a, hB, .cons r rr => by
    rw [nkBs, Bool.and_eq_true] at hB
    rw [nks]
    exact .cons (nest_is I h hB.1 r) (nest_all I a hB.2 rr)
end
end
/-- at b stands the key k -/
def NkOk (X : Cx) (H : Hp) (b : Addr) (k : NestedKey) : Prop := ∀ pins σ s, Inv X pins σ H s → (nestedKind X.prog X.w).is s.heap k b
theorem key8_parts {d : Da} (h : d.key8 = true) : d.nkB = true ∧ d.nk.depth ≤ 8 := by
  unfold Da.key8 at h
  rw [Bool.and_eq_true, Bool.and_eq_true] at h
  exact ⟨h.2.1, of_decide_eq_true h.2.2⟩
theorem nk_ok {X : Cx} {A : Addr → Prop} {H : Hp} {b : Addr} {d : Da} (r : Rp X.K A H (.ref b) d) (h : d.key8 = true) : NkOk X H b d.nk := fun pins σ s I =>
  ⟨nest_is I r (key8_parts h).1 (show RelV (.ref b) (.ref b) from rfl), (key8_parts h).2⟩
abbrev R3 (p : NestedKey × Addr × V) (q : NestedKey × Addr × Value) : Prop := p.1 = q.1 ∧ p.2.1 = q.2.1 ∧ RelV p.2.2 q.2.2
def valK (kas : List (NestedKey × Addr × V)) (k : NestedKey) : Option V := (kas.find? fun p => decide (p.1 = k)).map (·.2.2)
def putKN (kas : List (NestedKey × Addr × V)) (k : NestedKey) (b : Addr) (v : V) : List (NestedKey × Addr × V) :=
  if (valK kas k).isSome = true then kas.map (fun p => if p.1 = k then (p.1, p.2.1, v) else p) else kas ++ [(k, b, v)]
theorem valK_pos {p : NestedKey × Addr × V} {r : List (NestedKey × Addr × V)} {k : NestedKey} (e : p.1 = k) : valK (p :: r) k = some p.2.2 := by simp [valK, List.find?_cons, e]
theorem valK_neg {p : NestedKey × Addr × V} {r : List (NestedKey × Addr × V)} {k : NestedKey} (e : ¬ p.1 = k) : valK (p :: r) k = valK r k := by simp [valK, List.find?_cons, e]
theorem p3_val {kas : List (NestedKey × Addr × V)} {xs : List (NestedKey × Addr × Value)} (r : Paired R3 kas xs) (k : NestedKey) : RelO (valK kas k) ((atKey xs k).map (·.2)) := by
  induction r with
  | nil => exact True.intro
  | @cons p q ps qs h t ih =>
    obtain ⟨h1, _, h2⟩ := h
    by_cases e : p.1 = k
    · have e' : q.1 = k := h1.symm.trans e
      have b : atKey (q :: qs) k = some q.2 := by simp [atKey, List.find?_cons, e']
      rw [valK_pos e, b]; exact h2
    · have e' : ¬ q.1 = k := fun z => e (h1.trans z)
      have b : atKey (q :: qs) k = atKey qs k := by simp [atKey, List.find?_cons, e']
      rw [valK_neg e, b]; exact ih
theorem p3_repl {kas : List (NestedKey × Addr × V)} {xs : List (NestedKey × Addr × Value)} (r : Paired R3 kas xs) (k : NestedKey) {y : V} {u : Value} (ry : RelV y u) :
    Paired R3 (kas.map fun p => if p.1 = k then (p.1, p.2.1, y) else p) (xs.map (putAt k u)) := by
  induction r with
  | nil => exact .nil
  | @cons p q ps qs h t ih =>
    rw [List.map_cons, List.map_cons]
    refine .cons ?_ ih
    obtain ⟨h1, h2, h3⟩ := h
    unfold putAt
    by_cases e : p.1 = k
    · rw [if_pos e, if_pos (h1.symm.trans e)]; exact ⟨h1, h2, ry⟩
    · rw [if_neg e, if_neg (fun z => e (h1.trans z))]; exact ⟨h1, h2, h3⟩
theorem p3_put {kas : List (NestedKey × Addr × V)} {xs : List (NestedKey × Addr × Value)} (r : Paired R3 kas xs) (k : NestedKey) {b : Addr} {y : V} {u : Value} (ry : RelV y u) : Paired R3 (putKN kas k b y) (storedH xs k b u) := by
  have e : (valK kas k).isSome = (atKey xs k).isSome := by
    rw [(p3_val r k).isSome_eq, Option.isSome_map]
  unfold putKN storedH
  rw [e]
  by_cases q : (atKey xs k).isSome = true
  · rw [if_pos q, if_pos q]; exact p3_repl r k ry
  · rw [if_neg q, if_neg q]; exact Paired.snoc r ⟨rfl, rfl, ry⟩
theorem putKN_le (kas : List (NestedKey × Addr × V)) (k : NestedKey) (b : Addr) (v : V) : (putKN kas k b v).length ≤ kas.length + 1 := by
  unfold putKN
  split
  · rw [List.length_map]; omega
  · rw [List.length_append]; exact Nat.le_refl _
section
variable {X : Cx} {pins : List (Addr × Obj)} {σ : L2.St} {H : Hp} {s : Shared} {a b : Addr} {kas : List (NestedKey × Addr × V)} {k : NestedKey} {lk : Option Obj} {A : Around} {E : Value → Shared → Prop}
theorem dn_raw (I : Inv X pins σ H s) (e : H a = some (dnO X.prog X.w a lk kas)) : rawN X.prog X.w a kas s.heap := by
  have h := I.hok a _ e
  cases lk with
  | none => exact (show ObjOk X.prog X.w H s.heap a (.ext _) from h).1
  | some o => exact (show ObjOk X.prog X.w H s.heap a (.frz o (.ext _)) from h).2.1
theorem dn_at (I : Inv X pins σ H s) (e : H a = some (dnO X.prog X.w a lk kas)) (hk : ∀ p ∈ kas, NkOk X H p.2.1 p.1) :
    kas.length ≤ sizeLine ∧ (a == sysModules) = false ∧ ∃ xs, Paired R3 kas xs ∧ s.heap.DictOfH (nestedKind X.prog X.w) a xs := by
  obtain ⟨z, y, xs, r, o, es, ep, h1, h2, h3, h4, h5⟩ := dn_raw I e
  refine ⟨z, y, xs, r, o, es, ep, h1, h2, h3, h4, fun x hx => ?_, h5⟩
  have all : ∀ {l : List (NestedKey × Addr × V)} {m : List (NestedKey × Addr × Value)}, Paired R3 l m → (∀ p ∈ l, NkOk X H p.2.1 p.1) → ∀ x ∈ m, (nestedKind X.prog X.w).is s.heap x.1 x.2.1 := by
    intro l m q
    induction q with
    | nil => intro _ x hx; exact nomatch hx
    | @cons p q ps qs hq t ih =>
      intro hp x hx
      rcases List.mem_cons.mp hx with e | hx
      · subst e
        have := hp p (by simp) pins σ s I
        rw [← hq.1, ← hq.2.1]
        exact this
      · exact ih (fun p hp' => hp p (by simp [hp'])) x hx
  exact all r hk x hx
theorem ext_new {P : Program} {w : World} {H' : Hp} {h' : Heap} {kas : List (NestedKey × Addr × V)} (r : rawN P w a kas h') : ObjOk P w H' h' a (dnO P w a none kas) := by
  refine ⟨r, ?_, fun h1 h2 q k => ?_⟩
  · obtain ⟨_, _, _, _, o, _, _, h, _⟩ := r
    exact ⟨o, h⟩
  · obtain ⟨z, y, xs, r, o, es, ep, h, c⟩ := q
    exact ⟨z, y, xs, r, o, es, ep, k _ h, c⟩
theorem n_get {v : V} {Q : Value → Shared → Prop} (hu : A.units + 9 < cLine) (I : Inv X pins σ H s) (e : H a = some (dnO X.prog X.w a lk kas)) (hk : ∀ p ∈ kas, NkOk X H p.2.1 p.1) (kb : NkOk X H b k) (l : valK kas k = some v) (h : ∀ w' s', Inv X pins σ H s' → RelV v w' → Q w' s') :
    wpAny (model X.prog X.w) A (getItem (.ref a) (.ref b)) Q E s := by
  obtain ⟨z, hd, xs, rel, dd⟩ := dn_at I e hk
  obtain ⟨w', hw, rw'⟩ := RelO.some_of (v := v) (o := (atKey xs k).map (·.2)) (by rw [← l]; exact p3_val rel k)
  obtain ⟨p, hp, hp2⟩ := Option.map_eq_some_iff.mp hw
  refine wpAny_getItem_heap (knd := nestedKind X.prog X.w) (show A.units + 1 + 8 < cLine by omega) (kb pins σ s I) dd hp ?_
  rw [hp2]
  exact h w' _ (I.tok _) rw'
theorem n_in {Q : Value → Shared → Prop} (hu : A.units + 9 < cLine) (I : Inv X pins σ H s) (e : H a = some (dnO X.prog X.w a lk kas)) (hk : ∀ p ∈ kas, NkOk X H p.2.1 p.1) (kb : NkOk X H b k) (h : ∀ s', Inv X pins σ H s' → Q (.bool (valK kas k).isSome) s') :
    wpAny (model X.prog X.w) A (compareOp .In (.ref b) (.ref a)) Q E s := by
  obtain ⟨z, hd, xs, rel, dd⟩ := dn_at I e hk
  refine wpAny_in_heap (knd := nestedKind X.prog X.w) (show A.units + 1 + 8 < cLine by omega) (kb pins σ s I) hd dd ?_
  have q := (p3_val rel k).isSome_eq
  rw [Option.isSome_map] at q
  rw [← q]
  exact h _ (I.tok _)
theorem n_notIn {Q : Value → Shared → Prop} (hu : A.units + 9 < cLine) (I : Inv X pins σ H s) (e : H a = some (dnO X.prog X.w a lk kas)) (hk : ∀ p ∈ kas, NkOk X H p.2.1 p.1) (kb : NkOk X H b k) (h : ∀ s', Inv X pins σ H s' → Q (.bool (!(valK kas k).isSome)) s') :
    wpAny (model X.prog X.w) A (compareOp .NotIn (.ref b) (.ref a)) Q E s := by
  obtain ⟨z, hd, xs, rel, dd⟩ := dn_at I e hk
  refine notIn_keyed (knd := nestedKind X.prog X.w) (k := k) (show A.units + 1 + 8 < cLine by omega) (kb pins σ s I) hd ⟨xs, dd, rfl⟩ ?_
  rw [valueAt_pairsH, ← (p3_val rel k).isSome_eq]
  exact h _ (I.tok _)
theorem n_get2 {v : V} {r : Value} {Q : Value → Shared → Prop} (hu : A.units + 9 < cLine) (I : Inv X pins σ H s) (e : H a = some (dnO X.prog X.w a lk kas)) (hk : ∀ p ∈ kas, NkOk X H p.2.1 p.1) (kb : NkOk X H b k) (rd : RelV v r) (h : ∀ w' s', Inv X pins σ H s' → RelV ((valK kas k).getD v) w' → Q w' s') :
    wpAny (model X.prog X.w) A (call (.builtin "dict.get") [.ref a, .ref b, r]) Q E s := by
  obtain ⟨z, hd, xs, rel, dd⟩ := dn_at I e hk
  refine getOr_keyed (knd := nestedKind X.prog X.w) (k := k) (show A.units + 1 + 8 < cLine by omega) (kb pins σ s I) hd ⟨xs, dd, rfl⟩ (h _ _ (I.tok _) ?_)
  rw [valueAt_pairsH]
  exact (p3_val rel k).getD rd
theorem n_put {v : V} {r : Value} {Q : Unit → Shared → Prop} (hu : A.units + 9 < cLine) (I : Inv X pins σ H s) (e : H a = some (dnO X.prog X.w a none kas)) (hk : ∀ p ∈ kas, NkOk X H p.2.1 p.1) (kb : NkOk X H b k) (hz : kas.length < sizeLine) (rv : RelV v r)
    (h : ∀ s', Inv X pins σ (upd H a (dnO X.prog X.w a none (putKN kas k b v))) s' → Q () s') : wpAny (model X.prog X.w) A (setItem (.ref a) (.ref b) r) Q E s := by
  obtain ⟨z, hd, xs, rel, dd⟩ := dn_at I e hk
  have hz' : xs.length ≤ sizeLine := by rw [← Paired.length rel]; exact z
  have hl : (putKN kas k b v).length ≤ sizeLine := by have := putKN_le kas k b v; omega
  refine wpAny_setItem_heap (knd := nestedKind X.prog X.w) (hsz := hz') (show A.units + 1 + 8 < cLine by omega) (kb pins σ s I) dd fun h' dd' hs => h _ ?_
  obtain ⟨q, es, ep, hq, h2, h3, h4, _, h5⟩ := dd'
  exact d_write I (by rw [e]; exact True.intro) hs ⟨q, hq⟩ (ext_new ⟨hl, hd, _, p3_put rel k rv, q, es, ep, hq, h2, h3, h4, h5⟩)
theorem dn_typeIs (I : Inv X pins σ H s) (e : H a = some (dnO X.prog X.w a lk kas)) : s.TypeIs (.ref a) "dict" ∧ ∀ b, Value.ref a = .ref b → ∃ ob, s.heap.get? b = some ob ∧ ob.dict = none := by
  obtain ⟨z, y, xs, r, o, es, ep, h1, h2, h3, h4, h5⟩ := dn_raw I e
  exact ⟨⟨o, h1, h2.1⟩, fun b q => by cases q; exact ⟨o, h1, h2.2.1⟩⟩
end
end VL
set_option Elab.async false
set_option linter.all false
set_option maxRecDepth 100000
set_option maxHeartbeats 1000000
namespace VL
open PySem PySem.Spec PyProof.Rows L2
/-! ### dicts with nested keys: rules -/
section
variable {X : Cx} {o i e f value : Expr} {pos pos' apos cpos : Pos} {td ty tv tx : TE}
/-- the dict at a, its entries -/
structure DnAt (X : Cx) (H : Hp) (a : Addr) (lk : Option Obj) (kas : List (NestedKey × Addr × V)) : Prop where
  e : H a = some (dnO X.prog X.w a lk kas)
  k : ∀ p ∈ kas, NkOk X H p.2.1 p.1
def tNget (X : Cx) (td ty : TE) : TE := fun σ H Q => td σ H fun x H1 => ty σ H1 fun y H2 => ∃ a lk kas b k v, x = .ref a ∧ DnAt X H2 a lk kas ∧ y = .ref b ∧ NkOk X H2 b k ∧ valK kas k = some v ∧ Q v H2
def tNin (X : Cx) (neg : Bool) (ty td : TE) : TE := fun σ H Q => ty σ H fun y H1 => td σ H1 fun x H2 => ∃ a lk kas b k, x = .ref a ∧ DnAt X H2 a lk kas ∧ y = .ref b ∧ NkOk X H2 b k ∧ Q (.bl (if neg then !(valK kas k).isSome else (valK kas k).isSome)) H2
def sNput (X : Cx) (td ty tv : TE) : TS := fun D σ H => tv σ H fun v H1 => td σ H1 fun x H2 => ty σ H2 fun y H3 => ∃ a kas b k, x = .ref a ∧ DnAt X H3 a none kas ∧ y = .ref b ∧ NkOk X H3 b k ∧ kas.length < sizeLine ∧ D.nx σ (upd H3 a (dnO X.prog X.w a none (putKN kas k b v)))
def tNget2 (X : Cx) (td ty tx : TE) : TE := fun σ H Q => td σ H fun x H1 => ∃ a, x = .ref a ∧ (∃ lk kas, H1 a = some (dnO X.prog X.w a lk kas)) ∧ ty σ H1 fun y H2 => tx σ H2 fun z H3 => ∃ lk kas b k, DnAt X H3 a lk kas ∧ y = .ref b ∧ NkOk X H3 b k ∧ Q ((valK kas k).getD z) H3
def tDNewN (X : Cx) : TE := fun _ H Q => ∀ p, H p = none → Q (.ref p) (upd H p (dnO X.prog X.w p none []))
theorem pe_nget (hu : X.A.units + 9 < cLine) (ho : PE X o td) (hi : PE X i ty) (hs : NoSl i) : PE X (.Subscript o i pos) (tNget X td ty) := by
  refine ⟨fun pins s σ H Q I h => ?_⟩
  refine subD_of PySem.F.slot_dict_getitem.lookup hs (thn (ho.run pins s σ H _ I h) fun u s1 ⟨x, H1, I1, rx, q1⟩ => thn (hi.run pins s1 σ H1 _ I1 q1) fun iv s2 ⟨y, H2, I2, ry, a, lk, kas, b, k, v, ex, g, ey, kb, l, q2⟩ => ?_)
  subst ex
  subst ey
  obtain rfl : u = Value.ref a := rx
  obtain rfl : iv = Value.ref b := ry
  exact ⟨(dn_typeIs I2 g.e).1, n_get hu I2 g.e g.k kb l fun w' s3 I3 rw' => ⟨v, H2, I3, rw', q2⟩⟩
theorem pc_nin (hu : X.A.units + 9 < cLine) (hi : PE X i ty) (ho : PE X o td) : PC X .In i o (tNin X false ty td) := by
  refine ⟨fun pins s σ H Q I h => ?_⟩
  refine thn (hi.run pins s σ H _ I h) fun iv s1 ⟨y, H1, I1, ry, q1⟩ => thn (ho.run pins s1 σ H1 _ I1 q1) fun u s2 ⟨x, H2, I2, rx, a, lk, kas, b, k, ex, g, ey, kb, q2⟩ => ?_
  subst ex
  subst ey
  obtain rfl : u = Value.ref a := rx
  obtain rfl : iv = Value.ref b := ry
  exact n_in hu I2 g.e g.k kb fun s3 I3 => ⟨.bl _, H2, I3, rfl, q2⟩
theorem pc_nnin (hu : X.A.units + 9 < cLine) (hi : PE X i ty) (ho : PE X o td) : PC X .NotIn i o (tNin X true ty td) := by
  refine ⟨fun pins s σ H Q I h => ?_⟩
  refine thn (hi.run pins s σ H _ I h) fun iv s1 ⟨y, H1, I1, ry, q1⟩ => thn (ho.run pins s1 σ H1 _ I1 q1) fun u s2 ⟨x, H2, I2, rx, a, lk, kas, b, k, ex, g, ey, kb, q2⟩ => ?_
  subst ex
  subst ey
  obtain rfl : u = Value.ref a := rx
  obtain rfl : iv = Value.ref b := ry
  exact n_notIn hu I2 g.e g.k kb fun s3 I3 => ⟨.bl _, H2, I3, rfl, q2⟩
theorem ps_nput (hu : X.A.units + 9 < cLine) (ho : PE X o td) (hi : PE X i ty) (hv : PE X value tv) (hs : swapsWith value (some (.Subscript o i pos')) pos.line X.env = pure false) :
    PS X (.Assign [.Subscript o i pos'] value pos) (sNput X td ty tv) := by
  refine ⟨fun pins s σ H D I h => ?_⟩
  refine wpAny_Assign_Subscript (thn (hv.run pins s σ H _ I h) fun r s1 ⟨v, H1, I1, rv, q1⟩ => thn (ho.run pins s1 σ H1 _ I1 q1) fun u s2 ⟨x, H2, I2, rx, q2⟩ => thn (hi.run pins s2 σ H2 _ I2 q2) fun iv s3 ⟨y, H3, I3, ry, a, kas, b, k, ex, g, ey, kb, hz, q3⟩ => ?_) hs
  subst ex
  subst ey
  obtain rfl : u = Value.ref a := rx
  obtain rfl : iv = Value.ref b := ry
  exact n_put hu I3 g.e g.k kb hz rv fun s4 I4 => ⟨σ, _, I4, q3⟩
theorem pe_nget2 (hu : X.A.units + 9 < cLine) (ho : PE X o td) (he : PE X e ty) (hf : PE X f tx) (m : M2 X o "get" apos e f cpos) : PE X (.Call (.Attribute o "get" apos) [e, f] [] cpos) (tNget2 X td ty tx) := by
  refine ⟨fun pins s σ H Q I h => ?_⟩
  refine wpAny_Call_method m.base m.few m.line PySem.F.plainAttrs_dict PySem.F.slot_dict_get PySem.F.type_dict_get (thn (ho.run pins s σ H _ I h) fun u s1 ⟨x, H1, I1, rx, a, ex, ⟨lk0, kas0, g0⟩, q1⟩ => ?_)
  subst ex
  obtain rfl : u = Value.ref a := rx
  obtain ⟨t1, t2⟩ := dn_typeIs I1 g0
  refine ⟨t1, t2, ?_⟩
  rw [m.trees]
  refine Calls.callWith_builtin rfl (Calls.evalArgs_plain (Calls.spliced_cons (thn (he.run pins s1 σ H1 _ I1 q1) fun iv s2 ⟨y, H2, I2, ry, q2⟩ =>
    Calls.spliced_cons (thn (hf.run pins s2 σ H2 _ I2 q2) fun fv s3 ⟨z, H3, I3, rz, lk, kas, b, k, g, ey, kb, q3⟩ => Calls.spliced_nil ?_))))
  subst ey
  obtain rfl : iv = Value.ref b := ry
  exact n_get2 hu I3 g.e g.k kb rz fun w' s4 I4 rw' => ⟨_, H3, I4, rw', q3⟩
theorem dn_empty (P : Program) (w : World) (h : Heap) (hb : sysModules < h.objs.size) : rawN P w h.objs.size [] (h.push { cls := .type "dict", data := .dict #[] }) :=
  ⟨Nat.zero_le _, beq_eq_false_iff_ne.mpr (Ne.symm (Nat.ne_of_lt hb)), [], .nil, _, #[], 0, Heap.get?_push_size _ rfl, ⟨rfl, rfl, rfl⟩, rfl, rfl, List.nodup_nil⟩
theorem pe_dnewN : PE X (.Dict [] [] pos) (tDNewN X) := ⟨fun pins s σ H Q I h =>
  wpAny_Dict_empty ⟨.ref s.heap.objs.size, _, I.laid (a := s.heap.objs.size) (o := dnO X.prog X.w s.heap.objs.size none []) (t' := s.toks) (fun _ _ q => Heap.get?_push_of_some _ q) (Nat.le_refl _) (ext_new (dn_empty _ _ s.heap I.big)), rfl, h _ (I.hok.fresh (Nat.le_refl _))⟩⟩
end
/-! as data -/
def valN (kds : List (Da × Da)) (k : Da) : Option Da := (kds.find? fun kd => decide (kd.1.nk = k.nk)).map (·.2)
def putN (kds : List (Da × Da)) (k d : Da) : List (Da × Da) :=
  if (valN kds k).isSome = true then kds.map (fun kd => if kd.1.nk = k.nk then (kd.1, d) else kd) else kds ++ [(k, d)]
section
variable {K : PySem.W.Frag} {A : Addr → Prop} {H : Hp} {kas : List (NestedKey × Addr × V)} {kds : List (Da × Da)} {b : Addr} {v : V} {k d : Da}
theorem rpn_len (h : RpN K A H kas kds) : kas.length = kds.length := by
  induction h with
  | nil => rfl
  | cons _ _ _ _ ih => rw [List.length_cons, List.length_cons, ih]
theorem rpn_val (h : RpN K A H kas kds) (k : Da) : (valN kds k = none ∧ valK kas k.nk = none) ∨ ∃ d v, valN kds k = some d ∧ valK kas k.nk = some v ∧ Rp K A H v d := by
  induction h with
  | nil => exact .inl ⟨rfl, rfl⟩
  | @cons b v dk dv kas kds hk hb hv t ih =>
    by_cases e : dk.nk = k.nk
    · refine .inr ⟨dv, v, ?_, ?_, hv⟩
      · unfold valN
        rw [List.find?_cons_of_pos (by simpa using e)]
        rfl
      · exact valK_pos (p := (dk.nk, b, v)) e
    · have e1 : valN ((dk, dv) :: kds) k = valN kds k := by
        unfold valN
        rw [List.find?_cons_of_neg (by simpa using e)]
      rw [e1, valK_neg (p := (dk.nk, b, v)) e]
      exact ih
theorem rpn_map (hd : Rp K A H v d) (h : RpN K A H kas kds) : RpN K A H (kas.map fun p => if p.1 = k.nk then (p.1, p.2.1, v) else p) (kds.map fun kd => if kd.1.nk = k.nk then (kd.1, d) else kd) := by
  induction h with
  | nil => exact .nil
  | @cons b' v' dk dv kas kds hk hb hv t ih =>
    rw [List.map_cons, List.map_cons]
    by_cases e : dk.nk = k.nk
    · rw [if_pos e, if_pos e]
      exact .cons hk hb hd ih
    · rw [if_neg e, if_neg e]
      exact .cons hk hb hv ih
theorem rpn_snoc (hk : k.key8 = true) (hb : Rp K A H (.ref b) k) (hd : Rp K A H v d) (h : RpN K A H kas kds) : RpN K A H (kas ++ [(k.nk, b, v)]) (kds ++ [(k, d)]) := by
  induction h with
  | nil => exact .cons hk hb hd .nil
  | cons h1 h2 h3 _ ih => exact .cons h1 h2 h3 ih
theorem rpn_put (h : RpN K A H kas kds) (hk : k.key8 = true) (hb : Rp K A H (.ref b) k) (hd : Rp K A H v d) : RpN K A H (putKN kas k.nk b v) (putN kds k d) := by
  unfold putKN putN
  have e : (valK kas k.nk).isSome = (valN kds k).isSome := by
    rcases rpn_val h k with ⟨z1, z2⟩ | ⟨_, _, z1, z2, _⟩ <;> rw [z1, z2] <;> rfl
  rw [e]
  split
  · exact rpn_map hd h
  · exact rpn_snoc hk hb hd h
end
theorem rpn_ok {X : Cx} {A : Addr → Prop} {H : Hp} {kas : List (NestedKey × Addr × V)} {kds : List (Da × Da)} (h : RpN X.K A H kas kds) : ∀ p ∈ kas, NkOk X H p.2.1 p.1 := by
  induction h with
  | nil => intro p hp; exact nomatch hp
  | cons hk hb hv t ih =>
    intro p hp
    rcases List.mem_cons.mp hp with rfl | hp
    · exact nk_ok hb hk
    · exact ih p hp
theorem key8_ref {K : PySem.W.Frag} {A : Addr → Prop} {H : Hp} {σ : L2.St} {v : V} {d : Da} (h : d.key8 = true) (r : RpS K A σ H v d) : ∃ b, v = .ref b ∧ Rp K A H (.ref b) d := by
  have ht : d.isT = true := by unfold Da.key8 at h; rw [Bool.and_eq_true] at h; exact h.1
  cases d <;> try (cases ht; done)
  have r' := r.pure rfl
  cases r' with
  | t h1 h2 => exact ⟨_, rfl, .t h1 h2⟩
section
variable {X : Cx} {c : Cq} {S S' : Sx} {σ σ' : L2.St} {H H' : Hp} {p : Addr} {lk : Option Obj} {kds : List (Da × Da)}
theorem dn_ok (r : Rel X.K c S σ H) (e : S.M p = some (.dn X.prog X.w lk kds)) : ∃ kas, DnAt X H p lk kas ∧ RpN X.K (S.A c) H kas kds := by
  obtain ⟨kas, h, rk⟩ := r.mem p _ e
  exact ⟨kas, ⟨h, rpn_ok rk⟩, rk⟩
end
section
variable {X : Cx} {c : Cq} {pos pos' apos cpos : Pos} {o i a b e f value : Expr} {wa wb wv wd wk wz : WE}
def rdNget (P : Program) (w : World) : RD := fun x y S Q => ∃ p lk kds d, x = .r p ∧ S.M p = some (.dn P w lk kds) ∧ y.key8 = true ∧ valN kds y = some d ∧ Q d S
def rdNin (P : Program) (w : World) (neg : Bool) : RD := fun y x S Q => ∃ p lk kds, x = .r p ∧ S.M p = some (.dn P w lk kds) ∧ y.key8 = true ∧ Q (.b (if neg then !(valN kds y).isSome else (valN kds y).isSome)) S
def wPutN (P : Program) (w : World) (wv wd wk : WE) : WS := fun D S => wv S fun v S1 => wd S1 fun x S2 => wk S2 fun y S3 => v.isO = false ∧ ∃ p kds, x = .r p ∧ S3.M p = some (.dn P w none kds) ∧ y.key8 = true ∧ kds.length < sizeLine ∧ D.nx ⟨S3.ρ, updM S3.M p (.dn P w none (putN kds y v))⟩
def wNget2 (P : Program) (w : World) (wd wk wz : WE) : WE := fun S Q => wd S fun x S1 => ∃ p, x = .r p ∧ (∃ lk kds, S1.M p = some (.dn P w lk kds)) ∧ wk S1 fun y S2 => wz S2 fun z S3 => ∃ lk kds, S3.M p = some (.dn P w lk kds) ∧ y.key8 = true ∧ z.isO = false ∧ Q ((valN kds y).getD z) S3
def wDnewN (P : Program) (w : World) : WE := fun S Q => ∀ q, S.M q = none → Q (.r q) ⟨S.ρ, updM S.M q (.dn P w none [])⟩
theorem v_nget {P : Program} {w : World} (hP : X.prog = P) (hw : X.w = w) (hu : X.A.units + 9 < cLine) (ha : PE X a (lE X.K c wa)) (hb : PE X b (lE X.K c wb)) (hs : NoSl b) : PE X (.Subscript a b pos) (lE X.K c (wOp (rdNget P w) wa wb)) := by
  subst hP hw
  exact pe_imp (pe_nget hu ha hb hs) fun σ H Q h => by
    obtain ⟨S, Qd, r, h, p⟩ := h
    refine ⟨S, _, r, h, fun dx S1 h1 H1 x r1 k1 p1 => ⟨S1, _, r1, h1, fun dy S2 h2 H2 y r2 k2 p2 => ?_⟩⟩
    obtain ⟨q, lk, kds, d, rfl, eM, hk, hv, q2⟩ := h2
    obtain ⟨kas, g, rn⟩ := dn_ok r2 eM
    obtain ⟨bb, rfl, rb⟩ := key8_ref hk p2
    rcases rpn_val rn dy with ⟨z, _⟩ | ⟨d', v, g1, g2, g3⟩
    · rw [hv] at z; cases z
    · rw [hv] at g1
      cases g1
      exact ⟨q, lk, kas, bb, _, v, rs_r (p1.kp (kA k2)), g, rfl, nk_ok rb hk, g2, p _ _ q2 _ _ r2 (k1.trans k2) (.inl g3)⟩
theorem lnin {neg : Bool} (σ : L2.St) (H : Hp) (Q : VK) (h : lE X.K c (wOp (rdNin X.prog X.w neg) wa wb) σ H Q) : tNin X neg (lE X.K c wa) (lE X.K c wb) σ H Q := by
  obtain ⟨S, Qd, r, h, p⟩ := h
  refine ⟨S, _, r, h, fun dx S1 h1 H1 x r1 k1 p1 => ⟨S1, _, r1, h1, fun dy S2 h2 H2 y r2 k2 p2 => ?_⟩⟩
  obtain ⟨q, lk, kds, rfl, eM, hk, q2⟩ := h2
  obtain ⟨kas, g, rn⟩ := dn_ok r2 eM
  obtain ⟨bb, rfl, rb⟩ := key8_ref hk (p1.kp (kA k2))
  refine ⟨q, lk, kas, bb, _, rs_r p2, g, rfl, nk_ok rb hk, ?_⟩
  have e : (valK kas dx.nk).isSome = (valN kds dx).isSome := by
    rcases rpn_val rn dx with ⟨z1, z2⟩ | ⟨_, _, z1, z2, _⟩ <;> rw [z1, z2] <;> rfl
  rw [e]
  exact p _ _ q2 _ _ r2 (k1.trans k2) (.inl (.b _))
theorem v_nin {P : Program} {w : World} (hP : X.prog = P) (hw : X.w = w) (hu : X.A.units + 9 < cLine) (hm : behindInMarks .In b = false) (ha : PE X a (lE X.K c wa)) (hb : PE X b (lE X.K c wb)) : PE X (.Compare a [.In] [b] pos) (lE X.K c (wOp (rdNin P w false) wa wb)) := by
  subst hP hw
  exact pe_imp (pe_cmp (pc_nin hu ha hb) hm) lnin
theorem v_nnin {P : Program} {w : World} (hP : X.prog = P) (hw : X.w = w) (hu : X.A.units + 9 < cLine) (hm : behindInMarks .NotIn b = false) (ha : PE X a (lE X.K c wa)) (hb : PE X b (lE X.K c wb)) : PE X (.Compare a [.NotIn] [b] pos) (lE X.K c (wOp (rdNin P w true) wa wb)) := by
  subst hP hw
  exact pe_imp (pe_cmp (pc_nnin hu ha hb) hm) lnin
theorem s_putN {P : Program} {w : World} (hP : X.prog = P) (hw : X.w = w) (hu : X.A.units + 9 < cLine) (hv : PE X value (lE X.K c wv)) (ho : PE X o (lE X.K c wd)) (hi : PE X i (lE X.K c wk)) (hs : swapsWith value (some (.Subscript o i pos')) pos.line X.env = pure false := by rfl) :
    PS X (.Assign [.Subscript o i pos'] value pos) (lS X.K c (wPutN P w wv wd wk)) := by
  subst hP hw
  exact ps_imp (ps_nput hu ho hi hv hs) fun D σ H h => by
    obtain ⟨S, Dd, r, h, pst⟩ := h
    refine ⟨S, _, r, h, fun dv S1 h1 H1 v r1 k1 p1 => ⟨S1, _, r1, h1, fun dx S2 h2 H2 x r2 k2 p2 => ⟨S2, _, r2, h2, fun dy S3 h3 H3 y r3 k3 p3 => ?_⟩⟩⟩
    obtain ⟨vO, q, kds, rfl, eM, hk, hz, h4⟩ := h3
    obtain ⟨kas, g, rn⟩ := dn_ok r3 eM
    obtain ⟨bb, rfl, rb⟩ := key8_ref hk p3
    have p1' : Rp X.K (S3.A c) H3 v dv := (p1.pure vO).kp (kA (k2.trans k3))
    obtain ⟨r4, k4⟩ := r3.updM (m' := .dn X.prog X.w none (putN kds dy dv)) (o' := dnO X.prog X.w q none (putKN kas dy.nk bb v)) eM g.e trivial fun A kk => ⟨_, upd_same, rpn_put (rn.kp kk) hk (rb.kp kk) (p1'.kp kk)⟩
    exact ⟨q, kas, bb, _, rs_r (p2.kp (kA k3)), g, rfl, nk_ok rb hk, by rw [rpn_len rn]; exact hz, pst.nx _ h4 _ _ r4 (((k1.trans k2).trans k3).trans k4)⟩
theorem v_nget2 {P : Program} {w : World} (hP : X.prog = P) (hw : X.w = w) (hu : X.A.units + 9 < cLine) (ho : PE X o (lE X.K c wd)) (he : PE X e (lE X.K c wk)) (hf : PE X f (lE X.K c wz)) (m : M2 X o "get" apos e f cpos) : PE X (.Call (.Attribute o "get" apos) [e, f] [] cpos) (lE X.K c (wNget2 P w wd wk wz)) := by
  subst hP hw
  exact pe_imp (pe_nget2 hu ho he hf m) fun σ H Q h => by
    obtain ⟨S, Qd, r, h, p⟩ := h
    refine ⟨S, _, r, h, fun dx S1 h1 H1 x r1 k1 p1 => ?_⟩
    obtain ⟨q, rfl, ⟨lk0, kds0, eM0⟩, h1⟩ := h1
    obtain ⟨kas0, g0, _⟩ := dn_ok r1 eM0
    refine ⟨q, rs_r p1, ⟨lk0, kas0, g0.e⟩, S1, _, r1, h1, fun dy S2 h2 H2 y r2 k2 p2 => ⟨S2, _, r2, h2, fun dz S3 h3 H3 z r3 k3 p3 => ?_⟩⟩
    obtain ⟨lk, kds, eM, hk, zO, q3⟩ := h3
    obtain ⟨kas, g, rn⟩ := dn_ok r3 eM
    obtain ⟨bb, rfl, rb⟩ := key8_ref hk (p2.kp (kA k3))
    refine ⟨lk, kas, bb, _, g, rfl, nk_ok rb hk, p _ _ q3 _ _ r3 ((k1.trans k2).trans k3) (.inl ?_)⟩
    rcases rpn_val rn dy with ⟨z1, z2⟩ | ⟨d', v, g1, g2, g3⟩
    · rw [z1, z2]; exact p3.pure zO
    · rw [g1, g2]; exact g3
theorem v_dnewN {P : Program} {w : World} (hP : X.prog = P) (hw : X.w = w) : PE X (.Dict [] [] pos) (lE X.K c (wDnewN P w)) := by
  subst hP hw
  exact pe_imp pe_dnewN fun σ H Q h => by
    obtain ⟨S, Qd, r, h, p⟩ := h
    intro q nq
    obtain ⟨r2, k2⟩ := r.newM (o := dnO X.prog X.w q none []) (m := .dn X.prog X.w none []) nq fun A k => ⟨[], upd_same, .nil⟩
    exact p _ _ (h q (m_none r nq)) _ _ r2 k2 (.inl (.r q))
end
end VL
set_option Elab.async false
set_option linter.all false
set_option maxRecDepth 100000
set_option maxHeartbeats 1000000
namespace VL
open PySem PySem.Spec PyProof.Rows L2
/-! ### a range as a value -/
theorem cr_range1 {X : Cx} : CallR X (.type "range") (fun vs H Q => ∃ j, vs = [V.int j] ∧ ∀ p, H p = none → Q (.ref p) (upd H p (.rng 0 j))) := by
  intro pins s σ H vs us Q I r h
  obtain ⟨j, rfl, q⟩ := h
  obtain ⟨u1, rfl, rj⟩ := vals1 r
  obtain ⟨u, rfl⟩ := rj
  refine call_range_1 ⟨.ref s.heap.objs.size, upd H s.heap.objs.size (.rng 0 j), I.laid (t' := s.toks + 1 + 1) (fun b o e => Heap.get?_push_of_some _ e) (Nat.le_refl _) ?_, rfl, q _ (I.hok.fresh (Nat.le_refl _))⟩
  exact ⟨s.toks, u, s.toks + 1, Heap.get?_push_size _ rfl⟩
def rdRng : RU := fun d S Q => match d with
  | .i j => ∀ p, S.M p = none → Q (.r p) ⟨S.ρ, updM S.M p (.rg 0 j)⟩
  | _ => False
theorem lRng {K : PySem.W.Frag} {c : Cq} : Un1 K c (fun vs H Q => ∃ j, vs = [V.int j] ∧ ∀ p, H p = none → Q (.ref p) (upd H p (.rng 0 j))) rdRng := fun σ H S x d Qd Q r rx h p => by
  cases d <;> try exact h.elim
  rename_i j
  refine ⟨j, by rw [rs_i rx], fun q nq => ?_⟩
  obtain ⟨r2, k2⟩ := r.newM (o := .rng 0 j) (m := .rg 0 j) nq fun A k => upd_same
  exact p _ _ (h q (m_none r nq)) _ _ r2 k2 (.inl (.r q))
section
variable {X : Cx} {tg e : Expr} {te : TE}
theorem pi_rngO (he : PE X e te) : PI X tg e (fun σ H R => te σ H fun x H1 => ∃ a lo hi, x = .ref a ∧ H1 a = some (.rng lo hi) ∧ (-(2 ^ 62) ≤ lo ∧ lo < 2 ^ 62 ∧ -(2 ^ 62) ≤ hi ∧ hi < 2 ^ 62) ∧ R (Itr lo (hi - lo).toNat) H1) := by
  refine ⟨fun pins s σ H R I h => ?_⟩
  refine thn (he.run pins s σ H _ I h) fun v s1 ⟨x, H1, I1, r1, q1⟩ => ?_
  obtain ⟨a, lo, hi, e, ha, ⟨h1, h2, h3, h4⟩, q⟩ := q1
  subst e
  cases r1
  obtain ⟨t, u, v, ho⟩ := (show ObjOk X.prog X.w H1 s1.heap a (.rng lo hi) from I1.hok a _ ha)
  refine wpAny_pyIter_range (a := lo) (b := hi) (c := 1) (t := t) (u := u) (v := v) ho (small_one h1 h2 h3 h4) ?_
  refine ⟨s1.heap.objs.size, [s1.heap.objs.size], _, _, H1, rfl, I1.kept (t' := s1.toks) fun b o e => Heap.get?_push_of_some _ e, turn_range _ lo (hi - lo).toNat, ?_, fun b hb => ?_, q⟩
  · have e1 : lo + ((0 : Nat) : Int) * 1 = lo := by simp
    have e2 : (((hi - lo).toNat : Nat) : Int) - ((0 : Nat) : Int) = Builtin.Range.rangeSize lo hi 1 := by rw [rangeSize_one]; split <;> omega
    show IsRangeIter _ _ (lo + ((0 : Nat) : Int) * 1) ((((hi - lo).toNat : Nat) : Int) - ((0 : Nat) : Int)) 1
    rw [e1, e2]
    exact Heap.get?_push_size _ rfl
  · have e : b = s1.heap.objs.size := by simpa using hb
    subst e
    exact I1.fpOk (Nat.le_refl _) (I1.hok.fresh (Nat.le_refl _))
variable {c : Cq} {we : WE}
def wRngO (we : WE) : WI := fun S Q => we S fun d S' => ∃ p lo hi, d = .r p ∧ S'.M p = some (.rg lo hi) ∧ (-(2 ^ 62) ≤ lo ∧ lo < 2 ^ 62 ∧ -(2 ^ 62) ≤ hi ∧ hi < 2 ^ 62) ∧ Q (rngD lo (hi - lo).toNat) S'
theorem i_rngO (he : PE X e (lE X.K c we)) : PI X tg e (lWk X.K c (wRngO we)) := pi_imp (pi_rngO he) fun σ H R h => by
  obtain ⟨S, Qd, r, h, p⟩ := h
  refine ⟨S, _, r, h, fun d S1 h1 H1 v r1 k1 p1 => ?_⟩
  obtain ⟨q, lo, hi, rfl, eM, hb, h2⟩ := h1
  exact ⟨q, lo, hi, rs_r p1, r1.mem q _ eM, hb, p _ _ h2 _ _ r1 k1 it_rng⟩
end
/-! ### method calls with keywords -/
section
variable {X : Cx} {CX : CXT} {c : Cq} {k n : Nat} {f fa C : Addr} {fd : FuncData} {ps ks : List Str} {sp : Sp} {E : L2.St → XK} {m : Str} {p pos apos : Pos} {o e : Expr} {es : List Expr} {kws : List Keyword} {ta : TE} {t tk : TA} {we : WE} {wl wk : WA} {dc : DC} {Xs : Value → Option (List (Str × Da)) → Sx → Prop} {W : WX}
theorem run_kn {pins : List (Addr × Obj)} {σ : L2.St} {H : Hp} {s : Shared} {Q : VK} {us ws : List Value} {vs zs : List V} (F : FnOk X.prog X.w X.K X.mg X.base CX k f fd ps sp) (hr : Room k X.A) (hb : KBn X.K fd ps n ks (fun us ws => us ++ ws) (fun vs zs => vs ++ zs)) (hx : PassesAt CX X σ (E σ))
    (I : Inv X pins σ H s) (r : Vals vs us) (rz : Vals zs ws) (l1 : vs.length = n) (l2 : zs.length = ks.length) (h : sp (vs ++ zs) H Q (E σ)) : wpAny (model X.prog X.w) X.A (call (.ref f) us (ks.zip ws)) (EP X pins σ Q) X.xe s := by
  refine wpAny_call (codeAny_mono (F.run X.A X.stack s H ⟨us, ks.zip ws⟩ (us ++ ws) (vs ++ zs) Q (E σ) hr I.env0 (hb.to s us ws I.kIn (r.length.symm.trans l1) (rz.length.symm.trans l2)) (r.append rz) h) fun r s' hq => ?_)
  cases r with
  | error e => exact hx pins H s e s' I hq
  | ok fl =>
    cases fl with
    | ret u => exact I.after hq
    | next => exact False.elim hq
    | brk => exact False.elim hq
    | cont => exact False.elim hq
def tMethK (C : Addr) (m : Str) (n l : Nat) (sp : Sp) (E : L2.St → XK) (ta : TE) (t tk : TA) : TE := fun σ H Q => ta σ H fun x H1 => ∃ a dx fs, x = .ref a ∧ H1 a = some (.ins C dx fs) ∧ fs.lookup m = none ∧ t σ H1 fun vs H2 => tk σ H2 fun zs H3 => vs.length + 1 = n ∧ zs.length = l ∧ sp (x :: (vs ++ zs)) H3 Q (E σ)
theorem pe_methK {pl : Sem Bool} (he : PE X o ta) (cl : Cls X.K C) (hm : Meth X.K C m fa) (F : FnOk X.prog X.w X.K X.mg X.base CX k fa fd ps sp) (hr : Room k X.A) (hb : KBn X.K fd ps n ks (fun us ws => us ++ ws) (fun vs zs => vs ++ zs)) (hx : ∀ σ, PassesAt CX X σ (E σ)) (ha : PA X (e :: es) t)
    (hkw : PK X kws tk) (hall : (backToKw pos (keywordEach kws X.env)).all (·.1.isSome) = true := by rfl) (hks : (backToKw pos (keywordEach kws X.env)).filterMap (·.1) = ks := by rfl) (hst : starEach (e :: es) X.env = (false, eval e X.env) :: starEach es X.env := by rfl)
    (hpl : ((backTo pos (starEach (e :: es) X.env)).any (·.1) || (backToKw pos (keywordEach kws X.env)).any (·.1.isNone)) = false := by rfl)
    (ht : eval (.Call (.Attribute o m apos) (e :: es) kws pos) X.env = (do
      let ov ← eval o X.env
      standAt apos.atName
      let (f, first) ← holding [ov] (getMethod ov m pl)
      callWith pos f first (backTo pos (starEach (e :: es) X.env)) (backToKw pos (keywordEach kws X.env))) := by rfl) :
    PE X (.Call (.Attribute o m apos) (e :: es) kws pos) (tMethK C m n ks.length sp E ta t tk) := by
  refine ⟨fun pins s σ H Q I h => ?_⟩
  refine PySem.W.methodCall_KW (pl := pl) (thn (he.run pins s σ H _ I h) fun u s1 ⟨x, H1, I1, rx, a, dx, fs, ex, ea, l, q⟩ => ?_) ht
  subst ex
  obtain rfl : u = Value.ref a := rx
  refine getmeth_ok I1 ea cl hm l ?_
  refine PySem.W.callWith_KW (first := [.ref a]) (h₀ := X.base) I.ok.mod.kin hm.kp hall (thn (ha.run pos pins s1 σ H1 _ I1 q) fun us s2 ⟨vs, H2, I2, r, q2⟩ => ?_) hpl hst
  refine thn (hkw.run pos pins s2 σ H2 _ I2 q2) fun ws s3 ⟨zs, H3, I3, rz, l1, l2, q3⟩ => ⟨I3.kIn, ?_⟩
  rw [hks]
  exact run_kn (us := .ref a :: us) (vs := .ref a :: vs) F hr hb (hx σ) I3 (.cons rfl r) rz l1 l2 q3
theorem pe_methK0 {pl : Sem Bool} (he : PE X o ta) (cl : Cls X.K C) (hm : Meth X.K C m fa) (F : FnOk X.prog X.w X.K X.mg X.base CX k fa fd ps sp) (hr : Room k X.A) (hb : KBn X.K fd ps 1 ks (fun us ws => us ++ ws) (fun vs zs => vs ++ zs)) (hx : ∀ σ, PassesAt CX X σ (E σ))
    (hkw : PK X kws tk) (hall : (backToKw pos (keywordEach kws X.env)).all (·.1.isSome) = true := by rfl) (hks : (backToKw pos (keywordEach kws X.env)).filterMap (·.1) = ks := by rfl)
    (hpl : ((backTo pos (starEach [] X.env)).any (·.1) || (backToKw pos (keywordEach kws X.env)).any (·.1.isNone)) = false := by rfl)
    (ht : eval (.Call (.Attribute o m apos) [] kws pos) X.env = (do
      let ov ← eval o X.env
      standAt apos.atName
      let (f, first) ← holding [ov] (getMethod ov m pl)
      callWith pos f first (backTo pos (starEach [] X.env)) (backToKw pos (keywordEach kws X.env))) := by rfl) :
    PE X (.Call (.Attribute o m apos) [] kws pos) (tMethK C m 1 ks.length sp E ta tNil tk) := by
  refine ⟨fun pins s σ H Q I h => ?_⟩
  refine PySem.W.methodCall_KW (pl := pl) (thn (he.run pins s σ H _ I h) fun u s1 ⟨x, H1, I1, rx, a, dx, fs, ex, ea, l, q⟩ => ?_) ht
  subst ex
  obtain rfl : u = Value.ref a := rx
  refine getmeth_ok I1 ea cl hm l ?_
  refine PySem.W.callWith_KW0 (first := [.ref a]) (h₀ := X.base) I.ok.mod.kin hm.kp hall (thn (hkw.run pos pins s1 σ H1 _ I1 q) fun ws s3 ⟨zs, H3, I3, rz, l1, l2, q3⟩ => ⟨I3.kIn, ?_⟩) hpl
  rw [hks]
  exact run_kn (us := [.ref a]) (vs := [.ref a]) F hr hb (hx σ) I3 (.cons rfl .nil) rz l1 l2 q3
def wMethK (C : Addr) (m : Str) (n l : Nat) (dc : DC) (Xs : Value → Option (List (Str × Da)) → Sx → Prop) (we : WE) (wa wk : WA) : WE := fun S Q => we S fun x S1 => ∃ gs, isIns S1 C x gs ∧ gs.lookup m = none ∧
  wa S1 fun vs S2 => wk S2 fun zs S3 => vs.length + 1 = n ∧ zs.length = l ∧ dc (x :: (vs ++ zs)) S3.M (fun d M' => Q d ⟨S3.ρ, M'⟩) fun cls ofs M' => Xs cls ofs ⟨S3.ρ, M'⟩
theorem lmethK {K : PySem.W.Frag} {n l : Nat} (hX : XOk K c Xs W) : ∀ σ H Q, lE K c (wMethK C m n l dc Xs we wl wk) σ H Q → tMethK C m n l (spOf K dc) (fun σ cls d H' => W cls d σ H') (lE K c we) (lA K c wl) (lA K c wk) σ H Q := fun σ H Q h => by
  obtain ⟨S, Qd, r, h, p⟩ := h
  refine ⟨S, _, r, h, fun x S1 h1 H1 v r1 k1 p1 => ?_⟩
  obtain ⟨gs, hi, hl, h1⟩ := h1
  obtain ⟨a, dx, fs, rfl, ha, hf⟩ := ins_ok r1 p1 hi
  refine ⟨a, dx, fs, rfl, ha, rpf_none hf hl, S1, _, r1, h1, fun ds S2 h2 H2 vs r2 k2 p2 => ⟨S2, _, r2, h2, fun es S3 h3 H3 zs r3 k3 p3 => ?_⟩⟩
  obtain ⟨l1, l2, h3⟩ := h3
  exact ⟨by rw [p2.length]; exact l1, by rw [p3.length]; exact l2, sp_call r3 (.cons ((p1.pure (ins_pure hi)).kp (kA (k2.trans k3))) ((p2.kp (kA k3)).append p3)) h3 (p.at ((k1.trans k2).trans k3)) hX⟩
theorem v_methK {pl : Sem Bool} (F : FnOk X.prog X.w X.K X.mg X.base (L2.CX X.prog X.w) k fa fd ps (spOf X.K dc)) (hr : Room k X.A) (cl : Cls X.K C) (hm : Meth X.K C m fa) (hb : KBn X.K fd ps n ks (fun us ws => us ++ ws) (fun vs zs => vs ++ zs))
    (tk : Takes X W) (hX : XOk X.K c Xs W) (he : PE X o (lE X.K c we)) (ha : PA X (e :: es) (lA X.K c wl)) (hkw : PK X kws (lA X.K c wk)) (hall : (backToKw pos (keywordEach kws X.env)).all (·.1.isSome) = true := by rfl) (hks : (backToKw pos (keywordEach kws X.env)).filterMap (·.1) = ks := by rfl) (hst : starEach (e :: es) X.env = (false, eval e X.env) :: starEach es X.env := by rfl)
    (hpl : ((backTo pos (starEach (e :: es) X.env)).any (·.1) || (backToKw pos (keywordEach kws X.env)).any (·.1.isNone)) = false := by rfl)
    (ht : eval (.Call (.Attribute o m apos) (e :: es) kws pos) X.env = (do
      let ov ← eval o X.env
      standAt apos.atName
      let (f, first) ← holding [ov] (getMethod ov m pl)
      callWith pos f first (backTo pos (starEach (e :: es) X.env)) (backToKw pos (keywordEach kws X.env))) := by rfl) :
    PE X (.Call (.Attribute o m apos) (e :: es) kws pos) (lE X.K c (wMethK C m n ks.length dc Xs we wl wk)) := pe_imp (pe_methK he cl hm F hr hb (fun σ => passAt tk σ) ha hkw hall hks hst hpl ht) (lmethK hX)
theorem v_methK0 {pl : Sem Bool} (F : FnOk X.prog X.w X.K X.mg X.base (L2.CX X.prog X.w) k fa fd ps (spOf X.K dc)) (hr : Room k X.A) (cl : Cls X.K C) (hm : Meth X.K C m fa) (hb : KBn X.K fd ps 1 ks (fun us ws => us ++ ws) (fun vs zs => vs ++ zs))
    (tk : Takes X W) (hX : XOk X.K c Xs W) (he : PE X o (lE X.K c we)) (hkw : PK X kws (lA X.K c wk)) (hall : (backToKw pos (keywordEach kws X.env)).all (·.1.isSome) = true := by rfl) (hks : (backToKw pos (keywordEach kws X.env)).filterMap (·.1) = ks := by rfl)
    (hpl : ((backTo pos (starEach [] X.env)).any (·.1) || (backToKw pos (keywordEach kws X.env)).any (·.1.isNone)) = false := by rfl)
    (ht : eval (.Call (.Attribute o m apos) [] kws pos) X.env = (do
      let ov ← eval o X.env
      standAt apos.atName
      let (f, first) ← holding [ov] (getMethod ov m pl)
      callWith pos f first (backTo pos (starEach [] X.env)) (backToKw pos (keywordEach kws X.env))) := by rfl) :
    PE X (.Call (.Attribute o m apos) [] kws pos) (lE X.K c (wMethK C m 1 ks.length dc Xs we wNilA wk)) := pe_imp (pe_methK0 he cl hm F hr hb (fun σ => passAt tk σ) hkw hall hks hpl ht) fun σ H Q h => by
  obtain ⟨a1, a2, a3⟩ : tMethK C m 1 ks.length (spOf X.K dc) (fun σ cls d H' => W cls d σ H') (lE X.K c we) (lA X.K c wNilA) (lA X.K c wk) σ H Q := lmethK hX σ H Q h
  refine ⟨a1, a2, a3.1, a3.2.1, fun d S1 h1 H1 v r1 k1 p1 => ?_⟩
  obtain ⟨a, dx, fs, e1, e2, e3, S, Qd, r, h, p⟩ := a3.2.2 d S1 h1 H1 v r1 k1 p1
  exact ⟨a, dx, fs, e1, e2, e3, p _ _ h _ _ r .refl .nil⟩
end
end VL
set_option Elab.async false
set_option linter.all false
set_option maxRecDepth 100000
set_option maxHeartbeats 1000000
namespace VL
open PySem PySem.Spec PyProof.Rows L2
theorem hu9 {k : Nat} {A : Around} (hr : Room k A) : A.units + 9 < cLine := by have := hr.un; omega
/-- a method with keyword-only parameters that have defaults -/
structure MtdK (K : PySem.W.Frag) (C : Addr) (x qual : Str) (st : Stmt) (ps : List Str) (n : Nat) (ks : List Str) (kws : List (Str × V)) (f : Addr) (fd : FuncData) : Prop where
  F : L2.FunD K x qual (defArgs st) (defBody st) (defScope st) [] kws f fd
  b : ∃ ds, Vals (kws.map (·.2)) ds ∧ Binds K fd ps ds
  kb : KBn K fd ps n ks (fun us ws => us ++ ws) (fun vs zs => vs ++ zs)
  m : Meth K C x f
section
variable {X : Cx} {c : Cq} {k : Nat} {fa C : Addr} {fd : FuncData} {ps : List Str} {m : Str} {pos apos : Pos} {o e : Expr} {es : List Expr} {we : WE} {wl : WA} {dc : DC} {Xs : Value → Option (List (Str × Da)) → Sx → Prop} {W : WX} {dvs : List V} {dd : List Da}
theorem v_methE {pl : Sem Bool} (F : FnOk X.prog X.w X.K X.mg X.base (L2.CX X.prog X.w) k fa fd ps (spOf X.K dc)) (hr : Room k X.A) (cl : Cls X.K C) (hm : Meth X.K C m fa) (hb : ∃ ds, Vals dvs ds ∧ Binds X.K fd ps ds) (hdd : ∀ A H, RpA X.K A H dvs dd)
    (tk : Takes X W) (hX : XOk X.K c Xs W) (he : PE X o (lE X.K c we)) (ha : PA X (e :: es) (lA X.K c wl)) (hst : starEach (e :: es) X.env = (false, eval e X.env) :: starEach es X.env := by rfl) (hpl : (backTo pos (starEach es X.env)).any (·.1) = false := by rfl)
    (ht : eval (.Call (.Attribute o m apos) (e :: es) [] pos) X.env = (do
      let ov ← eval o X.env
      standAt apos.atName
      let (f, first) ← holding [ov] (getMethod ov m pl)
      callWith pos f first (backTo pos (starEach (e :: es) X.env)) (backToKw pos (keywordEach [] X.env))) := by rfl) :
    PE X (.Call (.Attribute o m apos) (e :: es) [] pos) (lE X.K c (wMeth C m dc dd Xs we wl)) := by
  obtain ⟨ds, r, b⟩ := hb
  exact v_methD F hr cl hm b r hdd tk hX he ha hst hpl ht
theorem v_methE0 {pl : Sem Bool} (F : FnOk X.prog X.w X.K X.mg X.base (L2.CX X.prog X.w) k fa fd ps (spOf X.K dc)) (hr : Room k X.A) (cl : Cls X.K C) (hm : Meth X.K C m fa) (hb : ∃ ds, Vals dvs ds ∧ Binds X.K fd ps ds) (hdd : ∀ A H, RpA X.K A H dvs dd)
    (tk : Takes X W) (hX : XOk X.K c Xs W) (he : PE X o (lE X.K c we))
    (ht : eval (.Call (.Attribute o m apos) [] [] pos) X.env = (do
      let ov ← eval o X.env
      standAt apos.atName
      let (f, first) ← holding [ov] (getMethod ov m pl)
      callWith pos f first (backTo pos (starEach [] X.env)) (backToKw pos (keywordEach [] X.env))) := by rfl) :
    PE X (.Call (.Attribute o m apos) [] [] pos) (lE X.K c (wMeth C m dc dd Xs we wNilA)) := by
  obtain ⟨ds, r, b⟩ := hb
  exact v_meth0 F hr cl hm b r hdd tk hX he ht
end
theorem rpa_bl {K : PySem.W.Frag} {x : Bool} (A : Addr → Prop) (H : Hp) : RpA K A H [V.bl x] [Da.b x] := .cons (.b x) .nil
end VL
set_option Elab.async false
set_option linter.all false
set_option maxRecDepth 100000
set_option maxHeartbeats 1000000
namespace VL
open PySem PySem.Spec PyProof.Rows L2 RZ
/-! ### zip of two tuples, of two lists that stand still -/
def zipD : List Da → List Da → List Da
  | d :: ds, e :: es => .t [d, e] :: zipD ds es
  | _, _ => []
theorem zipD_get : ∀ (ds es : List Da) (i : Nat) (x : Da), (zipD ds es)[i]? = some x → ∃ d e, ds[i]? = some d ∧ es[i]? = some e ∧ x = .t [d, e]
  | [], _, i, x, h => by simp [zipD] at h
  | d :: ds, [], i, x, h => by simp [zipD] at h
  | d :: ds, e :: es, 0, x, h => by
    rw [zipD] at h
    cases h
    exact ⟨d, e, rfl, rfl, rfl⟩
  | d :: ds, e :: es, i + 1, x, h => by
    rw [zipD, List.getElem?_cons_succ] at h
    exact zipD_get ds es i x h
theorem zipD_len : ∀ (ds es : List Da), (zipD ds es).length = min ds.length es.length
  | [], _ => by simp [zipD]
  | d :: ds, [] => by simp [zipD]
  | d :: ds, e :: es => by rw [zipD, List.length_cons, zipD_len ds es, List.length_cons, List.length_cons]; omega
def wZip (wa wb : WE) : WI := fun S Q => wa S fun d S1 => d.isO = false ∧ wb S1 fun e S2 => e.isO = false ∧ match d, e with
  | .t ds, .t es => Q (zipD ds es) S2
  | .l ds, .l es => Q (zipD ds es) S2
  | _, _ => False
section
variable {X : Cx} {c : Cq} {e e2 : Expr} {wa wb : WE} {p pos tpos : Pos} {elts : List Expr} {kk : Nat}
theorem i_zip (hg : Gl X "zip") (hm : X.mg "zip" = none) (ha : PE X e (lE X.K c wa)) (hb : PE X e2 (lE X.K c wb)) (hs : starEach [e, e2] X.env = (false, eval e X.env) :: starEach [e2] X.env := by rfl) (hs2 : starEach [e2] X.env = (false, eval e2 X.env) :: starEach [] X.env := by rfl) (hpl : (backTo pos (starEach [e2] X.env)).any (·.1) = false := by rfl) :
    PI X (.Tuple elts kk tpos) (.Call (.Name "zip" p) [e, e2] [] pos) (lWk X.K c (wZip wa wb)) := pi_imp (pi_zipA hg hm (pa_cons ha (pa_cons hb pa_nil hs2) hs) hs hpl) fun σ H R h => by
  obtain ⟨S, Qd, r, h, pst⟩ := h
  refine ⟨S, _, r, h, fun d S1 h1 H1 v r1 k1 p1 => ⟨S1, _, r1, h1.2, fun d2 S2 h2 H2 u r2 k2 p2 => ?_⟩⟩
  obtain ⟨e2O, h2⟩ := h2
  have p1' := (p1.pure h1.1).kp (kA k2)
  have p2' := p2.pure e2O
  cases d <;> cases d2 <;> try exact h2.elim
  · rename_i ds es
    cases p1' with
    | t g1 g2 =>
    cases p2' with
    | t g3 g4 =>
    refine ⟨_, _, _, _, rfl, .inr ⟨g1, g3, pst _ _ h2 _ _ r2 (k1.trans k2) fun H3 W3 k i => ?_⟩⟩
    have e1 := sqt_kp k g1
    have e3 := sqt_kp k g3
    refine ⟨fun x hx => ?_, fun hl => ⟨_, _, e1, e3, by rw [g2.length, g4.length]; rw [zipD_len] at hl; omega⟩⟩
    obtain ⟨d, e, hd, he, rfl⟩ := zipD_get _ _ _ _ hx
    obtain ⟨v, hv, rv⟩ := g2.get hd
    obtain ⟨w, hw, rw'⟩ := g4.get he
    refine ⟨⟨_, _, v, w, e1, e3, hv, hw⟩, fun x H4 hy => ?_⟩
    obtain ⟨T, x', y', rfl, nT, rfl, hx', hy'⟩ := hy
    have q1 := hx' _ e1
    have q2 := hy' _ e3
    rw [hv] at q1
    rw [hw] at q2
    cases q1
    cases q2
    exact ⟨same_upd nT, .t (.inl (.inl upd_same)) (.cons ((rv.kp k.or).kp (.same (same_upd nT))) (.cons ((rw'.kp k.or).kp (.same (same_upd nT))) .nil))⟩
  · rename_i ds es
    cases p1' with
    | l g1 n1 g2 =>
    cases p2' with
    | l g3 n3 g4 =>
    refine ⟨_, _, _, _, rfl, .inl ⟨SqL.of g1, SqL.of g3, pst _ _ h2 _ _ r2 (k1.trans k2) fun H3 W3 k i => ?_⟩⟩
    have e1 := SqL.of (K := X.K) (k.keep _ _ g1 (.inl fun z => n1 (.inr z)))
    have e3 := SqL.of (K := X.K) (k.keep _ _ g3 (.inl fun z => n3 (.inr z)))
    refine ⟨fun x hx => ?_, fun hl => ⟨_, _, e1, e3, by rw [g2.length, g4.length]; rw [zipD_len] at hl; omega⟩⟩
    obtain ⟨d, e, hd, he, rfl⟩ := zipD_get _ _ _ _ hx
    obtain ⟨v, hv, rv⟩ := g2.get hd
    obtain ⟨w, hw, rw'⟩ := g4.get he
    refine ⟨⟨_, _, v, w, e1, e3, hv, hw⟩, fun x H4 hy => ?_⟩
    obtain ⟨T, x', y', rfl, nT, rfl, hx', hy'⟩ := hy
    have q1 := hx' _ e1
    have q2 := hy' _ e3
    rw [hv] at q1
    rw [hw] at q2
    cases q1
    cases q2
    exact ⟨same_upd nT, .t (.inl (.inl upd_same)) (.cons ((rv.kp k.or).kp (.same (same_upd nT))) (.cons ((rw'.kp k.or).kp (.same (same_upd nT))) .nil))⟩
end
/-! ### targets inside each other -/
def WGx (wg : WG) : Prop := ∀ d S Q, wg d S Q → ∃ S1, Q S1
def WRx (wr : List Da → Sx → (Sx → Prop) → Prop) : Prop := ∀ ds S Q, wr ds S Q → ∃ S1, Q S1
theorem xN {i : Nat} : WGx (wgN i) := fun d S Q h => ⟨_, h⟩
theorem xNil : WRx wgNil := fun ds S Q h => by
  cases ds with
  | nil => exact ⟨_, h⟩
  | cons _ _ => exact h.elim
theorem xCons {wg : WG} {wr : List Da → Sx → (Sx → Prop) → Prop} (h1 : WGx wg) (h2 : WRx wr) : WRx (wgCons wg wr) := fun ds S Q h => by
  cases ds with
  | nil => exact h.elim
  | cons d ds =>
    obtain ⟨S1, h⟩ := h1 d S _ h
    exact h2 ds S1 Q h
theorem xT {wr : List Da → Sx → (Sx → Prop) → Prop} (h2 : WRx wr) : WGx (wgT wr) := fun d S Q h => by
  cases d <;> try exact h.elim
  exact h2 _ S Q h
theorem lenC {n : Nat} {wg : WG} {wr : List Da → Sx → (Sx → Prop) → Prop} (hx : WGx wg) (h : ∀ ds S Q, wr ds S Q → ds.length = n) : ∀ ds S Q, wgCons wg wr ds S Q → ds.length = n + 1 := fun ds S Q z => by
  cases ds with
  | nil => exact z.elim
  | cons d r =>
    obtain ⟨S1, z⟩ := hx d S _ z
    rw [List.length_cons, h r _ _ z]
end VL
set_option Elab.async false
set_option linter.all false
set_option maxRecDepth 100000
set_option maxHeartbeats 1000000
namespace VL
open PySem PySem.Spec PyProof.Rows L2
section
variable {X : Cx} {c : Cq} {e : Stmt} {wa wb : WS}
/-! ### a statement read one way or the other -/
def wEiS (wa wb : WS) : WS := fun D S => wa D S ∨ wb D S
theorem s_Ei (ha : PS X e (lS X.K c wa)) (hb : PS X e (lS X.K c wb)) : PS X e (lS X.K c (wEiS wa wb)) := ⟨fun pins s σ H D I h => by
  obtain ⟨S, Dd, r, h, p⟩ := h
  rcases h with h | h
  · exact ha.run pins s σ H D I ⟨S, Dd, r, h, p⟩
  · exact hb.run pins s σ H D I ⟨S, Dd, r, h, p⟩⟩
end
end VL
set_option Elab.async false
set_option linter.all false
set_option maxRecDepth 100000
set_option maxHeartbeats 1000000
namespace VL
open PySem PySem.Spec PyProof.Rows L2
/-! ### zip of two or three, each a tuple or a text -/
inductive Sr where
  | tup (a : Addr) | txt (x : Str)
def Sr.v : Sr → V
  | .tup a => .ref a
  | .txt x => .str x
def chV (x : Str) : List V := x.cps.toList.map fun c => V.str ⟨#[c]⟩
def Sr.at (K : PySem.W.Frag) (H : Hp) : Sr → List V → Prop
  | .tup a, xs => SqT K H a xs
  | .txt x, xs => xs = chV x
def Sr.st : Sr → Addr → Nat → Heap → Prop
  | .tup a, it, i, h => h.IsTupleIter it a i
  | .txt x, it, i, h => ∃ t, h.IsStrIter it (strIterType x) x t i
def Sr.lt (n : Nat) : Sr → Prop
  | .tup a => a < n
  | .txt _ => True
def Sr.fp : Sr → Addr → List Addr
  | .tup a, it => [it, a]
  | .txt _, it => [it]
theorem Sr.keep {r : Sr} {it : Addr} {i : Nat} {h h' : Heap} (st : r.st it i h) (k : ∀ o, h.get? it = some o → h'.get? it = some o) : r.st it i h' := by
  cases r with
  | tup a => obtain ⟨o, ho, x⟩ := st; exact ⟨o, k o ho, x⟩
  | txt x => obtain ⟨t, o, ho, x⟩ := st; exact ⟨t, o, k o ho, x⟩
theorem Sr.obj {r : Sr} {it : Addr} {i : Nat} {h : Heap} (st : r.st it i h) : ∃ o, h.get? it = some o ∧ ∀ v, o.data ≠ .cell v := by
  cases r with
  | tup a => obtain ⟨o, ho, _, d⟩ := st; exact ⟨o, ho, fun v q => by rw [d] at q; cases q⟩
  | txt x => obtain ⟨t, o, ho, _, d⟩ := st; exact ⟨o, ho, fun v q => by rw [d] at q; cases q⟩
section
variable {X : Cx} {pins : List (Addr × Obj)} {σ : L2.St} {H : Hp} {s : Shared}
theorem sr_draws (hc : X.calm = true) (I : L2.Inv X pins σ H s) {r : Sr} {it : Addr} {i : Nat} {xs : List V} (h : r.at X.K H xs) (st : r.st it i s.heap) (hl : r.lt it) : ∃ (n : Nat) (P : Nat → Value → Prop) (St : Nat → Heap → Prop),
    Draws X.prog X.w X.A.in1 it (r.fp it) n P St ∧ St i s.heap ∧ n = xs.length ∧ (∀ j u, P j u → ∃ x, xs[j]? = some x ∧ RelV x u) ∧ ∀ j h, St j h → r.st it j h := by
  cases r with
  | tup a =>
    obtain ⟨its, rv, p, hz⟩ := I.tuple h
    have hp : s.heap.IsTuple a its.toArray := p
    refine ⟨_, _, _, Draws.tuple (A := X.A.in1) (show X.A.in1.handled = none from I.ok.hd hc) it a (Nat.ne_of_lt hl) its.toArray, ⟨st, hp⟩, by rw [List.size_toArray]; exact rv.length.symm, fun j u hu => ?_, fun j h z => z.1⟩
    have hu' : its[j]? = some u := by simpa using hu
    have hj : j < xs.length := by
      rw [rv.length]
      exact (List.getElem?_eq_some_iff.mp hu').1
    obtain ⟨u', hu2, ru⟩ := rv.get (List.getElem?_eq_getElem hj)
    rw [hu'] at hu2
    cases hu2
    exact ⟨_, List.getElem?_eq_getElem hj, ru⟩
  | txt x =>
    obtain ⟨t, st⟩ := st
    have h' : xs = chV x := h
    subst h'
    refine ⟨_, _, _, Draws.text (A := X.A.in1) (show X.A.in1.handled = none from I.ok.hd hc) it x t, st, by unfold chV; simp, fun j u hu => ?_, fun j h z => ⟨t, z⟩⟩
    obtain ⟨c, k, h1, rfl⟩ := hu
    refine ⟨.str ⟨#[c]⟩, ?_, ⟨k, rfl⟩⟩
    unfold chV
    rw [List.getElem?_map, Array.getElem?_toList, h1]
    rfl
theorem sr_begins (I : L2.Inv X pins σ H s) {r : Sr} {xs : List V} {u : Value} (h : r.at X.K H xs) (rv : RelV r.v u) : ∃ (o : Obj) (Hb : Heap → Prop), Begins u o Hb ∧ Hb s.heap ∧ (∀ it (h' : Heap), h'.get? it = some o → r.st it 0 h') ∧ r.lt s.heap.objs.size := by
  cases r with
  | tup a =>
    obtain ⟨its, rv', p, hz⟩ := I.tuple h
    have hp : s.heap.IsTuple a its.toArray := p
    obtain ⟨o1, ho1, _⟩ := id hp
    cases rv
    exact ⟨_, _, begins_tuple a its.toArray, hp, fun it h' g => ⟨_, g, rfl, rfl⟩, Heap.lt_size ho1⟩
  | txt x =>
    obtain ⟨t, rfl⟩ := rv
    exact ⟨_, _, begins_text x t, trivial, fun it h' g => ⟨t, _, g, rfl, rfl⟩, trivial⟩
end
theorem ne_k {n k a : Nat} (h : a < n) : ¬ (n + k = a) := by omega
theorem ne_0 {n a : Nat} (h : a < n) : ¬ (n = a) := by omega
theorem in5 {n c m : Nat} (h : c = n + 4 ∨ c = n + 2 ∨ c = n + 3 ∨ c = n ∨ c = n + 1) (l : n + 4 < m) : c < m := by omega
theorem in6 {n c m : Nat} (h : c = n + 5 ∨ c = n + 3 ∨ c = n + 4 ∨ c = n ∨ c = n + 1 ∨ c = n + 2) (l : n + 5 < m) : c < m := by omega
theorem le5 {n c : Nat} (h : c = n + 4 ∨ c = n + 2 ∨ c = n + 3 ∨ c = n ∨ c = n + 1) : n ≤ c := by omega
theorem le6 {n c : Nat} (h : c = n + 5 ∨ c = n + 3 ∨ c = n + 4 ∨ c = n ∨ c = n + 1 ∨ c = n + 2) : n ≤ c := by omega
theorem sep2 {n : Nat} {r1 r2 : Sr} (h1 : r1.lt n) (h2 : r2.lt n) : ZipSep2 (n + 4) (n + 2) (n + 3) n (n + 1) (r1.fp n) (r2.fp (n + 1)) := by
  cases r1 <;> cases r2 <;> simp only [Sr.lt] at h1 h2 <;> constructor <;> simp [Sr.fp] <;> first | omega | exact ne_k h1 | exact ne_k h2 | exact ne_0 h1 | exact ne_0 h2
theorem sep3 {n : Nat} {r1 r2 r3 : Sr} (h1 : r1.lt n) (h2 : r2.lt n) (h3 : r3.lt n) : ZipSep3 (n + 5) (n + 3) (n + 4) n (n + 1) (n + 2) (r1.fp n) (r2.fp (n + 1)) (r3.fp (n + 2)) := by
  cases r1 <;> cases r2 <;> cases r3 <;> simp only [Sr.lt] at h1 h2 h3 <;> constructor <;> simp [Sr.fp] <;> first | omega | exact ne_k h1 | exact ne_k h2 | exact ne_k h3 | exact ne_0 h1 | exact ne_0 h2 | exact ne_0 h3
theorem Sr.lt_mono {r : Sr} {n m : Nat} (h : r.lt n) (l : n ≤ m) : r.lt m := by
  cases r with
  | tup a => exact Nat.lt_of_lt_of_le h l
  | txt x => trivial
/-- the items in new pairs -/
def ItS2 (K : PySem.W.Frag) (r1 r2 : Sr) (xs ys : List V) : It :=
  ⟨fun i H => r1.at K H xs ∧ r2.at K H ys ∧ i < min xs.length ys.length,
    fun i H v H' => ∃ T x y, v = .ref T ∧ H T = none ∧ H' = upd H T (.tup [x, y]) ∧ xs[i]? = some x ∧ ys[i]? = some y,
    fun i H => r1.at K H xs ∧ r2.at K H ys ∧ min xs.length ys.length ≤ i⟩
theorem turn_S2 {P : Program} {w : World} {K : PySem.W.Frag} {elts : List Expr} {kk : Nat} {tpos : Pos} {n : Nat} {r1 r2 : Sr} {xs ys : List V} (l1 : r1.lt n) (l2 : r2.lt n) :
    Turn P w K (.Tuple elts kk tpos) (ItS2 K r1 r2 xs ys) [n + 4, n + 2, n + 3, n, n + 1] (n + 4) (fun i h => IsZip h (n + 4) (n + 2) (n + 3) .none ∧ IsTupOf2 h (n + 2) (.ref n) (.ref (n + 1)) ∧ (∃ x y, IsTupOf2 h (n + 3) x y) ∧ r1.st n i h ∧ r2.st (n + 1) i h ∧ i ≤ min xs.length ys.length) where
  mem := by simp
  obj := fun i h st c hc => by
    obtain ⟨hz, hTI, ⟨x, y, hTO⟩, s1, s2, _⟩ := st
    have e' : c = n + 4 ∨ c = n + 2 ∨ c = n + 3 ∨ c = n ∨ c = n + 1 := by simpa using hc
    rcases e' with q | q | q | q | q
    · rw [q]; exact ⟨_, hz, fun v q => nomatch q⟩
    · rw [q]; exact ⟨_, hTI, fun v q => nomatch q⟩
    · rw [q]; exact ⟨_, hTO, fun v q => nomatch q⟩
    · rw [q]; exact Sr.obj s1
    · rw [q]; exact Sr.obj s2
  keep := fun i h h' st k => by
    obtain ⟨hz, hTI, ⟨x, y, hTO⟩, s1, s2, hi⟩ := st
    exact ⟨k (n + 4) (by simp) _ hz, k (n + 2) (by simp) _ hTI, ⟨x, y, k (n + 3) (by simp) _ hTO⟩, Sr.keep s1 fun o q => k n (by simp) o q, Sr.keep s2 fun o q => k (n + 1) (by simp) o q, hi⟩
  item := by
    intro X hP hw hK hc i pins s σ H E I hf st hg
    subst hP hw hK
    obtain ⟨hz, hTI, ⟨x0, y0, hTO⟩, s1, s2, hi⟩ := st
    obtain ⟨q1, q2, hlt⟩ := hg
    obtain ⟨n1, P1, St1, D1, t1, e1, p1, b1⟩ := sr_draws hc I q1 s1 l1
    obtain ⟨n2, P2, St2, D2, t2, e2, p2, b2⟩ := sr_draws hc I q2 s2 (Sr.lt_mono l2 (Nat.le_add_right n 1))
    have hzl : n + 4 < s.heap.objs.size := Heap.lt_size hz
    have S := sep2 l1 l2
    refine wpAny_pyNext_zipD2_item S D1 D2 hz hTI hTO t1 t2 (by omega) (by omega) fun u1 u2 h' tk g1 g2 z' TO' t1' t2' hT hsz hk => ?_
    obtain ⟨x, hx, ru1⟩ := p1 _ _ g1
    obtain ⟨y, hy, ru2⟩ := p2 _ _ g2
    refine ⟨_, rfl, wpAny_letOwnedTupleGo_zip (s := { s with heap := h', toks := tk }) z' fun h'' z'' sb => ?_⟩
    have hT2 : h''.get? s.heap.objs.size = some { cls := .type "tuple", data := .seq #[u1, u2] } := (sb.2 _ (Nat.ne_of_gt hzl)).trans hT
    have new : ObjOk X.prog X.w (upd H s.heap.objs.size (.tup [x, y])) h'' s.heap.objs.size (.tup [x, y]) :=
      ⟨by show 2 ≤ sizeLine; decide, [u1, u2], .cons ru1 (.cons ru2 .nil), ⟨_, hT2, rfl, _, rfl⟩⟩
    have I1 : L2.Inv X pins σ (upd H s.heap.objs.size (.tup [x, y])) { s with heap := h'', toks := tk } :=
      I.turnedNew (t' := tk) (ch := [n + 4, n + 2, n + 3, n, n + 1]) (fun c o hb q => (sb.2 c (fun q' => hb (by simp [q']))).trans (hk c o (fun q' => hb (by simp [q'])) (fun q' => hb (by simp [q'])) (fun q' => hb (by simp [q'])) (fun q' => hb (by simp [q'])) q)) hf (Nat.le_refl _) new
    refine ⟨.ref s.heap.objs.size, _, I1, rfl, ⟨_, x, y, rfl, I.hok.fresh (Nat.le_refl _), rfl, hx, hy⟩, ⟨z'', ?_, ⟨u1, u2, ?_⟩, ?_, ?_, by omega⟩, fun c hcm => ?_⟩
    · exact (sb.2 _ S.TIz).trans (hk _ _ S.TIz S.TITO S.TIi1 S.TIi2 hTI)
    · exact (sb.2 _ S.TOz).trans TO'
    · exact Sr.keep (b1 _ _ t1') fun o q => (sb.2 _ (Ne.symm S.zi1)).trans q
    · exact Sr.keep (b2 _ _ t2') fun o q => (sb.2 _ (Ne.symm S.zi2)).trans q
    · have hlt : c < s.heap.objs.size := by
        have e' : c = n + 4 ∨ c = n + 2 ∨ c = n + 3 ∨ c = n ∨ c = n + 1 := by simpa using hcm
        exact in5 e' hzl
      rw [upd_ne (Nat.ne_of_lt hlt)]
      exact (hf c hcm).1
  done := by
    intro X hP hw hK hc i pins s σ H E I hf st hg
    subst hP hw hK
    obtain ⟨hz, hTI, ⟨x0, y0, hTO⟩, s1, s2, hi⟩ := st
    obtain ⟨q1, q2, hle⟩ := hg
    obtain ⟨n1, P1, St1, D1, t1, e1, p1, b1⟩ := sr_draws hc I q1 s1 l1
    obtain ⟨n2, P2, St2, D2, t2, e2, p2, b2⟩ := sr_draws hc I q2 s2 (Sr.lt_mono l2 (Nat.le_add_right n 1))
    exact wpAny_pyNext_zipD2_end (sep2 l1 l2) D1 D2 hz hTI hTO t1 t2 (by omega) (by omega) (by omega) fun h' tk hk => ⟨rfl, I.turnedL (t' := tk) (ch := [n + 4, n + 2, n + 3, n, n + 1]) (fun c o hb q =>
      hk c o (fun q' => hb (by simp [q'])) (fun q' => hb (by simp [q'])) (fun q' => hb (by simp [q'])) (fun q' => hb (by simp [q'])) q) hf⟩
  self := fun A i s Q E st h => wpAny_pyIter_zip st.1 h
/-- the items in new triples -/
def ItS3 (K : PySem.W.Frag) (r1 r2 r3 : Sr) (xs ys zs : List V) : It :=
  ⟨fun i H => r1.at K H xs ∧ r2.at K H ys ∧ r3.at K H zs ∧ i < min (min xs.length ys.length) zs.length,
    fun i H v H' => ∃ T x y z, v = .ref T ∧ H T = none ∧ H' = upd H T (.tup [x, y, z]) ∧ xs[i]? = some x ∧ ys[i]? = some y ∧ zs[i]? = some z,
    fun i H => r1.at K H xs ∧ r2.at K H ys ∧ r3.at K H zs ∧ min (min xs.length ys.length) zs.length ≤ i⟩
theorem turn_S3 {P : Program} {w : World} {K : PySem.W.Frag} {elts : List Expr} {kk : Nat} {tpos : Pos} {n : Nat} {r1 r2 r3 : Sr} {xs ys zs : List V} (l1 : r1.lt n) (l2 : r2.lt n) (l3 : r3.lt n) :
    Turn P w K (.Tuple elts kk tpos) (ItS3 K r1 r2 r3 xs ys zs) [n + 5, n + 3, n + 4, n, n + 1, n + 2] (n + 5) (fun i h => IsZip h (n + 5) (n + 3) (n + 4) .none ∧ IsTupOf3 h (n + 3) (.ref n) (.ref (n + 1)) (.ref (n + 2)) ∧ (∃ x y z, IsTupOf3 h (n + 4) x y z) ∧ r1.st n i h ∧ r2.st (n + 1) i h ∧ r3.st (n + 2) i h ∧ i ≤ min (min xs.length ys.length) zs.length) where
  mem := by simp
  obj := fun i h st c hc => by
    obtain ⟨hz, hTI, ⟨x, y, z, hTO⟩, s1, s2, s3, _⟩ := st
    have e' : c = n + 5 ∨ c = n + 3 ∨ c = n + 4 ∨ c = n ∨ c = n + 1 ∨ c = n + 2 := by simpa using hc
    rcases e' with q | q | q | q | q | q
    · rw [q]; exact ⟨_, hz, fun v q => nomatch q⟩
    · rw [q]; exact ⟨_, hTI, fun v q => nomatch q⟩
    · rw [q]; exact ⟨_, hTO, fun v q => nomatch q⟩
    · rw [q]; exact Sr.obj s1
    · rw [q]; exact Sr.obj s2
    · rw [q]; exact Sr.obj s3
  keep := fun i h h' st k => by
    obtain ⟨hz, hTI, ⟨x, y, z, hTO⟩, s1, s2, s3, hi⟩ := st
    exact ⟨k (n + 5) (by simp) _ hz, k (n + 3) (by simp) _ hTI, ⟨x, y, z, k (n + 4) (by simp) _ hTO⟩, Sr.keep s1 fun o q => k n (by simp) o q, Sr.keep s2 fun o q => k (n + 1) (by simp) o q, Sr.keep s3 fun o q => k (n + 2) (by simp) o q, hi⟩
  item := by
    intro X hP hw hK hc i pins s σ H E I hf st hg
    subst hP hw hK
    obtain ⟨hz, hTI, ⟨x0, y0, z0, hTO⟩, s1, s2, s3, hi⟩ := st
    obtain ⟨q1, q2, q3, hlt⟩ := hg
    obtain ⟨n1, P1, St1, D1, t1, e1, p1, b1⟩ := sr_draws hc I q1 s1 l1
    obtain ⟨n2, P2, St2, D2, t2, e2, p2, b2⟩ := sr_draws hc I q2 s2 (Sr.lt_mono l2 (Nat.le_add_right n 1))
    obtain ⟨n3, P3, St3, D3, t3, e3, p3, b3⟩ := sr_draws hc I q3 s3 (Sr.lt_mono l3 (Nat.le_add_right n 2))
    have hzl : n + 5 < s.heap.objs.size := Heap.lt_size hz
    have S := sep3 l1 l2 l3
    refine wpAny_pyNext_zipD3_item S D1 D2 D3 hz hTI hTO t1 t2 t3 (by omega) (by omega) (by omega) fun u1 u2 u3 h' tk g1 g2 g3 z' TO' t1' t2' t3' hT hsz hk => ?_
    obtain ⟨x, hx, ru1⟩ := p1 _ _ g1
    obtain ⟨y, hy, ru2⟩ := p2 _ _ g2
    obtain ⟨z, hz3, ru3⟩ := p3 _ _ g3
    refine ⟨_, rfl, wpAny_letOwnedTupleGo_zip (s := { s with heap := h', toks := tk }) z' fun h'' z'' sb => ?_⟩
    have hT2 : h''.get? s.heap.objs.size = some { cls := .type "tuple", data := .seq #[u1, u2, u3] } := (sb.2 _ (Nat.ne_of_gt hzl)).trans hT
    have new : ObjOk X.prog X.w (upd H s.heap.objs.size (.tup [x, y, z])) h'' s.heap.objs.size (.tup [x, y, z]) :=
      ⟨by show 3 ≤ sizeLine; decide, [u1, u2, u3], .cons ru1 (.cons ru2 (.cons ru3 .nil)), ⟨_, hT2, rfl, _, rfl⟩⟩
    have I1 : L2.Inv X pins σ (upd H s.heap.objs.size (.tup [x, y, z])) { s with heap := h'', toks := tk } :=
      I.turnedNew (t' := tk) (ch := [n + 5, n + 3, n + 4, n, n + 1, n + 2]) (fun c o hb q => (sb.2 c (fun q' => hb (by simp [q']))).trans (hk c o (fun q' => hb (by simp [q'])) (fun q' => hb (by simp [q'])) (fun q' => hb (by simp [q'])) (fun q' => hb (by simp [q'])) (fun q' => hb (by simp [q'])) q)) hf (Nat.le_refl _) new
    refine ⟨.ref s.heap.objs.size, _, I1, rfl, ⟨_, x, y, z, rfl, I.hok.fresh (Nat.le_refl _), rfl, hx, hy, hz3⟩, ⟨z'', ?_, ⟨u1, u2, u3, ?_⟩, ?_, ?_, ?_, by omega⟩, fun c hcm => ?_⟩
    · exact (sb.2 _ S.TIz).trans (hk _ _ S.TIz S.TITO S.TIi1 S.TIi2 S.TIi3 hTI)
    · exact (sb.2 _ S.TOz).trans TO'
    · exact Sr.keep (b1 _ _ t1') fun o q => (sb.2 _ (Ne.symm S.zi1)).trans q
    · exact Sr.keep (b2 _ _ t2') fun o q => (sb.2 _ (Ne.symm S.zi2)).trans q
    · exact Sr.keep (b3 _ _ t3') fun o q => (sb.2 _ (Ne.symm S.zi3)).trans q
    · have hlt : c < s.heap.objs.size := by
        have e' : c = n + 5 ∨ c = n + 3 ∨ c = n + 4 ∨ c = n ∨ c = n + 1 ∨ c = n + 2 := by simpa using hcm
        exact in6 e' hzl
      rw [upd_ne (Nat.ne_of_lt hlt)]
      exact (hf c hcm).1
  done := by
    intro X hP hw hK hc i pins s σ H E I hf st hg
    subst hP hw hK
    obtain ⟨hz, hTI, ⟨x0, y0, z0, hTO⟩, s1, s2, s3, hi⟩ := st
    obtain ⟨q1, q2, q3, hle⟩ := hg
    obtain ⟨n1, P1, St1, D1, t1, e1, p1, b1⟩ := sr_draws hc I q1 s1 l1
    obtain ⟨n2, P2, St2, D2, t2, e2, p2, b2⟩ := sr_draws hc I q2 s2 (Sr.lt_mono l2 (Nat.le_add_right n 1))
    obtain ⟨n3, P3, St3, D3, t3, e3, p3, b3⟩ := sr_draws hc I q3 s3 (Sr.lt_mono l3 (Nat.le_add_right n 2))
    exact wpAny_pyNext_zipD3_end (sep3 l1 l2 l3) D1 D2 D3 hz hTI hTO t1 t2 t3 (by omega) (by omega) (by omega) (by omega) fun h' tk hk => ⟨rfl, I.turnedL (t' := tk) (ch := [n + 5, n + 3, n + 4, n, n + 1, n + 2]) (fun c o hb q =>
      hk c o (fun q' => hb (by simp [q'])) (fun q' => hb (by simp [q'])) (fun q' => hb (by simp [q'])) (fun q' => hb (by simp [q'])) (fun q' => hb (by simp [q'])) q) hf⟩
  self := fun A i s Q E st h => wpAny_pyIter_zip st.1 h
def iS2 (K : PySem.W.Frag) (ta : TA) : TI := fun σ H R => ta σ H fun vs H1 => ∃ r1 r2 xs ys, vs = [Sr.v r1, Sr.v r2] ∧ Sr.at K H1 r1 xs ∧ Sr.at K H1 r2 ys ∧ R (ItS2 K r1 r2 xs ys) H1
def iS3 (K : PySem.W.Frag) (ta : TA) : TI := fun σ H R => ta σ H fun vs H1 => ∃ r1 r2 r3 xs ys zs, vs = [Sr.v r1, Sr.v r2, Sr.v r3] ∧ Sr.at K H1 r1 xs ∧ Sr.at K H1 r2 ys ∧ Sr.at K H1 r3 zs ∧ R (ItS3 K r1 r2 r3 xs ys zs) H1
section
variable {X : Cx} {e e2 e3 : Expr} {ta : TA} {p pos tpos : Pos} {elts : List Expr} {kk : Nat}
theorem pi_S2 (hg : Gl X "zip") (hm : X.mg "zip" = none) (ha : PA X [e, e2] ta)
    (hs : starEach [e, e2] X.env = (false, eval e X.env) :: starEach [e2] X.env := by rfl) (hpl : (backTo pos (starEach [e2] X.env)).any (·.1) = false := by rfl) :
    PI X (.Tuple elts kk tpos) (.Call (.Name "zip" p) [e, e2] [] pos) (iS2 X.K ta) := by
  refine ⟨fun pins s σ H R I h => ?_⟩
  refine Call_ (ld_blt I hg hm PyProof.Rows.boot_zip (PyProof.Rows.callWith_type1 (thn (ha.run pos pins s σ H _ I h) fun us s1 ⟨vs, H1, I1, r1, q1⟩ => ?_) hs hpl))
  obtain ⟨a, b, xs, ys, ex, g1, g2, q⟩ := q1
  subst ex
  cases r1 with
  | cons r rr =>
  cases rr with
  | cons r' rr =>
  cases rr
  obtain ⟨o1, B1, k1, f1, st1, l1⟩ := sr_begins I1 g1 r
  obtain ⟨o2, B2, k2, f2, st2, l2⟩ := sr_begins I1 g2 r'
  refine zip_begins2 k1 k2 f1 f2 fun h' hz hTI hTO h1 h2 hsz hk => wpAny_pyIter_zip hz ?_
  have I2 : L2.Inv X pins σ H1 { s1 with heap := h' } := I1.kept (t' := s1.toks) hk
  refine ⟨s1.heap.objs.size + 4, [s1.heap.objs.size + 4, s1.heap.objs.size + 2, s1.heap.objs.size + 3, s1.heap.objs.size, s1.heap.objs.size + 1], _, _, H1, rfl, I2, turn_S2 l1 l2, ⟨hz, hTI, ⟨_, _, hTO⟩, st1 _ _ h1, st2 _ _ h2, Nat.zero_le _⟩, fun c hcm => ?_, q⟩
  have e' : c = s1.heap.objs.size + 4 ∨ c = s1.heap.objs.size + 2 ∨ c = s1.heap.objs.size + 3 ∨ c = s1.heap.objs.size ∨ c = s1.heap.objs.size + 1 := by simpa using hcm
  have hle : s1.heap.objs.size ≤ c := le5 e'
  exact I1.fpOk hle (I1.hok.fresh hle)
theorem pi_S3 (hg : Gl X "zip") (hm : X.mg "zip" = none) (ha : PA X [e, e2, e3] ta)
    (hs : starEach [e, e2, e3] X.env = (false, eval e X.env) :: starEach [e2, e3] X.env := by rfl) (hpl : (backTo pos (starEach [e2, e3] X.env)).any (·.1) = false := by rfl) :
    PI X (.Tuple elts kk tpos) (.Call (.Name "zip" p) [e, e2, e3] [] pos) (iS3 X.K ta) := by
  refine ⟨fun pins s σ H R I h => ?_⟩
  refine Call_ (ld_blt I hg hm PyProof.Rows.boot_zip (PyProof.Rows.callWith_type1 (thn (ha.run pos pins s σ H _ I h) fun us s1 ⟨vs, H1, I1, r1, q1⟩ => ?_) hs hpl))
  obtain ⟨a, b, d, xs, ys, zs, ex, g1, g2, g3, q⟩ := q1
  subst ex
  cases r1 with
  | cons r rr =>
  cases rr with
  | cons r' rr =>
  cases rr with
  | cons r'' rr =>
  cases rr
  obtain ⟨o1, B1, k1, f1, st1, l1⟩ := sr_begins I1 g1 r
  obtain ⟨o2, B2, k2, f2, st2, l2⟩ := sr_begins I1 g2 r'
  obtain ⟨o3, B3, k3, f3, st3, l3⟩ := sr_begins I1 g3 r''
  refine zip_begins3 k1 k2 k3 f1 f2 f3 fun h' hz hTI hTO h1 h2 h3 hsz hk => wpAny_pyIter_zip hz ?_
  have I2 : L2.Inv X pins σ H1 { s1 with heap := h' } := I1.kept (t' := s1.toks) hk
  refine ⟨s1.heap.objs.size + 5, [s1.heap.objs.size + 5, s1.heap.objs.size + 3, s1.heap.objs.size + 4, s1.heap.objs.size, s1.heap.objs.size + 1, s1.heap.objs.size + 2], _, _, H1, rfl, I2, turn_S3 l1 l2 l3, ⟨hz, hTI, ⟨_, _, _, hTO⟩, st1 _ _ h1, st2 _ _ h2, st3 _ _ h3, Nat.zero_le _⟩, fun c hcm => ?_, q⟩
  have e' : c = s1.heap.objs.size + 5 ∨ c = s1.heap.objs.size + 3 ∨ c = s1.heap.objs.size + 4 ∨ c = s1.heap.objs.size ∨ c = s1.heap.objs.size + 1 ∨ c = s1.heap.objs.size + 2 := by simpa using hcm
  have hle : s1.heap.objs.size ≤ c := le6 e'
  exact I1.fpOk hle (I1.hok.fresh hle)
end
/-! by data -/
def srD : Da → Option (List Da)
  | .t ds => some ds
  | .s z => some (chsD z)
  | _ => none
theorem rpa_chs {K : PySem.W.Frag} {A : Addr → Prop} {H : Hp} (z : Str) : RpA K A H (chV z) (chsD z) := by
  unfold chV chsD
  induction z.cps.toList with
  | nil => exact .nil
  | cons c r ih => exact .cons (.s _) ih
theorem srD_ok {K : PySem.W.Frag} {A : Addr → Prop} {H : Hp} {v : V} {d : Da} {ds : List Da} (h : Rp K A H v d) (e : srD d = some ds) : ∃ r xs, v = Sr.v r ∧ Sr.at K H r xs ∧ RpA K A H xs ds := by
  cases h <;> try cases e
  case s z => exact ⟨.txt z, chV z, rfl, rfl, rpa_chs z⟩
  case t a vs h1 h2 => exact ⟨.tup a, vs, rfl, h1, h2⟩
theorem sr_kp {K : PySem.W.Frag} {W W1 : Addr → Prop} {H H1 : Hp} {r : Sr} {xs : List V} (k : Kp W W1 H H1) (h : r.at K H xs) : r.at K H1 xs := by
  cases r with
  | tup a => exact sqt_kp k h
  | txt x => exact h
def zip3D : List Da → List Da → List Da → List Da
  | d :: ds, e :: es, f :: fs => .t [d, e, f] :: zip3D ds es fs
  | _, _, _ => []
theorem zip3D_get : ∀ (ds es fs : List Da) (i : Nat) (x : Da), (zip3D ds es fs)[i]? = some x → ∃ d e f, ds[i]? = some d ∧ es[i]? = some e ∧ fs[i]? = some f ∧ x = .t [d, e, f]
  | [], _, _, i, x, h => by simp [zip3D] at h
  | d :: ds, [], _, i, x, h => by simp [zip3D] at h
  | d :: ds, e :: es, [], i, x, h => by simp [zip3D] at h
  | d :: ds, e :: es, f :: fs, 0, x, h => by
    rw [zip3D] at h
    cases h
    exact ⟨d, e, f, rfl, rfl, rfl, rfl⟩
  | d :: ds, e :: es, f :: fs, i + 1, x, h => by
    rw [zip3D, List.getElem?_cons_succ] at h
    exact zip3D_get ds es fs i x h
theorem zip3D_len : ∀ (ds es fs : List Da), (zip3D ds es fs).length = min (min ds.length es.length) fs.length
  | [], _, _ => by simp [zip3D]
  | d :: ds, [], _ => by simp [zip3D]
  | d :: ds, e :: es, [] => by simp [zip3D]
  | d :: ds, e :: es, f :: fs => by rw [zip3D, List.length_cons, zip3D_len ds es fs, List.length_cons, List.length_cons, List.length_cons]; omega
def wZip2 (wa wb : WE) : WI := fun S Q => wa S fun d S1 => d.isO = false ∧ wb S1 fun e S2 => e.isO = false ∧ ∃ ds es, srD d = some ds ∧ srD e = some es ∧ Q (zipD ds es) S2
def wZip3 (wa wb wc : WE) : WI := fun S Q => wa S fun d S1 => d.isO = false ∧ wb S1 fun e S2 => e.isO = false ∧ wc S2 fun f S3 => f.isO = false ∧ ∃ ds es fs, srD d = some ds ∧ srD e = some es ∧ srD f = some fs ∧ Q (zip3D ds es fs) S3
section
variable {X : Cx} {c : Cq} {e e2 e3 : Expr} {wa wb wc : WE} {p pos tpos : Pos} {elts : List Expr} {kk : Nat}
theorem i_zip2 (hg : Gl X "zip") (hm : X.mg "zip" = none) (ha : PE X e (lE X.K c wa)) (hb : PE X e2 (lE X.K c wb)) (hs : starEach [e, e2] X.env = (false, eval e X.env) :: starEach [e2] X.env := by rfl) (hs2 : starEach [e2] X.env = (false, eval e2 X.env) :: starEach [] X.env := by rfl) (hpl : (backTo pos (starEach [e2] X.env)).any (·.1) = false := by rfl) :
    PI X (.Tuple elts kk tpos) (.Call (.Name "zip" p) [e, e2] [] pos) (lWk X.K c (wZip2 wa wb)) := pi_imp (pi_S2 hg hm (pa_cons ha (pa_cons hb pa_nil hs2) hs) hs hpl) fun σ H R h => by
  obtain ⟨S, Qd, r, h, pst⟩ := h
  refine ⟨S, _, r, h, fun d S1 h1 H1 v r1 k1 p1 => ⟨S1, _, r1, h1.2, fun d2 S2 h2 H2 u r2 k2 p2 => ?_⟩⟩
  obtain ⟨e2O, ds, es, q1, q2, h2⟩ := h2
  obtain ⟨s1, xs, rfl, a1, b1⟩ := srD_ok ((p1.pure h1.1).kp (kA k2)) q1
  obtain ⟨s2, ys, rfl, a2, b2⟩ := srD_ok (p2.pure e2O) q2
  refine ⟨s1, s2, xs, ys, rfl, a1, a2, pst _ _ h2 _ _ r2 (k1.trans k2) fun H3 W3 k i => ?_⟩
  have a1' := sr_kp k a1
  have a2' := sr_kp k a2
  have l1 := b1.length
  have l2 := b2.length
  refine ⟨fun x hx => ?_, fun hl => ⟨a1', a2', by rw [zipD_len] at hl; omega⟩⟩
  obtain ⟨d, e, hd, he, rfl⟩ := zipD_get _ _ _ _ hx
  obtain ⟨v, hv, rv⟩ := b1.get hd
  obtain ⟨w, hw, rw'⟩ := b2.get he
  have i1 := (List.getElem?_eq_some_iff.mp hv).1
  have i2 := (List.getElem?_eq_some_iff.mp hw).1
  refine ⟨⟨a1', a2', by omega⟩, fun x H4 hy => ?_⟩
  obtain ⟨T, x', y', rfl, nT, rfl, hx', hy'⟩ := hy
  rw [hv] at hx'
  rw [hw] at hy'
  cases hx'
  cases hy'
  exact ⟨same_upd nT, .t (.inl (.inl upd_same)) (.cons ((rv.kp k.or).kp (.same (same_upd nT))) (.cons ((rw'.kp k.or).kp (.same (same_upd nT))) .nil))⟩
theorem i_zip3 (hg : Gl X "zip") (hm : X.mg "zip" = none) (ha : PE X e (lE X.K c wa)) (hb : PE X e2 (lE X.K c wb)) (hc : PE X e3 (lE X.K c wc)) (hs : starEach [e, e2, e3] X.env = (false, eval e X.env) :: starEach [e2, e3] X.env := by rfl) (hs2 : starEach [e2, e3] X.env = (false, eval e2 X.env) :: starEach [e3] X.env := by rfl) (hs3 : starEach [e3] X.env = (false, eval e3 X.env) :: starEach [] X.env := by rfl) (hpl : (backTo pos (starEach [e2, e3] X.env)).any (·.1) = false := by rfl) :
    PI X (.Tuple elts kk tpos) (.Call (.Name "zip" p) [e, e2, e3] [] pos) (lWk X.K c (wZip3 wa wb wc)) := pi_imp (pi_S3 hg hm (pa_cons ha (pa_cons hb (pa_cons hc pa_nil hs3) hs2) hs) hs hpl) fun σ H R h => by
  obtain ⟨S, Qd, r, h, pst⟩ := h
  refine ⟨S, _, r, h, fun d S1 h1 H1 v r1 k1 p1 => ⟨S1, _, r1, h1.2, fun d2 S2 h2 H2 u r2 k2 p2 => ⟨S2, _, r2, h2.2, fun d3 S3 h3 H3 u3 r3 k3 p3 => ?_⟩⟩⟩
  obtain ⟨e3O, ds, es, fs, q1, q2, q3, h3⟩ := h3
  obtain ⟨s1, xs, rfl, a1, b1⟩ := srD_ok ((p1.pure h1.1).kp (kA (k2.trans k3))) q1
  obtain ⟨s2, ys, rfl, a2, b2⟩ := srD_ok ((p2.pure h2.1).kp (kA k3)) q2
  obtain ⟨s3, zs, rfl, a3, b3⟩ := srD_ok (p3.pure e3O) q3
  refine ⟨s1, s2, s3, xs, ys, zs, rfl, a1, a2, a3, pst _ _ h3 _ _ r3 ((k1.trans k2).trans k3) fun H4 W4 k i => ?_⟩
  have a1' := sr_kp k a1
  have a2' := sr_kp k a2
  have a3' := sr_kp k a3
  have l1 := b1.length
  have l2 := b2.length
  have l3 := b3.length
  refine ⟨fun x hx => ?_, fun hl => ⟨a1', a2', a3', by rw [zip3D_len] at hl; omega⟩⟩
  obtain ⟨d, e, f, hd, he, hf, rfl⟩ := zip3D_get _ _ _ _ _ hx
  obtain ⟨v, hv, rv⟩ := b1.get hd
  obtain ⟨w, hw, rw'⟩ := b2.get he
  obtain ⟨y, hy3, ry⟩ := b3.get hf
  have i1 := (List.getElem?_eq_some_iff.mp hv).1
  have i2 := (List.getElem?_eq_some_iff.mp hw).1
  have i3 := (List.getElem?_eq_some_iff.mp hy3).1
  refine ⟨⟨a1', a2', a3', by omega⟩, fun x H5 hy => ?_⟩
  obtain ⟨T, x', y', z', rfl, nT, rfl, hx', hy', hz'⟩ := hy
  rw [hv] at hx'
  rw [hw] at hy'
  rw [hy3] at hz'
  cases hx'
  cases hy'
  cases hz'
  have sm := Kp.same (W := fun a => c.A0 a ∨ W4 a) (same_upd (o := .tup [v, w, y]) nT)
  exact ⟨same_upd nT, .t (.inl (.inl upd_same)) (.cons ((rv.kp k.or).kp sm) (.cons ((rw'.kp k.or).kp sm) (.cons ((ry.kp k.or).kp sm) .nil)))⟩
end
end VL
set_option Elab.async false
set_option linter.all false
set_option maxRecDepth 100000
set_option maxHeartbeats 1000000
namespace VL
open PySem PySem.Spec PyProof.Rows L2
/-! ### isinstance(x, C), x an instance of C -/
structure IsC (K : PySem.W.Frag) (C : Addr) : Prop where
  cl : Cls K C
  ha : PySem.W.findIn K (.ref C) "__class__" = some (some (.builtin "object.__class__"))
  hn : PySem.W.specialIn K (.builtin "object.__class__") "__get__" = some (some (.builtin "getset_descriptor.__get__"))
  htk : PySem.W.takesIn K (.builtin "object.__class__") = some true
  hm : PySem.W.mroIn K C (.type "object") = some true
theorem kitS {K : PySem.W.Frag} {C : Addr} : PySem.W.kitOne K (.ref C) (.ref C) = some true := by
  unfold PySem.W.kitOne
  rw [if_pos (beq_self_eq_true _)]
def wIsC (C : Addr) (we : WE) : WE := fun S Q => we S fun d S' => (∃ gs, isIns S' C d gs) ∧ Q (.b true) S'
section
variable {X : Cx} {c : Cq} {pos p p2 : Pos} {e : Expr} {we : WE} {x : Str} {C : Addr}
theorem v_isC (I : IsC X.K C) (hg : Gl X "isinstance") (hm : X.mg "isinstance" = none) (hC : PE X (.Name x p2) (tC (.ref C))) (he : PE X e (lE X.K c we))
    (hs : starEach [e, .Name x p2] X.env = (false, eval e X.env) :: starEach [.Name x p2] X.env := by rfl) (hs2 : starEach [.Name x p2] X.env = (false, eval (.Name x p2) X.env) :: starEach [] X.env := by rfl) (hpl : (backTo pos (starEach [.Name x p2] X.env)).any (·.1) = false := by rfl)
    (hv : bootBuiltins "isinstance" = some (.builtin "isinstance") := by decide +kernel) : PE X (.Call (.Name "isinstance" p) [e, .Name x p2] [] pos) (lE X.K c (wIsC C we)) :=
  pe_imp (pe_callB call_isi hg hm hv (pa_cons he (pa_cons hC pa_nil hs2) hs) (by decide) (by decide) hs hpl) fun σ H Q h => by
  obtain ⟨S, Qd, r, h, q⟩ := h
  refine ⟨S, _, r, h, fun d S1 h1 H1 v r1 k1 p1 => ?_⟩
  obtain ⟨⟨gs, hi⟩, h2⟩ := h1
  obtain ⟨a, dx, fs, rfl, ha, hf⟩ := ins_ok r1 p1 hi
  exact ⟨_, _, _, _, _, rfl, .own C, .base (.ins ha I.cl I.ha I.hn I.htk I.hm), kitS, q _ _ h2 _ _ r1 k1 (.inl (.b _))⟩
end
end VL
set_option Elab.async false
set_option linter.all false
set_option maxRecDepth 100000
set_option maxHeartbeats 1000000
namespace VL
open PySem PySem.Spec PyProof.Rows L2
/-! ### dict comprehensions with nested keys -/
def NkAll (X : Cx) (H : Hp) (b : Addr) (k : NestedKey) : Prop := ∀ Y : Cx, Y.K = X.K → Y.prog = X.prog → Y.w = X.w → NkOk Y H b k
theorem nk_all {X : Cx} {A : Addr → Prop} {H : Hp} {b : Addr} {d : Da} (r : Rp X.K A H (.ref b) d) (h : d.key8 = true) : NkAll X H b d.nk := fun Y e _ _ => nk_ok (A := A) (by rw [e]; exact r) h
section
variable {X : Cx} {pins : List (Addr × Obj)} {σ : L2.St} {H : Hp} {s : Shared} {a b : Addr} {kas : List (NestedKey × Addr × V)} {k : NestedKey} {A : Around} {E : Value → Shared → Prop}
theorem n_dset {v : V} {r : Value} {Q : Unit → Shared → Prop} (hu : A.units + 9 < cLine) (I : Inv X pins σ H s) (e : H a = some (dnO X.prog X.w a none kas)) (hk : ∀ p ∈ kas, NkOk X H p.2.1 p.1) (kb : NkOk X H b k) (hz : kas.length < sizeLine) (rv : RelV v r)
    (h : ∀ s', Inv X pins σ (upd H a (dnO X.prog X.w a none (putKN kas k b v))) s' → Q () s') : wpAny (model X.prog X.w) A (dictSet a (.ref b) r) Q E s := by
  obtain ⟨z, hd, xs, rel, dd⟩ := dn_at I e hk
  have hz' : xs.length ≤ sizeLine := by rw [← Paired.length rel]; exact z
  have hl : (putKN kas k b v).length ≤ sizeLine := by have := putKN_le kas k b v; omega
  refine wpAny_dictSet_heap (knd := nestedKind X.prog X.w) (hsz := hz') (show A.units + 8 < cLine by omega) (kb pins σ s I) dd fun h' dd' hs => h _ ?_
  obtain ⟨q, es, ep, hq, h2, h3, h4, _, h5⟩ := dd'
  exact d_write I (by rw [e]; exact True.intro) hs ⟨q, hq⟩ (ext_new ⟨hl, hd, _, p3_put rel k rv, q, es, ep, hq, h2, h3, h4, h5⟩)
end
section
variable {X : Cx}
def tDcN (X : Cx) (wi : TI) (g : TG) (tt : TT) (tk tv : TE) (vs : List Nat) : TE := fun σ H Q => wi σ H fun J H1 => ∀ D, H1 D = none → ∃ Wm : Nat → Nat → Hp → Prop, (∃ m, Wm 0 m (upd H1 D (dnO X.prog X.w D none []))) ∧ ∀ i m H, Wm i m H →
  (J.stop i H ∧ Q (.ref D) H) ∨ (J.go i H ∧ ∃ Nx : Hp → Prop, (∀ H', Nx H' → ∃ m', m' < m ∧ Wm (i + 1) m' H') ∧ ∀ x H', J.yld i H x H' → g x (wipe σ vs) H' fun σ2 H2 => wipe σ2 vs = wipe σ vs ∧ tt σ2 H2 fun b H3 =>
    if b = true then tk σ2 H3 fun y H4 => tv σ2 H4 fun z H5 => ∃ kas b k, y = .ref b ∧ H5 D = some (dnO X.prog X.w D none kas) ∧ (∀ p ∈ kas, NkAll X H5 p.2.1 p.1) ∧ NkAll X H5 b k ∧ kas.length < sizeLine ∧ Nx (upd H5 D (dnO X.prog X.w D none (putKN kas k b z))) else Nx H3)
theorem dcN_core {pins : List (Addr × Obj)} {s : Shared} {σ : L2.St} {H : Hp} {Q : V → Hp → Prop} {use : Option (Value → Sem Unit)} {Qf : Value → Shared → Prop} {pos' : Pos} {ke ve tgt ite : Expr} {cs : List Expr} {scp : Scope} {own : List (Str × Nat)} {ps : Pos} {wi : TI} {g : TG} {tt : TT} {tk tv : TE} (hu : X.A.units + 9 < cLine) (hc : X.calm = true) (hN : X.N.Nodup) (hi : PI X tgt ite wi) (ok : BlkOk X.N X.env.scope scp own)
    (hg : ∀ (s : Shared) (H : Hp) (C : Addr) (cl : List (Str × Addr)) (fr : List Addr), PG (X.blk s H scp (compEnvC scp cl C X.env) fr) tgt g) (ht : ∀ (s : Shared) (H : Hp) (C : Addr) (cl : List (Str × Addr)) (fr : List Addr), PTs (X.blk s H scp (compEnvC scp cl C X.env) fr) cs tt)
    (hk : ∀ (s : Shared) (H : Hp) (C : Addr) (cl : List (Str × Addr)) (fr : List Addr), PE (X.blk s H scp (compEnvC scp cl C X.env) fr) ke tk)
    (he : ∀ (s : Shared) (H : Hp) (C : Addr) (cl : List (Str × Addr)) (fr : List Addr), PE (X.blk s H scp (compEnvC scp cl C X.env) fr) ve tv) (hs : ∀ x, foldedSetIterable ite X.env x = pure x) (I : Inv X pins σ H s) (h : tDcN X wi g tt tk tv (own.map (·.2)) σ H Q)
    (hRR : ∀ D C s' m H', Inv X pins σ H' s' → Q (.ref D) H' → s'.heap.Ns C m → FpOk X pins H' C → compPost (model X.prog X.w) X.A X.xe use Qf (.ref D) C (.ok .next) s') :
    wpAny (model X.prog X.w) X.A (comprehension (.DictComp ke ve [⟨tgt, ite, cs, 0⟩] scp ps) scp X.env pos' newDict false (eval ite X.env) use) Qf X.xe s := by
  have frees : ∀ y ∈ scp.names, y.2 = .free → ∃ c, X.env.cells.lookup y.1 = some c := fun y hy e => (ok.free y hy e).elim (fun z => I.ok.has _ (.inl z)) fun z => I.ok.has _ (.inr z)
  refine wpAny_comprehension_free (use := use) rfl hs (closure_ok frees) ok.kind (fun y hy e => by rw [ok.uniq y hy, e]) (thn (hi.run pins s σ H _ I h) fun itx sA hA => thn hA fun itw sB hB => ?_)
  obtain ⟨it, fr, tn, J, HB, eit, IB, Tn, stB, frB, step⟩ := hB
  subst eit
  refine wpAny_newObj_type (newEnv_comp ?_)
  generalize hD : sB.heap.objs.size = D
  have freshD : HB D = none := IB.hok.fresh (Nat.le_of_eq hD)
  obtain ⟨Wm, ⟨m0, w0⟩, turn⟩ := step D freshD
  obtain ⟨sC, eC⟩ : ∃ sC : Shared, sC = { sB with heap := sB.heap.push { cls := .type "dict", data := .dict #[] } } := ⟨_, rfl⟩
  rw [← eC]
  have heC : sC.heap = sB.heap.push { cls := .type "dict", data := .dict #[] } := by rw [eC]
  obtain ⟨HC, eHC⟩ : ∃ HC, HC = upd HB D (dnO X.prog X.w D none []) := ⟨_, rfl⟩
  rw [← eHC] at w0
  have IC : Inv X pins σ HC sC := by
    rw [eC, eHC, ← hD]
    exact IB.laid (t' := sB.toks) (fun _ _ e => Heap.get?_push_of_some _ e) (Nat.le_refl _) (ext_new (dn_empty _ _ sB.heap IB.big))
  have small : ∀ b ∈ fr, b < sB.heap.objs.size := fun b hb => let ⟨_, e, _⟩ := Tn.obj _ _ stB b hb; Heap.lt_size e
  have frC : ∀ b ∈ fr, FpOk X pins HC b ∧ b < sC.heap.objs.size := fun b hb => by
    refine ⟨⟨?_, (frB b hb).2⟩, by rw [heC, Heap.size_push]; exact Nat.lt_succ_of_lt (small b hb)⟩
    rw [eHC, upd_ne (by rw [← hD]; exact Nat.ne_of_lt (small b hb))]
    exact (frB b hb).1
  have stC : tn 0 sC.heap := Tn.keep _ _ _ stB fun b _ o e => by rw [heC]; exact Heap.get?_push_of_some _ e
  have IL := block_start IC ok hN frC
  let cl0 := cellsFrom (sC.heap.objs.size + 1) scp.names (cloFrom X.env.cells scp.names [])
  have g1 := hg sC HC sC.heap.objs.size cl0 fr
  have g2 := ht sC HC sC.heap.objs.size cl0 fr
  have g3 := hk sC HC sC.heap.objs.size cl0 fr
  have g4 := he sC HC sC.heap.objs.size cl0 fr
  refine (?_ : codeAny (model X.prog X.w) X.A (.compStart (.DictComp ke ve [⟨tgt, ite, cs, 0⟩] scp ps) 0 (.ref it) (.ref D) (compEnvC scp cl0 sC.heap.objs.size X.env)) _ { sC with heap := pushCells (sC.heap.push { cls := .type "dict", data := .dict #[] }) scp.names })
  generalize eB : compEnvC scp cl0 sC.heap.objs.size X.env = bE at IL g1 g2 g3 g4
  have lB : bE.locals = sC.heap.objs.size := by rw [← eB]; rfl
  have hn0 : ∀ b ∈ fr, HC b = none := fun b hb => (frC b hb).1.1
  obtain ⟨sL, eL⟩ : ∃ sL : Shared, sL = { sC with heap := pushCells (sC.heap.push { cls := .type "dict", data := .dict #[] }) scp.names } := ⟨_, rfl⟩
  rw [← eL] at IL ⊢
  have stL : tn 0 sL.heap := Tn.keep _ _ _ stC fun b _ o e => by rw [eL]; exact pushCells_keeps _ _ _ _ (Heap.get?_push_of_some _ e)
  have fpo : ∀ {σ' : L2.St} {H' : Hp} {s' : Shared}, Inv (X.blk sC HC scp bE fr) [] σ' H' s' → (∀ b ∈ fr, H' b = none) → ∀ b ∈ fr, FpOk (X.blk sC HC scp bE fr) [] H' b := fun {σ' H' s'} I' hn b hb =>
    ⟨hn b hb, (I'.ok.exf b hb).1, I'.ok.exfs b hb, .inl hb, fun x c e => (I'.ok.exf b hb).2 x c e, fun p hp => absurd (show p ∈ ([] : List (Addr × Obj)) ++ [] from hp) (by simp)⟩
  have run : codeAny (model X.prog X.w) X.A (.compLoop (.DictComp ke ve [⟨tgt, ite, cs, 0⟩] scp ps) 0 (.ref it) (.ref D) bE) (compPost (model X.prog X.w) X.A X.xe use Qf (.ref D) sC.heap.objs.size) sL := by
    refine compLoop_anyD (fun n t => ∃ i Hi, Inv (X.blk sC HC scp bE fr) [] (wipe σ (own.map (·.2))) Hi t ∧ tn i t.heap ∧ (∀ b ∈ fr, Hi b = none) ∧ Wm i n Hi) ?_ m0 ⟨0, HC, IL, stL, hn0, w0⟩
    rintro n t ⟨i, Hi, Ii, sti, ni, wi'⟩
    rcases turn i n Hi wi' with ⟨fin, qD⟩ | ⟨more, Nx, hNx, one⟩
    · refine thnF (Tn.done (X.blk sC HC scp bE fr) rfl rfl rfl hc i [] t _ Hi (fun _ _ => False) Ii (fpo Ii ni) sti fin) fun r t2 ⟨er, It⟩ => ?_
      subst er
      have Ib : Inv X pins σ Hi t2 := IC.call' (ch := fr) It.os It.base It.hok It.bare fun b hb => let z := (frC b hb).1.2; ⟨z.2.2.1, z.1, z.2.2.2.1, z.2.2.2.2⟩
      have freeC : Hi sC.heap.objs.size = none := by
        have q : Hi bE.locals = none := It.free
        rw [lB] at q
        exact q
      obtain ⟨mN, hN2, _⟩ := It.loc
      have hN3 : t2.heap.Ns bE.locals mN := hN2
      rw [lB] at hN3
      exact hRR D sC.heap.objs.size t2 mN Hi Ib qD hN3 (IC.fpOk (Nat.le_refl _) freeC)
    · refine thnF (Tn.item (X.blk sC HC scp bE fr) rfl rfl rfl hc i [] t _ Hi (fun _ _ => False) Ii (fpo Ii ni) sti more) fun r t2 ⟨u, er, ho⟩ => ?_
      subst er
      refine thnF ho fun _ t3 ⟨x, Hx, Ix, rx, yx, stx, nx⟩ => ?_
      refine thnF (g1.run _ t3 _ Hx x u _ (Ix.pinned (fpo Ix nx) (Tn.obj _ _ stx)) rx (one x Hx yx)) fun _ t4 ⟨σ4, H4, I4, ew, q4⟩ => ?_
      refine thnF (g2.run _ t4 σ4 H4 _ I4 q4) fun yes t5 ⟨H5, I5, q5⟩ => ?_
      have close : ∀ {t' : Shared} {H' : Hp}, Inv (X.blk sC HC scp bE fr) ([] ++ pinsAt fr t3.heap) σ4 H' t' → Nx H' → ∃ m, m < n ∧ ∃ i Hi, Inv (X.blk sC HC scp bE fr) [] (wipe σ (own.map (·.2))) Hi t' ∧ tn i t'.heap ∧ (∀ b ∈ fr, Hi b = none) ∧ Wm i m Hi := fun {t' H'} I' nn => by
        obtain ⟨m', hm, w'⟩ := hNx H' nn
        have pin2 : ∀ b ∈ fr, ∀ o, t3.heap.get? b = some o → t'.heap.get? b = some o ∧ H' b = none := fun b hb o e => ⟨(I'.pin (b, o) (List.mem_append_right _ (List.mem_append_right _ (mem_pinsAt hb e)))).1, (I'.pin (b, o) (List.mem_append_right _ (List.mem_append_right _ (mem_pinsAt hb e)))).2.1⟩
        refine ⟨m', hm, i + 1, H', (I'.unpinned (pins := [])).weak (by rw [← ew, wipe_length]) (fun j v e => ?_), Tn.keep _ _ _ stx fun b hb o e => (pin2 b hb o e).1, fun b hb => ?_, w'⟩
        · rw [← ew] at e
          exact (wipe_some e).1
        · obtain ⟨o, e, _⟩ := Tn.obj _ _ stx b hb
          exact (pin2 b hb o e).2
      cases yes with
      | false =>
        simp only [Bool.false_eq_true, if_false] at q5 ⊢
        exact close I5 q5
      | true =>
        simp only [if_true] at q5 ⊢
        refine thnF (g3.run _ t5 σ4 H5 _ I5 q5) fun vk t6 ⟨yk, H6, I6, rk, q6⟩ => ?_
        refine thnF (g4.run _ t6 σ4 H6 _ I6 q6) fun vv t7 ⟨yv, H7, I7, rv, kas, kb, kk, ek, eD, all, kn, hz, nn⟩ => ?_
        subst ek
        obtain rfl : vk = Value.ref kb := rk
        exact n_dset (X := X.blk sC HC scp bE fr) hu I7 eD (fun p hp => all p hp _ rfl rfl rfl) (kn _ rfl rfl rfl) hz rv fun t8 I8 => close I8 nn
  exact codeAny_compStart_dict run (Tn.self X.A 0 _ _ _ stL run)
theorem pe_dcN {ke ve tgt ite : Expr} {cs : List Expr} {scp : Scope} {own : List (Str × Nat)} {ps : Pos} {wi : TI} {g : TG} {tt : TT} {tk tv : TE} (hu : X.A.units + 9 < cLine) (hc : X.calm = true) (hN : X.N.Nodup) (hi : PI X tgt ite wi) (ok : BlkOk X.N X.env.scope scp own)
    (hg : ∀ (s : Shared) (H : Hp) (C : Addr) (cl : List (Str × Addr)) (fr : List Addr), PG (X.blk s H scp (compEnvC scp cl C X.env) fr) tgt g) (ht : ∀ (s : Shared) (H : Hp) (C : Addr) (cl : List (Str × Addr)) (fr : List Addr), PTs (X.blk s H scp (compEnvC scp cl C X.env) fr) cs tt)
    (hk : ∀ (s : Shared) (H : Hp) (C : Addr) (cl : List (Str × Addr)) (fr : List Addr), PE (X.blk s H scp (compEnvC scp cl C X.env) fr) ke tk)
    (he : ∀ (s : Shared) (H : Hp) (C : Addr) (cl : List (Str × Addr)) (fr : List Addr), PE (X.blk s H scp (compEnvC scp cl C X.env) fr) ve tv) (hs : ∀ x, foldedSetIterable ite X.env x = pure x := by intro _; rfl) :
    PE X (.DictComp ke ve [⟨tgt, ite, cs, 0⟩] scp ps) (tDcN X wi g tt tk tv (own.map (·.2))) := by
  refine ⟨fun pins s σ H Q I h => ?_⟩
  rw [arm_eval_DictComp]
  refine dcN_core (use := none) hu hc hN hi ok hg ht hk he hs I h fun D C s' m H' I' q hn f => ⟨m, hn, fun h'' sb => ?_⟩
  obtain ⟨f0, f1, f2, f3, f4, f5⟩ := f
  exact ⟨.ref D, H', I'.turned (t' := s'.toks) (fun b o hb e => (sb.2 b hb).trans e) f0 f1 f3 f4 f5, rfl, q⟩
theorem ps_setDcN {i : Nat} {y : Str} {py spos : Pos} {ke ve tgt ite : Expr} {cs : List Expr} {scp : Scope} {own : List (Str × Nat)} {ps : Pos} {wi : TI} {g : TG} {tt : TT} {tk tv : TE} (hu : X.A.units + 9 < cLine) (hc : X.calm = true) (hN : X.N.Nodup) (hy : X.N[i]? = some y) (hyl : X.env.scope.names.lookup y = some .local)
    (hsw : swapsWith (.DictComp ke ve [⟨tgt, ite, cs, 0⟩] scp ps) (some (.Name y py)) spos.line X.env = pure true) (hi : PI X tgt ite wi) (ok : BlkOk X.N X.env.scope scp own)
    (hg : ∀ (s : Shared) (H : Hp) (C : Addr) (cl : List (Str × Addr)) (fr : List Addr), PG (X.blk s H scp (compEnvC scp cl C X.env) fr) tgt g) (ht : ∀ (s : Shared) (H : Hp) (C : Addr) (cl : List (Str × Addr)) (fr : List Addr), PTs (X.blk s H scp (compEnvC scp cl C X.env) fr) cs tt)
    (hk : ∀ (s : Shared) (H : Hp) (C : Addr) (cl : List (Str × Addr)) (fr : List Addr), PE (X.blk s H scp (compEnvC scp cl C X.env) fr) ke tk)
    (he : ∀ (s : Shared) (H : Hp) (C : Addr) (cl : List (Str × Addr)) (fr : List Addr), PE (X.blk s H scp (compEnvC scp cl C X.env) fr) ve tv) (hs : ∀ x, foldedSetIterable ite X.env x = pure x := by intro _; rfl) :
    PS X (.Assign [.Name y py] (.DictComp ke ve [⟨tgt, ite, cs, 0⟩] scp ps) spos) (tAsg (tDcN X wi g tt tk tv (own.map (·.2))) (gName i)) := by
  refine ⟨fun pins s σ H D I h => ?_⟩
  rw [exec_Assign_Name_used _ _ _ _ hsw]
  refine wpAny_bind (wpAny_standAt (wpAny_bind ?_))
  show wpAny _ X.A (do let _ ← comprehension (.DictComp ke ve [⟨tgt, ite, cs, 0⟩] scp ps) scp X.env (firstIterPos [⟨tgt, ite, cs, 0⟩] ps) newDict false (eval ite X.env) (some (assign (.Name y py) X.env))) _ _ s
  have h : tDcN X wi g tt tk tv (own.map (·.2)) σ H (fun x H1 => gName i x σ H1 D.nx) := h
  refine wpAny_bind (thn (dcN_core (Qf := fun _ s' => SP X pins D .next s') hu hc hN hi ok hg ht hk he hs I h fun L C s' m H' I' q hn f => ?_) fun _ s' hq => wpAny_pure (wpAny_pure hq))
  show wpAny _ _ (assign (.Name y py) X.env (.ref L)) _ _ _
  refine wpAny_assign_Name (store_ok2 (v := V.ref L) I' hN hy (.inl hyl) rfl (fun s2 I2 ⟨a, sb, ha⟩ => ?_) (.inr hyl))
  obtain ⟨f0, f1, f2, f3, f4, f5⟩ := f
  have haC : C ≠ a := by
    rcases ha with z | z
    · rw [z]; exact f1
    · exact fun e => f4 y a z e.symm
  refine ⟨m, hn.sameBut sb haC, fun h3 sb3 => ?_⟩
  exact ⟨_, H', I2.turned (t' := s2.toks) (fun b o hb e => (sb3.2 b hb).trans e) f0 f1 f3 f4 f5, q⟩
theorem sw_trueD {ke ve : Expr} {gs : List Comprehension} {scope : Scope} {pos py : Pos} {y : Str} {l : Nat} {env : Env} (hk : env.scope.kind = .function) (hy : env.scope.names.lookup y = some .local) (hl : (py.line == pos.line) = true)
    (ha : (scope.names.any fun (n, k) => n == y && (k == .local || k == .cell)) = false) : swapsWith (.DictComp ke ve gs scope pos) (some (.Name y py)) l env = pure true := by
  have ky : env.kindOf y = some .local := hy
  have hb : env.blockKind = .function := by unfold Env.blockKind; rw [hk]; rfl
  unfold swapsWith
  simp only [hb, ky, ha, Expr.pos, hl]
  rfl
end
/-! by data -/
def dcGoN (wg : WG) (wt : WT) (wk wv : WE) (vs : List Nat) (Q : List (Da × Da) → Sx → Prop) : List Da → List (Da × Da) → Sx → Prop
  | [], acc, S => Q acc S
  | d :: ds, acc, S => wg d (S.wipe vs) fun S2 => wt S2 fun b S3 => if b = true then wk S3 fun y S4 => wv S4 fun z S5 => y.key8 = true ∧ z.isO = false ∧ acc.length < sizeLine ∧ dcGoN wg wt wk wv vs Q ds (putN acc y z) (S.back S5 vs) else dcGoN wg wt wk wv vs Q ds acc (S.back S3 vs)
def wDcN (P : Program) (w : World) (wi : WI) (wg : WG) (wt : WT) (wk wv : WE) (vs : List Nat) : WE := fun S Q => wi S fun ds S1 => dcGoN wg wt wk wv vs (fun acc S2 => ∀ q, S2.M q = none → Q (.r q) ⟨S2.ρ, updM S2.M q (.dn P w none acc)⟩) ds [] (S1.norm vs)
theorem putN_len {kds : List (Da × Da)} {k d : Da} : (putN kds k d).length ≤ kds.length + 1 := by
  unfold putN
  split
  · rw [List.length_map]; omega
  · simp
theorem mut_dn {P : Program} {w : World} {a : Addr} {kas : List (NestedKey × Addr × V)} : Mut (some (dnO P w a none kas)) := trivial
section
variable {X : Cx} {c : Cq} {pos : Pos} {wk wv : WE}
theorem ldcN {wi : WI} {g : TG} {wg : WG} {tt : TT} {wt : WT} {tk tv : TE} {is vs : List Nat} (L : ∀ c' : Cq, c'.n = c.n → LG X.K c' g wg is) (hv : ∀ i ∈ is, i ∈ vs) (ht : ∀ c' : Cq, c'.n = c.n → ∀ σ H Q, lT X.K c' wt σ H Q → tt σ H Q)
    (hk : ∀ c' : Cq, c'.n = c.n → ∀ σ H Q, lE X.K c' wk σ H Q → tk σ H Q) (he : ∀ c' : Cq, c'.n = c.n → ∀ σ H Q, lE X.K c' wv σ H Q → tv σ H Q) : ∀ σ H Q, lE X.K c (wDcN X.prog X.w wi wg wt wk wv vs) σ H Q → tDcN X (lWk X.K c wi) g tt tk tv vs σ H Q := fun σ H Q h => by
  obtain ⟨S, Qd, r, h, p⟩ := h
  refine ⟨S, _, r, h, fun ds S1 h1 H1 J r1 k1 ok D nD => ?_⟩
  have nk := r1.nk nD
  have nA : ¬ c.A0 D := fun z => (r1.a0 D z).1 nD
  obtain ⟨r1', _⟩ := r1.plus (o := dnO X.prog X.w D none []) nD
  have sm1 : Same H1 (upd H1 D (dnO X.prog X.w D none [])) := same_upd nD
  let Qe : List (Da × Da) → Sx → Prop := fun acc S2 => ∀ q, S2.M q = none → Qd (.r q) ⟨S2.ρ, updM S2.M q (.dn X.prog X.w none acc)⟩
  refine ⟨fun i m H2 => m = ds.length - i ∧ i ≤ ds.length ∧ ∃ S2 acc vacc, Rel X.K (c.plus D) S2 σ H2 ∧ Kp S1.W S2.W H1 H2 ∧ H2 D = some (dnO X.prog X.w D none vacc) ∧ RpN X.K (S2.A (c.plus D)) H2 vacc acc ∧ acc.length ≤ sizeLine ∧ dcGoN wg wt wk wv vs Qe (ds.drop i) acc S2,
    ⟨ds.length, by simp, Nat.zero_le _, S1.norm vs, [], [], (r1'.back r1' .refl rfl fun _ _ => rfl).1, (Kp.same sm1).trans (r1'.back r1' .refl rfl fun _ _ => rfl).2, upd_same, .nil, Nat.zero_le _, by simpa using h1⟩, ?_⟩
  rintro i m H2 ⟨rfl, hi, S2, acc, vacc, r2, k2, eD, ra, hz, h2⟩
  obtain ⟨go, stop⟩ := ok H2 (fun a => S2.W a ∨ a = D) ⟨k2.keep, fun b z => z.elim (k2.mono b) fun q => .inr (by rw [q]; exact nD)⟩ i
  by_cases hlt : i < ds.length
  · refine .inr ⟨(go ds[i] (List.getElem?_eq_getElem hlt)).1, fun H' => ∃ S2 acc vacc, Rel X.K (c.plus D) S2 σ H' ∧ Kp S1.W S2.W H1 H' ∧ H' D = some (dnO X.prog X.w D none vacc) ∧ RpN X.K (S2.A (c.plus D)) H' vacc acc ∧ acc.length ≤ sizeLine ∧ dcGoN wg wt wk wv vs Qe (ds.drop (i + 1)) acc S2,
      fun H' q => ⟨ds.length - (i + 1), by omega, rfl, hlt, q⟩, fun x H3 hy => ?_⟩
    obtain ⟨sm, rx⟩ := (go ds[i] (List.getElem?_eq_getElem hlt)).2 x H3 hy
    rw [List.drop_eq_getElem_cons hlt] at h2
    have r3 := r2.same sm
    have k3 : Kp S2.W S2.W H2 H3 := .same sm
    obtain ⟨rw3, kw3⟩ := r3.wipe vs
    have rx' : Rp X.K ((S2.wipe vs).A (c.plus D)) H3 x ds[i] := rx.kp ⟨fun b u e _ => e, fun b z => by
      rcases z with (z | z) | z
      · exact .inl (.inl z)
      · exact .inl (.inr (.inr z))
      · exact (kw3.mono b z).imp (fun q => .inr (.inl q)) id⟩
    refine (L (c.plus D) rfl).run x ds[i] _ _ H3 _ _ rw3 rx' h2 fun S4 σ4 h4 r4 k4 s4 l4 => ?_
    have l4' : σ4.length = σ.length := by rw [l4, wipe_length]
    have s4' : ∀ j, j ∉ vs → σ4[j]? = σ[j]? := fun j hj => by
      rw [s4 j (fun z => hj (hv j z)), wipe_get hj]
    refine ⟨wipe_eq l4' s4', ht (c.plus D) rfl _ _ _ ⟨S4, _, r4, h4, fun b S5 h5 H5 r5 k5 => ?_⟩⟩
    have k25 : Kp S2.W S5.W H2 H5 := ((k3.trans kw3).trans k4).trans k5
    have D5 : H5 D = some (dnO X.prog X.w D none vacc) := k25.keep D _ eD (.inl (r2.a0 D (.inr rfl)).2)
    refine ite_of h5 (fun h6 => hk (c.plus D) rfl _ _ _ ⟨S5, _, r5, h6, fun y S6 h7 H6 v r6 k6 py => he (c.plus D) rfl _ _ _ ⟨S6, _, r6, h7, fun z S7 h8 H7 u r7 k7 pz => ?_⟩⟩) fun h6 => ?_
    · obtain ⟨hkk, zO, hz2, h9⟩ := h8
      have k27 := (k25.trans k6).trans k7
      have D7 : H7 D = some (dnO X.prog X.w D none vacc) := k27.keep D _ eD (.inl (r2.a0 D (.inr rfl)).2)
      obtain ⟨rb, kb⟩ := r2.back r7 k27 l4' s4'
      have kab := kA (c := c.plus D) (k27.trans kb)
      have ra7 := ra.kp kab
      obtain ⟨bb, rfl, rkey⟩ := key8_ref hkk (py.kp (kA k7))
      have upk : ∀ {A : Addr → Prop}, A D → Kp A A H7 (upd H7 D (dnO X.prog X.w D none (putKN vacc y.nk bb u))) := fun {A} hA => ⟨fun b u eb z => by
        have : b ≠ D := fun q => by
          subst q
          rcases z with z | z
          · exact z hA
          · rw [D7] at eb
            cases eb
            exact z trivial
        rw [upd_ne this]
        exact eb, fun b z => .inl z⟩
      refine ⟨vacc, bb, y.nk, rfl, D7, fun p hp Y e1 e2 e3 => rpn_ok (X := Y) (A := (S2.back S7 vs).A (c.plus D)) (by rw [e1]; exact ra7) p hp, nk_all rkey hkk, by rw [rpn_len ra]; exact hz2, S2.back S7 vs, putN acc y z, putKN vacc y.nk bb u, rb.upD D7 mut_dn nk, ?_, upd_same, ?_, Nat.le_trans putN_len hz2, h9⟩
      · refine ⟨fun b u eb z => ?_, (k2.trans (k27.trans kb)).mono⟩
        rw [upd_ne (ne_of_none eb nD)]
        exact (k2.trans (k27.trans kb)).keep b u eb z
      · have hD : ((S2.back S7 vs).A (c.plus D)) D := .inl (.inr rfl)
        exact rpn_put (ra7.kp (upk hD)) hkk ((rkey.kp (kA kb)).kp (upk hD)) (((pz.pure zO).kp (kA kb)).kp (upk hD))
    · obtain ⟨rb, kb⟩ := r2.back r5 k25 l4' s4'
      exact ⟨S2.back S5 vs, acc, vacc, rb, k2.trans (k25.trans kb), D5, ra.kp (kA (k25.trans kb)), hz, h6⟩
  · have e : i = ds.length := by omega
    subst e
    rw [List.drop_length] at h2
    obtain ⟨rm, km⟩ := r2.minus eD mut_dn nA nk
    have h2' : Qe acc S2 := h2
    obtain ⟨r5, k5⟩ := rm.newM (o := dnO X.prog X.w D none vacc) (m := .dn X.prog X.w none acc) offH_same fun A k => ⟨vacc, upd_same, (ra.kp km).kp k⟩
    rw [upd_offH eD] at r5 k5
    refine .inl ⟨stop (Nat.le_refl _), p (.r D) _ (h2' D (m_none rm offH_same)) _ _ r5 ?_ (.inl (.r D))⟩
    refine (k1.trans ⟨fun b u eb z => ?_, fun b z => k2.mono b z⟩ : Kp S.W S2.W H (offH H2 D)).trans k5
    rw [offH_ne (ne_of_none eb nD)]
    exact k2.keep b u eb z
theorem v_dcN {P : Program} {w : World} (hP : X.prog = P) (hw : X.w = w) {kx vx tg iter : Expr} {ifs : List Expr} {scope : Scope} {own : List (Str × Nat)} {wi : WI} {wt : WT} {g : TG} {wg : WG} {is : List Nat} (hu : X.A.units + 9 < cLine) (hc : X.calm = true) (hN : X.N.Nodup) (hi : PI X tg iter (lWk X.K c wi)) (ok : BlkOk X.N X.env.scope scope own)
    (L : ∀ c' : Cq, c'.n = c.n → LG X.K c' g wg is) (hg : ∀ (s : Shared) (H : Hp) (C : Addr) (cl : List (Str × Addr)) (fp : List Addr), PG (X.blk s H scope (compEnvC scope cl C X.env) fp) tg g)
    (ht : ∀ (s : Shared) (H : Hp) (C : Addr) (cl : List (Str × Addr)) (fp : List Addr) (c' : Cq), c'.n = c.n → PTs (X.blk s H scope (compEnvC scope cl C X.env) fp) ifs (lT X.K c' wt))
    (hk : ∀ (s : Shared) (H : Hp) (C : Addr) (cl : List (Str × Addr)) (fp : List Addr) (c' : Cq), c'.n = c.n → PE (X.blk s H scope (compEnvC scope cl C X.env) fp) kx (lE X.K c' wk))
    (he : ∀ (s : Shared) (H : Hp) (C : Addr) (cl : List (Str × Addr)) (fp : List Addr) (c' : Cq), c'.n = c.n → PE (X.blk s H scope (compEnvC scope cl C X.env) fp) vx (lE X.K c' wv))
    (hv : ∀ i ∈ is, i ∈ own.map (·.2)) (hs : ∀ x, foldedSetIterable iter X.env x = pure x := by intro _; rfl) : PE X (.DictComp kx vx [⟨tg, iter, ifs, 0⟩] scope pos) (lE X.K c (wDcN P w wi wg wt wk wv (own.map (·.2)))) := by
  subst hP hw
  exact pe_imp (pe_dcN (tt := fun σ H Q => ∃ c' : Cq, c'.n = c.n ∧ lT X.K c' wt σ H Q) (tk := fun σ H Q => ∃ c' : Cq, c'.n = c.n ∧ lE X.K c' wk σ H Q) (tv := fun σ H Q => ∃ c' : Cq, c'.n = c.n ∧ lE X.K c' wv σ H Q) hu hc hN hi ok hg
    (fun s H C cl fp => ⟨fun pins s' σ H' Q I ⟨c', hc', h⟩ => (ht s H C cl fp c' hc').run pins s' σ H' Q I h⟩)
    (fun s H C cl fp => ⟨fun pins s' σ H' Q I ⟨c', hc', h⟩ => (hk s H C cl fp c' hc').run pins s' σ H' Q I h⟩)
    (fun s H C cl fp => ⟨fun pins s' σ H' Q I ⟨c', hc', h⟩ => (he s H C cl fp c' hc').run pins s' σ H' Q I h⟩) hs)
    (ldcN L hv (fun c' e _ _ _ h => ⟨c', e, h⟩) (fun c' e _ _ _ h => ⟨c', e, h⟩) (fun c' e _ _ _ h => ⟨c', e, h⟩))
theorem s_valDcN {P : Program} {w : World} {i : Nat} {y : Str} {py spos : Pos} (hP : X.prog = P) (hw : X.w = w) {kx vx tg iter : Expr} {ifs : List Expr} {scope : Scope} {own : List (Str × Nat)} {wi : WI} {wt : WT} {g : TG} {wg : WG} {is : List Nat} (hu : X.A.units + 9 < cLine) (hc : X.calm = true) (hN : X.N.Nodup) (hy : X.N[i]? = some y) (hyl : X.env.scope.names.lookup y = some .local) (hn : i < c.n) (hsw : swapsWith (.DictComp kx vx [⟨tg, iter, ifs, 0⟩] scope pos) (some (.Name y py)) spos.line X.env = pure true) (hi : PI X tg iter (lWk X.K c wi)) (ok : BlkOk X.N X.env.scope scope own)
    (L : ∀ c' : Cq, c'.n = c.n → LG X.K c' g wg is) (hg : ∀ (s : Shared) (H : Hp) (C : Addr) (cl : List (Str × Addr)) (fp : List Addr), PG (X.blk s H scope (compEnvC scope cl C X.env) fp) tg g)
    (ht : ∀ (s : Shared) (H : Hp) (C : Addr) (cl : List (Str × Addr)) (fp : List Addr) (c' : Cq), c'.n = c.n → PTs (X.blk s H scope (compEnvC scope cl C X.env) fp) ifs (lT X.K c' wt))
    (hk : ∀ (s : Shared) (H : Hp) (C : Addr) (cl : List (Str × Addr)) (fp : List Addr) (c' : Cq), c'.n = c.n → PE (X.blk s H scope (compEnvC scope cl C X.env) fp) kx (lE X.K c' wk))
    (he : ∀ (s : Shared) (H : Hp) (C : Addr) (cl : List (Str × Addr)) (fp : List Addr) (c' : Cq), c'.n = c.n → PE (X.blk s H scope (compEnvC scope cl C X.env) fp) vx (lE X.K c' wv))
    (hv : ∀ i ∈ is, i ∈ own.map (·.2)) (hs : ∀ x, foldedSetIterable iter X.env x = pure x := by intro _; rfl) : PS X (.Assign [.Name y py] (.DictComp kx vx [⟨tg, iter, ifs, 0⟩] scope pos) spos) (lS X.K c (wSet i (wDcN P w wi wg wt wk wv (own.map (·.2))))) := by
  subst hP hw
  exact ps_imp (ps_setDcN (i := i) (tt := fun σ H Q => ∃ c' : Cq, c'.n = c.n ∧ lT X.K c' wt σ H Q) (tk := fun σ H Q => ∃ c' : Cq, c'.n = c.n ∧ lE X.K c' wk σ H Q) (tv := fun σ H Q => ∃ c' : Cq, c'.n = c.n ∧ lE X.K c' wv σ H Q) hu hc hN hy hyl hsw hi ok hg
    (fun s H C cl fp => ⟨fun pins s' σ H' Q I ⟨c', hc', h⟩ => (ht s H C cl fp c' hc').run pins s' σ H' Q I h⟩)
    (fun s H C cl fp => ⟨fun pins s' σ H' Q I ⟨c', hc', h⟩ => (hk s H C cl fp c' hc').run pins s' σ H' Q I h⟩)
    (fun s H C cl fp => ⟨fun pins s' σ H' Q I ⟨c', hc', h⟩ => (he s H C cl fp c' hc').run pins s' σ H' Q I h⟩) hs)
    (lset hn fun σ H Q h => ldcN L hv (fun c' e _ _ _ h => ⟨c', e, h⟩) (fun c' e _ _ _ h => ⟨c', e, h⟩) (fun c' e _ _ _ h => ⟨c', e, h⟩) σ H Q h)
end
/-! ### enumerate of a list that stands still -/
def wEnumL (we : WE) : WI := fun S Q => we S fun d S' => match d with
  | .l ds => Q (enumD 0 ds) S'
  | _ => False
section
variable {X : Cx} {c : Cq} {e : Expr} {we : WE} {p pos tpos : Pos} {elts : List Expr} {kk : Nat}
theorem i_enumL (hg : Gl X "enumerate") (hm : X.mg "enumerate" = none) (he : PE X e (lE X.K c we)) (hs0 : starEach [e] X.env = (false, eval e X.env) :: starEach [] X.env := by rfl) (hs : starEach [e] X.env = [(false, eval e X.env)] := by rfl) :
    PI X (.Tuple elts kk tpos) (.Call (.Name "enumerate" p) [e] [] pos) (lWk X.K c (wEnumL we)) := pi_imp (pi_enum hg hm (pa_cons he pa_nil hs0) hs) fun σ H R h => by
  obtain ⟨S, Qd, r, h, pst⟩ := h
  refine ⟨S, _, r, h, fun d S1 h1 H1 v r1 k1 p1 => ?_⟩
  cases d <;> try exact h1.elim
  rename_i ds
  cases p1.pure rfl with
  | l g1 n1 g2 =>
  rename_i q vs
  refine ⟨q, vs, rfl, SqL.of g1, pst _ _ h1 _ _ r1 k1 fun H2 W2 k i => ?_⟩
  have e2 := SqL.of (K := X.K) (k.keep _ _ g1 (.inl fun z => n1 (.inr z)))
  refine ⟨fun d hd => ?_, fun hl => ⟨vs, e2, by rw [g2.length, ← enumD_len 0 ds]; exact hl⟩⟩
  rw [enumD_get, Nat.zero_add] at hd
  cases ed : ds[i]? with
  | none => rw [ed] at hd; cases hd
  | some d' =>
    rw [ed] at hd
    cases hd
    obtain ⟨v, hv, rv⟩ := g2.get ed
    refine ⟨⟨vs, v, e2, hv⟩, fun x H3 hy => ?_⟩
    obtain ⟨T, x', rfl, nT, rfl, hx⟩ := hy
    have := hx vs e2
    rw [hv] at this
    cases this
    refine ⟨same_upd nT, .t (.inl (.inl upd_same)) (.cons (.i _) (.cons ((rv.kp k.or).kp (.same (same_upd nT))) .nil))⟩
end
end VL
set_option Elab.async false
set_option linter.all false
set_option maxRecDepth 100000
set_option maxHeartbeats 1000000
namespace VL
open PySem PySem.Spec PyProof.Rows L2
/-! ### a property read; an instance made with the defaults -/
structure Ppt (K : PySem.W.Frag) (C : Addr) (x qual : Str) (st : Stmt) (ps : List Str) (f : Addr) (fd : FuncData) (p : Addr) : Prop where
  F : Fun K x qual st f fd
  b : Binds K fd ps []
  p : PropOf K C x p f
def wProp (C : Addr) (dc : DC) (we : WE) : WE := fun S Q => we S fun x S1 => ∃ gs, isIns S1 C x gs ∧ dc [x] S1.M (fun d M' => Q d ⟨S1.ρ, M'⟩) fun _ _ _ => False
section
variable {X : Cx} {c : Cq} {k : Nat} {C p g : Addr} {f : Str} {fd : FuncData} {ps : List Str} {dc : DC} {e : Expr} {pos : Pos} {we : WE}
theorem v_prop (F : FnOk X.prog X.w X.K X.mg X.base (L2.CX X.prog X.w) k g fd ps (spOf X.K dc)) (hr : Room (k + 1) X.A) (cl : Cls X.K C) (hp : PropOf X.K C f p g) (hb : Binds X.K fd ps []) (he : PE X e (lE X.K c we))
    (hab : attributeBase e f X.env (eval e X.env) = eval e X.env := by rfl) : PE X (.Attribute e f pos) (lE X.K c (wProp C dc we)) :=
  pe_imp (pe_prop (E := fun _ _ _ => False) he cl hp F hr hb .nil (fun _ _ _ _ _ _ _ h => by obtain ⟨_, _, _, _, _, _, _, _, _, _, _, _, z⟩ := h; exact z) hab) fun σ H Q h => by
  obtain ⟨S, Qd, r, h, pst⟩ := h
  refine ⟨S, _, r, h, fun d S1 h1 H1 v r1 k1 p1 => ?_⟩
  obtain ⟨gs, hi, h2⟩ := h1
  obtain ⟨a, dx, fs, rfl, ha, hf⟩ := ins_ok r1 p1 hi
  exact ⟨a, dx, fs, rfl, ha, sp_call (W := fun _ _ _ _ => False) (Xs := Xno) r1 (.cons (p1.pure (ins_pure hi)) .nil) h2 (pst.at k1) xno⟩
variable {fa : Addr} {dvs : List V} {dd : List Da} {x : Str} {p2 : Pos} {es : List Expr} {wl : WA} {Xs : Value → Option (List (Str × Da)) → Sx → Prop} {W : WX}
theorem v_makeE (F : FnOk X.prog X.w X.K X.mg X.base (L2.CX X.prog X.w) k fa fd ps (spOf X.K dc)) (hr : Room (k + 1) X.A) (M : Mk X.K C fa) (hg : Gl X x) (hm : X.mg x = some (.ref C)) (hb : ∃ ds, Vals dvs ds ∧ Binds X.K fd ps ds) (hdd : ∀ A H, RpA X.K A H dvs dd)
    (tk : Takes X W) (hX : XOk X.K c Xs W) (ha : PA X (e :: es) (lA X.K c wl)) (hdb : (x == ("__debug__" : Str)) = false := by decide) (he : starEach (e :: es) X.env = (false, eval e X.env) :: starEach es X.env := by rfl) (hpl : (backTo pos (starEach es X.env)).any (·.1) = false := by rfl) :
    PE X (.Call (.Name x p2) (e :: es) [] pos) (lE X.K c (wMake C dc dd Xs wl)) := by
  obtain ⟨ds, r, b⟩ := hb
  exact v_makeD F hr M hg hm b r hdd tk hX ha hdb he hpl
def wNotD (we : WE) : WE := fun S Q => we S fun d S' => ∃ kds, S'.dku d = some kds ∧ Q (.b kds.isEmpty) S'
theorem v_notD (he : PE X e (lE X.K c we)) : PE X (.UnaryOp .Not e pos) (lE X.K c (wNotD we)) := pe_imp (pe_notT he) fun σ H Q h => by
  obtain ⟨S, Qd, r, h, p⟩ := h
  refine ⟨S, _, r, h, fun d S1 h1 H1 v r1 k1 p1 => ?_⟩
  obtain ⟨kds, e, q⟩ := h1
  obtain ⟨a, kvs, rfl, hd, rk⟩ := dku_ok r1 p1 e
  refine ⟨_, .inr (.inr ⟨_, hd, rfl⟩), ?_⟩
  rw [rpk_empty rk, Bool.not_not]
  exact p _ _ q _ _ r1 k1 (.inl (.b _))
theorem rpa_n {K : PySem.W.Frag} (A : Addr → Prop) (H : Hp) : RpA K A H [V.non] [Da.n] := .cons .n .nil
end
end VL
set_option Elab.async false
set_option linter.all false
set_option maxRecDepth 100000
set_option maxHeartbeats 1000000
namespace VL
open PySem PySem.Spec PyProof.Rows L2
/-! ### isinstance(x, (list, tuple)) of a list -/
def wIsiLT (we : WE) : WE := fun S Q => we S fun d S' => ∃ ds, S'.lst d = some ds ∧ Q (.b true) S'
section
variable {X : Cx} {c : Cq} {pos p p1 p2 tp : Pos} {e : Expr} {we : WE} {kk : Nat}
theorem v_isiLT (hg : Gl X "isinstance") (hm : X.mg "isinstance" = none) (hg1 : Gl X "list") (hm1 : X.mg "list" = none) (hg2 : Gl X "tuple") (hm2 : X.mg "tuple" = none) (he : PE X e (lE X.K c we))
    (hs : starEach [e, .Tuple [.Name "list" p1, .Name "tuple" p2] kk tp] X.env = (false, eval e X.env) :: starEach [.Tuple [.Name "list" p1, .Name "tuple" p2] kk tp] X.env := by rfl)
    (hs2 : starEach [.Tuple [.Name "list" p1, .Name "tuple" p2] kk tp] X.env = (false, eval (.Tuple [.Name "list" p1, .Name "tuple" p2] kk tp) X.env) :: starEach [] X.env := by rfl)
    (hs3 : starEach [.Name "list" p1, .Name "tuple" p2] X.env = (false, eval (.Name "list" p1) X.env) :: starEach [.Name "tuple" p2] X.env := by rfl) (hs4 : starEach [.Name "tuple" p2] X.env = (false, eval (.Name "tuple" p2) X.env) :: starEach [] X.env := by rfl)
    (hpl : (backTo pos (starEach [.Tuple [.Name "list" p1, .Name "tuple" p2] kk tp] X.env)).any (·.1) = false := by rfl) (hv : bootBuiltins "isinstance" = some (.builtin "isinstance") := by decide +kernel) (hv1 : bootBuiltins "list" = some (.type "list") := by decide +kernel) (hv2 : bootBuiltins "tuple" = some (.type "tuple") := by decide +kernel) :
    PE X (.Call (.Name "isinstance" p) [e, .Tuple [.Name "list" p1, .Name "tuple" p2] kk tp] [] pos) (lE X.K c (wIsiLT we)) :=
  pe_imp (pe_callB call_isiT hg hm hv (pa_cons he (pa_cons (pe_tup (pa_cons (pe_bltn (v := .ty "list") hg1 hm1 hv1 rfl) (pa_cons (pe_bltn (v := .ty "tuple") hg2 hm2 hv2 rfl) pa_nil hs4) hs3)) pa_nil hs2) hs) (by decide) (by decide) hs hpl) fun σ H Q h => by
  obtain ⟨S, Qd, r, h, q⟩ := h
  refine ⟨S, _, r, h, fun d S1 h1 H1 v r1 k1 px => ?_⟩
  obtain ⟨ds, hl, hq⟩ := h1
  obtain ⟨w, vs, rfl, g1, g2⟩ := lst_ok r1 px hl
  refine ⟨by show 2 ≤ sizeLine; decide, fun a na => ?_⟩
  obtain ⟨r2, k2, nA⟩ := r1.alloc (o := .tup [.ty "list", .ty "tuple"]) na
  have gw : upd H1 a (.tup [.ty "list", .ty "tuple"]) w = some (.lst vs) := by
    rw [upd_ne (fun z => by rw [z, na] at g1; cases g1)]
    exact g1
  refine ⟨.ref w, a, [.ty "list", .ty "tuple"], .type "list", [.type "list", .type "tuple"], true, rfl, upd_same, .cons (.ty "list") (.cons (.ty "tuple") .nil), .base (.lst gw), ?_, q _ _ hq _ _ r2 (k1.trans k2) (.inl (.b _))⟩
  exact kitAny_cons (b := true) (kit_ty isi_list.l) (fun z => by cases z) (fun _ => rfl)
end
end VL
set_option Elab.async false
set_option linter.all false
set_option maxRecDepth 100000
set_option maxHeartbeats 1000000
namespace VL
open PySem PySem.Spec PyProof.Rows L2
/-! ### not e, as a value, of anything -/
def wNotT (we : WE) : WE := fun S Q => we S fun d S' => trD S' d fun k => Q (.b (!k)) S'
section
variable {X : Cx} {c : Cq} {pos : Pos} {e : Expr} {we : WE}
theorem v_notT (he : PE X e (lE X.K c we)) : PE X (.UnaryOp .Not e pos) (lE X.K c (wNotT we)) := pe_imp (pe_notT he) fun σ H Q h => by
  obtain ⟨S, Qd, r, h, p⟩ := h
  refine ⟨S, _, r, h, fun d S1 h1 H1 v r1 k1 p1 => ?_⟩
  obtain ⟨k, tv, q⟩ := tr_ok r1 p1 h1
  exact ⟨k, tv, p _ _ q _ _ r1 k1 (.inl (.b _))⟩
end
/-! ### in a dict of nested keys, as a test -/
section
variable {X : Cx} {c : Cq} {pos : Pos} {a b : Expr} {wa wb : WE}
theorem vt_nin {P : Program} {w : World} (hP : X.prog = P) (hw : X.w = w) (hu : X.A.units + 9 < cLine) (hm : behindInMarks .In b = false) (ha : PE X a (lE X.K c wa)) (hb : PE X b (lE X.K c wb)) : PT X (.Compare a [.In] [b] pos) (lT X.K c (wB (wOp (rdNin P w false) wa wb))) := by
  subst hP hw
  exact pt_imp (pt_cmp (pc_nin hu ha hb) hm) (lTest lnin)
theorem vt_nnin {P : Program} {w : World} (hP : X.prog = P) (hw : X.w = w) (hu : X.A.units + 9 < cLine) (hm : behindInMarks .NotIn b = false) (ha : PE X a (lE X.K c wa)) (hb : PE X b (lE X.K c wb)) : PT X (.Compare a [.NotIn] [b] pos) (lT X.K c (wB (wOp (rdNin P w true) wa wb))) := by
  subst hP hw
  exact pt_imp (pt_cmp (pc_nnin hu ha hb) hm) (lTest lnin)
end
/-! ### comprehensions over a list of things that are data by D -/
section
variable {α : Type} {wg : WG} {wt : WT} {we : WE} {vs : List Nat} {Q : List Da → Sx → Prop} {S : Sx}
theorem lc_on (D : α → Da) (f : α → Option Da) {l : List α}
    (h : ∀ a ∈ l, ∀ (R1 : Da → Sx → Prop) (R2 : Sx → Prop), (∀ S4, Agr (S.norm vs) S4 vs → match f a with | some y => R1 y S4 | none => R2 S4) → wg (D a) ((S.norm vs).wipe vs) fun S2 => wt S2 fun b S3 => if b = true then we S3 R1 else R2 S3)
    (hO : ∀ a ∈ l, ∀ y, f a = some y → y.isO = false) (hz : l.length ≤ sizeLine) (q : Q (l.filterMap f) (S.norm vs)) : lcGo wg wt we vs Q (l.map D) [] (S.norm vs) := by
  refine lcGo_of (fun rest acc S' => S' = S.norm vs ∧ ∃ done left, l = done ++ left ∧ rest = left.map D ∧ acc = done.filterMap f) (fun d rest acc S' ⟨e, done, left, e1, e0, e2⟩ R hR => ?_) (fun acc S' ⟨e, done, left, e1, e0, e2⟩ => ?_) (l.map D) [] (S.norm vs) ⟨rfl, [], l, rfl, rfl, rfl⟩
  · subst e
    cases left with
    | nil => cases e0
    | cons a left =>
    injection e0 with ea eb
    subst ea
    subst eb
    have hd : a ∈ l := by rw [e1]; simp
    refine h a hd _ _ fun S4 hb => ?_
    have la : acc.length ≤ done.length := by rw [e2]; exact List.length_filterMap_le f done
    have ld : done.length < l.length := by rw [e1]; simp
    cases e : f a with
    | none => exact hR _ _ ⟨hb.back, done ++ [a], left, by simp [e1], rfl, by simp [e2, e]⟩
    | some y => exact ⟨hO a hd y e, by omega, hR _ _ ⟨hb.back, done ++ [a], left, by simp [e1], rfl, by simp [e2, e]⟩⟩
  · subst e
    have e0' : left = [] := List.map_eq_nil_iff.mp e0.symm
    subst e0'
    rw [List.append_nil] at e1
    subst e1
    rw [e2]
    exact q
theorem lc_onM (D g : α → Da) {l : List α}
    (h : ∀ a ∈ l, ∀ (R1 : Da → Sx → Prop), (∀ S4, Agr (S.norm vs) S4 vs → R1 (g a) S4) → wg (D a) ((S.norm vs).wipe vs) fun S2 => we S2 R1)
    (hO : ∀ a ∈ l, (g a).isO = false) (hz : l.length ≤ sizeLine) (q : Q (l.map g) (S.norm vs)) : lcGo wg wYes we vs Q (l.map D) [] (S.norm vs) := by
  refine lc_on D (fun a => some (g a)) (fun d hd R1 R2 hR => ?_) (fun d hd y e => by cases e; exact hO d hd) hz ?_
  · exact h d hd R1 hR
  · rw [show l.filterMap (fun d => some (g d)) = l.map g from by rw [← List.filterMap_eq_map]; rfl]
    exact q
theorem lc_onF (D : α → Da) (p : α → Bool) {l : List α}
    (h : ∀ a ∈ l, ∀ (R1 : Da → Sx → Prop) (R2 : Sx → Prop), (∀ S4, Agr (S.norm vs) S4 vs → if p a = true then R1 (D a) S4 else R2 S4) → wg (D a) ((S.norm vs).wipe vs) fun S2 => wt S2 fun b S3 => if b = true then we S3 R1 else R2 S3)
    (hO : ∀ a ∈ l, (D a).isO = false) (hz : l.length ≤ sizeLine) (q : Q ((l.filter p).map D) (S.norm vs)) : lcGo wg wt we vs Q (l.map D) [] (S.norm vs) := by
  have e : l.filterMap (fun a => if p a = true then some (D a) else none) = (l.filter p).map D := by
    clear q hz hO h
    induction l with
    | nil => rfl
    | cons a l ih =>
      rw [List.filterMap_cons]
      cases hp : p a with
      | true => rw [List.filter_cons_of_pos hp, List.map_cons, ← ih]; rfl
      | false => rw [List.filter_cons_of_neg (by rw [hp]; decide), ← ih]; rfl
  refine lc_on D (fun a => if p a = true then some (D a) else none) (fun a ha R1 R2 hR => h a ha R1 R2 fun S4 hb => ?_) (fun a ha y e => ?_) hz (by rw [e]; exact q)
  · have := hR S4 hb
    cases hp : p a with
    | true => rw [hp] at this; exact this
    | false => rw [hp] at this; exact this
  · cases hp : p a with
    | true => rw [hp] at e; cases e; exact hO a ha
    | false => rw [hp] at e; cases e
end
end VL
set_option Elab.async false
set_option linter.all false
set_option maxRecDepth 100000
set_option maxHeartbeats 1000000
namespace VL
open PySem PySem.Spec PyProof.Rows L2
/-! ### an exception that leaves a dict comprehension -/
theorem note_frame {e : Value} {en en' : Env} (h : en.frame = en'.frame) : noteFrame e en = noteFrame e en' := by
  unfold noteFrame PySem.frameOf
  rw [h]
def cpx (M : Model) (A : Around) (env : Env) (E : Value → Shared → Prop) (use : Option (Value → Sem Unit)) (Q : Value → Shared → Prop) (acc : Value) (C : Addr) : Result → Shared → Prop
  | .ok f, s' => compPost M A E use Q acc C (.ok f) s'
  | .error x, s' => ∃ m, s'.heap.Ns C m ∧ ∀ h2, Heap.SameBut C s'.heap h2 → ∀ ce : Env, ce.locals = C → ce.frame = env.frame → wpAny M A (passOn "comprehension.variables-let-go" x ce : Sem Value) (fun _ _ => False) E { s' with heap := h2 }
section
variable {M : Model} {A : Around} {E : Value → Shared → Prop} {s : Shared} {env : Env}
theorem comp_x {ex : Expr} {scp : Scope} {ps : Pos} {na fst : Sem Value} {g : Comprehension} {gs : List Comprehension} {cl : List (Str × Addr)} {use : Option (Value → Sem Unit)} {Q : Value → Shared → Prop}
    (h1 : clausesOf ex = g :: gs) (h2 : ∀ x, foldedSetIterable g.iter env x = pure x) (h3 : closureFor scp env = pure cl) (h4 : scp.kind = .function) (h5 : ∀ x ∈ scp.names, x.2 = .local → scp.names.lookup x.1 = some .local)
    (h : wpAny M A fst (fun x a1 => wpAny M A (pyIter x) (fun it a2 => wpAny M A na (fun acc a3 => wpAny M A (newFunctionEnv scp env.globals cl [] env.qual none .none (some env))
      (fun ce a4 => ce.frame = env.frame ∧ codeAny M A (.compStart ex 0 it acc { ce with scope := relabel scp env }) (cpx M A env E use Q acc ce.locals) a4) E a3) E a2) E a1) E s) :
    wpAny M A (comprehension ex scp env ps na false fst use) Q E s := by
  unfold comprehension
  rw [h3, h1]
  refine wpAny_bind (thn h fun x a1 q1 => ?_)
  refine wpAny_bind (wpAny_standAt ?_)
  refine wpAny_bind (wpAny_of_eq (h2 x) ?_)
  refine wpAny_bind (wpAny_holding (thn q1 fun it a2 q2 => ?_))
  refine wpAny_standIf ?_
  refine wpAny_bind (thn q2 fun acc a3 q3 => ?_)
  refine wpAny_bind (wpAny_pure ?_)
  refine wpAny_bind (thn q3 fun ce a4 q4 => ?_)
  obtain ⟨fe, q4⟩ := q4
  dsimp only
  have loc : ∀ x, x ∈ scp.names → x.2 = .local → Env.kindOf { ce with scope := relabel scp env } x.1 = some .local := fun x hx hl => lookup_relabel_local (h5 x hx hl)
  refine wpAny_holding (wpAny_bind (wpAny_attempt (wpAny_holding (wpAny_run (codeAny_mono q4 fun r b1 hr => ?_)))))
  cases r with
  | ok f =>
    cases use with
    | none =>
      obtain ⟨m, hn, hr⟩ := hr
      refine wpAny_bind (wpAny_holding ?_)
      refine wpAny_comp_letGo (cenv := { ce with scope := relabel scp env }) h4 _ b1 m (fun x hx => loc x (List.mem_filter.mp (List.mem_reverse.mp hx)).1) hn fun h' m' _ sb => ?_
      exact wpAny_pure (hr h' sb)
    | some u =>
      refine wpAny_bind (wpAny_rule ?_)
      refine wpAny_bind (wpAny_holding (thn hr fun _ b2 hr2 => ?_))
      obtain ⟨m, hn, hr2⟩ := hr2
      refine wpAny_bind ?_
      refine wpAny_comp_letGo (cenv := { ce with scope := relabel scp env }) h4 _ b2 m (fun x hx => loc x ?_) hn fun h' m' _ sb => wpAny_pure (hr2 h' sb)
      rcases List.mem_append.mp hx with z | z
      · exact (List.mem_filter.mp (List.mem_reverse.mp (List.mem_of_mem_drop z))).1
      · exact (List.mem_filter.mp (List.mem_reverse.mp (List.mem_of_mem_take z))).1
  | error x =>
    obtain ⟨m, hn, hr⟩ := hr
    refine wpAny_bind (wpAny_holding ?_)
    refine wpAny_comp_letGo (cenv := { ce with scope := relabel scp env }) h4 _ b1 m (fun x hx => loc x (List.mem_filter.mp (List.mem_reverse.mp hx)).1) hn fun h' m' _ sb => ?_
    exact thn (hr h' sb _ rfl fe) fun _ _ z => z.elim
end
/-! the block's context, with what its exceptions meet -/
abbrev blkE (X : Cx) (s : Shared) (H : Hp) (scp : Scope) (ce : Env) (fr : List Addr) (xe' : Value → Shared → Prop) : Cx := { X with s_0 := s, H_0 := H, env := ce, outer := X.stack, ex := fr, fn := fun x => scp.names.lookup x == some .cell, pn := [], xe := xe' }
section
variable {X : Cx} {W : WX} {s sC t : Shared} {H HC H' : Hp} {scp : Scope} {ce bE : Env} {fr : List Addr} {xe' xe2 : Value → Shared → Prop} {pins : List (Addr × Obj)} {σ : L2.St}
theorem inv_e (I : Inv (blkE X s H scp ce fr xe') pins σ H' t) : Inv (blkE X s H scp ce fr xe2) pins σ H' t :=
  ⟨⟨I.ok.mod, I.ok.kind, I.ok.glob, I.ok.blt, I.ok.above, I.ok.inj, I.ok.has, I.ok.cab, I.ok.hd, I.ok.frames, I.ok.stk, I.ok.exf, I.ok.bs, I.ok.bsz, I.ok.noex, I.ok.exfs, I.ok.funs, I.ok.frf⟩, I.os, I.bare, I.base, I.loc, I.cell, I.free, I.freeC, I.pin, I.hok, I.len⟩
/-- what a call lets out is met -/
def PassW (X : Cx) (W : WX) : Prop := ∀ σ, PassesAt (L2.CX X.prog X.w) X σ (L2.WE W σ)
theorem frames_hid {h h' B B' : Heap} : ∀ {l : List Env}, (∀ L ∈ frs l, ∀ o, h.get? L = some o → h'.get? L = some o) → (∀ L ∈ frs l, B'.get? L = none) → h.FunFrames B l → h'.FunFrames B' l
  | [], _, _, _ => trivial
  | en :: l, k, n, f => by
    obtain ⟨f1, ⟨L, o, e1, e2, e3, e4⟩, f3⟩ := f
    have m : L ∈ frs (en :: l) := List.mem_filterMap.mpr ⟨en, List.mem_cons_self, e1⟩
    have up : ∀ L, L ∈ frs l → L ∈ frs (en :: l) := fun L hL => by
      obtain ⟨z, hz, q⟩ := List.mem_filterMap.mp hL
      exact List.mem_filterMap.mpr ⟨z, List.mem_cons_of_mem _ hz, q⟩
    exact ⟨f1, ⟨L, o, e1, n L m, k L m o e3, e4⟩, frames_hid (fun L hL => k L (up L hL)) (fun L hL => n L (up L hL)) f3⟩
theorem blk_out {use : Option (Value → Sem Unit)} {Qf : Value → Shared → Prop} {acc : Value} (hs : X.stack = X.env :: X.outer) (hf : X.env.frame = some X.env.locals) (tk : Takes X W) (hW : ∀ cls d σ σ' H, W cls d σ H → W cls d σ' H) (IC : Inv X pins σ HC sC) (frC : ∀ b ∈ fr, FpOk X pins HC b ∧ b < sC.heap.objs.size)
    (lB : bE.locals = sC.heap.objs.size) (fB : bE.frame = X.env.frame) (hx : ∀ u s', notedBy (model X.prog X.w) X.A bE (fun e s' => cpx (model X.prog X.w) X.A X.env X.xe use Qf acc sC.heap.objs.size (.error e) s') u s' → xe' u s') : PassW (blkE X sC HC scp bE fr xe') W := by
  intro σb pb Hb sb u s' Ib c
  refine hx u s' ?_
  have c0 := c
  obtain ⟨a, B, sI, p2, σ2, H2, cls, d, rfl, I2, nb, up, sky, na, os, ag, w⟩ := XE.of_call (X := blkE X sC HC scp bE fr xe') (W := W) Ib (fun _ _ _ h => h) c
  obtain ⟨a0, B0, H0, cls0, d0, e0, fl0, _⟩ := c0
  cases e0
  obtain ⟨_, _, _, oe0, vs0, T0, oT0, ts0, he0, _, hd0, h10, _, _, hT0, hdT0, h30⟩ := fl0
  have fl : HandSPX.FlyingZ B X.stack a (Zc cls d) s'.heap := by
    rcases sky with ⟨_, _, _, oe, vs, he, _, hd, hv⟩ | fl | ⟨_, _, _, oe, vs, T, oT, ts, he, _, hd, hv, _, _, hT, hdT, h3⟩
    · rw [he0] at he
      cases he
      rw [hd0] at hd
      cases hd
      rw [h10] at hv
      cases hv
    · exact fl
    · rw [he0] at he
      cases he
      rw [hd0] at hd
      cases hd
      rw [h10] at hv
      cases hv
      rw [hT0] at hT
      cases hT
      rw [hdT0] at hdT
      cases hdT
      rw [h30] at h3
      cases h3
  have hfr : X.A.frames = some (X.env :: X.outer) := by rw [← hs]; exact I2.ok.frames
  unfold notedBy
  rw [note_frame fB]
  rw [hs] at fl
  refine HandSPX.looks_onZ Zc.steady hfr hf fl fun h1 hd1 up1 => ?_
  have nC : H2 sC.heap.objs.size = none := by
    have z : H2 bE.locals = none := I2.free
    rw [lB] at z
    exact z
  have fpC : FpOk X pins H2 sC.heap.objs.size := IC.fpOk (Nat.le_refl _) nC
  obtain ⟨m, hn, _⟩ := I2.loc
  have hn : sI.heap.Ns bE.locals m := hn
  rw [lB] at hn
  refine ⟨m, up1.ns (up.ns hn), fun h2 sb2 ce hl hfr2 => ?_⟩
  obtain ⟨b1, b2, b3, oe, vs, Tt, oT, ts, he, hz, hd, hv, hnT, hTe, hT, hdT, h3⟩ := hd1
  obtain ⟨oc, hoc⟩ : ∃ oc, sI.heap.get? sC.heap.objs.size = some oc := let ⟨o, _, _, ho, _⟩ := hn; ⟨o, ho⟩
  have efr : frs (X.env :: X.outer) = X.env.locals :: frs X.outer := by
    unfold frs
    rw [List.filterMap_cons, hf]
  have nst : sC.heap.objs.size ∉ frs X.stack := by
    rw [hs, efr]
    intro hm
    rcases List.mem_cons.mp hm with z | z
    · exact fpC.2.1 z
    · exact fpC.2.2.1 z
  have BC : B.get? sC.heap.objs.size = some oc := nb _ oc hoc nst
  have aC : a ≠ sC.heap.objs.size := fun e => by rw [e, BC] at b2; cases b2
  have TC : Tt ≠ sC.heap.objs.size := fun e => by rw [e, BC] at hnT; cases hnT
  have he2 : h2.get? a = some oe := (sb2.2 a aC).trans he
  have hT2 : h2.get? Tt = some oT := (sb2.2 Tt TC).trans hT
  unfold PySem.passOn setFlight
  refine wpAny_bind (wpAny_field he2 hd hv ?_)
  rw [if_neg (by simp)]
  rw [hfr2, hf]
  refine wpAny_bind (wpAny_bind (wpAny_field he2 hd hv ?_))
  rw [if_pos (by simp)]
  refine wpAny_setField hT2 hdT (Array.getElem?_eq_some_iff.mp h3).1 ?_
  refine wpAny_throw ?_
  let v3 : Value := rawInt X.env.locals
  let h4 : Heap := h2.update Tt (Obj.mapFields fun x => x.setIfInBounds 3 v3)
  have oth : ∀ b, b ≠ Tt → h4.get? b = h2.get? b := fun b hb => Heap.get?_update_other h2 _ (Ne.symm hb)
  have dT := Obj.data_mapFields hdT (fun x => x.setIfInBounds 3 v3)
  have slf : h4.get? Tt = some (oT.mapFields fun x => x.setIfInBounds 3 v3) := Heap.get?_update_self _ hT2 (Obj.isFreed_of_fields dT)
  let hide : Heap → Heap := fun h => PySem.W.hideAll h [sC.heap.objs.size]
  have hid : ∀ {h : Heap} {b : Addr} {o : Obj}, (hide h).get? b = some o → h.get? b = some o ∧ b ≠ sC.heap.objs.size := fun {h b o} e => by
    refine ⟨PySem.W.of_hideAll _ e, fun z => ?_⟩
    have n := PySem.W.hideAll_none [sC.heap.objs.size] (h := h) (b := b) (by rw [z]; simp)
    rw [show (hide h).get? b = _ from n] at e
    cases e
  have shw : ∀ {h : Heap} {b : Addr} {o : Obj}, h.get? b = some o → b ≠ sC.heap.objs.size → (hide h).get? b = some o := fun {h b o} e n => PySem.W.hideAll_get [sC.heap.objs.size] e (by simpa using n)
  have gone : ∀ {h : Heap} {b : Addr}, h.get? b = none → (hide h).get? b = none := fun {h b} e => by
    cases q : (hide h).get? b with
    | none => rfl
    | some o =>
      rw [(hid q).1] at e
      cases e
  have Ib : Inv X pins σ H2 sI := IC.call' (ch := fr) I2.os I2.base I2.hok I2.bare fun b hb => let z := (frC b hb).1.2; ⟨z.2.2.1, z.1, z.2.2.2.1, z.2.2.2.2⟩
  have Id : Inv X pins σ H2 { sI with heap := hide sI.heap, toks := sI.toks } := Ib.turned (fun b o hb e => shw e hb) fpC.1 fpC.2.1 fpC.2.2.2.1 fpC.2.2.2.2.1 fpC.2.2.2.2.2
  have nb3 : ∀ b o, (hide sI.heap).get? b = some o → b ∉ frs X.stack → (hide B).get? b = some o := fun b o e hb => shw (nb b o (hid e).1 hb) (hid e).2
  have up3 : (hide sI.heap).UpToSlots h4 := fun b o e nf => by
    obtain ⟨sl, q1⟩ := up b o (hid e).1 nf
    obtain ⟨sl2, q2⟩ := up1 b _ q1 nf
    have bT : b ≠ Tt := fun z => by
      rw [z, hT] at q2
      cases q2
      exact nf ts hdT
    refine ⟨sl2, ?_⟩
    rw [oth b bT, sb2.2 b (hid e).2]
    exact q2
  have st3 : (hide B).StaysIn h4 := fun b o e => by
    have bT : b ≠ Tt := fun z => by
      rw [z, gone hnT] at e
      cases e
    rw [oth b bT, sb2.2 b (hid e).2]
    exact b1 b o (hid e).1
  have fmem : ∀ L ∈ frs X.stack, ∃ o, h1.get? L = some o ∧ ∀ vs, o.data ≠ .fields vs := fun L hL => by
    rw [hs] at hL
    obtain ⟨_, o, q1, q2⟩ := b3.mem hL
    exact ⟨o, q1, q2⟩
  have ff3 : h4.FunFrames (hide B) X.stack := by
    refine frames_hid (h := h1) (B := B) (fun L hL o e => ?_) (fun L hL => gone ?_) (by rw [hs]; exact b3)
    · obtain ⟨o2, q1, q2⟩ := fmem L hL
      have LT : L ≠ Tt := fun z => by
        rw [z, hT] at q1
        cases q1
        exact q2 ts hdT
      rw [oth L LT, sb2.2 L (fun z => nst (by rw [← z]; exact hL))]
      exact e
    · rw [hs] at hL
      exact (b3.mem hL).1
  have tr3 : HandSPX.TracedZ h4 (hide B) a (Zc cls d) (rawInt X.env.locals) :=
    ⟨oe, vs, Tt, _, _, (oth a (Ne.symm hTe)).trans he2, hz, hd, hv, gone hnT, hTe, slf, dT, by rw [Array.getElem?_setIfInBounds_self_of_lt (Array.getElem?_eq_some_iff.mp h3).1]⟩
  exact tk (.ref a) _ ⟨a, hide B, { sI with heap := hide sI.heap, toks := sI.toks }, pins, σ, H2, cls, d, rfl, Id, nb3, up3, .inr (.inr ⟨st3, gone b2, ff3, tr3⟩), na, os, ag, hW _ _ _ _ _ w⟩
end
section
variable {X : Cx}
theorem dcX_core {pins : List (Addr × Obj)} {s : Shared} {σ : L2.St} {H : Hp} {Q : V → Hp → Prop} {use : Option (Value → Sem Unit)} {Qf : Value → Shared → Prop} {pos' : Pos} {ke ve tgt ite : Expr} {cs : List Expr} {scp : Scope} {own : List (Str × Nat)} {ps : Pos} {wi : TI} {g : TG} {tt : TT} {tk tv : TE} {W : WX} (hst : X.stack = X.env :: X.outer) (hfm : X.env.frame = some X.env.locals) (tkk : Takes X W) (hW : ∀ cls d σ σ' H, W cls d σ H → W cls d σ' H) (hc : X.calm = true) (hN : X.N.Nodup) (hi : PI X tgt ite wi) (ok : BlkOk X.N X.env.scope scp own)
    (hg : ∀ (s : Shared) (H : Hp) (C : Addr) (cl : List (Str × Addr)) (fr : List Addr), PG (X.blk s H scp (compEnvC scp cl C X.env) fr) tgt g) (ht : ∀ (s : Shared) (H : Hp) (C : Addr) (cl : List (Str × Addr)) (fr : List Addr), PTs (X.blk s H scp (compEnvC scp cl C X.env) fr) cs tt)
    (hk : ∀ (s : Shared) (H : Hp) (C : Addr) (cl : List (Str × Addr)) (fr : List Addr), PE (X.blk s H scp (compEnvC scp cl C X.env) fr) ke tk)
    (he : ∀ (s : Shared) (H : Hp) (C : Addr) (cl : List (Str × Addr)) (fr : List Addr) (xe' : Value → Shared → Prop), PassW (blkE X s H scp (compEnvC scp cl C X.env) fr xe') W → PE (blkE X s H scp (compEnvC scp cl C X.env) fr xe') ve tv) (hs : ∀ x, foldedSetIterable ite X.env x = pure x) (I : Inv X pins σ H s) (h : tDc wi g tt tk tv (own.map (·.2)) σ H Q)
    (hRR : ∀ D C s' m H', Inv X pins σ H' s' → Q (.ref D) H' → s'.heap.Ns C m → FpOk X pins H' C → compPost (model X.prog X.w) X.A X.xe use Qf (.ref D) C (.ok .next) s') :
    wpAny (model X.prog X.w) X.A (comprehension (.DictComp ke ve [⟨tgt, ite, cs, 0⟩] scp ps) scp X.env pos' newDict false (eval ite X.env) use) Qf X.xe s := by
  have frees : ∀ y ∈ scp.names, y.2 = .free → ∃ c, X.env.cells.lookup y.1 = some c := fun y hy e => (ok.free y hy e).elim (fun z => I.ok.has _ (.inl z)) fun z => I.ok.has _ (.inr z)
  refine comp_x (use := use) rfl hs (closure_ok frees) ok.kind (fun y hy e => by rw [ok.uniq y hy, e]) (thn (hi.run pins s σ H _ I h) fun itx sA hA => thn hA fun itw sB hB => ?_)
  obtain ⟨it, fr, tn, J, HB, eit, IB, Tn, stB, frB, step⟩ := hB
  subst eit
  refine wpAny_newObj_type (newEnv_comp ⟨rfl, ?_⟩)
  generalize hD : sB.heap.objs.size = D
  have freshD : HB D = none := IB.hok.fresh (Nat.le_of_eq hD)
  obtain ⟨Wm, ⟨m0, w0⟩, turn⟩ := step D freshD
  obtain ⟨sC, eC⟩ : ∃ sC : Shared, sC = { sB with heap := sB.heap.push { cls := .type "dict", data := .dict #[] } } := ⟨_, rfl⟩
  rw [← eC]
  have heC : sC.heap = sB.heap.push { cls := .type "dict", data := .dict #[] } := by rw [eC]
  obtain ⟨HC, eHC⟩ : ∃ HC, HC = upd HB D (.dK []) := ⟨_, rfl⟩
  rw [← eHC] at w0
  have IC : Inv X pins σ HC sC := by
    rw [eC, eHC, ← hD]
    exact IB.laid (t' := sB.toks) (fun _ _ e => Heap.get?_push_of_some _ e) (Nat.le_refl _) (dk_empty sB.heap IB.big)
  have small : ∀ b ∈ fr, b < sB.heap.objs.size := fun b hb => let ⟨_, e, _⟩ := Tn.obj _ _ stB b hb; Heap.lt_size e
  have frC : ∀ b ∈ fr, FpOk X pins HC b ∧ b < sC.heap.objs.size := fun b hb => by
    refine ⟨⟨?_, (frB b hb).2⟩, by rw [heC, Heap.size_push]; exact Nat.lt_succ_of_lt (small b hb)⟩
    rw [eHC, upd_ne (by rw [← hD]; exact Nat.ne_of_lt (small b hb))]
    exact (frB b hb).1
  have stC : tn 0 sC.heap := Tn.keep _ _ _ stB fun b _ o e => by rw [heC]; exact Heap.get?_push_of_some _ e
  have IL := block_start IC ok hN frC
  let cl0 := cellsFrom (sC.heap.objs.size + 1) scp.names (cloFrom X.env.cells scp.names [])
  have g1 := hg sC HC sC.heap.objs.size cl0 fr
  have g2 := ht sC HC sC.heap.objs.size cl0 fr
  have g3 := hk sC HC sC.heap.objs.size cl0 fr
  have g4 := he sC HC sC.heap.objs.size cl0 fr
  refine (?_ : codeAny (model X.prog X.w) X.A (.compStart (.DictComp ke ve [⟨tgt, ite, cs, 0⟩] scp ps) 0 (.ref it) (.ref D) (compEnvC scp cl0 sC.heap.objs.size X.env)) _ { sC with heap := pushCells (sC.heap.push { cls := .type "dict", data := .dict #[] }) scp.names })
  generalize eB : compEnvC scp cl0 sC.heap.objs.size X.env = bE at IL g1 g2 g3 g4
  have lB : bE.locals = sC.heap.objs.size := by rw [← eB]; rfl
  have fB : bE.frame = X.env.frame := by rw [← eB]; rfl
  have hn0 : ∀ b ∈ fr, HC b = none := fun b hb => (frC b hb).1.1
  obtain ⟨sL, eL⟩ : ∃ sL : Shared, sL = { sC with heap := pushCells (sC.heap.push { cls := .type "dict", data := .dict #[] }) scp.names } := ⟨_, rfl⟩
  rw [← eL] at IL ⊢
  have stL : tn 0 sL.heap := Tn.keep _ _ _ stC fun b _ o e => by rw [eL]; exact pushCells_keeps _ _ _ _ (Heap.get?_push_of_some _ e)
  have fpo : ∀ {σ' : L2.St} {H' : Hp} {s' : Shared}, Inv (X.blk sC HC scp bE fr) [] σ' H' s' → (∀ b ∈ fr, H' b = none) → ∀ b ∈ fr, FpOk (X.blk sC HC scp bE fr) [] H' b := fun {σ' H' s'} I' hn b hb =>
    ⟨hn b hb, (I'.ok.exf b hb).1, I'.ok.exfs b hb, .inl hb, fun x c e => (I'.ok.exf b hb).2 x c e, fun p hp => absurd (show p ∈ ([] : List (Addr × Obj)) ++ [] from hp) (by simp)⟩
  have run : codeAny (model X.prog X.w) X.A (.compLoop (.DictComp ke ve [⟨tgt, ite, cs, 0⟩] scp ps) 0 (.ref it) (.ref D) bE) (cpx (model X.prog X.w) X.A X.env X.xe use Qf (.ref D) sC.heap.objs.size) sL := by
    refine compLoop_anyD (fun n t => ∃ i Hi, Inv (X.blk sC HC scp bE fr) [] (wipe σ (own.map (·.2))) Hi t ∧ tn i t.heap ∧ (∀ b ∈ fr, Hi b = none) ∧ Wm i n Hi) ?_ m0 ⟨0, HC, IL, stL, hn0, w0⟩
    rintro n t ⟨i, Hi, Ii, sti, ni, wi'⟩
    rcases turn i n Hi wi' with ⟨fin, qD⟩ | ⟨more, Nx, hNx, one⟩
    · refine thnF (Tn.done (X.blk sC HC scp bE fr) rfl rfl rfl hc i [] t _ Hi (fun _ _ => False) Ii (fpo Ii ni) sti fin) fun r t2 ⟨er, It⟩ => ?_
      subst er
      have Ib : Inv X pins σ Hi t2 := IC.call' (ch := fr) It.os It.base It.hok It.bare fun b hb => let z := (frC b hb).1.2; ⟨z.2.2.1, z.1, z.2.2.2.1, z.2.2.2.2⟩
      have freeC : Hi sC.heap.objs.size = none := by
        have q : Hi bE.locals = none := It.free
        rw [lB] at q
        exact q
      obtain ⟨mN, hN2, _⟩ := It.loc
      have hN3 : t2.heap.Ns bE.locals mN := hN2
      rw [lB] at hN3
      exact hRR D sC.heap.objs.size t2 mN Hi Ib qD hN3 (IC.fpOk (Nat.le_refl _) freeC)
    · refine thnF (Tn.item (X.blk sC HC scp bE fr) rfl rfl rfl hc i [] t _ Hi (fun _ _ => False) Ii (fpo Ii ni) sti more) fun r t2 ⟨u, er, ho⟩ => ?_
      subst er
      refine thnF ho fun _ t3 ⟨x, Hx, Ix, rx, yx, stx, nx⟩ => ?_
      refine thnF (g1.run _ t3 _ Hx x u _ (Ix.pinned (fpo Ix nx) (Tn.obj _ _ stx)) rx (one x Hx yx)) fun _ t4 ⟨σ4, H4, I4, ew, q4⟩ => ?_
      refine thnF (g2.run _ t4 σ4 H4 _ I4 q4) fun yes t5 ⟨H5, I5, q5⟩ => ?_
      have close : ∀ {t' : Shared} {H' : Hp}, Inv (X.blk sC HC scp bE fr) ([] ++ pinsAt fr t3.heap) σ4 H' t' → Nx H' → ∃ m, m < n ∧ ∃ i Hi, Inv (X.blk sC HC scp bE fr) [] (wipe σ (own.map (·.2))) Hi t' ∧ tn i t'.heap ∧ (∀ b ∈ fr, Hi b = none) ∧ Wm i m Hi := fun {t' H'} I' nn => by
        obtain ⟨m', hm, w'⟩ := hNx H' nn
        have pin2 : ∀ b ∈ fr, ∀ o, t3.heap.get? b = some o → t'.heap.get? b = some o ∧ H' b = none := fun b hb o e => ⟨(I'.pin (b, o) (List.mem_append_right _ (List.mem_append_right _ (mem_pinsAt hb e)))).1, (I'.pin (b, o) (List.mem_append_right _ (List.mem_append_right _ (mem_pinsAt hb e)))).2.1⟩
        refine ⟨m', hm, i + 1, H', (I'.unpinned (pins := [])).weak (by rw [← ew, wipe_length]) (fun j v e => ?_), Tn.keep _ _ _ stx fun b hb o e => (pin2 b hb o e).1, fun b hb => ?_, w'⟩
        · rw [← ew] at e
          exact (wipe_some e).1
        · obtain ⟨o, e, _⟩ := Tn.obj _ _ stx b hb
          exact (pin2 b hb o e).2
      cases yes with
      | false =>
        simp only [Bool.false_eq_true, if_false] at q5 ⊢
        exact close I5 q5
      | true =>
        simp only [if_true] at q5 ⊢
        refine thnF (g3.run _ t5 σ4 H5 _ I5 q5) fun vk t6 ⟨yk, H6, I6, rk, q6⟩ => ?_
        have g5 := g4 (notedBy (model X.prog X.w) X.A bE fun e t' => cpx (model X.prog X.w) X.A X.env X.xe use Qf (.ref D) sC.heap.objs.size (.error e) t') (blk_out hst hfm tkk hW IC frC lB fB fun _ _ z => z)
        refine wpAny_mono (g5.run _ t6 σ4 H6 _ (inv_e I6) q6) (fun vv t7 q7 => ?_) fun _ _ z => z
        obtain ⟨yv, H7, I7, rv, kvs, kk, ek, eD, hz, nn⟩ := q7
        subst ek
        exact d_dictSet (X := X.blk sC HC scp bE fr) (inv_e I7) eD hz rk rv fun t8 I8 => close I8 nn
  exact codeAny_compStart_dict run (Tn.self X.A 0 _ _ _ stL run)
theorem pe_dcX {ke ve tgt ite : Expr} {cs : List Expr} {scp : Scope} {own : List (Str × Nat)} {ps : Pos} {wi : TI} {g : TG} {tt : TT} {tk tv : TE} {W : WX} (hst : X.stack = X.env :: X.outer) (hfm : X.env.frame = some X.env.locals) (tkk : Takes X W) (hW : ∀ cls d σ σ' H, W cls d σ H → W cls d σ' H) (hc : X.calm = true) (hN : X.N.Nodup) (hi : PI X tgt ite wi) (ok : BlkOk X.N X.env.scope scp own)
    (hg : ∀ (s : Shared) (H : Hp) (C : Addr) (cl : List (Str × Addr)) (fr : List Addr), PG (X.blk s H scp (compEnvC scp cl C X.env) fr) tgt g) (ht : ∀ (s : Shared) (H : Hp) (C : Addr) (cl : List (Str × Addr)) (fr : List Addr), PTs (X.blk s H scp (compEnvC scp cl C X.env) fr) cs tt)
    (hk : ∀ (s : Shared) (H : Hp) (C : Addr) (cl : List (Str × Addr)) (fr : List Addr), PE (X.blk s H scp (compEnvC scp cl C X.env) fr) ke tk)
    (he : ∀ (s : Shared) (H : Hp) (C : Addr) (cl : List (Str × Addr)) (fr : List Addr) (xe' : Value → Shared → Prop), PassW (blkE X s H scp (compEnvC scp cl C X.env) fr xe') W → PE (blkE X s H scp (compEnvC scp cl C X.env) fr xe') ve tv) (hs : ∀ x, foldedSetIterable ite X.env x = pure x := by intro _; rfl) :
    PE X (.DictComp ke ve [⟨tgt, ite, cs, 0⟩] scp ps) (tDc wi g tt tk tv (own.map (·.2))) := by
  refine ⟨fun pins s σ H Q I h => ?_⟩
  rw [arm_eval_DictComp]
  refine dcX_core (use := none) hst hfm tkk hW hc hN hi ok hg ht hk he hs I h fun D C s' m H' I' q hn f => ⟨m, hn, fun h'' sb => ?_⟩
  obtain ⟨f0, f1, f2, f3, f4, f5⟩ := f
  exact ⟨.ref D, H', I'.turned (t' := s'.toks) (fun b o hb e => (sb.2 b hb).trans e) f0 f1 f3 f4 f5, rfl, q⟩
theorem ps_setDcX {i : Nat} {y : Str} {py spos : Pos} {ke ve tgt ite : Expr} {cs : List Expr} {scp : Scope} {own : List (Str × Nat)} {ps : Pos} {wi : TI} {g : TG} {tt : TT} {tk tv : TE} {W : WX} (hst : X.stack = X.env :: X.outer) (hfm : X.env.frame = some X.env.locals) (tkk : Takes X W) (hW : ∀ cls d σ σ' H, W cls d σ H → W cls d σ' H) (hc : X.calm = true) (hN : X.N.Nodup) (hy : X.N[i]? = some y) (hyl : X.env.scope.names.lookup y = some .local)
    (hsw : swapsWith (.DictComp ke ve [⟨tgt, ite, cs, 0⟩] scp ps) (some (.Name y py)) spos.line X.env = pure true) (hi : PI X tgt ite wi) (ok : BlkOk X.N X.env.scope scp own)
    (hg : ∀ (s : Shared) (H : Hp) (C : Addr) (cl : List (Str × Addr)) (fr : List Addr), PG (X.blk s H scp (compEnvC scp cl C X.env) fr) tgt g) (ht : ∀ (s : Shared) (H : Hp) (C : Addr) (cl : List (Str × Addr)) (fr : List Addr), PTs (X.blk s H scp (compEnvC scp cl C X.env) fr) cs tt)
    (hk : ∀ (s : Shared) (H : Hp) (C : Addr) (cl : List (Str × Addr)) (fr : List Addr), PE (X.blk s H scp (compEnvC scp cl C X.env) fr) ke tk)
    (he : ∀ (s : Shared) (H : Hp) (C : Addr) (cl : List (Str × Addr)) (fr : List Addr) (xe' : Value → Shared → Prop), PassW (blkE X s H scp (compEnvC scp cl C X.env) fr xe') W → PE (blkE X s H scp (compEnvC scp cl C X.env) fr xe') ve tv) (hs : ∀ x, foldedSetIterable ite X.env x = pure x := by intro _; rfl) :
    PS X (.Assign [.Name y py] (.DictComp ke ve [⟨tgt, ite, cs, 0⟩] scp ps) spos) (tAsg (tDc wi g tt tk tv (own.map (·.2))) (gName i)) := by
  refine ⟨fun pins s σ H D I h => ?_⟩
  rw [exec_Assign_Name_used _ _ _ _ hsw]
  refine wpAny_bind (wpAny_standAt (wpAny_bind ?_))
  show wpAny _ X.A (do let _ ← comprehension (.DictComp ke ve [⟨tgt, ite, cs, 0⟩] scp ps) scp X.env (firstIterPos [⟨tgt, ite, cs, 0⟩] ps) newDict false (eval ite X.env) (some (assign (.Name y py) X.env))) _ _ s
  have h : tDc wi g tt tk tv (own.map (·.2)) σ H (fun x H1 => gName i x σ H1 D.nx) := h
  refine wpAny_bind (thn (dcX_core (Qf := fun _ s' => SP X pins D .next s') hst hfm tkk hW hc hN hi ok hg ht hk he hs I h fun L C s' m H' I' q hn f => ?_) fun _ s' hq => wpAny_pure (wpAny_pure hq))
  show wpAny _ _ (assign (.Name y py) X.env (.ref L)) _ _ _
  refine wpAny_assign_Name (store_ok2 (v := V.ref L) I' hN hy (.inl hyl) rfl (fun s2 I2 ⟨a, sb, ha⟩ => ?_) (.inr hyl))
  obtain ⟨f0, f1, f2, f3, f4, f5⟩ := f
  have haC : C ≠ a := by
    rcases ha with z | z
    · rw [z]; exact f1
    · exact fun e => f4 y a z e.symm
  refine ⟨m, hn.sameBut sb haC, fun h3 sb3 => ?_⟩
  exact ⟨_, H', I2.turned (t' := s2.toks) (fun b o hb e => (sb3.2 b hb).trans e) f0 f1 f3 f4 f5, q⟩
end
/-! by data -/
section
variable {K : PySem.W.Frag} {c : Cq} {S : Sx} {σ : L2.St} {H : Hp}
theorem Rel.unplus {D : Addr} (r : Rel K (c.plus D) S σ H) : Rel K c S σ H := by
  have up : ∀ b, S.A c b → S.A (c.plus D) b := fun b z => z.imp .inl id
  have k : Kp (S.A (c.plus D)) (S.A c) H H := ⟨fun _ _ z _ => z, fun b z => .inl (up b z)⟩
  refine ⟨r.len, r.cn, fun i d he => ?_, fun i p ds he => ?_, r.inj, r.sep, fun a m em => (r.mem a m em).kp k fun _ z => z, fun a z => r.a0 a (.inl z), r.kp⟩
  · obtain ⟨v, h1, h2⟩ := r.val i d he
    exact ⟨v, h1, h2.anti up⟩
  · obtain ⟨h1, vs, h2, h3⟩ := r.own i p ds he
    exact ⟨h1, vs, h2, h3.anti up⟩
theorem xok_plus {Xs : Value → Option (List (Str × Da)) → Sx → Prop} {W : WX} (h : XOk K c Xs W) {D : Addr} : XOk K (c.plus D) Xs W := fun cls ofs S' hx σ' H' d r hd => by
  refine h cls ofs S' hx σ' H' d r.unplus ?_
  cases ofs with
  | none => exact hd
  | some gs =>
    obtain ⟨a, fs, e1, e2, e3⟩ := hd
    exact ⟨a, fs, e1, e2, e3.kp ⟨fun _ _ z _ => z, fun b z => .inl (z.imp .inl id)⟩⟩
theorem ldcX {K : PySem.W.Frag} {wi : WI} {g : TG} {wg : WG} {tt : TT} {wt : WT} {tk tv : TE} {wk wv : WE} {is vs : List Nat} (L : ∀ c' : Cq, c'.n = c.n → LG K c' g wg is) (hv : ∀ i ∈ is, i ∈ vs) (ht : ∀ c' : Cq, c'.n = c.n → ∀ σ H Q, lT K c' wt σ H Q → tt σ H Q)
    (hk : ∀ c' : Cq, c'.n = c.n → ∀ σ H Q, lE K c' wk σ H Q → tk σ H Q) (he : ∀ D : Addr, ∀ σ H Q, lE K (c.plus D) wv σ H Q → tv σ H Q) : ∀ σ H Q, lE K c (wDc wi wg wt wk wv vs) σ H Q → tDc (lWk K c wi) g tt tk tv vs σ H Q := fun σ H Q h => by
  obtain ⟨S, Qd, r, h, p⟩ := h
  refine ⟨S, _, r, h, fun ds S1 h1 H1 J r1 k1 ok D nD => ?_⟩
  have nk := r1.nk nD
  have nA : ¬ c.A0 D := fun z => (r1.a0 D z).1 nD
  obtain ⟨r1', _⟩ := r1.plus (o := .dK []) nD
  have sm1 : Same H1 (upd H1 D (.dK [])) := same_upd nD
  let Qe : List (Key × Da) → Sx → Prop := fun acc S2 => ∀ q, S2.M q = none → Qd (.r q) ⟨S2.ρ, updM S2.M q (.dk none acc)⟩
  refine ⟨fun i m H2 => m = ds.length - i ∧ i ≤ ds.length ∧ ∃ S2 acc vacc, Rel K (c.plus D) S2 σ H2 ∧ Kp S1.W S2.W H1 H2 ∧ H2 D = some (.dK vacc) ∧ RpK K (S2.A (c.plus D)) H2 vacc acc ∧ acc.length ≤ sizeLine ∧ dcGo wg wt wk wv vs Qe (ds.drop i) acc S2,
    ⟨ds.length, by simp, Nat.zero_le _, S1.norm vs, [], [], (r1'.back r1' .refl rfl fun _ _ => rfl).1, (Kp.same sm1).trans (r1'.back r1' .refl rfl fun _ _ => rfl).2, upd_same, .nil, Nat.zero_le _, by simpa using h1⟩, ?_⟩
  rintro i m H2 ⟨rfl, hi, S2, acc, vacc, r2, k2, eD, ra, hz, h2⟩
  obtain ⟨go, stop⟩ := ok H2 (fun a => S2.W a ∨ a = D) ⟨k2.keep, fun b z => z.elim (k2.mono b) fun q => .inr (by rw [q]; exact nD)⟩ i
  by_cases hlt : i < ds.length
  · refine .inr ⟨(go ds[i] (List.getElem?_eq_getElem hlt)).1, fun H' => ∃ S2 acc vacc, Rel K (c.plus D) S2 σ H' ∧ Kp S1.W S2.W H1 H' ∧ H' D = some (.dK vacc) ∧ RpK K (S2.A (c.plus D)) H' vacc acc ∧ acc.length ≤ sizeLine ∧ dcGo wg wt wk wv vs Qe (ds.drop (i + 1)) acc S2,
      fun H' q => ⟨ds.length - (i + 1), by omega, rfl, hlt, q⟩, fun x H3 hy => ?_⟩
    obtain ⟨sm, rx⟩ := (go ds[i] (List.getElem?_eq_getElem hlt)).2 x H3 hy
    rw [List.drop_eq_getElem_cons hlt] at h2
    have r3 := r2.same sm
    have k3 : Kp S2.W S2.W H2 H3 := .same sm
    obtain ⟨rw3, kw3⟩ := r3.wipe vs
    have rx' : Rp K ((S2.wipe vs).A (c.plus D)) H3 x ds[i] := rx.kp ⟨fun b u e _ => e, fun b z => by
      rcases z with (z | z) | z
      · exact .inl (.inl z)
      · exact .inl (.inr (.inr z))
      · exact (kw3.mono b z).imp (fun q => .inr (.inl q)) id⟩
    refine (L (c.plus D) rfl).run x ds[i] _ _ H3 _ _ rw3 rx' h2 fun S4 σ4 h4 r4 k4 s4 l4 => ?_
    have l4' : σ4.length = σ.length := by rw [l4, wipe_length]
    have s4' : ∀ j, j ∉ vs → σ4[j]? = σ[j]? := fun j hj => by
      rw [s4 j (fun z => hj (hv j z)), wipe_get hj]
    refine ⟨wipe_eq l4' s4', ht (c.plus D) rfl _ _ _ ⟨S4, _, r4, h4, fun b S5 h5 H5 r5 k5 => ?_⟩⟩
    have k25 : Kp S2.W S5.W H2 H5 := ((k3.trans kw3).trans k4).trans k5
    have D5 : H5 D = some (.dK vacc) := k25.keep D _ eD (.inl (r2.a0 D (.inr rfl)).2)
    refine ite_of h5 (fun h6 => hk (c.plus D) rfl _ _ _ ⟨S5, _, r5, h6, fun y S6 h7 H6 v r6 k6 py => he D _ _ _ ⟨S6, _, r6, h7, fun z S7 h8 H7 u r7 k7 pz => ?_⟩⟩) fun h6 => ?_
    · obtain ⟨kk, hkk, zO, hz2, h9⟩ := h8
      have k27 := (k25.trans k6).trans k7
      have D7 : H7 D = some (.dK vacc) := k27.keep D _ eD (.inl (r2.a0 D (.inr rfl)).2)
      obtain ⟨rb, kb⟩ := r2.back r7 k27 l4' s4'
      have kab := kA (c := c.plus D) (k27.trans kb)
      have ra7 := ra.kp kab
      refine ⟨vacc, kk, key_ok hkk py, D7, by rw [rpk_len' ra]; exact hz2, S2.back S7 vs, putD acc kk z, putK vacc kk u, rb.upD D7 trivial nk, ?_, upd_same, ?_, Nat.le_trans putD_length hz2, h9⟩
      · refine ⟨fun b u eb z => ?_, (k2.trans (k27.trans kb)).mono⟩
        rw [upd_ne (ne_of_none eb nD)]
        exact (k2.trans (k27.trans kb)).keep b u eb z
      · refine (rpk_put ra7 ((pz.pure zO).kp (kA kb))).kp ⟨fun b u eb z => ?_, fun b z => .inl z⟩
        have : b ≠ D := fun q => by
          subst q
          rcases z with z | z
          · exact z (.inl (.inr rfl))
          · rw [D7] at eb
            cases eb
            exact z trivial
        rw [upd_ne this]
        exact eb
    · obtain ⟨rb, kb⟩ := r2.back r5 k25 l4' s4'
      exact ⟨S2.back S5 vs, acc, vacc, rb, k2.trans (k25.trans kb), D5, ra.kp (kA (k25.trans kb)), hz, h6⟩
  · have e : i = ds.length := by omega
    subst e
    rw [List.drop_length] at h2
    obtain ⟨rm, km⟩ := r2.minus eD trivial nA nk
    have h2' : Qe acc S2 := h2
    obtain ⟨r5, k5⟩ := rm.newM (o := .dK vacc) (m := .dk none acc) offH_same fun A k => ⟨vacc, upd_same, (ra.kp km).kp k⟩
    rw [upd_offH eD] at r5 k5
    refine .inl ⟨stop (Nat.le_refl _), p (.r D) _ (h2' D (m_none rm offH_same)) _ _ r5 ?_ (.inl (.r D))⟩
    refine (k1.trans ⟨fun b u eb z => ?_, fun b z => k2.mono b z⟩ : Kp S.W S2.W H (offH H2 D)).trans k5
    rw [offH_ne (ne_of_none eb nD)]
    exact k2.keep b u eb z
end
section
variable {X : Cx} {c : Cq} {wl : WA} {Xs : Value → Option (List (Str × Da)) → Sx → Prop} {W : WX}
theorem v_callP {k : Nat} {f : Addr} {fd : FuncData} {ps : List Str} {dc : DC} {x : Str} {p pos : Pos} {e : Expr} {es : List Expr} (F : FnOk X.prog X.w X.K X.mg X.base (L2.CX X.prog X.w) k f fd ps (spOf X.K dc)) (hr : Room k X.A) (hg : Gl X x) (hm : X.mg x = some (.ref f)) (hk : PySem.W.keepIn X.K (.ref f) = true) (hb : Binds X.K fd ps [])
    (pw : PassW X W) (hX : XOk X.K c Xs W) (ha : PA X (e :: es) (lA X.K c wl)) (hdb : (x == ("__debug__" : Str)) = false := by decide) (he : starEach (e :: es) X.env = (false, eval e X.env) :: starEach es X.env := by rfl) (hpl : (backTo pos (starEach es X.env)).any (·.1) = false := by rfl) :
    PE X (.Call (.Name x p) (e :: es) [] pos) (lE X.K c (wCall dc [] Xs wl)) := pe_imp (pe_callSD F hr hg hm hk hb .nil pw ha hdb he hpl) fun σ H Q h => by
  obtain ⟨S, Qd, r, h, p⟩ := h
  exact ⟨S, _, r, h, fun ds S1 h1 H1 vs r1 k1 p1 => sp_call r1 (p1.append .nil) h1 (p.at k1) hX⟩
theorem v_dcX {W : WX} {Xs : Value → Option (List (Str × Da)) → Sx → Prop} {kx vx tg iter : Expr} {ifs : List Expr} {scope : Scope} {own : List (Str × Nat)} {wi : WI} {wt : WT} {g : TG} {wg : WG} {is : List Nat} (hst : X.stack = X.env :: X.outer) (hfm : X.env.frame = some X.env.locals) (tkk : Takes X W) (hW : ∀ cls d σ σ' H, W cls d σ H → W cls d σ' H) (hX : XOk X.K c Xs W) (hc : X.calm = true) (hN : X.N.Nodup) (hi : PI X tg iter (lWk X.K c wi)) (ok : BlkOk X.N X.env.scope scope own)
    (L : ∀ c' : Cq, c'.n = c.n → LG X.K c' g wg is) (hg : ∀ (s : Shared) (H : Hp) (C : Addr) (cl : List (Str × Addr)) (fp : List Addr), PG (X.blk s H scope (compEnvC scope cl C X.env) fp) tg g)
    (ht : ∀ (s : Shared) (H : Hp) (C : Addr) (cl : List (Str × Addr)) (fp : List Addr) (c' : Cq), c'.n = c.n → PTs (X.blk s H scope (compEnvC scope cl C X.env) fp) ifs (lT X.K c' wt))
    (hk : ∀ (s : Shared) (H : Hp) (C : Addr) (cl : List (Str × Addr)) (fp : List Addr) (c' : Cq), c'.n = c.n → PE (X.blk s H scope (compEnvC scope cl C X.env) fp) kx (lE X.K c' wk))
    (he : ∀ (s : Shared) (H : Hp) (C : Addr) (cl : List (Str × Addr)) (fp : List Addr) (xe' : Value → Shared → Prop) (c' : Cq), c'.n = c.n → PassW (blkE X s H scope (compEnvC scope cl C X.env) fp xe') W → XOk X.K c' Xs W → PE (blkE X s H scope (compEnvC scope cl C X.env) fp xe') vx (lE X.K c' wv))
    (hv : ∀ i ∈ is, i ∈ own.map (·.2)) (hs : ∀ x, foldedSetIterable iter X.env x = pure x := by intro _; rfl) : PE X (.DictComp kx vx [⟨tg, iter, ifs, 0⟩] scope pos) (lE X.K c (wDc wi wg wt wk wv (own.map (·.2)))) :=
  pe_imp (pe_dcX (tt := fun σ H Q => ∃ c' : Cq, c'.n = c.n ∧ lT X.K c' wt σ H Q) (tk := fun σ H Q => ∃ c' : Cq, c'.n = c.n ∧ lE X.K c' wk σ H Q) (tv := fun σ H Q => ∃ D : Addr, lE X.K (c.plus D) wv σ H Q) hst hfm tkk hW hc hN hi ok hg
    (fun s H C cl fp => ⟨fun pins s' σ H' Q I ⟨c', hc', h⟩ => (ht s H C cl fp c' hc').run pins s' σ H' Q I h⟩)
    (fun s H C cl fp => ⟨fun pins s' σ H' Q I ⟨c', hc', h⟩ => (hk s H C cl fp c' hc').run pins s' σ H' Q I h⟩)
    (fun s H C cl fp xe' pw => ⟨fun pins s' σ H' Q I ⟨D, h⟩ => (he s H C cl fp xe' (c.plus D) rfl pw (xok_plus hX)).run pins s' σ H' Q I h⟩) hs)
    (ldcX L hv (fun c' e _ _ _ h => ⟨c', e, h⟩) (fun c' e _ _ _ h => ⟨c', e, h⟩) (fun D _ _ _ h => ⟨D, h⟩))
end
end VL
set_option Elab.async false
set_option linter.all false
set_option maxRecDepth 100000
set_option maxHeartbeats 1000000
namespace VL
open PySem PySem.Spec PyProof.Rows L2
/-! ### is True, is False; d.clear(); {k: v, ..} -/
section
variable {X : Cx}
theorem op_isB : OpR X (compareOp .Is) (fun x y H Q => ∃ m n, x = .bl m ∧ y = .bl n ∧ Q (.bl (m == n)) H) := by
  intro pins s σ H x y v u Q I rx ry h
  obtain ⟨m, n, rfl, rfl, q⟩ := h
  obtain rfl : v = Value.bool m := rx
  obtain rfl : u = Value.bool n := ry
  cases m <;> cases n
  · exact wpAny_is_self rfl ⟨.bl true, H, I, rfl, q⟩
  · exact wpAny_is_other rfl (fun z => by cases z) ⟨.bl false, H, I, rfl, q⟩
  · exact wpAny_is_other rfl (fun z => by cases z) ⟨.bl false, H, I, rfl, q⟩
  · exact wpAny_is_self rfl ⟨.bl true, H, I, rfl, q⟩
theorem op_isNotB : OpR X (compareOp .IsNot) (fun x y H Q => ∃ m n, x = .bl m ∧ y = .bl n ∧ Q (.bl (!(m == n))) H) := by
  intro pins s σ H x y v u Q I rx ry h
  obtain ⟨m, n, rfl, rfl, q⟩ := h
  obtain rfl : v = Value.bool m := rx
  obtain rfl : u = Value.bool n := ry
  cases m <;> cases n
  · exact wpAny_isNot_self rfl ⟨.bl false, H, I, rfl, q⟩
  · exact wpAny_isNot_other rfl (fun z => by cases z) ⟨.bl true, H, I, rfl, q⟩
  · exact wpAny_isNot_other rfl (fun z => by cases z) ⟨.bl true, H, I, rfl, q⟩
  · exact wpAny_isNot_self rfl ⟨.bl false, H, I, rfl, q⟩
end
def rdIsB (neg : Bool) : RD := fun x y S Q => match x, y with
  | .b m, .b n => Q (.b (if neg then !(m == n) else m == n)) S
  | _, _ => False
section
variable {K : PySem.W.Frag} {c : Cq}
theorem lIsB : OpL K c (fun x y H Q => ∃ m n, x = .bl m ∧ y = .bl n ∧ Q (.bl (m == n)) H) (rdIsB false) := fun σ H S x y dx dy Qd Q r rx ry h p => by
  cases dx <;> cases dy <;> try exact h.elim
  exact ⟨_, _, rs_b rx, rs_b ry, p _ _ h _ _ r .refl (.inl (.b _))⟩
theorem lIsNotB : OpL K c (fun x y H Q => ∃ m n, x = .bl m ∧ y = .bl n ∧ Q (.bl (!(m == n))) H) (rdIsB true) := fun σ H S x y dx dy Qd Q r rx ry h p => by
  cases dx <;> cases dy <;> try exact h.elim
  exact ⟨_, _, rs_b rx, rs_b ry, p _ _ h _ _ r .refl (.inl (.b _))⟩
end
def wClear (we : WE) : WE := fun S Q => we S fun x S1 => ∃ p kds, x = .r p ∧ S1.M p = some (.dk none kds) ∧ Q .n ⟨S1.ρ, updM S1.M p (.dk none [])⟩
section
variable {X : Cx} {c : Cq} {o : Expr} {apos cpos : Pos} {we : WE}
theorem v_clear (ho : PE X o (lE X.K c we)) (hbase : attributeBase o "clear" X.env (eval o X.env) = eval o X.env := by rfl) (hline : (apos.endLine == cpos.line) = true := by rfl) : PE X (.Call (.Attribute o "clear" apos) [] [] cpos) (lE X.K c (wClear we)) := pe_imp (pe_dclear ho hbase hline) fun σ H Q h => by
  obtain ⟨S, Qd, r, h, p⟩ := h
  refine ⟨S, _, r, h, fun d S1 h1 H1 v r1 k1 p1 => ?_⟩
  obtain ⟨q, kds, rfl, eM, h2⟩ := h1
  obtain ⟨kvs, g1, g2⟩ := r1.mem q _ eM
  have ev := rs_r p1
  subst ev
  obtain ⟨r2, k2⟩ := r1.updM (m' := .dk none []) (o' := .dK []) eM g1 trivial fun A kk => ⟨[], upd_same, .nil⟩
  refine ⟨?_, q, kvs, rfl, rfl, g1, p _ _ h2 _ _ r2 (k1.trans k2) (.inl .n)⟩
  exact .inr (.inr (.inl ⟨rfl, .inl ⟨kvs, g1⟩⟩))
end
/-! displays -/
abbrev PsD := List (WE × WE)
def wPs : PsD → Sx → (List (Key × Da) → Sx → Prop) → Prop
  | [], S, Q => Q [] S
  | p :: r, S, Q => p.1 S fun y S1 => p.2 S1 fun z S2 => ∃ k, y.key = some k ∧ z.isO = false ∧ wPs r S2 fun kds S3 => Q ((k, z) :: kds) S3
def mergeD (acc : List (Key × Da)) (kds : List (Key × Da)) : List (Key × Da) := kds.foldl (fun a kd => putD a kd.1 kd.2) acc
def wDisp (ps : PsD) : WE := fun S Q => wPs ps S fun kds S1 => kds.length ≤ 15 ∧ ∀ q, S1.M q = none → Q (.r q) ⟨S1.ρ, updM S1.M q (.dk none (mergeD [] kds))⟩
def plusT (X : Cx) (c : Cq) (w : WE) : TE := fun σ H Q => ∃ D : Addr, lE X.K (c.plus D) w σ H Q
def plusPs (X : Cx) (c : Cq) (ps : PsD) : List (TE × TE) := ps.map fun p => (plusT X c p.1, plusT X c p.2)
section
variable {K : PySem.W.Frag} {c : Cq} {A : Addr → Prop} {H : Hp}
theorem rpk_merge : ∀ {more : List (Key × V)} {mored : List (Key × Da)} {kvs : List (Key × V)} {kds : List (Key × Da)}, RpK K A H kvs kds → RpK K A H more mored → RpK K A H (mergeK kvs more) (mergeD kds mored)
  | [], _, _, _, h, .nil => h
  | (k, v) :: more, (_, d) :: mored, kvs, kds, h, .cons hv t => by
    show RpK K A H (mergeK (putK kvs k v) more) (mergeD (putD kds k d) mored)
    exact rpk_merge (rpk_put h hv) t
theorem lPs (X : Cx) (D : Addr) : ∀ (ps : PsD) (S : Sx) (σ : L2.St) (H : Hp) (Qd : List (Key × Da) → Sx → Prop) (Q : List (V × V) → Hp → Prop), Rel X.K (c.plus D) S σ H → wPs ps S Qd →
    (∀ kds S', Qd kds S' → ∀ H' kvs, Rel X.K (c.plus D) S' σ H' → Kp S.W S'.W H H' → RpK X.K (S'.A (c.plus D)) H' kvs kds → Q (kvs.map fun kv => (kV kv.1, kv.2)) H') → tPairs (plusPs X c ps) σ H Q
  | [], S, σ, H, Qd, Q, r, h, p => p [] S h H [] r .refl .nil
  | (wk, wv) :: ps, S, σ, H, Qd, Q, r, h, p => by
    refine ⟨D, S, _, r, h, fun y S1 h1 H1 v r1 k1 p1 => ⟨D, S1, _, r1, h1, fun z S2 h2 H2 u r2 k2 p2 => ?_⟩⟩
    obtain ⟨k, hk, zO, h3⟩ := h2
    refine lPs X D ps S2 σ H2 _ _ r2 h3 fun kds S3 h4 H3 kvs r3 k3 rk => ?_
    have := p _ S3 h4 H3 ((k, u) :: kvs) r3 ((k1.trans k2).trans k3) (.cons ((p2.pure zO).kp (kA k3)) rk)
    rw [List.map_cons, ← key_ok hk p1] at this
    exact this
end
section
variable {X : Cx} {c : Cq} {pos : Pos} {k v : Expr} {ks : List (Option Expr)} {vs : List Expr} {wk wv : WE} {ps : PsD}
theorem ppd_nil : PPs X pos [] [] (plusPs X c []) := pps_nil
theorem ppd_cons (hk : ∀ c1 : Cq, c1.n = c.n → PE X k (lE X.K c1 wk)) (hv : ∀ c1 : Cq, c1.n = c.n → PE X v (lE X.K c1 wv)) (hr : PPs X pos ks vs (plusPs X c ps)) : PPs X pos (some k :: ks) (v :: vs) (plusPs X c ((wk, wv) :: ps)) :=
  pps_cons ⟨fun pins s σ H Q I ⟨D, h⟩ => (hk (c.plus D) rfl).run pins s σ H Q I h⟩ ⟨fun pins s σ H Q I ⟨D, h⟩ => (hv (c.plus D) rfl).run pins s σ H Q I h⟩ hr
theorem v_disp (h : PPs X pos ks vs (plusPs X c ps)) (hall : ks.all (·.isSome) = true := by rfl) (hl : ks.length = vs.length := by rfl) (h0 : ks ≠ [] := by decide) (h15 : ks.length ≤ 15 := by decide) : PE X (.Dict ks vs pos) (lE X.K c (wDisp ps)) :=
  pe_imp (pe_disp h hall hl h0 h15) fun σ H Q h => by
  obtain ⟨S, Qd, r, h, p⟩ := h
  intro D nD
  have nk := r.nk nD
  have nA : ¬ c.A0 D := fun z => (r.a0 D z).1 nD
  obtain ⟨r1, k1⟩ := r.plus (o := .dK []) nD
  refine lPs X D ps S σ _ _ _ r1 h fun kds S2 h2 H2 kvs r2 k2 rk => ?_
  obtain ⟨h15, h2⟩ := h2
  have eD : H2 D = some (.dK []) := k2.keep D _ upd_same (.inl (r1.a0 D (.inr rfl)).2)
  have r3 := r2.upD (o' := .dK (mergeK [] kvs)) eD trivial nk
  have e3 : upd H2 D (.dK (mergeK [] kvs)) D = some (.dK (mergeK [] kvs)) := upd_same
  obtain ⟨rm, km⟩ := r3.minus e3 trivial nA nk
  have rk3 : RpK X.K (S2.A (c.plus D)) (upd H2 D (.dK (mergeK [] kvs))) kvs kds := rk.kp ⟨fun b u eb z => by
    rw [upd_ne (fun q => ?_)]
    · exact eb
    · subst q
      rcases z with z | z
      · exact z (.inl (.inr rfl))
      · rw [eD] at eb
        cases eb
        exact z trivial, fun b z => .inl z⟩
  obtain ⟨r5, k5⟩ := rm.newM (o := .dK (mergeK [] kvs)) (m := .dk none (mergeD [] kds)) offH_same fun A kk => ⟨_, upd_same, (rpk_merge .nil (rk3.kp km)).kp kk⟩
  rw [upd_offH e3] at r5 k5
  refine ⟨eD, kvs, rfl, by rw [rpk_len' rk]; exact h15, p (.r D) _ (h2 D (m_none rm offH_same)) _ _ r5 ?_ (.inl (.r D))⟩
  refine (⟨fun b u eb z => ?_, fun b z => (k1.trans k2).mono b z⟩ : Kp S.W S2.W H (offH (upd H2 D (.dK (mergeK [] kvs))) D)).trans k5
  rw [offH_ne (ne_of_none eb nD), upd_ne (ne_of_none eb nD)]
  exact (k1.trans k2).keep b u eb z
end
end VL
set_option Elab.async false
set_option linter.all false
set_option maxRecDepth 100000
set_option maxHeartbeats 1000000
namespace VL
open PySem PySem.Spec PyProof.Rows L2 LamX NdefX
def topS (i : Nat) : Stmt := PySem.Challenge.pw_kindnotes_k03_stocks.main.body.getD i (.Pass ⟨0, 0, 0, 0⟩)
abbrev sIsWord : Stmt := topS 6
abbrev NIsWord : List Str := ["text", "mark"]
theorem scIsWord : FnScope NIsWord ["text"] (defScope sIsWord) := ⟨rfl, rfl, rfl, by decide +kernel, rfl, by decide +kernel, by decide +kernel⟩
abbrev sIsLetter : Stmt := topS 7
abbrev NIsLetter : List Str := ["text"]
theorem scIsLetter : FnScope NIsLetter ["text"] (defScope sIsLetter) := ⟨rfl, rfl, rfl, by decide +kernel, rfl, by decide +kernel, by decide +kernel⟩
abbrev sIsForm : Stmt := topS 8
abbrev NIsForm : List Str := ["row", "todo", "part"]
theorem scIsForm : FnScope NIsForm ["row"] (defScope sIsForm) := ⟨rfl, rfl, rfl, by decide +kernel, rfl, by decide +kernel, by decide +kernel⟩
abbrev sStock_init : Stmt := inClass (topS 9) 0
abbrev NStock_init : List Str := ["self", "shapes", "under", "word"]
theorem scStock_init : FnScope NStock_init ["self", "shapes", "under"] (defScope sStock_init) := ⟨rfl, rfl, rfl, by decide +kernel, rfl, by decide +kernel, by decide +kernel⟩
abbrev sStock_flat : Stmt := inClass (topS 9) 1
abbrev NStock_flat : List Str := ["self"]
theorem scStock_flat : FnScope NStock_flat ["self"] (defScope sStock_flat) := ⟨rfl, rfl, rfl, by decide +kernel, rfl, by decide +kernel, by decide +kernel⟩
abbrev sStock_fits : Stmt := inClass (topS 9) 2
abbrev NStock_fits : List Str := ["self", "form", "part"]
theorem scStock_fits : FnScope NStock_fits ["self", "form"] (defScope sStock_fits) := ⟨rfl, rfl, rfl, by decide +kernel, rfl, by decide +kernel, by decide +kernel⟩
abbrev sWalk : Stmt := topS 10
abbrev NWalk : List Str := ["form", "seen", "todo", "part"]
theorem scWalk : FnScope NWalk ["form"] (defScope sWalk) := ⟨rfl, rfl, rfl, by decide +kernel, rfl, by decide +kernel, by decide +kernel⟩
abbrev sIsMarks : Stmt := topS 11
abbrev NIsMarks : List Str := ["marks", "mark"]
theorem scIsMarks : FnScope NIsMarks ["marks"] (defScope sIsMarks) := ⟨rfl, rfl, rfl, by decide +kernel, rfl, by decide +kernel, by decide +kernel⟩
abbrev sCheckShapes : Stmt := topS 12
abbrev NCheckShapes : List Str := ["shapes", "word", "marks"]
theorem scCheckShapes : FnScope NCheckShapes ["shapes"] (defScope sCheckShapes) := ⟨rfl, rfl, rfl, by decide +kernel, rfl, by decide +kernel, by decide +kernel⟩
abbrev sCheckUnder : Stmt := topS 13
abbrev NCheckUnder : List Str := ["shapes", "under", "word", "above"]
theorem scCheckUnder : FnScope NCheckUnder ["shapes", "under"] (defScope sCheckUnder) := ⟨rfl, rfl, rfl, by decide +kernel, rfl, by decide +kernel, by decide +kernel⟩
abbrev sChain : Stmt := topS 14
abbrev NChain : List Str := ["word", "under", "chain", "above"]
theorem scChain : FnScope NChain ["word", "under"] (defScope sChain) := ⟨rfl, rfl, rfl, by decide +kernel, rfl, by decide +kernel, by decide +kernel⟩
abbrev sLCell : Stmt := topS 16
abbrev NLCell : List Str := ["_law_script", "_law_k"]
theorem scLCell : FnScope NLCell ["_law_script", "_law_k"] (defScope sLCell) := ⟨rfl, rfl, rfl, by decide +kernel, rfl, by decide +kernel, by decide +kernel⟩
abbrev sLTape : Stmt := topS 17
abbrev NLTape : List Str := ["_law_script", "_law_k", "_law_size", "_law_cell_here", "_law_left", "_law_tape_here", "_law_j", "_law_mixed"]
theorem scLTape : FnScope NLTape ["_law_script", "_law_k", "_law_size"] (defScope sLTape) := ⟨rfl, rfl, rfl, by decide +kernel, rfl, by decide +kernel, by decide +kernel⟩
abbrev sLTake : Stmt := topS 18
abbrev NLTake : List Str := ["_law_tape_here", "_law_many"]
theorem scLTake : FnScope NLTake ["_law_tape_here", "_law_many"] (defScope sLTake) := ⟨rfl, rfl, rfl, by decide +kernel, rfl, by decide +kernel, by decide +kernel⟩
abbrev sLWords : Stmt := topS 19
abbrev NLWords : List Str := ["_law_tape_here", "_law_many", "_law_alphabet", "_law_filler", "_law_longer", "_law_start", "_law_last", "_law_words_here", "_law_k", "_law_own"]
theorem scLWords : FnScope NLWords ["_law_tape_here", "_law_many"] (defScope sLWords) := ⟨rfl, rfl, rfl, by decide +kernel, rfl, by decide +kernel, by decide +kernel⟩
abbrev sLStock : Stmt := topS 20
abbrev NLStock : List Str := ["_law_tape_here", "_law_flat_here", "_law_menu", "_law_words_here", "_law_bases", "_law_shapes", "_law_k", "_law_under", "_law_above"]
theorem scLStock : FnScope NLStock ["_law_tape_here", "_law_flat_here", "_law_menu"] (defScope sLStock) := ⟨rfl, rfl, rfl, by decide +kernel, rfl, by decide +kernel, by decide +kernel⟩
abbrev sLForm : Stmt := topS 21
abbrev NLForm : List Str := ["_law_tape_here", "_law_shapes", "_law_letters", "_law_depth", "_law_words_here", "_law_word", "_law_mark"]
theorem scLForm : FnScope NLForm ["_law_tape_here", "_law_shapes", "_law_letters", "_law_depth"] (defScope sLForm) := ⟨rfl, rfl, rfl, by decide +kernel, rfl, by decide +kernel, by decide +kernel⟩
abbrev sLRefused : Stmt := topS 22
abbrev NLRefused : List Str := ["_law_shapes", "_law_under", "e"]
theorem scLRefused : FnScope NLRefused ["_law_shapes", "_law_under"] (defScope sLRefused) := ⟨rfl, rfl, rfl, by decide +kernel, rfl, by decide +kernel, by decide +kernel⟩
abbrev sLWith : Stmt := topS 23
abbrev NLWith : List Str := ["_law_shapes", "_law_word", "_law_marks", "_law_made"]
theorem scLWith : FnScope NLWith ["_law_shapes", "_law_word", "_law_marks"] (defScope sLWith) := ⟨rfl, rfl, rfl, by decide +kernel, rfl, by decide +kernel, by decide +kernel⟩
abbrev sLBadStocks : Stmt := topS 24
abbrev NLBadStocks : List Str := ["_law_shapes", "_law_first", "_law_second", "_law_lone", "_law_word", "_law_rows", "_law_longer"]
theorem scLBadStocks : FnScope NLBadStocks ["_law_shapes", "_law_first", "_law_second"] (defScope sLBadStocks) := ⟨rfl, rfl, rfl, by decide +kernel, rfl, by decide +kernel, by decide +kernel⟩
abbrev sLFlat : Stmt := topS 25
abbrev NLFlat : List Str := ["_law_stock_here", "_law_under"]
theorem scLFlat : FnScope NLFlat ["_law_stock_here", "_law_under"] (defScope sLFlat) := ⟨rfl, rfl, rfl, by decide +kernel, rfl, by decide +kernel, by decide +kernel⟩
abbrev sLFits : Stmt := topS 26
abbrev NLFits : List Str := ["_law_stock_here", "_law_pattern", "_law_first", "_law_odd", "_law_one"]
theorem scLFits : FnScope NLFits ["_law_stock_here", "_law_pattern", "_law_first"] (defScope sLFits) := ⟨rfl, rfl, rfl, by decide +kernel, rfl, by decide +kernel, by decide +kernel⟩
abbrev sLaw : Stmt := topS 27
abbrev NLaw : List Str := ["_law_script", "_law_tape_here", "_law_pair", "_law_shapes", "_law_under", "_law_first", "_law_second", "_law_pattern", "_law_passed", "_law_stock_here", "_law_bad", "_law_wide", "_law_letter", "_law_word"]
theorem scLaw : FnScope NLaw ["_law_script"] (defScope sLaw) := ⟨rfl, rfl, rfl, by decide +kernel, rfl, by decide +kernel, by decide +kernel⟩
set_option genInjectivity false in
structure Tx (P : Program) (K : PySem.W.Frag) (mg : Str → Option Value) where
  C_Stock : Addr
  c_Stock : ClsX K mg "Stock" C_Stock
  f_is_word : Addr
  fd_is_word : FuncData
  d_is_word : Dfn K mg "is_word" sIsWord ["text"] f_is_word fd_is_word
  f_is_letter : Addr
  fd_is_letter : FuncData
  d_is_letter : Dfn K mg "is_letter" sIsLetter ["text"] f_is_letter fd_is_letter
  f_is_form : Addr
  fd_is_form : FuncData
  d_is_form : Dfn K mg "is_form" sIsForm ["row"] f_is_form fd_is_form
  f_Stock_init : Addr
  fd_Stock_init : FuncData
  d_Stock_init : MtdD K C_Stock "__init__" "Stock.__init__" sStock_init ["self", "shapes", "under"] [V.non] f_Stock_init fd_Stock_init
  m_Stock_init : Mk K C_Stock f_Stock_init
  de_Stock_init : ∃ ds, Vals [V.non] ds ∧ Binds K fd_Stock_init ["self", "shapes", "under"] ds
  f_Stock_flat : Addr
  fd_Stock_flat : FuncData
  p_Stock_flat : Addr
  d_Stock_flat : Ppt K C_Stock "flat" "Stock.flat" sStock_flat ["self"] f_Stock_flat fd_Stock_flat p_Stock_flat
  f_Stock_fits : Addr
  fd_Stock_fits : FuncData
  d_Stock_fits : Mtd K C_Stock "fits" "Stock.fits" sStock_fits ["self", "form"] f_Stock_fits fd_Stock_fits
  f_walk : Addr
  fd_walk : FuncData
  d_walk : Dfn K mg "_walk" sWalk ["form"] f_walk fd_walk
  f_is_marks : Addr
  fd_is_marks : FuncData
  d_is_marks : Dfn K mg "_is_marks" sIsMarks ["marks"] f_is_marks fd_is_marks
  f_check_shapes : Addr
  fd_check_shapes : FuncData
  d_check_shapes : Dfn K mg "_check_shapes" sCheckShapes ["shapes"] f_check_shapes fd_check_shapes
  f_check_under : Addr
  fd_check_under : FuncData
  d_check_under : Dfn K mg "_check_under" sCheckUnder ["shapes", "under"] f_check_under fd_check_under
  f_chain : Addr
  fd_chain : FuncData
  d_chain : Dfn K mg "_chain" sChain ["word", "under"] f_chain fd_chain
  f_l_cell : Addr
  fd_l_cell : FuncData
  d_l_cell : Dfn K mg "_law_cell" sLCell ["_law_script", "_law_k"] f_l_cell fd_l_cell
  f_l_tape : Addr
  fd_l_tape : FuncData
  d_l_tape : Dfn K mg "_law_tape" sLTape ["_law_script", "_law_k", "_law_size"] f_l_tape fd_l_tape
  f_l_take : Addr
  fd_l_take : FuncData
  d_l_take : Dfn K mg "_law_take" sLTake ["_law_tape_here", "_law_many"] f_l_take fd_l_take
  f_l_words : Addr
  fd_l_words : FuncData
  d_l_words : Dfn K mg "_law_words" sLWords ["_law_tape_here", "_law_many"] f_l_words fd_l_words
  f_l_stock : Addr
  fd_l_stock : FuncData
  d_l_stock : Dfn K mg "_law_stock" sLStock ["_law_tape_here", "_law_flat_here", "_law_menu"] f_l_stock fd_l_stock
  f_l_form : Addr
  fd_l_form : FuncData
  d_l_form : Dfn K mg "_law_form" sLForm ["_law_tape_here", "_law_shapes", "_law_letters", "_law_depth"] f_l_form fd_l_form
  f_l_refused : Addr
  fd_l_refused : FuncData
  d_l_refused : Dfn K mg "_law_refused" sLRefused ["_law_shapes", "_law_under"] f_l_refused fd_l_refused
  f_l_with : Addr
  fd_l_with : FuncData
  d_l_with : Dfn K mg "_law_with" sLWith ["_law_shapes", "_law_word", "_law_marks"] f_l_with fd_l_with
  f_l_bad_stocks : Addr
  fd_l_bad_stocks : FuncData
  d_l_bad_stocks : Dfn K mg "_law_bad_stocks" sLBadStocks ["_law_shapes", "_law_first", "_law_second"] f_l_bad_stocks fd_l_bad_stocks
  f_l_flat : Addr
  fd_l_flat : FuncData
  d_l_flat : Dfn K mg "_law_flat" sLFlat ["_law_stock_here", "_law_under"] f_l_flat fd_l_flat
  f_l_fits : Addr
  fd_l_fits : FuncData
  d_l_fits : Dfn K mg "_law_fits" sLFits ["_law_stock_here", "_law_pattern", "_law_first"] f_l_fits fd_l_fits
  f_law : Addr
  fd_law : FuncData
  d_law : Dfn K mg "law" sLaw ["_law_script"] f_law fd_law
  n_Stock_chains : NoAttr K C_Stock "chains"
  n_Stock_shapes : NoAttr K C_Stock "shapes"
  n_Stock_under : NoAttr K C_Stock "under"
  n_ValueError : mg "ValueError" = none
  n_all : mg "all" = none
  n_bool : mg "bool" = none
  n_dict : mg "dict" = none
  n_int : mg "int" = none
  n_isinstance : mg "isinstance" = none
  n_len : mg "len" = none
  n_range : mg "range" = none
  n_str : mg "str" = none
  n_tuple : mg "tuple" = none
  t_SMALL : Tok
  c_SMALL : mg "SMALL" = some (.str (Str.ofString "abcdefghijklmnopqrstuvwxyz") t_SMALL)
  t_CAPITAL : Tok
  c_CAPITAL : mg "CAPITAL" = some (.str (Str.ofString "ABCDEFGHIJKLMNOPQRSTUVWXYZ") t_CAPITAL)
  C_BadKind : Addr
  x_BadKind : ErrC K mg "BadKind" C_BadKind
  C_NotesError : Addr
  x_NotesError : ErrN K mg "NotesError" C_NotesError
  e_BadKind_NotesError : PySem.W.exmOne K (.ref C_BadKind) (.ref C_NotesError) = some true
  k_BadKind_BadKind : PySem.W.kitOne K (.ref C_BadKind) (.ref C_BadKind) = some true
  k_BadKind_ValueError : PySem.W.kitOne K (.ref C_BadKind) (.type "ValueError") = some true
section
variable {P : Program} {w : World} {K : PySem.W.Frag} {mg : Str → Option Value} {base : Heap}
/-! ### the script and the tape -/
theorem lst_r {S : Sx} {p : Addr} {ds : List Da} (h : S.M p = some (.lst ds)) : S.lst (.r p) = some ds := by
  show (match S.M p with | some (.lst ds) => some ds | _ => none) = _
  rw [h]
theorem putL_r {S : Sx} {p : Addr} {ds es : List Da} (h : S.M p = some (.lst ds)) : S.putL (.r p) es = some ⟨S.ρ, updM S.M p (.lst es)⟩ := by
  show (match S.M p with | some (.lst _) => some _ | _ => none) = _
  rw [h]
theorem updM_id {M : Mx} {p : Addr} {m : MO} (h : M p = some m) : updM M p m = M := by
  funext b
  by_cases e : b = p
  · rw [e, updM_same, h]
  · rw [updM_ne e]
theorem updM_upd {M : Mx} {p : Addr} {m m' : MO} : updM (updM M p m) p m' = updM M p m' := by
  funext b
  by_cases e : b = p
  · rw [e, updM_same, updM_same]
  · rw [updM_ne e, updM_ne e, updM_ne e]
theorem fmod_small (c : Int) : -(2 ^ 64) < c.fmod 9973 ∧ c.fmod 9973 < 2 ^ 64 := by
  have h : c.fmod 9973 = c % 9973 := Int.fmod_eq_emod_of_nonneg c (by decide)
  rw [h]
  have h1 := Int.emod_nonneg c (show (9973 : Int) ≠ 0 by decide)
  have h2 := Int.emod_lt_of_pos c (show (0 : Int) < 9973 by decide)
  constructor <;> omega
theorem st_upd {X : List Slx} {M : Mx} {p : Addr} {m m' : MO} : Sx.mk X (updM (updM M p m) p m') = Sx.mk X (updM M p m') := by rw [updM_upd]
theorem seq0 {n : Nat} (h : 0 < n) (h2 : n < 2 ^ 62) : seqIndex? 0 n = some 0 := seqIndex_of (by decide) (by omega)
def dc_l_cell : DC := fun ds M Q _ => ∃ (s : Da) (ns : List Int) (k : Nat), ds = [s, .i k] ∧ Scr s ns ∧ ns.length ≤ 63 ∧ ∀ v : Int, Q (.i v) M
/-- a tape stands at p -/
def Tp (M : Mx) (p : Addr) : Prop := ∃ ts : List Int, M p = some (.lst (ts.map .i)) ∧ ts.length ≤ 1000
/-- the tape at p may have changed, all else is as it was -/
structure Tto (p : Addr) (M M' : Mx) : Prop where
  tp : Tp M' p
  out : ∀ b, b ≠ p → M' b = M b
theorem Tto.trans {p : Addr} {M M1 M2 : Mx} (a : Tto p M M1) (b : Tto p M1 M2) : Tto p M M2 := ⟨b.tp, fun x h => (b.out x h).trans (a.out x h)⟩
theorem Tto.refl {p : Addr} {M : Mx} (h : Tp M p) : Tto p M M := ⟨h, fun _ _ => rfl⟩
theorem Tto.upd {p : Addr} {M : Mx} {ts : List Int} (h : ts.length ≤ 1000) : Tto p M (updM M p (.lst (ts.map .i))) := ⟨⟨ts, updM_same, h⟩, fun _ h => updM_ne h⟩
def dc_l_tape : DC := fun ds M Q _ => ∃ (s : Da) (ns : List Int) (k m : Nat), ds = [s, .i k, .i m] ∧ Scr s ns ∧ ns.length ≤ 63 ∧ m ≤ 1000 ∧ ∀ (p : Addr) (M' : Mx), M p = none → Tto p M M' → Q (.r p) M'
def dc_l_take : DC := fun ds M Q _ => ∃ (p : Addr) (m : Nat), ds = [.r p, .i m] ∧ Tp M p ∧ 1 ≤ m ∧ ∀ (r : Nat) (M' : Mx), r < m → Tto p M M' → Q (.i r) M'
theorem atI_some {α : Type} {xs : List α} {k : Nat} (h : k < xs.length) : atI xs ((k : Nat) : Int) = some xs[k] := atI_nat (by simp [h])
theorem ok_l_cell (T : Tx P K mg)  : FnOk P w K mg base (L2.CX P w) 1 T.f_l_cell T.fd_l_cell ["_law_script", "_law_k"] (spOf K dc_l_cell) := by
  have sc := scLCell
  refine okD T.d_l_cell.F sc (fun ds M Q X h => ?_) (fun cdv A outer s H E c ds M Qd Xd hn hr h hX => ?_)
  · obtain ⟨s, ns, k, rfl, _⟩ := h
    rfl
  have tk := takes_of (X := cxOf (L2.CX P w) P w K mg base NLCell "_law_cell" (defScope sLCell) T.f_l_cell cdv A outer s H E) rfl rfl rfl rfl
  refine ⟨_, (ss_cons (s_if (vt_cmp op_lt lC (nomark _) (vv 1) (v_cb1 call_lenA lLen (by rfl) T.n_len (by decide +kernel) (vv 0)))
  (ss_one (s_ret (v_ix (vv 0) (vv 1) (fun _ _ => rfl))))
  ss_nil)
  (ss_one (s_ret vi))), ?_⟩
  obtain ⟨s, ns, k, rfl, hs, hl, q⟩ := h
  have small : ns.length ≤ sizeLine := by rw [sizeLine_eq]; omega
  rcases hs with rfl | rfl
  · refine ite2 (fun z => ?_) (fun _ => ⟨rfl, q 0⟩)
    have hk : k < (ns.map Da.i).length := by
      have : (k : Int) < ((ns.map Da.i).length : Int) := of_decide_eq_true z
      omega
    refine ⟨_, _, rfl, atI_some hk, ?_, ?_⟩
    · rw [List.getElem_map]; rfl
    · rw [List.getElem_map]; exact q _
  · refine ite2 (fun z => ?_) (fun _ => ⟨rfl, q 0⟩)
    have hk : k < ns.length := by
      have : (k : Int) < (ns.length : Int) := of_decide_eq_true z
      omega
    exact ⟨_, atI_some hk, rfl, q _⟩
theorem ok_l_tape (T : Tx P K mg) (G_l_cell : FnOk P w K mg base (L2.CX P w) 1 T.f_l_cell T.fd_l_cell ["_law_script", "_law_k"] (spOf K dc_l_cell)) : FnOk P w K mg base (L2.CX P w) 2 T.f_l_tape T.fd_l_tape ["_law_script", "_law_k", "_law_size"] (spOf K dc_l_tape) := by
  have sc := scLTape
  refine okD T.d_l_tape.F sc (fun ds M Q X h => ?_) (fun cdv A outer s H E c ds M Qd Xd hn hr h hX => ?_)
  · obtain ⟨s, ns, k, m, rfl, _⟩ := h
    rfl
  have tk := takes_of (X := cxOf (L2.CX P w) P w K mg base NLTape "_law_tape" (defScope sLTape) T.f_l_tape cdv A outer s H E) rfl rfl rfl rfl
  refine ⟨_, (ss_cons (s_set (i := 3) sc.nd rfl (by first | exact .inl rfl | exact .inr rfl) (by rw [hn]; decide) (v_call G_l_cell (hr.mono (by decide)) (by rfl) T.d_l_cell.g T.d_l_cell.F.kp T.d_l_cell.b tk hX (v_cons (vv 0) (v_cons (vv 1) v_nil))))
  (ss_cons (s_set (i := 4) sc.nd rfl (by first | exact .inl rfl | exact .inr rfl) (by rw [hn]; decide) (vv 3))
  (ss_cons (s_own (i := 5) sc.nd rfl (by first | exact .inl rfl | exact .inr rfl) (by rw [hn]; decide) (v_lst v_nil))
  (ss_cons (s_for (passes_of rfl) rfl (i_rng1 (by rfl) T.n_range (vv 2)) (pg_name (i := 6) sc.nd rfl (by first | exact .inl rfl | exact .inr rfl)) (lgN (i := 6) (by rw [hn]; decide))
  (ss_one (s_if (PW.pt (v_and (vt_cmp op_ge lC (nomark _) (vv 3) (v_op op_pow lI vi vi)) (pw_and1 (vt_cmp op_gt lC (nomark _) (vv 4) vi))))
  (ss_cons (s_expr (v_met PySem.F.plainAttrs_list PySem.F.slot_list_append PySem.F.type_list_append mt_append tyL_ok lAppend (vv 5) (v_op op_modN lI (v_ct1 call_int1 lInt (by rfl) T.n_int (by decide +kernel) (vv 4)) vi)))
  (ss_one (s_set (i := 4) sc.nd rfl (by first | exact .inl rfl | exact .inr rfl) (by rw [hn]; decide) (v_op op_fdivN lI (vv 4) vi))))
  (ss_cons (s_set (i := 7) sc.nd rfl (by first | exact .inl rfl | exact .inr rfl) (by rw [hn]; decide) (v_op op_modN lI (v_ct1 call_int1 lInt (by rfl) T.n_int (by decide +kernel) (v_op op_addA lAdd (v_op op_mul lI (v_op op_modN lI (v_ct1 call_int1 lInt (by rfl) T.n_int (by decide +kernel) (vv 3)) vi) (v_op op_addA lAdd vi (v_op op_mul lI vi (vv 6)))) (v_op op_mul lI vi (vv 6)))) vi))
  (ss_one (s_expr (v_met PySem.F.plainAttrs_list PySem.F.slot_list_append PySem.F.type_list_append mt_append tyL_ok lAppend (vv 5) (v_op op_addA lAdd (vv 7) (v_op op_fdivN lI (vv 7) vi)))))))))
  (ss_one (s_ret (vSh (vv 5)))))))), ?_⟩
  obtain ⟨s, ns, k, m, rfl, hs, hl, hm, q⟩ := h
  refine ⟨?_, ?_, s, ns, k, rfl, hs, hl, fun v => ⟨rfl, rfl, by show 0 ≤ sizeLine; decide, fun p np => ⟨by omega, by omega, ?_⟩⟩⟩
  · rcases hs with rfl | rfl <;> rfl
  · rfl
  · refine forGo_of (fun rest S => ∃ (ts : List Int) (x4 : Int) (y6 y7 : Slx), S = ⟨[.val s, .val (.i k), .val (.i m), .val (.i v), .val (.i x4), .own p (ts.map .i), y6, y7], M⟩ ∧ ts.length + rest.length = m ∧ ∀ x ∈ rest, ∃ j : Int, x = .i j)
      (fun d ds S h R hR => ?_) (fun S h => ?_) _ _ ⟨[], v, .no, .no, rfl, by simp [rngD], fun x hx => ?_⟩
    · obtain ⟨ts, x4, y6, y7, rfl, hl, hj⟩ := h
      obtain ⟨j, rfl⟩ := hj d (by simp)
      have small : ts.length < sizeLine := by rw [sizeLine_eq]; rw [List.length_cons] at hl; omega
      have go : ∀ (x x4 : Int) (y6 y7 : Slx), R ⟨[.val s, .val (.i k), .val (.i m), .val (.i v), .val (.i x4), .own p (ts.map .i ++ [.i x]), y6, y7], M⟩ := fun x x4 y6 y7 => hR _ ⟨ts ++ [x], x4, y6, y7, by rw [List.map_append]; rfl, by rw [List.length_append]; rw [List.length_cons] at hl; simp; omega, fun z hz => hj z (by simp [hz])⟩
      refine ⟨⟨by decide, by decide, by decide⟩, ite2 (fun _ => ite2 (fun _ => ?t) (fun _ => ?e1)) (fun _ => ?e2)⟩
      case t => exact ⟨⟨_, rfl⟩, by show (5040 : Int) ≠ 0; decide, _, _, rfl, rfl, by rw [List.length_map]; exact small, rfl, ⟨by decide, by decide⟩, rfl, go _ _ _ _⟩
      all_goals exact ⟨by show (9973 : Int) ≠ 0; decide, .inl ⟨by decide, by decide⟩, .inl (fmod_small v), .inl ⟨by decide, by decide⟩, by show (1009 : Int) ≠ 0; decide, rfl, ⟨_, rfl⟩, ⟨by decide, by decide⟩, _, _, rfl, rfl, by rw [List.length_map]; exact small, rfl, go _ _ _ _⟩
    · obtain ⟨ts, x4, y6, y7, rfl, hl, hj⟩ := h
      exact ⟨rfl, q p _ np (.upd (by simp at hl; omega))⟩
    · unfold rngD at hx
      obtain ⟨j, _, rfl⟩ := List.mem_map.mp hx
      exact ⟨_, rfl⟩
theorem ok_l_take (T : Tx P K mg)  : FnOk P w K mg base (L2.CX P w) 1 T.f_l_take T.fd_l_take ["_law_tape_here", "_law_many"] (spOf K dc_l_take) := by
  have sc := scLTake
  refine okD T.d_l_take.F sc (fun ds M Q X h => ?_) (fun cdv A outer s H E c ds M Qd Xd hn hr h hX => ?_)
  · obtain ⟨p, m, rfl, _⟩ := h
    rfl
  have tk := takes_of (X := cxOf (L2.CX P w) P w K mg base NLTake "_law_take" (defScope sLTake) T.f_l_take cdv A outer s H E) rfl rfl rfl rfl
  refine ⟨_, (ss_cons (s_if (vt_cmp (op_eqA hr.units) lEq (nomark _) (v_cb1 call_lenA lLen (by rfl) T.n_len (by decide +kernel) (vv 0)) vi)
  (ss_one (s_ret vi))
  ss_nil)
  (ss_one (s_ret (v_op op_modN lI (v_ct1 call_int1 lInt (by rfl) T.n_int (by decide +kernel) (v_met PySem.F.plainAttrs_list PySem.F.slot_list_pop PySem.F.type_list_pop mt_popAt tyL_ok lPopAt (vv 0) vi)) (vv 1))))), ?_⟩
  obtain ⟨p, m, rfl, ⟨ts, hp, hz⟩, hm, q⟩ := h
  refine ⟨ts.map .i, lst_r hp, .inl ⟨rfl, rfl, rfl, ite2 (fun z => ?_) (fun z => ?_)⟩⟩
  · exact ⟨rfl, q 0 M (by omega) (.refl ⟨ts, hp, hz⟩)⟩
  · cases ts with
    | nil => exact absurd rfl z
    | cons x r =>
      refine ⟨⟨_, lst_r hp⟩, by decide, by decide, _, 0, .i x, _, lst_r hp, seq0 (by simp) (by simp at hz ⊢; omega), rfl, putL_r hp, ?_, rfl, ?_⟩
      · show (m : Int) ≠ 0
        omega
      · have e1 : x.fmod (m : Int) = x % (m : Int) := Int.fmod_eq_emod_of_nonneg x (by omega)
        have h1 := Int.emod_nonneg x (show (m : Int) ≠ 0 by omega)
        have h2 := Int.emod_lt_of_pos x (show (0 : Int) < (m : Int) by omega)
        have z := q (x % (m : Int)).toNat _ (by omega) (.upd (ts := r) (by simp at hz; omega))
        rw [Int.toNat_of_nonneg h1] at z
        show Qd (.i (x.fmod (m : Int))) _
        rw [e1]
        exact z
end
end VL
set_option Elab.async false
set_option linter.all false
set_option maxRecDepth 100000
set_option maxHeartbeats 1000000
namespace VL
open PySem PySem.Spec PyProof.Rows L2
section
variable {P : Program} {w : World} {K : PySem.W.Frag} {mg : Str → Option Value} {base : Heap}
theorem wl_wd8 {b : Bool} {st k : Nat} {fl lg : List Nat} (hf : fl.length ≤ 3) (hg : lg.length ≤ 1) (hk : k ≤ 7) (cf : ∀ c ∈ fl, 97 ≤ c ∧ c ≤ 122) (cg : ∀ c ∈ lg, 97 ≤ c ∧ c ≤ 122) {z : Str} (e : z.cps.toList = wl b st fl lg k) : Wd z := by
  have hl : (wl b st fl lg k).length = 1 + fl.length + k * lg.length := by
    unfold wl
    cases b <;> simp <;> omega
  have : k * lg.length ≤ 7 * 1 := Nat.mul_le_mul hk hg
  refine ⟨by rw [e, hl]; omega, by rw [e, hl]; omega, fun c hc => ?_⟩
  rw [e] at hc
  have cr : c ∈ (List.replicate k lg).flatten → 97 ≤ c ∧ c ≤ 122 := fun h => by
    obtain ⟨l, h1, h2⟩ := List.mem_flatten.mp h
    rw [List.eq_of_mem_replicate h1] at h2
    exact cg c h2
  have co : c = 97 + (st + k) % 26 → 97 ≤ c ∧ c ≤ 122 := fun h => by omega
  unfold wl at hc
  cases b with
  | true =>
    simp only [if_true, List.append_assoc, List.mem_append, List.mem_singleton] at hc
    rcases hc with h | h | h
    · exact co h
    · exact cf c h
    · exact cr h
  | false =>
    simp only [Bool.false_eq_true, if_false, List.append_assoc, List.mem_append, List.mem_singleton] at hc
    rcases hc with h | h | h
    · exact cf c h
    · exact cr h
    · exact co h
theorem Wds.wd8 {b : Bool} {st : Nat} {fl lg : List Nat} {ws : List Str} (h : Wds b st fl lg ws) (hl : ws.length ≤ 8) (hf : fl.length ≤ 3) (hg : lg.length ≤ 1) (cf : ∀ c ∈ fl, 97 ≤ c ∧ c ≤ 122) (cg : ∀ c ∈ lg, 97 ≤ c ∧ c ≤ 122) : ∀ z ∈ ws, Wd z := fun z hz => by
  obtain ⟨j, hj, rfl⟩ := List.getElem_of_mem hz
  exact wl_wd8 hf hg (by omega) cf cg (h.at_ j hj)
def dc_l_words : DC := fun ds M Q _ => ∃ (p : Addr) (m : Nat), ds = [.r p, .i m] ∧ Tp M p ∧ m ≤ 8 ∧ ∀ (ws : List Str) (M' : Mx), Tto p M M' → ws.length = m → ws.Nodup → (∀ z ∈ ws, Wd z) → (m ≤ 7 → ∀ z ∈ ws, z.cps.toList.length ≤ 10) → Q (.l (ws.map .s)) M'
theorem ok_l_words (T : Tx P K mg) (G_l_take : FnOk P w K mg base (L2.CX P w) 1 T.f_l_take T.fd_l_take ["_law_tape_here", "_law_many"] (spOf K dc_l_take)) : FnOk P w K mg base (L2.CX P w) 2 T.f_l_words T.fd_l_words ["_law_tape_here", "_law_many"] (spOf K dc_l_words) := by
  have sc := scLWords
  refine okD T.d_l_words.F sc (fun ds M Q X h => ?_) (fun cdv A outer s H E c ds M Qd Xd hn hr h hX => ?_)
  · obtain ⟨p, m, rfl, _⟩ := h
    rfl
  have tk := takes_of (X := cxOf (L2.CX P w) P w K mg base NLWords "_law_words" (defScope sLWords) T.f_l_words cdv A outer s H E) rfl rfl rfl rfl
  refine ⟨_, (ss_cons (s_set (i := 2) sc.nd rfl (by first | exact .inl rfl | exact .inr rfl) (by rw [hn]; decide) vs)
  (ss_cons (s_set (i := 3) sc.nd rfl (by first | exact .inl rfl | exact .inr rfl) (by rw [hn]; decide) (v_op op_mulA lMul (v_ix (vv 2) (v_call G_l_take (hr.mono (by decide)) (by rfl) T.d_l_take.g T.d_l_take.F.kp T.d_l_take.b tk hX (v_cons (vv 0) (v_cons vi v_nil))) (fun _ _ => rfl)) (v_call G_l_take (hr.mono (by decide)) (by rfl) T.d_l_take.g T.d_l_take.F.kp T.d_l_take.b tk hX (v_cons (vv 0) (v_cons vi v_nil)))))
  (ss_cons (s_set (i := 4) sc.nd rfl (by first | exact .inl rfl | exact .inr rfl) (by rw [hn]; decide) (v_op op_mulA lMul (v_ix (vv 2) (v_call G_l_take (hr.mono (by decide)) (by rfl) T.d_l_take.g T.d_l_take.F.kp T.d_l_take.b tk hX (v_cons (vv 0) (v_cons vi v_nil))) (fun _ _ => rfl)) (v_call G_l_take (hr.mono (by decide)) (by rfl) T.d_l_take.g T.d_l_take.F.kp T.d_l_take.b tk hX (v_cons (vv 0) (v_cons vi v_nil)))))
  (ss_cons (s_set (i := 5) sc.nd rfl (by first | exact .inl rfl | exact .inr rfl) (by rw [hn]; decide) (v_call G_l_take (hr.mono (by decide)) (by rfl) T.d_l_take.g T.d_l_take.F.kp T.d_l_take.b tk hX (v_cons (vv 0) (v_cons vi v_nil))))
  (ss_cons (s_set (i := 6) sc.nd rfl (by first | exact .inl rfl | exact .inr rfl) (by rw [hn]; decide) (v_call G_l_take (hr.mono (by decide)) (by rfl) T.d_l_take.g T.d_l_take.F.kp T.d_l_take.b tk hX (v_cons (vv 0) (v_cons vi v_nil))))
  (ss_cons (s_own (i := 7) sc.nd rfl (by first | exact .inl rfl | exact .inr rfl) (by rw [hn]; decide) (v_lst v_nil))
  (ss_cons (s_for (passes_of rfl) rfl (i_rng1 (by rfl) T.n_range (vv 1)) (pg_name (i := 8) sc.nd rfl (by first | exact .inl rfl | exact .inr rfl)) (lgN (i := 8) (by rw [hn]; decide))
  (ss_cons (s_set (i := 9) sc.nd rfl (by first | exact .inl rfl | exact .inr rfl) (by rw [hn]; decide) (v_ix (vv 2) (v_op op_modN lI (v_op op_addA lAdd (vv 5) (vv 8)) vi) (fun _ _ => rfl)))
  (ss_one (s_if (vt_cmp (op_eqA hr.units) lEq (nomark _) (vv 6) vi)
  (ss_one (s_expr (v_met PySem.F.plainAttrs_list PySem.F.slot_list_append PySem.F.type_list_append mt_append tyL_ok lAppend (vv 7) (v_op op_addA lAdd (v_op op_addA lAdd (vv 9) (vv 3)) (v_op op_mulA lMul (vv 4) (vv 8))))))
  (ss_one (s_expr (v_met PySem.F.plainAttrs_list PySem.F.slot_list_append PySem.F.type_list_append mt_append tyL_ok lAppend (vv 7) (v_op op_addA lAdd (v_op op_addA lAdd (vv 3) (v_op op_mulA lMul (vv 4) (vv 8))) (vv 9)))))))))
  (ss_one (s_ret (vFz (vv 7))))))))))), ?_⟩
  obtain ⟨p, m, rfl, hp, hm, q⟩ := h
  refine ⟨rfl, rfl, rfl, p, 26, rfl, hp, by decide, fun r1 M1 h1 t1 => ⟨by decide, _, abc_at h1, ?_⟩⟩
  refine ⟨rfl, rfl, p, 4, rfl, t1.tp, by decide, fun r2 M2 h2 t2 => ?_⟩
  have mF := mul_of (z := ⟨#[97 + r1]⟩) (n := r2) (Nat.le_refl 1) (by omega)
  generalize hF : Txt.mul ⟨#[97 + r1]⟩ (r2 : Int) = F at mF
  refine ⟨mF.1, ?_⟩
  rw [hF]
  refine ⟨rfl, rfl, rfl, p, 26, rfl, t2.tp, by decide, fun r3 M3 h3 t3 => ⟨by decide, _, abc_at h3, ?_⟩⟩
  refine ⟨rfl, rfl, p, 2, rfl, t3.tp, by decide, fun r4 M4 h4 t4 => ?_⟩
  have mG := mul_of (z := ⟨#[97 + r3]⟩) (n := r4) (Nat.le_refl 1) (by omega)
  generalize hG : Txt.mul ⟨#[97 + r3]⟩ (r4 : Int) = G at mG
  refine ⟨mG.1, ?_⟩
  rw [hG]
  refine ⟨rfl, rfl, rfl, p, 26, rfl, t4.tp, by decide, fun st M5 h5 t5 => ?_⟩
  refine ⟨rfl, rfl, rfl, p, 2, rfl, t5.tp, by decide, fun la M6 h6 t6 => ?_⟩
  have t : Tto p M M6 := ((((t1.trans t2).trans t3).trans t4).trans t5).trans t6
  refine ⟨rfl, by show 0 ≤ sizeLine; decide, fun p7 n7 => ⟨by omega, by omega, ?_⟩⟩
  have eF : F.cps.toList = (List.replicate r2 [97 + r1]).flatten := mF.2
  have eG : G.cps.toList = (List.replicate r4 [97 + r3]).flatten := mG.2
  have lF : F.cps.toList.length = r2 := by rw [eF]; exact rep1.1
  have lG : G.cps.toList.length = r4 := by rw [eG]; exact rep1.1
  have cF : ∀ c ∈ F.cps.toList, 97 ≤ c ∧ c ≤ 122 := fun c hc => by rw [eF] at hc; have := rep1.2 c hc; omega
  have cG : ∀ c ∈ G.cps.toList, 97 ≤ c ∧ c ≤ 122 := fun c hc => by rw [eG] at hc; have := rep1.2 c hc; omega
  refine forGo_rng0 (fun k S => ∃ (ws : List Str) (y8 y9 : Slx), ws.length = k ∧ Wds (decide (la = 0)) st F.cps.toList G.cps.toList ws ∧
      S = ⟨[.val (.r p), .val (.i m), .val (.s abc), .val (.s F), .val (.s G), .val (.i st), .val (.i la), .own p7 (ws.map .s), y8, y9], M6⟩)
    (fun k S hk h R hR => ?_) (fun S h => ?_) _ ⟨[], .no, .no, rfl, ⟨fun j hj => by simp at hj⟩, rfl⟩
  · obtain ⟨ws, y8, y9, hl, hw, rfl⟩ := h
    have mK := mul_of (z := G) (n := k) (by rw [← Array.length_toList, lG]; omega) (by omega)
    have lK : (Txt.mul G (k : Int)).cps.toList.length ≤ 7 := by
      rw [mK.2, List.length_flatten, List.map_replicate, List.sum_replicate_nat, lG]
      have : k * r4 ≤ 7 * 1 := Nat.mul_le_mul (by omega) (by omega)
      omega
    have ends : ∀ z : Str, z.cps.toList = wl (decide (la = 0)) st F.cps.toList G.cps.toList k → R ⟨[.val (.r p), .val (.i m), .val (.s abc), .val (.s F), .val (.s G), .val (.i st), .val (.i la), .own p7 (ws.map .s ++ [.s z]), .val (.i k), .val (.s ⟨#[97 + (st + k) % 26]⟩)], M6⟩ := fun z hz =>
      hR _ ⟨ws ++ [z], _, _, by rw [List.length_append, hl]; rfl, hw.snoc (by rw [hl]; exact hz), by rw [List.map_append]; rfl⟩
    have sl : ∀ a b : Str, a.cps.toList.length + b.cps.toList.length ≤ 1000 → Str.length a + Str.length b ≤ sizeLine := fun a b h => by
      rw [str_len, str_len]
      exact sz_le h
    have own1 : (Str.mk #[97 + (st + k) % 26]).cps.toList = [97 + (st + k) % 26] := rfl
    have small : (ws.map Da.s).length < sizeLine := by rw [List.length_map, sizeLine_eq]; omega
    refine ⟨by show (26 : Int) ≠ 0; decide, by decide, _, abc_mod, rfl, .inl ⟨rfl, rfl, rfl, ite2 (fun z => ?_) (fun z => ?_)⟩⟩
    · have z' : la = 0 := by
        have : (la : Int) = 0 := of_decide_eq_true z
        omega
      refine ⟨⟨_, rfl⟩, sl _ _ (by rw [own1, lF, List.length_singleton]; omega), mK.1, sl _ _ (by rw [str_app, List.length_append]; (try rw [own1]); (try rw [lF]); rw [List.length_singleton]; omega), _, _, rfl, rfl, small, rfl, ends _ ?_⟩
      rw [str_app, str_app, mK.2, own1, decide_eq_true z']
      rfl
    · have z' : la ≠ 0 := fun e => z (decide_eq_true (by omega))
      refine ⟨⟨_, rfl⟩, mK.1, sl _ _ (by rw [lF]; omega), sl _ _ (by rw [str_app, List.length_append]; (try rw [own1]); (try rw [lF]); rw [List.length_singleton]; omega), _, _, rfl, rfl, small, rfl, ends _ ?_⟩
      rw [str_app, str_app, mK.2, own1, decide_eq_false z']
      rfl
  · obtain ⟨ws, y8, y9, hl, hw, rfl⟩ := h
    refine ⟨rfl, q ws M6 t hl (hw.nodup (by omega)) (hw.wd8 (by omega) (by omega) (by omega) cF cG) (fun h7 => hw.l10 (by omega) (by omega) (by omega))⟩
end
end VL
set_option Elab.async false
set_option linter.all false
set_option maxRecDepth 100000
set_option maxHeartbeats 1000000
namespace VL
open PySem PySem.Spec PyProof.Rows L2
section
variable {P : Program} {w : World} {K : PySem.W.Frag} {mg : Str → Option Value} {base : Heap}
def dc_l_form : Nat → DC
  | 0 => fun _ _ _ _ => False
  | n + 1 => fun ds M Q _ => ∃ (p q : Addr) (sh : List (Str × Str)) (lt : Str) (d : Nat), ds = [.r p, .r q, .s lt, .i d] ∧ q ≠ p ∧ Tp M p ∧ M q = some (.dk none (shD sh)) ∧ Shp sh ∧ lt.cps.toList.length ≤ 26 ∧ d ≤ n ∧
      ∀ (f : Da) (M' : Mx), Tto p M M' → Fo sh lt (d + 1) f → Q f M'
theorem step_l_form (T : Tx P K mg) (G_l_take : FnOk P w K mg base (L2.CX P w) 1 T.f_l_take T.fd_l_take ["_law_tape_here", "_law_many"] (spOf K dc_l_take)) (n : Nat) (G_l_form : FnOk P w K mg base (L2.CX P w) (1 + n) T.f_l_form T.fd_l_form ["_law_tape_here", "_law_shapes", "_law_letters", "_law_depth"] (spOf K (dc_l_form n))) : FnOk P w K mg base (L2.CX P w) (1 + n + 1) T.f_l_form T.fd_l_form ["_law_tape_here", "_law_shapes", "_law_letters", "_law_depth"] (spOf K (dc_l_form (n + 1))) := by
  have sc := scLForm
  refine okD T.d_l_form.F sc (fun ds M Q X h => ?_) (fun cdv A outer s H E c ds M Qd Xd hn hr h hX => ?_)
  · obtain ⟨p, q, sh, lt, d, rfl, _⟩ := h
    rfl
  have tk := takes_of (X := cxOf (L2.CX P w) P w K mg base NLForm "_law_form" (defScope sLForm) T.f_l_form cdv A outer s H E) rfl rfl rfl rfl
  refine ⟨_, (ss_cons (s_lk (s_valLc (i := 4) rfl sc.nd rfl rfl (by rw [hn]; decide) (sw_true rfl rfl rfl (by decide +kernel)) (i_keys (vv 1)) (blkOk_by (own := [("_law_word", 5)]) (N := NLForm) (sc := defScope sLForm) (by decide +kernel)) (fun c1 e1 => (lgN (i := 5) (by rw [e1, hn]; decide))) (fun _ _ _ _ _ => (pg_name (i := 5) sc.nd rfl (by first | exact .inl rfl | exact .inr rfl))) (fun _ _ _ _ _ _ _ => ts_nil) (fun _ _ _ _ _ c1 e1 => (vv 5)) (by decide)))
  (ss_cons (s_if (PW.pt (v_and (vt_cmp (op_neA hr.units) lNe (nomark _) (vv 2) vs) (pw_and1 (vt_cmp (op_eqA hr.units) lEq (nomark _) (v_call G_l_take (hr.mono (by omega)) (by rfl) T.d_l_take.g T.d_l_take.F.kp T.d_l_take.b tk hX (v_cons (vv 0) (v_cons vi v_nil))) vi))))
  (ss_one (s_ret (v_ix (vv 2) (v_call G_l_take (hr.mono (by omega)) (by rfl) T.d_l_take.g T.d_l_take.F.kp T.d_l_take.b tk hX (v_cons (vv 0) (v_cons (v_cb1 call_lenA lLen (by rfl) T.n_len (by decide +kernel) (vv 2)) v_nil))) (fun _ _ => rfl))))
  ss_nil)
  (ss_cons (s_set (i := 5) sc.nd rfl (by first | exact .inl rfl | exact .inr rfl) (by rw [hn]; decide) (v_ix (vv 4) (v_call G_l_take (hr.mono (by omega)) (by rfl) T.d_l_take.g T.d_l_take.F.kp T.d_l_take.b tk hX (v_cons (vv 0) (v_cons (v_cb1 call_lenA lLen (by rfl) T.n_len (by decide +kernel) (vv 4)) v_nil))) (fun _ _ => rfl)))
  (ss_cons (s_if (vt_cmp (op_eqA hr.units) lEq (nomark _) (vv 3) vi)
  (ss_one (s_set (i := 5) sc.nd rfl (by first | exact .inl rfl | exact .inr rfl) (by rw [hn]; decide) (v_ix (vv 4) (v_call G_l_take (hr.mono (by omega)) (by rfl) T.d_l_take.g T.d_l_take.F.kp T.d_l_take.b tk hX (v_cons (vv 0) (v_cons vi v_nil))) (fun _ _ => rfl))))
  ss_nil)
  (ss_one (s_ret (v_op op_addA lAdd (v_tup (v_cons (vv 5) v_nil)) (v_ct1 call_tupleA lTuple (by rfl) T.n_tuple (by decide +kernel) (vOf (v_lc rfl sc.nd (i_str (v_dget (hu_of hr) (vv 1) (vv 5) (fun _ _ => rfl))) (blkOk_by (own := [("_law_mark", 6)]) (N := NLForm) (sc := defScope sLForm) (by decide +kernel)) (fun c1 e1 => (lgN (i := 6) (by rw [e1, hn]; decide))) (fun _ _ _ _ _ => (pg_name (i := 6) sc.nd rfl (by first | exact .inl rfl | exact .inr rfl))) (fun _ _ _ _ _ _ _ => ts_nil) (fun _ _ _ _ _ c1 e1 => (v_call G_l_form (hr.mono (by omega)) (by rfl) T.d_l_form.g T.d_l_form.F.kp T.d_l_form.b takes0 xno (v_cons (vv 0) (v_cons (vv 1) (v_cons (vv 2) (v_cons (v_op op_sub lI0 (vv 3) vi) v_nil)))))) (by decide))))))))))), ?_⟩
  obtain ⟨p, q, sh, lt, d, rfl, hpq, hp, hq, hs, hlt, hd, qq⟩ := h
  refine ⟨q, shD sh, hq, fun od => ⟨q, od, shD sh, rfl, updM_same, ?_⟩⟩
  refine lc_map id (fun d hd R1 hR1 => hR1 _ (Agr.wipe.set (by decide))) (fun d hd => ?_) ?_ ?_
  · rw [keys_shD] at hd
    obtain ⟨z, _, rfl⟩ := List.mem_map.mp hd
    rfl
  · rw [keys_shD, List.length_map, List.length_map]
    exact sz_le hs.hi
  rw [List.map_id, keys_shD]
  have eM : updM (updM M q (.dk (some od) (shD sh))) q (.dk none (shD sh)) = M := by
    rw [updM_upd]
    exact updM_id hq
  have at_ : ∀ r, (h : r < sh.length) → atI ((sh.map (·.1)).map Da.s) (r : Int) = some (.s sh[r].1) := fun r h => by
    rw [atI_some (by simp [h])]
    simp
  have fin : ∀ (z v : Str) (M5 : Mx), (z, v) ∈ sh → (d = 0 → v = Str.empty) → Tto p M M5 → (wRet (wOp rdAdd (wTup (wCons (wVar 5) wNil)) (wUn rdTuple (wOf (wLc (wStrI (wOp rdDget (wVar 1) (wVar 5))) (wgN 6) wYes (wCall (dc_l_form n) [] Xno (wCons (wVar 0) (wCons (wVar 1) (wCons (wVar 2) (wCons (wOp (rdI0 HSub.hSub) (wVar 3) (wC (Da.i 1))) wNil))))) (List.map (fun x => x.snd) [(Str.ofString "_law_mark", 6)]))))))
      { nx := fun S' => Qd Da.n S'.M, rt := fun d S' => Qd d S'.M } ⟨[.val (.r p), .val (.r q), .val (.s lt), .val (.i d), .val (.l ((sh.map (·.1)).map .s)), .val (.s z), .no], M5⟩ := fun z v M5 hz hv t5 => by
    have q5 : M5 q = some (.dk none (shD sh)) := (t5.out q hpq).trans hq
    have la : v.cps.toList.length ≤ 3 := hs.ar _ hz
    refine ⟨rfl, by show 1 ≤ sizeLine; decide, q, none, shD sh, .inr z, .s v, rfl, q5, rfl, valD_shD hs.nd hz, ?_⟩
    refine lcGo_of (fun rest acc S => ∃ M6, (∀ f ∈ acc, Fo sh lt d f) ∧ acc.length + rest.length = v.cps.toList.length ∧ Tto p M M6 ∧ S = ⟨[.val (.r p), .val (.r q), .val (.s lt), .val (.i d), .val (.l ((sh.map (·.1)).map .s)), .val (.s z), .no], M6⟩)
      (fun k ds acc S h R hR => ?_) (fun acc S h => ?_) _ _ _ ⟨M5, by simp, by simp [chsD], t5, rfl⟩
    · obtain ⟨M6, hf, hl, t6, rfl⟩ := h
      rw [List.length_cons] at hl
      have d0 : d ≠ 0 := fun e => by
        rw [hv e] at hl
        have : Str.empty.cps.toList.length = 0 := rfl
        omega
      obtain ⟨n', rfl⟩ : ∃ n', n = n' + 1 := ⟨n - 1, by omega⟩
      have q6 : M6 q = some (.dk none (shD sh)) := (t6.out q hpq).trans hq
      have e1 : (d : Int) - 1 = ((d - 1 : Nat) : Int) := by omega
      refine ⟨rfl, rfl, rfl, rfl, p, q, sh, lt, d - 1, by rw [← e1]; rfl, hpq, t6.tp, q6, hs, hlt, by omega, fun f M7 t7 hfo => ?_⟩
      have hfo' : Fo sh lt d f := by rw [show d = d - 1 + 1 by omega]; exact hfo
      refine ⟨hfo.nO, by rw [sizeLine_eq]; omega, hR _ _ ⟨M7, fun g hg => ?_, by rw [List.length_append]; simp only [List.length_singleton]; omega, t6.trans t7, rfl⟩⟩
      rcases List.mem_append.mp hg with hg | hg
      · exact hf g hg
      · rw [List.mem_singleton.mp hg]
        exact hfo'
    · obtain ⟨M6, hf, hl, t6, rfl⟩ := h
      rw [List.length_nil, Nat.add_zero] at hl
      refine ⟨by rw [sizeLine_eq]; simp only [List.length_singleton]; omega, rfl, qq _ M6 t6 (.nd hz hl hf)⟩
  have rest : ∀ M3, Tto p M M3 → (wSeq (wSet 5 (wOp rdIx (wVar 4) (wCall dc_l_take [] (fun cls ofs S' => Xd cls ofs S'.M) (wCons (wVar 0) (wCons (wUn rdLen (wVar 4)) wNil)))))
      (wSeq (wIf (wB (wOp rdEq (wVar 3) (wC (Da.i 0)))) (wSet 5 (wOp rdIx (wVar 4) (wCall dc_l_take [] (fun cls ofs S' => Xd cls ofs S'.M) (wCons (wVar 0) (wCons (wC (Da.i 2)) wNil))))) wNx)
      (wRet (wOp rdAdd (wTup (wCons (wVar 5) wNil)) (wUn rdTuple (wOf (wLc (wStrI (wOp rdDget (wVar 1) (wVar 5))) (wgN 6) wYes (wCall (dc_l_form n) [] Xno (wCons (wVar 0) (wCons (wVar 1) (wCons (wVar 2) (wCons (wOp (rdI0 HSub.hSub) (wVar 3) (wC (Da.i 1))) wNil))))) (List.map (fun x => x.snd) [(Str.ofString "_law_mark", 6)]))))))))
      { nx := fun S' => Qd Da.n S'.M, rt := fun d S' => Qd d S'.M } ⟨[.val (.r p), .val (.r q), .val (.s lt), .val (.i d), .val (.l ((sh.map (·.1)).map .s)), .no, .no], M3⟩ := fun M3 t3 => by
    have ln : (((sh.map (·.1)).map Da.s).length : Nat) = sh.length := by simp
    refine ⟨rfl, rfl, p, sh.length, by rw [← ln]; rfl, t3.tp, by have := hs.lo; omega, fun r M4 hr t4 => ⟨_, _, rfl, at_ r hr, rfl, .inl ⟨rfl, rfl, rfl, ite2 (fun z => ?_) (fun z => ?_)⟩⟩⟩
    · have d0 : d = 0 := by
        have : (d : Int) = 0 := of_decide_eq_true z
        omega
      refine ⟨rfl, rfl, p, 2, rfl, t4.tp, by decide, fun r' M5 hr' t5 => ?_⟩
      have h2 : r' < sh.length := by have := hs.lo; omega
      exact ⟨_, _, rfl, at_ r' h2, rfl, fin _ _ M5 (List.getElem_mem h2) (fun _ => hs.z0 r' h2 hr') ((t3.trans t4).trans t5)⟩
    · exact fin _ _ M4 (List.getElem_mem hr) (fun e => absurd (decide_eq_true (by rw [e]; rfl)) z) (t3.trans t4)
  have tail : ∀ M2, M2 = M → (wSeq (wIf (wAnd (wB (wOp rdNe (wVar 2) (wC (Da.s (Str.ofString ""))))) (wB (wOp rdEq (wCall dc_l_take [] (fun cls ofs S' => Xd cls ofs S'.M) (wCons (wVar 0) (wCons (wC (Da.i 2)) wNil))) (wC (Da.i 0)))))
      (wRet (wOp rdIx (wVar 2) (wCall dc_l_take [] (fun cls ofs S' => Xd cls ofs S'.M) (wCons (wVar 0) (wCons (wUn rdLen (wVar 2)) wNil))))) wNx)
      (wSeq (wSet 5 (wOp rdIx (wVar 4) (wCall dc_l_take [] (fun cls ofs S' => Xd cls ofs S'.M) (wCons (wVar 0) (wCons (wUn rdLen (wVar 4)) wNil)))))
      (wSeq (wIf (wB (wOp rdEq (wVar 3) (wC (Da.i 0)))) (wSet 5 (wOp rdIx (wVar 4) (wCall dc_l_take [] (fun cls ofs S' => Xd cls ofs S'.M) (wCons (wVar 0) (wCons (wC (Da.i 2)) wNil))))) wNx)
      (wRet (wOp rdAdd (wTup (wCons (wVar 5) wNil)) (wUn rdTuple (wOf (wLc (wStrI (wOp rdDget (wVar 1) (wVar 5))) (wgN 6) wYes (wCall (dc_l_form n) [] Xno (wCons (wVar 0) (wCons (wVar 1) (wCons (wVar 2) (wCons (wOp (rdI0 HSub.hSub) (wVar 3) (wC (Da.i 1))) wNil))))) (List.map (fun x => x.snd) [(Str.ofString "_law_mark", 6)])))))))))
      { nx := fun S' => Qd Da.n S'.M, rt := fun d S' => Qd d S'.M } ⟨[.val (.r p), .val (.r q), .val (.s lt), .val (.i d), .val (.l ((sh.map (·.1)).map .s)), .no, .no], M2⟩ := by
    rintro _ rfl
    refine .inl ⟨rfl, rfl, rfl, ite2 (fun z => ?_) (fun z => ?_)⟩
    · refine ⟨rfl, rfl, p, 2, rfl, hp, by decide, fun r M3 hr t3 => .inl ⟨rfl, rfl, rfl, ite2 (fun y => ?_) (fun y => rest M3 t3)⟩⟩
      have z' : lt ≠ Str.ofString "" := fun e => by
        have z2 : (!decide (lt = Str.ofString "")) = true := z
        rw [decide_eq_true e] at z2
        cases z2
      have l1 := str_pos z'
      have sl : Str.length lt ≤ sizeLine := by rw [str_len]; exact sz_le (by omega)
      refine ⟨rfl, sl, rfl, p, lt.cps.toList.length, by rw [← str_len]; rfl, t3.tp, l1, fun r' M4 hr' t4 => ⟨sl, _, atI_nat (List.getElem?_eq_getElem hr'), rfl, qq _ M4 (t3.trans t4) (.lt (List.getElem_mem hr'))⟩⟩
    · exact rest _ (.refl hp)
  exact ⟨rfl, updM_same, tail _ eM⟩
theorem ok_l_form (T : Tx P K mg) (G_l_take : FnOk P w K mg base (L2.CX P w) 1 T.f_l_take T.fd_l_take ["_law_tape_here", "_law_many"] (spOf K dc_l_take)) : ∀ n, FnOk P w K mg base (L2.CX P w) (1 + n) T.f_l_form T.fd_l_form ["_law_tape_here", "_law_shapes", "_law_letters", "_law_depth"] (spOf K (dc_l_form n))
  | 0 => fn_no fun _ _ _ _ h => h
  | n + 1 => step_l_form T G_l_take n (ok_l_form T G_l_take n)

end
end VL
set_option Elab.async false
set_option linter.all false
set_option maxRecDepth 100000
set_option maxHeartbeats 1000000
namespace VL
open PySem PySem.Spec PyProof.Rows L2
section
variable {P : Program} {w : World} {K : PySem.W.Frag} {mg : Str → Option Value} {base : Heap}
def dc_l_stock : DC := fun ds M Q _ => ∃ (p : Addr) (fl : Bool) (menu : List Str), ds = [.r p, .b fl, .l (menu.map .s)] ∧ Tp M p ∧ 1 ≤ menu.length ∧ menu.length ≤ 26 ∧ (∀ v ∈ menu, v.cps.toList.length ≤ 3) ∧ (∀ v ∈ menu, ∀ c ∈ v.cps.toList, c = 43 ∨ c = 45) ∧
  ∀ (sh : List (Str × Str)) (p1 p2 : Addr) (un : List (Str × Str)) (M' : Mx), ShpS sh → Und sh un → (fl = true → un = []) → Stk p p1 M sh M' → M p2 = none → p2 ≠ p → p2 ≠ p1 → M' p2 = some (.dk none (shD un)) → Q (.t [.r p1, .r p2]) M'
theorem ok_l_stock (T : Tx P K mg) (G_l_take : FnOk P w K mg base (L2.CX P w) 1 T.f_l_take T.fd_l_take ["_law_tape_here", "_law_many"] (spOf K dc_l_take)) (G_l_words : FnOk P w K mg base (L2.CX P w) 2 T.f_l_words T.fd_l_words ["_law_tape_here", "_law_many"] (spOf K dc_l_words)) : FnOk P w K mg base (L2.CX P w) 3 T.f_l_stock T.fd_l_stock ["_law_tape_here", "_law_flat_here", "_law_menu"] (spOf K dc_l_stock) := by
  have sc := scLStock
  refine okD T.d_l_stock.F sc (fun ds M Q X h => ?_) (fun cdv A outer s H E c ds M Qd Xd hn hr h hX => ?_)
  · obtain ⟨p, fl, menu, rfl, _⟩ := h
    rfl
  have tk := takes_of (X := cxOf (L2.CX P w) P w K mg base NLStock "_law_stock" (defScope sLStock) T.f_l_stock cdv A outer s H E) rfl rfl rfl rfl
  refine ⟨_, (ss_cons (s_set (i := 3) sc.nd rfl (by first | exact .inl rfl | exact .inr rfl) (by rw [hn]; decide) (v_call G_l_words (hr.mono (by decide)) (by rfl) T.d_l_words.g T.d_l_words.F.kp T.d_l_words.b tk hX (v_cons (vv 0) (v_cons vi v_nil))))
  (ss_cons (s_set (i := 4) sc.nd rfl (by first | exact .inl rfl | exact .inr rfl) (by rw [hn]; decide) (v_op op_addA lAdd vi (v_call G_l_take (hr.mono (by decide)) (by rfl) T.d_l_take.g T.d_l_take.F.kp T.d_l_take.b tk hX (v_cons (vv 0) (v_cons vi v_nil)))))
  (ss_cons (s_set (i := 5) sc.nd rfl (by first | exact .inl rfl | exact .inr rfl) (by rw [hn]; decide) v_dnew)
  (ss_cons (s_for (passes_of rfl) rfl (i_rng1 (by rfl) T.n_range (vv 4)) (pg_name (i := 6) sc.nd rfl (by first | exact .inl rfl | exact .inr rfl)) (lgN (i := 6) (by rw [hn]; decide))
  (ss_one (s_putD (hu_of hr) vs (vv 5) (v_ix (vv 3) (vv 6) (fun _ _ => rfl)))))
  (ss_cons (s_for (passes_of rfl) rfl (i_rng1 (by rfl) T.n_range (v_call G_l_take (hr.mono (by decide)) (by rfl) T.d_l_take.g T.d_l_take.F.kp T.d_l_take.b tk hX (v_cons (vv 0) (v_cons vi v_nil)))) (pg_name (i := 6) sc.nd rfl (by first | exact .inl rfl | exact .inr rfl)) (lgN (i := 6) (by rw [hn]; decide))
  (ss_one (s_putD (hu_of hr) (v_ix (vv 2) (v_call G_l_take (hr.mono (by decide)) (by rfl) T.d_l_take.g T.d_l_take.F.kp T.d_l_take.b tk hX (v_cons (vv 0) (v_cons (v_cb1 call_lenA lLen (by rfl) T.n_len (by decide +kernel) (vv 2)) v_nil))) (fun _ _ => rfl)) (vv 5) (v_ix (vv 3) (v_op op_addA lAdd vi (vv 6)) (fun _ _ => rfl)))))
  (ss_cons (s_set (i := 7) sc.nd rfl (by first | exact .inl rfl | exact .inr rfl) (by rw [hn]; decide) v_dnew)
  (ss_cons (s_for (passes_of rfl) rfl (i_rng2 (by rfl) T.n_range vi (vv 4)) (pg_name (i := 6) sc.nd rfl (by first | exact .inl rfl | exact .inr rfl)) (lgN (i := 6) (by rw [hn]; decide))
  (ss_cons (s_set (i := 8) sc.nd rfl (by first | exact .inl rfl | exact .inr rfl) (by rw [hn]; decide) (v_call G_l_take (hr.mono (by decide)) (by rfl) T.d_l_take.g T.d_l_take.F.kp T.d_l_take.b tk hX (v_cons (vv 0) (v_cons (v_op op_addA lAdd (vv 6) vi) v_nil))))
  (ss_one (s_if (PW.pt (v_and (vt_cmp op_lt lC (nomark _) (vv 8) (vv 6)) (pw_and1 (v_not (vTr (vv 1))))))
  (ss_one (s_putD (hu_of hr) (v_ix (vv 3) (vv 8) (fun _ _ => rfl)) (vv 7) (v_ix (vv 3) (vv 6) (fun _ _ => rfl))))
  ss_nil))))
  (ss_one (s_ret (v_tup (v_cons (vv 5) (v_cons (vv 7) v_nil)))))))))))), ?_⟩
  obtain ⟨p, fl, menu, rfl, hp, hm1, hm2, hm3, hm4, q⟩ := h
  refine ⟨rfl, rfl, p, 7, rfl, hp, by decide, fun ws M1 t1 hl nd wd w10' => ?_⟩
  have w10 := w10' (by decide)
  refine ⟨rfl, rfl, rfl, p, 3, rfl, t1.tp, by decide, fun nb M2 hnb t2 => ?_⟩
  have t12 : Tto p M M2 := t1.trans t2
  refine ⟨rfl, fun q1 n1 => ⟨rfl, by omega, by omega, ?_⟩⟩
  have hq1 : q1 ≠ p := fun e => by
    obtain ⟨ts, e2, _⟩ := t12.tp
    have n1' : M2 q1 = none := n1
    rw [e, e2] at n1'
    cases n1'
  have nq1 : M q1 = none := by
    have := t12.out q1 hq1
    rw [← this]
    exact n1
  rw [show (2 + (nb : Int)).toNat = 2 + nb by omega]
  have small : ∀ sh : List (Str × Str), sh.length ≤ 20 → (shD sh).length < sizeLine := fun sh h => by rw [shD_len, sizeLine_eq]; omega
  have klen : ∀ {sh : List (Str × Str)} {a k : Nat}, sh.map (·.1) = ksOf ws a k → sh.length ≤ a + k := fun {sh a k} e => by
    have := congrArg List.length e
    rw [List.length_map] at this
    rw [this]
    exact ks_len
  refine forGo_rng0 (fun k S => ∃ (sh : List (Str × Str)) (M3 : Mx) (y6 : Slx), sh.map (·.1) = ksOf ws k 0 ∧ (∀ x ∈ sh, x.2 = Str.empty) ∧ Stk p q1 M sh M3 ∧ S = ⟨[.val (.r p), .val (.b fl), .val (.l (menu.map .s)), .val (.l (ws.map .s)), .val (.i (2 + (nb : Int))), .val (.r q1), y6, .no, .no], M3⟩)
    (fun k S hk h R hR => ?_) (fun S h => ?_) _ ⟨[], _, .no, by simp [ksOf], by simp, ⟨?_, updM_same, fun b m hb e => ?_, hq1, nq1⟩, rfl⟩
  · obtain ⟨sh, M3, y6, hk1, hk2, st, rfl⟩ := h
    have hlt : k < ws.length := by omega
    have hn : (ksOf ws k 0 ++ [ws[k]]).Nodup := by rw [← ks_base hlt]; exact ks_nodup nd (by omega)
    refine ⟨_, _, rfl, at_s hlt, rfl, q1, shD sh, .inr ws[k], rfl, st.dk, rfl, small sh (by have := klen hk1; omega), hR _ ⟨sh ++ [(ws[k], Str.ofString "")], _, _, by rw [List.map_append, hk1, ks_base hlt]; rfl, fun x hx => ?_, st.put (by rw [hk1]; exact not_in hn), rfl⟩⟩
    rcases List.mem_append.mp hx with hx | hx
    · exact hk2 x hx
    · rw [List.mem_singleton.mp hx]
      exact empty_eq
  · obtain ⟨sh, M3, y6, hk1, hk2, st, rfl⟩ := h
    have hsl : sh.length = 2 + nb := by
      have := congrArg List.length hk1
      rw [List.length_map] at this
      rw [this]
      unfold ksOf
      simp
      omega
    refine ⟨rfl, rfl, p, 4, rfl, st.tp, by decide, fun nm M4 hnm t4 => ⟨by omega, by omega, ?_⟩⟩
    refine forGo_rng0 (fun k S => ∃ (sh : List (Str × Str)) (M3 : Mx) (y6 : Slx), sh.map (·.1) = ksOf ws (2 + nb) k ∧ (2 ≤ sh.length ∧ ∀ j (h : j < sh.length), j < 2 → sh[j].2 = Str.empty) ∧ ((∀ x ∈ sh, x.2.cps.toList.length ≤ 3) ∧ (∀ x ∈ sh, ∀ c ∈ x.2.cps.toList, c = 43 ∨ c = 45) ∧ 2 + nb ≤ sh.length ∧ ∀ j, j < 2 + nb → ∃ z, ws[j]? = some z ∧ sh[j]? = some (z, Str.empty)) ∧ Stk p q1 M sh M3 ∧ S = ⟨[.val (.r p), .val (.b fl), .val (.l (menu.map .s)), .val (.l (ws.map .s)), .val (.i (2 + (nb : Int))), .val (.r q1), y6, .no, .no], M3⟩)
      (fun k S hk h R hR => ?_) (fun S h => ?_) _ ⟨sh, M4, y6, hk1, ⟨by omega, fun j hj _ => hk2 _ (List.getElem_mem hj)⟩, ⟨fun x hx => by rw [hk2 x hx]; decide, fun x hx c hc => by rw [hk2 x hx, ← empty_eq, empty_str] at hc; simp at hc, by omega, fun j hj => ⟨ws[j]'(by omega), List.getElem?_eq_getElem (by omega), base_get hk1 hk2 hj (by omega)⟩⟩, st.take t4.tp t4.out, rfl⟩
    · obtain ⟨sh, M3, y6, hk1, hz, hk2, st, rfl⟩ := h
      have hlt : 4 + k < ws.length := by omega
      have hn : (ksOf ws (2 + nb) k ++ [ws[4 + k]]).Nodup := by rw [← ks_succ hlt]; exact ks_nodup nd (by omega)
      refine ⟨rfl, rfl, p, menu.length, by rw [← ln_s menu]; rfl, st.tp, hm1, fun r M5 hr t5 => ?_⟩
      have st5 := st.take t5.tp t5.out
      refine ⟨_, _, rfl, at_s hr, _, _, rfl, (by rw [show (4 : Int) + (k : Int) = ((4 + k : Nat) : Int) by omega]; exact at_s hlt), rfl, q1, shD sh, .inr ws[4 + k], rfl, st5.dk, rfl, small sh (by have := klen hk1; omega), hR _ ⟨sh ++ [(ws[4 + k], menu[r])], _, _, by rw [List.map_append, hk1, ks_succ hlt]; rfl, ⟨by rw [List.length_append]; omega, fun j hj h2 => ?_⟩, ?_, st5.put (by rw [hk1]; exact not_in hn), rfl⟩⟩
      · rw [List.getElem_append_left (by omega)]
        exact hz.2 j (by omega) h2
      · refine ⟨fun x hx => ?_, fun x hx => ?_, by rw [List.length_append]; omega, bases_snoc hk2.2.2.2 hk2.2.2.1⟩
        all_goals rcases List.mem_append.mp hx with hx | hx
        · exact hk2.1 x hx
        · rw [List.mem_singleton.mp hx]
          exact hm3 _ (List.getElem_mem hr)
        · exact hk2.2.1 x hx
        · rw [List.mem_singleton.mp hx]
          exact hm4 _ (List.getElem_mem hr)
    · obtain ⟨sh, M3, y6, hk1, hz, hk2, st, rfl⟩ := h
      have shp : Shp sh := by
        refine ⟨hz.1, by have := klen hk1; omega, by rw [hk1]; exact ks_nodup nd (by omega), fun x hx => ?_, hz.2, hk2.1⟩
        have h1 : x.1 ∈ sh.map (·.1) := List.mem_map.mpr ⟨x, hx, rfl⟩
        rw [hk1] at h1
        unfold ksOf at h1
        rcases List.mem_append.mp h1 with h1 | h1
        · exact wd _ (List.mem_of_mem_take h1)
        · exact wd _ (List.mem_of_mem_drop (List.mem_of_mem_take h1))
      refine fun q2 n2 => ⟨rfl, ⟨by omega, by omega, by omega, by omega⟩, ?_⟩
      have n2' : M3 q2 = none := n2
      have h2p : q2 ≠ p := fun e => by
        obtain ⟨ts, e2, _⟩ := st.tp
        rw [e, e2] at n2'
        cases n2'
      have h2q : q2 ≠ q1 := fun e => by
        rw [e, st.dk] at n2'
        cases n2'
      have nM2 : M q2 = none := by
        cases e : M q2 with
        | none => rfl
        | some m =>
          rw [st.out q2 m h2p e] at n2'
          cases n2'
      refine forGo_rng (fun k S => ∃ (M4 : Mx) (un : List (Str × Str)) (y6 y8 : Slx), Stk p q1 M sh M4 ∧ M4 q2 = some (.dk none (shD un)) ∧ (un.length ≤ k ∧ (un.map (·.1)).Nodup ∧ (fl = true → un = []) ∧ ∀ x ∈ un, ∃ i j : Nat, i < j ∧ j < 1 + k ∧ ws[j]? = some x.1 ∧ sh[j]? = some (x.1, Str.empty) ∧ sh[i]? = some (x.2, Str.empty)) ∧ S = ⟨[.val (.r p), .val (.b fl), .val (.l (menu.map .s)), .val (.l (ws.map .s)), .val (.i (2 + (nb : Int))), .val (.r q1), y6, .val (.r q2), y8], M4⟩)
        (fun k S hk h R hR => ?_) (fun S h => ?_) _ ⟨_, [], y6, .no, st.other h2p h2q nM2, updM_same, ⟨Nat.le_refl _, by simp, fun _ => rfl, by simp⟩, rfl⟩
      · obtain ⟨M4, un, y6, y8, st4, hu, hul, rfl⟩ := h
        have hk7 : 1 + k < 7 := by omega
        have same : ∀ M5, Tto p M4 M5 → ∀ y8, R ⟨[.val (.r p), .val (.b fl), .val (.l (menu.map .s)), .val (.l (ws.map .s)), .val (.i (2 + (nb : Int))), .val (.r q1), .val (.i (1 + (k : Int))), .val (.r q2), y8], M5⟩ := fun M5 t5 y8 =>
          hR _ ⟨M5, un, _, _, st4.take t5.tp t5.out, by rw [t5.out q2 h2p]; exact hu, ⟨by omega, hul.2.1, hul.2.2.1, fun x hx => by obtain ⟨i, j, a, b, c⟩ := hul.2.2.2 x hx; exact ⟨i, j, a, by omega, c⟩⟩, rfl⟩
        refine ⟨rfl, rfl, p, k + 2, by rw [show ((k + 2 : Nat) : Int) = 1 + (k : Int) + 1 by omega]; rfl, st4.tp, by omega, fun r M5 hr t5 => ⟨rfl, ite2 (fun z => ?_) (fun _ => same M5 t5 _)⟩⟩
        have hr1 : r < 1 + k := by
          have : (r : Int) < 1 + (k : Int) := of_decide_eq_true z
          omega
        refine ite2 (fun zf => ?_) (fun _ => same M5 t5 _)
        have st5 := st4.take t5.tp t5.out
        have ff : fl = false := by cases fl <;> first | rfl | cases zf
        have hw1 : 1 + k < ws.length := by omega
        have hwr : r < ws.length := by omega
        have nin : ws[1 + k] ∉ un.map (·.1) := fun hx => by
          obtain ⟨x, hx, ex⟩ := List.mem_map.mp hx
          obtain ⟨i, j, _, hj, hwj, _⟩ := hul.2.2.2 x hx
          have hj7 : j < ws.length := by omega
          have := nodup_inj nd hwj (by rw [ex]; exact List.getElem?_eq_getElem hw1)
          omega
        have el : (shD (un ++ [(ws[1 + k], ws[r])])) = putD (shD un) (.inr ws[1 + k]) (.s ws[r]) := (putD_shD nin).symm
        refine ⟨_, _, rfl, at_s (ws := ws) (r := r) (by omega), _, _, rfl, (by rw [show (1 : Int) + (k : Int) = ((1 + k : Nat) : Int) by omega]; exact at_s (ws := ws) (by omega)), rfl, q2, shD un, .inr _, rfl, by show M5 q2 = _; rw [t5.out q2 h2p]; exact hu, rfl, by rw [sizeLine_eq, shD_len]; omega, hR _ ⟨_, un ++ [(ws[1 + k], ws[r])], _, _, st5.other h2p h2q nM2, ?_, ⟨by rw [List.length_append]; simp; omega, ?_, fun z => (by rw [ff] at z; cases z), fun x hx => ?_⟩, rfl⟩⟩
        · rw [el]; exact updM_same
        · rw [List.map_append]
          exact List.nodup_append.mpr ⟨hul.2.1, by simp, fun a ha b hb e => nin (by simp at hb; rw [← hb, ← e]; exact ha)⟩
        · rcases List.mem_append.mp hx with hx | hx
          · obtain ⟨i, j, a, b, c⟩ := hul.2.2.2 x hx
            exact ⟨i, j, a, by omega, c⟩
          · rw [List.mem_singleton.mp hx]
            obtain ⟨z1, e1, e2⟩ := hk2.2.2.2 (1 + k) (by omega)
            obtain ⟨z2, e3, e4⟩ := hk2.2.2.2 r (by omega)
            rw [List.getElem?_eq_getElem hw1] at e1
            rw [List.getElem?_eq_getElem hwr] at e3
            cases e1
            cases e3
            exact ⟨r, 1 + k, hr1, by omega, List.getElem?_eq_getElem hw1, e2, e4⟩
      · obtain ⟨M4, un, y6, y8, st4, hu, hul, rfl⟩ := h
        have kl := klen hk1
        refine ⟨rfl, rfl, by show 2 ≤ sizeLine; decide, rfl, q sh q1 q2 un M4 ⟨shp, ?_, fun x hx => ?_, hk2.2.1⟩ ⟨hul.2.1, by omega, fun x hx => ?_⟩ hul.2.2.1 st4 nM2 h2p h2q hu⟩
        · omega
        · have h1 : x.1 ∈ sh.map (·.1) := List.mem_map.mpr ⟨x, hx, rfl⟩
          rw [hk1] at h1
          unfold ksOf at h1
          rcases List.mem_append.mp h1 with h1 | h1
          · exact w10 _ (List.mem_of_mem_take h1)
          · exact w10 _ (List.mem_of_mem_drop (List.mem_of_mem_take h1))
        · obtain ⟨i, j, a, _, _, b, c⟩ := hul.2.2.2 x hx
          exact ⟨i, j, a, b, c⟩
  · obtain ⟨ts, e, hz⟩ := t12.tp
    exact ⟨ts, by rw [updM_ne (Ne.symm hq1)]; exact e, hz⟩
  · have : b ≠ q1 := fun z => by rw [z, nq1] at e; cases e
    rw [updM_ne this]
    show M2 b = some m
    rw [t12.out b hb]
    exact e
end
end VL
set_option Elab.async false
set_option linter.all false
set_option maxRecDepth 100000
set_option maxHeartbeats 1000000
namespace VL
open PySem PySem.Spec PyProof.Rows L2
section
variable {P : Program} {w : World} {K : PySem.W.Frag} {mg : Str → Option Value} {base : Heap}
def smZ (z : Str) : Bool := !(Builtin.Str.occurrences (Str.ofString "abcdefghijklmnopqrstuvwxyz") z 0 (Str.ofString "abcdefghijklmnopqrstuvwxyz").length 1).isEmpty
def smB (c : Nat) : Bool := smZ ⟨#[c]⟩
def smD : Da → Da
  | .s z => .b (smZ z)
  | d => .b false
theorem smD_chs (z : Str) : (chsD z).map smD = (z.cps.toList.map smB).map Da.b := by
  unfold chsD
  rw [List.map_map, List.map_map]
  rfl
theorem wd_all {z : Str} (h : Wd z) : (z.cps.toList.map smB).all id = true := by
  rw [List.all_eq_true]
  intro b hb
  obtain ⟨c, hc, rfl⟩ := List.mem_map.mp hb
  exact occ_small (h.ch c hc)
def NoWd (z : Str) : Prop := z.cps.toList.length ≤ 1000 ∧ (z.cps.toList.length = 0 ∨ 12 < z.cps.toList.length ∨ ∃ c ∈ z.cps.toList, smB c = false)
def dc_is_word : DC := fun ds M Q _ => ∃ z : Str, ds = [.s z] ∧ ((Wd z ∧ Q (.b true) M) ∨ (NoWd z ∧ Q (.b false) M))
theorem ok_is_word (T : Tx P K mg)  : FnOk P w K mg base (L2.CX P w) 1 T.f_is_word T.fd_is_word ["text"] (spOf K dc_is_word) := by
  have sc := scIsWord
  refine okD T.d_is_word.F sc (fun ds M Q X h => ?_) (fun cdv A outer s H E c ds M Qd Xd hn hr h hX => ?_)
  · obtain ⟨z, rfl, _⟩ := h
    rfl
  have tk := takes_of (X := cxOf (L2.CX P w) P w K mg base NIsWord "is_word" (defScope sIsWord) T.f_is_word cdv A outer s H E) rfl rfl rfl rfl
  refine ⟨_, (ss_one (s_ret (ve_and (v_isi isi_str (by rfl) T.n_isinstance (by rfl) T.n_str (by decide +kernel) (vv 0)) (ve_and (v_chain op_le lC op_le lC vi (v_cb1 call_lenA lLen (by rfl) T.n_len (by decide +kernel) (vv 0)) vi) (pe_one (v_cb1 (cr_all rfl) lAll (by rfl) T.n_all (by decide +kernel) (vOf (v_lc rfl sc.nd (i_str (vv 0)) (blkOk_by (own := [("mark", 1)]) (N := NIsWord) (sc := defScope sIsWord) (by decide +kernel)) (fun c1 e1 => (lgN (i := 1) (by rw [e1, hn]; decide))) (fun _ _ _ _ _ => (pg_name (i := 1) sc.nd rfl (by first | exact .inl rfl | exact .inr rfl))) (fun _ _ _ _ _ _ _ => ts_nil) (fun _ _ _ _ _ c1 e1 => (v_cmp op_inA lIn (by rfl) (vv 1) (vgs rfl T.c_SMALL))) (by decide))))))))), ?_⟩
  obtain ⟨z, rfl, hq⟩ := h
  have e := str_len z
  have hl : z.cps.toList.length ≤ 1000 := by
    rcases hq with ⟨wd, _⟩ | ⟨nw, _⟩
    · have := wd.hi; omega
    · exact nw.1
  have sl : Str.length z ≤ sizeLine := by rw [str_len]; exact sz_le (by omega)
  rcases Decidable.em (1 ≤ z.cps.toList.length ∧ z.cps.toList.length ≤ 12) with hr | hr
  · refine ⟨sl, ite2 (fun _ => ite2 (fun _ => ?_) (fun y => absurd (decide_eq_true (by omega)) y)) (fun y => absurd (decide_eq_true (by omega)) y)⟩
    refine lc_map smD (fun d hd R1 hR1 => ?_) (fun d hd => by cases d <;> rfl) (by unfold chsD; rw [List.length_map]; exact sz_le (by omega)) ?_
    · unfold chsD at hd
      obtain ⟨c, hc, rfl⟩ := List.mem_map.mp hd
      exact hR1 _ (Agr.wipe.set (i := 1) (x := .val (.s ⟨#[c]⟩)) (by decide))
    · refine ⟨_, _, rfl, by rw [smD_chs]; exact bools_map _, ?_⟩
      rcases hq with ⟨wd, q⟩ | ⟨nw, q⟩
      · rw [wd_all wd]
        exact ⟨rfl, q⟩
      · have : (z.cps.toList.map smB).all id = false := by
          rcases nw.2 with h | h | ⟨c, hc, h⟩
          · omega
          · omega
          · rw [List.all_eq_false]
            exact ⟨smB c, List.mem_map.mpr ⟨c, hc, rfl⟩, by rw [h]; decide⟩
        rw [this]
        exact ⟨rfl, q⟩
  · rcases hq with ⟨wd, q⟩ | ⟨nw, q⟩
    · exact absurd ⟨wd.lo, wd.hi⟩ hr
    · refine ⟨sl, ite2 (fun y1 => ite2 (fun y2 => ?_) (fun _ => ⟨rfl, q⟩)) (fun _ => ⟨rfl, q⟩)⟩
      have h1 : (1 : Int) ≤ (Str.length z : Int) := of_decide_eq_true y1
      have h2 : (Str.length z : Int) ≤ 12 := of_decide_eq_true y2
      exact absurd ⟨by omega, by omega⟩ hr
def dc_is_letter : DC := fun ds M Q _ => (∃ c : Nat, ds = [.s ⟨#[c]⟩] ∧ 65 ≤ c ∧ c ≤ 90 ∧ Q (.b true) M) ∨ (∃ es, ds = [.t es] ∧ Q (.b false) M)
theorem ok_is_letter (T : Tx P K mg)  : FnOk P w K mg base (L2.CX P w) 1 T.f_is_letter T.fd_is_letter ["text"] (spOf K dc_is_letter) := by
  have sc := scIsLetter
  refine okD T.d_is_letter.F sc (fun ds M Q X h => ?_) (fun cdv A outer s H E c ds M Qd Xd hn hr h hX => ?_)
  · rcases h with ⟨c, rfl, _⟩ | ⟨es, rfl, _⟩ <;> rfl
  have tk := takes_of (X := cxOf (L2.CX P w) P w K mg base NIsLetter "is_letter" (defScope sIsLetter) T.f_is_letter cdv A outer s H E) rfl rfl rfl rfl
  refine ⟨_, (ss_one (s_ret (ve_and (v_isi isi_str (by rfl) T.n_isinstance (by rfl) T.n_str (by decide +kernel) (vv 0)) (ve_and (v_cmp (op_eqA hr.units) lEq (nomark _) (v_cb1 call_lenA lLen (by rfl) T.n_len (by decide +kernel) (vv 0)) vi) (pe_one (v_cmp op_inA lIn (by rfl) (vv 0) (vgs rfl T.c_CAPITAL))))))), ?_⟩
  rcases h with ⟨c, rfl, h1, h2, q⟩ | ⟨es, rfl, q⟩
  · have sl : Str.length ⟨#[c]⟩ ≤ sizeLine := by rw [str_len]; exact sz_le (show 1 ≤ 1000 by decide)
    have := occ_cap ⟨h1, h2⟩
    refine ⟨sl, .inl ⟨rfl, rfl, rfl, ?_⟩⟩
    rw [← this] at q
    exact ⟨rfl, q⟩
  · exact ⟨rfl, q⟩
def dc_is_form : DC := fun ds M Q _ => ∃ (lb : Bool) (d : Da), ds = [d] ∧ Fk lb d ∧ d.sz ≤ 100000 ∧ Q (.b true) M
theorem ok_is_form (T : Tx P K mg) (G_is_letter : FnOk P w K mg base (L2.CX P w) 1 T.f_is_letter T.fd_is_letter ["text"] (spOf K dc_is_letter)) (G_is_word : FnOk P w K mg base (L2.CX P w) 1 T.f_is_word T.fd_is_word ["text"] (spOf K dc_is_word)) : FnOk P w K mg base (L2.CX P w) 2 T.f_is_form T.fd_is_form ["row"] (spOf K dc_is_form) := by
  have sc := scIsForm
  refine okD T.d_is_form.F sc (fun ds M Q X h => ?_) (fun cdv A outer s H E c ds M Qd Xd hn hr h hX => ?_)
  · obtain ⟨lb, d, rfl, _⟩ := h
    rfl
  have tk := takes_of (X := cxOf (L2.CX P w) P w K mg base NIsForm "is_form" (defScope sIsForm) T.f_is_form cdv A outer s H E) rfl rfl rfl rfl
  refine ⟨_, (ss_cons (s_own (i := 1) sc.nd rfl (by first | exact .inl rfl | exact .inr rfl) (by rw [hn]; decide) (v_lst (v_cons (vv 0) v_nil)))
  (ss_cons (s_while (passes_of rfl) (vTr (vv 1))
  (ss_cons (s_set (i := 2) sc.nd rfl (by first | exact .inl rfl | exact .inr rfl) (by rw [hn]; decide) (v_pop (by rfl) (by rfl) (vv 1)))
  (ss_cons (s_if (vTr (v_call G_is_letter (hr.mono (by decide)) (by rfl) T.d_is_letter.g T.d_is_letter.F.kp T.d_is_letter.b tk hX (v_cons (vv 2) v_nil)))
  (ss_one s_cont)
  ss_nil)
  (ss_cons (s_if (PW.pt (v_or (v_not (vB (v_isi isi_tuple (by rfl) T.n_isinstance (by rfl) T.n_tuple (by decide +kernel) (vv 2)))) (v_or (v_not (vt_chain op_le lC op_le lC vi (v_cb1 call_lenA lLen (by rfl) T.n_len (by decide +kernel) (vv 2)) vi)) (pw_or1 (v_not (vTr (v_call G_is_word (hr.mono (by decide)) (by rfl) T.d_is_word.g T.d_is_word.F.kp T.d_is_word.b tk hX (v_cons (v_ix (vv 2) vi (fun _ _ => rfl)) v_nil))))))))
  (ss_one (s_ret vb))
  ss_nil)
  (ss_one (s_expr (v_met PySem.F.plainAttrs_list PySem.F.slot_list_extend PySem.F.type_list_extend mt_extA tyL_ok lExtend (vv 1) (v_sl (vv 2) (v_part vi) v_no))))))))
  (ss_one (s_ret vb)))), ?_⟩
  obtain ⟨lb, d, rfl, hf, hz, q⟩ := h
  have dO : d.isO = false := by cases hf <;> rfl
  refine ⟨dO, by show 1 ≤ sizeLine; decide, fun p1 n1 => ⟨fun m S => ∃ (todo : List Da) (y2 : Slx), S = ⟨[.val d, .own p1 todo, y2], M⟩ ∧ m = szs todo ∧ (∀ x ∈ todo, Fk lb x) ∧ szs todo ≤ 100000, ⟨_, [d], .no, rfl, rfl, by simpa using hf, by simp only [szs]; omega⟩, ?_⟩⟩
  rintro m S ⟨todo, y2, rfl, rfl, hk, hl⟩
  refine ⟨todo, rfl, ite2 (fun z => ?_) (fun z => ⟨rfl, q⟩)⟩
  rcases List.eq_nil_or_concat todo with e | ⟨ini, x, e⟩
  · subst e
    cases z
  rw [List.concat_eq_append] at e
  subst e
  have hx := hk x (by simp)
  have hi : ∀ y ∈ ini, Fk lb y := fun y hy => hk y (by simp [hy])
  rw [szs_concat] at hl
  refine ⟨ini ++ [x], x, ⟨[.val d, .own p1 ini, y2], M⟩, rfl, by simp, by show some _ = some _; rw [List.dropLast_concat]; rfl, ?_⟩
  cases hx with
  | lt h0 h1 h2 =>
    rename_i c
    refine ⟨rfl, rfl, .inl ⟨c, rfl, h1, h2, ⟨szs ini, ?_, ini, _, rfl, rfl, hi, by omega⟩⟩⟩
    rw [szs_concat]
    have := sz_pos (.s ⟨#[c]⟩)
    omega
  | nd wd hfl hfs =>
    rename_i zz fs
    have hsz : (Da.t (.s zz :: fs)).sz = 2 + szs fs := by simp [Da.sz, szs]; omega
    rw [hsz] at hl
    refine ⟨rfl, rfl, .inr ⟨_, rfl, ?_⟩⟩
    have e1 : (((Da.s zz :: fs).length : Nat) : Int) = (fs.length : Int) + 1 := by simp
    refine ite2 (fun _ => ite2 (fun y => ?_) (fun _ => ?_)) (fun y => absurd (decide_eq_true (by omega)) y)
    · have : decide (((Da.s zz :: fs).length : Int) ≤ 4) = true := decide_eq_true (by omega)
      have y' : (!decide (((Da.s zz :: fs).length : Int) ≤ 4)) = true := y
      rw [this] at y'
      cases y'
    · have hl2 := szs_len ini
      refine ⟨_, atI_nat (j := 0) rfl, rfl, zz, rfl, .inl ⟨wd, ⟨_, rfl⟩, ini, fs, _, rfl, (by show some (cutD (.s zz :: fs) (some 1) none) = _; rw [cut_tail]), by rw [sizeLine_eq]; omega, rfl, szs (ini ++ fs), ?_, ini ++ fs, _, rfl, rfl, fun y hy => ?_, ?_⟩⟩
      · rw [szs_concat, szs_app, hsz]
        omega
      · rcases List.mem_append.mp hy with hy | hy
        · exact hi y hy
        · exact hfs y hy
      · rw [szs_app]
        omega
def dc_walk : DC := fun ds M Q _ => ∃ (lb : Bool) (d : Da), ds = [d] ∧ Fk lb d ∧ d.sz ≤ 100000 ∧ ((∀ x ∈ d.subs, Fk lb x) → d.subs.length ≤ d.sz → Q (.l d.subs) M)
theorem ok_walk (T : Tx P K mg)  : FnOk P w K mg base (L2.CX P w) 1 T.f_walk T.fd_walk ["form"] (spOf K dc_walk) := by
  have sc := scWalk
  refine okD T.d_walk.F sc (fun ds M Q X h => ?_) (fun cdv A outer s H E c ds M Qd Xd hn hr h hX => ?_)
  · obtain ⟨lb, d, rfl, _⟩ := h
    rfl
  have tk := takes_of (X := cxOf (L2.CX P w) P w K mg base NWalk "_walk" (defScope sWalk) T.f_walk cdv A outer s H E) rfl rfl rfl rfl
  refine ⟨_, (ss_cons (s_own (i := 1) sc.nd rfl (by first | exact .inl rfl | exact .inr rfl) (by rw [hn]; decide) (v_lst v_nil))
  (ss_cons (s_own (i := 2) sc.nd rfl (by first | exact .inl rfl | exact .inr rfl) (by rw [hn]; decide) (v_lst (v_cons (vv 0) v_nil)))
  (ss_cons (s_while (passes_of rfl) (vTr (vv 2))
  (ss_cons (s_set (i := 3) sc.nd rfl (by first | exact .inl rfl | exact .inr rfl) (by rw [hn]; decide) (v_pop (by rfl) (by rfl) (vv 2)))
  (ss_cons (s_expr (v_met PySem.F.plainAttrs_list PySem.F.slot_list_append PySem.F.type_list_append mt_append tyL_ok lAppend (vv 1) (vv 3)))
  (ss_one (s_if (v_not (vB (v_isi isi_str (by rfl) T.n_isinstance (by rfl) T.n_str (by decide +kernel) (vv 3))))
  (ss_one (s_expr (v_met PySem.F.plainAttrs_list PySem.F.slot_list_extend PySem.F.type_list_extend mt_extA tyL_ok lExtend (vv 2) (v_rev0 (vv 3)))))
  ss_nil)))))
  (ss_one (s_ret (vFz (vv 1))))))), ?_⟩
  obtain ⟨lb, d, rfl, hf, hz, q⟩ := h
  have dO : d.isO = false := by cases hf <;> rfl
  refine ⟨by show 0 ≤ sizeLine; decide, fun p1 n1 => ⟨dO, by show 1 ≤ sizeLine; decide, fun p2 n2 => ⟨fun m S => ∃ (seen todo : List Da) (y3 : Slx), S = ⟨[.val d, .own p1 seen, .own p2 todo, y3], M⟩ ∧ m = szs todo ∧ (∀ x ∈ todo, Fk lb x) ∧ (∀ x ∈ seen, Fk lb x) ∧ seen.length + szs todo ≤ d.sz ∧ seen ++ subsL todo.reverse = d.subs, ⟨_, [], [d], .no, rfl, rfl, by simpa using hf, by simp, by simp [szs], by simp [subsL]⟩, ?_⟩⟩⟩
  rintro m S ⟨seen, todo, y3, rfl, rfl, hk, hs, hl, hsub⟩
  refine ⟨todo, rfl, ite2 (fun z => ?_) (fun z => ?_)⟩
  rotate_left
  · have e0 : todo = [] := by cases todo with | nil => rfl | cons a b => exact absurd rfl z
    subst e0
    rw [show subsL ([] : List Da).reverse = [] by simp [subsL], List.append_nil] at hsub
    subst hsub
    exact ⟨rfl, q hs (by omega)⟩
  rcases List.eq_nil_or_concat todo with e | ⟨ini, x, e⟩
  · subst e
    cases z
  rw [List.concat_eq_append] at e
  subst e
  have hx := hk x (by simp)
  have hi : ∀ y ∈ ini, Fk lb y := fun y hy => hk y (by simp [hy])
  have hs' : ∀ y ∈ seen ++ [x], Fk lb y := fun y hy => by
    rcases List.mem_append.mp hy with hy | hy
    · exact hs y hy
    · rw [List.mem_singleton.mp hy]
      exact hx
  rw [szs_concat] at hl
  rw [List.reverse_concat, subsL] at hsub
  have hp := sz_pos x
  have xO : x.isO = false := by cases hx <;> rfl
  refine ⟨ini ++ [x], x, ⟨[.val d, .own p1 seen, .own p2 ini, y3], M⟩, rfl, by simp, by show some _ = some _; rw [List.dropLast_concat]; rfl, xO, ⟨_, rfl⟩, seen, _, rfl, xO, by rw [sizeLine_eq]; omega, rfl, ?_⟩
  cases hx with
  | lt h0 h1 h2 =>
    rename_i c
    refine ⟨szs ini, ?_, seen ++ [.s ⟨#[c]⟩], ini, _, rfl, rfl, hi, hs', ?_, by rw [List.append_assoc]; exact hsub⟩
    · rw [szs_concat]
      omega
    · rw [List.length_append, List.length_singleton]
      omega
  | nd wd hfl hfs =>
    rename_i zz fs
    have hsz : (Da.t (.s zz :: fs)).sz = 2 + szs fs := by simp [Da.sz, szs]; omega
    have hl2 := szs_len ini
    have hl3 := szs_len fs
    have hc : cutR true (Da.s zz :: fs) = fs.reverse := by
      unfold cutR downN
      simp
    refine ⟨⟨_, rfl⟩, ini, fs.reverse, _, rfl, (by show some (cutR true (.s zz :: fs)) = _; rw [hc]), by rw [sizeLine_eq, List.length_reverse]; omega, rfl, szs (ini ++ fs.reverse), ?_, seen ++ [.t (.s zz :: fs)], ini ++ fs.reverse, _, rfl, rfl, fun y hy => ?_, hs', ?_, by rw [List.reverse_append, List.reverse_reverse, subsL_app, ← hsub, Da.subs, List.append_assoc]; rfl⟩
    · rw [szs_concat, szs_app, szs_rev, hsz]
      omega
    · rcases List.mem_append.mp hy with hy | hy
      · exact hi y hy
      · exact hfs y (List.mem_reverse.mp hy)
    · rw [List.length_append, List.length_singleton, szs_app, szs_rev]
      omega
end
end VL
set_option Elab.async false
set_option linter.all false
set_option maxRecDepth 100000
set_option maxHeartbeats 1000000
namespace VL
open PySem PySem.Spec PyProof.Rows L2
section
variable {P : Program} {w : World} {K : PySem.W.Frag} {mg : Str → Option Value} {base : Heap}
def pmZ (z : Str) : Bool := !(Builtin.Str.occurrences (Str.ofString "+-") z 0 (Str.ofString "+-").length 1).isEmpty
def pmB (c : Nat) : Bool := pmZ ⟨#[c]⟩
def pmD : Da → Da
  | .s z => .b (pmZ z)
  | d => .b false
theorem pmD_chs (z : Str) : (chsD z).map pmD = (z.cps.toList.map pmB).map Da.b := by
  unfold chsD
  rw [List.map_map, List.map_map]
  rfl
def Mk (v : Str) : Prop := v.cps.toList.length ≤ 3 ∧ ∀ c ∈ v.cps.toList, c = 43 ∨ c = 45
def NoMk (v : Str) : Prop := v.cps.toList.length ≤ 1000 ∧ (3 < v.cps.toList.length ∨ ∃ c ∈ v.cps.toList, pmB c = false)
theorem mk_all {v : Str} (h : Mk v) : (v.cps.toList.map pmB).all id = true := by
  rw [List.all_eq_true]
  intro b hb
  obtain ⟨c, hc, rfl⟩ := List.mem_map.mp hb
  exact occ_pm (h.2 c hc)
theorem mk_no {v : Str} (h : Mk v) (n : NoMk v) : False := by
  rcases n.2 with z | ⟨c, hc, z⟩
  · have := h.1
    omega
  · have : pmB c = true := occ_pm (h.2 c hc)
    rw [this] at z
    cases z
theorem wd_no {v : Str} (h : Wd v) (n : NoWd v) : False := by
  rcases n.2 with z | z | ⟨c, hc, z⟩
  · have := h.lo
    omega
  · have := h.hi
    omega
  · have : smB c = true := occ_small (h.ch c hc)
    rw [this] at z
    cases z
def dc_is_marks : DC := fun ds M Q _ => ∃ v : Str, ds = [.s v] ∧ ((Mk v ∧ Q (.b true) M) ∨ (NoMk v ∧ Q (.b false) M))
theorem ok_is_marks (T : Tx P K mg)  : FnOk P w K mg base (L2.CX P w) 1 T.f_is_marks T.fd_is_marks ["marks"] (spOf K dc_is_marks) := by
  have sc := scIsMarks
  refine okD T.d_is_marks.F sc (fun ds M Q X h => ?_) (fun cdv A outer s H E c ds M Qd Xd hn hr h hX => ?_)
  · obtain ⟨z, rfl, _⟩ := h
    rfl
  have tk := takes_of (X := cxOf (L2.CX P w) P w K mg base NIsMarks "_is_marks" (defScope sIsMarks) T.f_is_marks cdv A outer s H E) rfl rfl rfl rfl
  refine ⟨_, (ss_one (s_ret (ve_and (v_cmp op_le lC (nomark _) (v_cb1 call_lenA lLen (by rfl) T.n_len (by decide +kernel) (vv 0)) vi) (pe_one (v_cb1 (cr_all rfl) lAll (by rfl) T.n_all (by decide +kernel) (vOf (v_lc rfl sc.nd (i_str (vv 0)) (blkOk_by (own := [("mark", 1)]) (N := NIsMarks) (sc := defScope sIsMarks) (by decide +kernel)) (fun c1 e1 => (lgN (i := 1) (by rw [e1, hn]; decide))) (fun _ _ _ _ _ => (pg_name (i := 1) sc.nd rfl (by first | exact .inl rfl | exact .inr rfl))) (fun _ _ _ _ _ _ _ => ts_nil) (fun _ _ _ _ _ c1 e1 => (v_cmp op_inA lIn (by rfl) (vv 1) vs)) (by decide)))))))), ?_⟩
  obtain ⟨v, rfl, hq⟩ := h
  have e := str_len v
  have hl : v.cps.toList.length ≤ 1000 := by
    rcases hq with ⟨wd, _⟩ | ⟨nw, _⟩
    · have := wd.1; omega
    · exact nw.1
  refine ⟨by rw [str_len]; exact sz_le (by omega), ?_⟩
  rcases Decidable.em (v.cps.toList.length ≤ 3) with h3 | h3
  · refine ite2 (fun _ => ?_) (fun y => absurd (decide_eq_true (by omega)) y)
    refine lc_map pmD (fun d hd R1 hR1 => ?_) (fun d hd => by cases d <;> rfl) (by unfold chsD; rw [List.length_map]; exact sz_le (by omega)) ?_
    · unfold chsD at hd
      obtain ⟨c, hc, rfl⟩ := List.mem_map.mp hd
      exact hR1 _ (Agr.wipe.set (i := 1) (x := .val (.s ⟨#[c]⟩)) (by decide))
    · refine ⟨_, _, rfl, by rw [pmD_chs]; exact bools_map _, ?_⟩
      rcases hq with ⟨wd, q⟩ | ⟨nw, q⟩
      · rw [mk_all wd]
        exact ⟨rfl, q⟩
      · have : (v.cps.toList.map pmB).all id = false := by
          rcases nw.2 with h | ⟨c, hc, h⟩
          · omega
          · rw [List.all_eq_false]
            exact ⟨pmB c, List.mem_map.mpr ⟨c, hc, rfl⟩, by rw [h]; decide⟩
        rw [this]
        exact ⟨rfl, q⟩
  · rcases hq with ⟨wd, q⟩ | ⟨nw, q⟩
    · exact absurd wd.1 h3
    · refine ite2 (fun y1 => ?_) (fun _ => ⟨rfl, q⟩)
      have h1 : (Str.length v : Int) ≤ 3 := of_decide_eq_true y1
      omega
theorem und_get {sh un : List (Str × Str)} (s : Shp sh) (u : Und sh un) {x : Str × Str} (hx : x ∈ un) : (x.1, Str.empty) ∈ sh ∧ (x.2, Str.empty) ∈ sh := by
  obtain ⟨i, j, _, h1, h2⟩ := u.up x hx
  exact ⟨List.mem_of_getElem? h1, List.mem_of_getElem? h2⟩
theorem eqF_e (v : Str) : eqF (.s v) (.s (Str.ofString "")) = decide (v = Str.empty) := by rw [empty_eq]; simp [eqF]
theorem eqF_e1 : eqF (.s Str.empty) (.s (Str.ofString "")) = true := by rw [eqF_e]; simp
def gU (sh un : List (Str × Str)) : Prop := ∀ x ∈ un, upS sh x.1 = some Str.empty ∧ upS sh x.2 = some Str.empty
/-- what shapes.get answers, held against the empty text -/
theorem get_e (sh : List (Str × Str)) (z : Str) : ((valD (shD sh) (.inr z)).getD .n).fl = true ∧ scal ((valD (shD sh) (.inr z)).getD .n).va (Da.s (Str.ofString "")).va = true ∧ eqF ((valD (shD sh) (.inr z)).getD .n) (.s (Str.ofString "")) = decide (upS sh z = some Str.empty) := by
  rw [valD_up]
  cases e : upS sh z with
  | none => exact ⟨rfl, rfl, by simp [eqF]⟩
  | some v =>
    refine ⟨rfl, rfl, ?_⟩
    show eqF (.s v) _ = _
    rw [eqF_e]
    simp
def dc_check_under (CB : Addr) : DC := fun ds M Q X => ∃ (p1 p2 : Addr) (sh un : List (Str × Str)), ds = [.r p1, .r p2] ∧ p1 ≠ p2 ∧ M p1 = some (.dk none (shD sh)) ∧ M p2 = some (.dk none (shD un)) ∧ (gU sh un → Q .n M) ∧ (¬ gU sh un → ∀ M', (∀ b, b ≠ p2 → M' b = M b) → X (.ref CB) none M')
theorem ok_check_under (T : Tx P K mg)  : FnOk P w K mg base (L2.CX P w) 1 T.f_check_under T.fd_check_under ["shapes", "under"] (spOf K (dc_check_under T.C_BadKind)) := by
  have sc := scCheckUnder
  refine okD T.d_check_under.F sc (fun ds M Q X h => ?_) (fun cdv A outer s H E c ds M Qd Xd hn hr h hX => ?_)
  · obtain ⟨p1, p2, sh, un, rfl, _⟩ := h
    rfl
  have tk := takes_of (X := cxOf (L2.CX P w) P w K mg base NCheckUnder "_check_under" (defScope sCheckUnder) T.f_check_under cdv A outer s H E) rfl rfl rfl rfl
  refine ⟨_, (ss_one (s_lk (s_for (passes_of rfl) rfl (i_items (vv 1)) (pg_tup (by rfl) (pgs_cons (pg_name (i := 2) sc.nd rfl (by first | exact .inl rfl | exact .inr rfl)) (pgs_cons (pg_name (i := 3) sc.nd rfl (by first | exact .inl rfl | exact .inr rfl)) pgs_nil))) (lgT (n := 2) (lgs_cons (lgN (i := 2) (by rw [hn]; decide)) (lgs_cons (lgN (i := 3) (by rw [hn]; decide)) lgs_nil)) (lenN (lenN len0)))
  (ss_one (s_if (PW.pt (v_or (vt_cmp (op_neA hr.units) lNe (nomark _) (v_dget1 (hu_of hr) (vv 0) (vv 2) ⟨rfl, rfl, rfl, rfl⟩) vs) (pw_or1 (vt_cmp (op_neA hr.units) lNe (nomark _) (v_dget1 (hu_of hr) (vv 0) (vv 3) ⟨rfl, rfl, rfl, rfl⟩) vs))))
  (ss_one (s_raise rfl tk hX PySem.F.excBase_ValueError T.x_BadKind.ex T.x_BadKind.g T.x_BadKind.kp (raises_own T.x_BadKind.sb T.x_BadKind.ty) rfl))
  ss_nil))))), ?_⟩
  obtain ⟨p1, p2, sh, un, rfl, n12, m1, m2, q, qx⟩ := h
  refine ⟨p2, shD un, m2, fun od => ⟨p2, od, shD un, rfl, updM_same, ?_⟩⟩
  have m1' : updM M p2 (.dk (some od) (shD un)) p1 = some (.dk none (shD sh)) := by rw [updM_ne n12]; exact m1
  refine forGo_of (fun rest S => ∃ (pre rr : List (Str × Str)) (y2 y3 : Slx), un = pre ++ rr ∧ (∀ x ∈ pre, upS sh x.1 = some Str.empty ∧ upS sh x.2 = some Str.empty) ∧ rest = (shD rr).map pairD ∧ S = ⟨[.val (.r p1), .val (.r p2), y2, y3], updM M p2 (.dk (some od) (shD un))⟩)
    (fun d ds S h R hR => ?_) (fun S h => ?_) _ _ ⟨[], un, .no, .no, rfl, by simp, rfl, rfl⟩
  · obtain ⟨pre, rr, y2, y3, eu, hp, e1, rfl⟩ := h
    cases rr with
    | nil => cases e1
    | cons x rr =>
    cases e1
    have hx : x ∈ un := by rw [eu]; simp
    have dk : Sx.dk ⟨[.val (.r p1), .val (.r p2), .val (.s x.1), .val (.s x.2)], updM M p2 (.dk (some od) (shD un))⟩ (.r p1) = some (shD sh) := by
      show (match updM M p2 (.dk (some od) (shD un)) p1 with | some (.dk _ kds) => some kds | _ => none) = _
      rw [m1']
    have bad : ¬ (upS sh x.1 = some Str.empty ∧ upS sh x.2 = some Str.empty) → Xd (.ref T.C_BadKind) none (updM M p2 (.dk (some od) (shD un))) := fun nb =>
      qx (fun g => nb (g x hx)) _ fun b hb => updM_ne hb
    obtain ⟨f1, c1, g1⟩ := get_e sh x.1
    obtain ⟨f2, c2, g2⟩ := get_e sh x.2
    refine ⟨⟨_, dk⟩, _, _, dk, rfl, ?_⟩
    refine .inl ⟨f1, rfl, c1, ?_⟩
    rw [g1]
    by_cases h1 : upS sh x.1 = some Str.empty
    · rw [decide_eq_true h1]
      refine ⟨⟨_, dk⟩, _, _, dk, rfl, ?_⟩
      refine .inl ⟨f2, rfl, c2, ?_⟩
      rw [g2]
      by_cases h2 : upS sh x.2 = some Str.empty
      · rw [decide_eq_true h2]
        exact hR ⟨[.val (.r p1), .val (.r p2), .val (.s x.1), .val (.s x.2)], updM M p2 (.dk (some od) (shD un))⟩ ⟨pre ++ [x], rr, _, _, by rw [eu, List.append_assoc]; rfl, fun y hy => by
          rcases List.mem_append.mp hy with hy | hy
          · exact hp y hy
          · rw [List.mem_singleton.mp hy]; exact ⟨h1, h2⟩, rfl, rfl⟩
      · rw [decide_eq_false h2]
        exact bad fun z => h2 z.2
    · rw [decide_eq_false h1]
      exact bad fun z => h1 z.1
  · obtain ⟨pre, rr, y2, y3, eu, hp, e1, rfl⟩ := h
    have e0 : rr = [] := by cases rr with | nil => rfl | cons a b => cases e1
    subst e0
    rw [List.append_nil] at eu
    subst eu
    refine ⟨updM_same, ?_⟩
    show Qd .n (updM (updM M p2 (.dk (some od) (shD un))) p2 (.dk none (shD un)))
    rw [updM_upd, updM_id m2]
    exact q hp
def badC (un : List (Str × Str)) (z : Str) : Prop := ∃ y, upS un z = some y ∧ (y = z ∨ upS un y = some z)
def goodC (un : List (Str × Str)) (z : Str) : Prop := (∃ (v : Str) (sh : List (Str × Str)), Shp sh ∧ Und sh un ∧ sh.length ≤ 7 ∧ (z, v) ∈ sh) ∨ upS un z = none
def dc_chain (CB : Addr) : DC := fun ds M Q X => ∃ (p : Addr) (z : Str) (un : List (Str × Str)) (lk : Option Obj), ds = [.s z, .r p] ∧ M p = some (.dk lk (shD un)) ∧ ((goodC un z ∧ Q (.t ((chn un 7 z).map .s)) M) ∨ (badC un z ∧ X (.ref CB) none M))
theorem ok_chain (T : Tx P K mg)  : FnOk P w K mg base (L2.CX P w) 1 T.f_chain T.fd_chain ["word", "under"] (spOf K (dc_chain T.C_BadKind)) := by
  have sc := scChain
  refine okD T.d_chain.F sc (fun ds M Q X h => ?_) (fun cdv A outer s H E c ds M Qd Xd hn hr h hX => ?_)
  · obtain ⟨p, z, un, lk, rfl, _⟩ := h
    rfl
  have tk := takes_of (X := cxOf (L2.CX P w) P w K mg base NChain "_chain" (defScope sChain) T.f_chain cdv A outer s H E) rfl rfl rfl rfl
  refine ⟨_, (ss_cons (s_own (i := 2) sc.nd rfl (by first | exact .inl rfl | exact .inr rfl) (by rw [hn]; decide) (v_lst (v_cons (vv 0) v_nil)))
  (ss_cons (s_while (passes_of rfl) (vt_dinV (hu_of hr) (by rfl) (v_ix (vv 2) (v_neg vi) (fun _ _ => rfl)) (vv 1))
  (ss_cons (s_set (i := 3) sc.nd rfl (by first | exact .inl rfl | exact .inr rfl) (by rw [hn]; decide) (v_dgetV (hu_of hr) (vv 1) (v_ix (vv 2) (v_neg vi) (fun _ _ => rfl)) (fun _ _ => rfl)))
  (ss_cons (s_if (vt_cmp op_inA lIn (by rfl) (vv 3) (vv 2))
  (ss_one (s_raise rfl tk hX PySem.F.excBase_ValueError T.x_BadKind.ex T.x_BadKind.g T.x_BadKind.kp (raises_own T.x_BadKind.sb T.x_BadKind.ty) rfl))
  ss_nil)
  (ss_one (s_expr (v_met PySem.F.plainAttrs_list PySem.F.slot_list_append PySem.F.type_list_append mt_append tyL_ok lAppend (vv 2) (vv 3)))))))
  (ss_one (s_ret (v_ct1 call_tupleA lTuple (by rfl) T.n_tuple (by decide +kernel) (vv 2)))))), ?_⟩
  obtain ⟨p, z, un, lk, rfl, m2, hc⟩ := h
  refine ⟨rfl, by show 1 ≤ sizeLine; decide, fun p1 n1 => ?_⟩
  rcases hc with ⟨⟨v, sh, s, u, h7, hz⟩ | hu, q⟩ | ⟨⟨y, hy, hb⟩, q⟩
  rotate_left
  · refine ⟨fun m S => S = ⟨[.val (.s z), .val (.r p), .own p1 (([] ++ [z]).map .s), .no], M⟩, ⟨0, rfl⟩, ?_⟩
    rintro m S rfl
    refine ⟨_, _, rfl, at_end (xs := []) (by simp), shD un, .inr z, dk_r m2, rfl, ?_⟩
    rw [valD_up, hu]
    have : chn un 7 z = [z] := by simp [chn, hu]
    rw [this] at q
    exact ⟨_, rfl, rfl, q⟩
  · refine ⟨fun m S => (m = 1 ∧ S = ⟨[.val (.s z), .val (.r p), .own p1 (([] ++ [z]).map .s), .no], M⟩) ∨ (m = 0 ∧ upS un y = some z ∧ S = ⟨[.val (.s z), .val (.r p), .own p1 (([z] ++ [y]).map .s), .val (.s y)], M⟩), ⟨1, .inl ⟨rfl, rfl⟩⟩, ?_⟩
    rintro m S (⟨rfl, rfl⟩ | ⟨rfl, hyz, rfl⟩)
    · refine ⟨_, _, rfl, at_end (xs := []) (by simp), shD un, .inr z, dk_r m2, rfl, ?_⟩
      rw [valD_up, hy]
      refine ⟨_, _, rfl, at_end (xs := []) (by simp), shD un, .inr z, .s y, dk_r m2, rfl, by rw [valD_up, hy]; rfl, rfl, ?_⟩
      refine ⟨_, rfl, rfl, rfl, ?_⟩
      rw [inD_s]
      by_cases e : y = z
      · subst e
        rw [decide_eq_true (by simp)]
        exact q
      · rw [decide_eq_false (by simpa using e)]
        refine ⟨⟨_, rfl⟩, _, _, rfl, rfl, by show 1 < sizeLine; decide, rfl, 0, by decide, .inr ⟨rfl, hb.resolve_left e, rfl⟩⟩
    · refine ⟨_, _, rfl, at_end (xs := [z]) (by simp), shD un, .inr y, dk_r m2, rfl, ?_⟩
      rw [valD_up, hyz]
      refine ⟨_, _, rfl, at_end (xs := [z]) (by simp), shD un, .inr y, .s z, dk_r m2, rfl, by rw [valD_up, hyz]; rfl, rfl, ?_⟩
      refine ⟨_, rfl, rfl, rfl, ?_⟩
      rw [inD_s, decide_eq_true (by simp)]
      exact q
  obtain ⟨j, hj, ej⟩ := List.mem_iff_getElem.mp hz
  have ej' : sh[j]? = some (z, v) := by rw [List.getElem?_eq_getElem hj, ej]
  -- the last word stands at place m, all before it behind m
  refine ⟨fun m S => ∃ (ini : List Str) (y vy : Str) (y3 : Slx), S = ⟨[.val (.s z), .val (.r p), .own p1 ((ini ++ [y]).map .s), y3], M⟩ ∧ sh[m]? = some (y, vy) ∧ ini.length + m ≤ 7 ∧ (∀ a ∈ ini, ∃ i va, m < i ∧ sh[i]? = some (a, va)) ∧ ini ++ chn un 7 y = chn un 7 z,
    ⟨j, [], z, v, .no, rfl, ej', by simp; omega, by simp, rfl⟩, ?_⟩
  rintro m S ⟨ini, y, vy, y3, rfl, hm, hl, hi, hc⟩
  refine ⟨_, _, rfl, at_end (by omega), shD un, .inr y, dk_r m2, rfl, ?_⟩
  rw [valD_up]
  cases e : upS un y with
  | none =>
    have : chn un 7 y = [y] := by simp [chn, e]
    rw [this] at hc
    exact ⟨_, rfl, rfl, by rw [hc]; exact q⟩
  | some a =>
    obtain ⟨i, hi1, hi2⟩ := upS_lt s u hm e
    have nin : a ∉ ini ++ [y] := fun hx => by
      have key : ∀ k va, sh[k]? = some (a, va) → k = i := fun k va hk => nodup_inj (l := sh.map (·.1)) s.nd (by rw [List.getElem?_map, hk]; rfl) (by rw [List.getElem?_map, hi2]; rfl)
      rcases List.mem_append.mp hx with hx | hx
      · obtain ⟨k, va, h1, h2⟩ := hi a hx
        have := key k va h2
        omega
      · rw [List.mem_singleton.mp hx] at key
        have := key m vy hm
        omega
    have e7 : chn un 7 y = y :: chn un 7 a := by
      have h1 : chn un 7 y = y :: chn un 6 a := by simp [chn, e]
      rw [h1, chn_more s u i hi2 (show i ≤ 6 by omega) (show i ≤ 7 by omega)]
    have small : ((ini ++ [y]).map Da.s).length < sizeLine := by rw [List.length_map, List.length_append, List.length_singleton, sizeLine_eq]; omega
    have ends := fun (R : Sx → Prop) (hR : ∀ S', (∃ m', m' < m ∧ ∃ (ini : List Str) (y vy : Str) (y3 : Slx), S' = ⟨[.val (.s z), .val (.r p), .own p1 ((ini ++ [y]).map .s), y3], M⟩ ∧ sh[m']? = some (y, vy) ∧ ini.length + m' ≤ 7 ∧ (∀ a ∈ ini, ∃ i va, m' < i ∧ sh[i]? = some (a, va)) ∧ ini ++ chn un 7 y = chn un 7 z) → R S') =>
      hR ⟨[.val (.s z), .val (.r p), .own p1 ((ini ++ [y]).map .s ++ [.s a]), .val (.s a)], M⟩ ⟨i, hi1, ini ++ [y], a, _, _, by rw [List.map_append (l₂ := [a])]; rfl, hi2, by rw [List.length_append, List.length_singleton]; omega, fun b hb => by
        rcases List.mem_append.mp hb with hb | hb
        · obtain ⟨k, va, h1, h2⟩ := hi b hb
          exact ⟨k, va, by omega, h2⟩
        · rw [List.mem_singleton.mp hb]
          exact ⟨m, vy, hi1, hm⟩, by rw [List.append_assoc, ← hc, e7]; rfl⟩
    refine ⟨_, _, rfl, at_end (by omega), shD un, .inr y, .s a, dk_r m2, rfl, by rw [valD_up, e]; rfl, rfl, ?_⟩
    refine ⟨_, rfl, rfl, ?_, ?_⟩
    · rw [List.all_map]; simp [Da.fl]
    · rw [inD_s, decide_eq_false nin]
      exact ⟨⟨_, rfl⟩, _, _, rfl, rfl, small, rfl, ends _ fun _ h => h⟩
end
end VL
set_option Elab.async false
set_option linter.all false
set_option maxRecDepth 100000
set_option maxHeartbeats 1000000
namespace VL
open PySem PySem.Spec PyProof.Rows L2
section
variable {P : Program} {w : World} {K : PySem.W.Frag} {mg : Str → Option Value} {base : Heap}
def isBase (sh : List (Str × Str)) : Da → Option Da
  | .s z => if upS sh z = some Str.empty then some (.s z) else none
  | _ => none
theorem isBase_s {sh : List (Str × Str)} {z v : Str} (h : upS sh z = some v) : isBase sh (.s z) = if v = Str.empty then some (.s z) else none := by
  show (if upS sh z = some Str.empty then some (Da.s z) else none) = _
  rw [h]
  by_cases e : v = Str.empty
  · rw [if_pos e, e, if_pos rfl]
  · rw [if_neg e, if_neg (fun q => e (Option.some.inj q))]
theorem base_len {sh : List (Str × Str)} (nd : (sh.map (·.1)).Nodup) : ∀ l : List (Str × Str), (∀ x ∈ l, x ∈ sh) → (((l.map (·.1)).map Da.s).filterMap (isBase sh)).length = (l.filter fun x => decide (x.2 = Str.empty)).length
  | [], _ => rfl
  | x :: l, h => by
    have hu := upS_some nd (z := x.1) (v := x.2) (h x (by simp))
    have ih := base_len nd l fun y hy => h y (by simp [hy])
    rw [List.map_cons, List.map_cons, List.filterMap_cons, isBase_s hu]
    by_cases e : x.2 = Str.empty
    · rw [if_pos e, List.filter_cons_of_pos (by simpa using e)]
      exact congrArg (· + 1) ih
    · rw [if_neg e, List.filter_cons_of_neg (by simpa using e)]
      exact ih
def bases (sh : List (Str × Str)) : Nat := (sh.filter fun x => decide (x.2 = Str.empty)).length
structure Cls (sh : List (Str × Str)) : Prop where
  nd : (sh.map (·.1)).Nodup
  hi : sh.length ≤ 1000
  ea : ∀ x ∈ sh, (Wd x.1 ∨ NoWd x.1) ∧ (Mk x.2 ∨ NoMk x.2)
def gS (sh : List (Str × Str)) : Prop := sh.length ≤ 12 ∧ (∀ x ∈ sh, Wd x.1 ∧ Mk x.2) ∧ 2 ≤ bases sh
def dc_check_shapes (CB : Addr) : DC := fun ds M Q X => ∃ (p : Addr) (sh : List (Str × Str)), ds = [.r p] ∧ Cls sh ∧ M p = some (.dk none (shD sh)) ∧ (gS sh → Q .n M) ∧ (¬ gS sh → ∀ M', (∀ b, b ≠ p → M' b = M b) → X (.ref CB) none M')
theorem ok_check_shapes (T : Tx P K mg) (G_is_marks : FnOk P w K mg base (L2.CX P w) 1 T.f_is_marks T.fd_is_marks ["marks"] (spOf K dc_is_marks)) (G_is_word : FnOk P w K mg base (L2.CX P w) 1 T.f_is_word T.fd_is_word ["text"] (spOf K dc_is_word)) : FnOk P w K mg base (L2.CX P w) 2 T.f_check_shapes T.fd_check_shapes ["shapes"] (spOf K (dc_check_shapes T.C_BadKind)) := by
  have sc := scCheckShapes
  refine okD T.d_check_shapes.F sc (fun ds M Q X h => ?_) (fun cdv A outer s H E c ds M Qd Xd hn hr h hX => ?_)
  · obtain ⟨p, sh, rfl, _⟩ := h
    rfl
  have tk := takes_of (X := cxOf (L2.CX P w) P w K mg base NCheckShapes "_check_shapes" (defScope sCheckShapes) T.f_check_shapes cdv A outer s H E) rfl rfl rfl rfl
  refine ⟨_, (ss_cons (s_if (vt_cmp op_gt lC (nomark _) (v_cb1 call_lenA lLenD (by rfl) T.n_len (by decide +kernel) (vv 0)) vi)
  (ss_one (s_raise rfl tk hX PySem.F.excBase_ValueError T.x_BadKind.ex T.x_BadKind.g T.x_BadKind.kp (raises_own T.x_BadKind.sb T.x_BadKind.ty) rfl))
  ss_nil)
  (ss_cons (s_lk (s_for (passes_of rfl) rfl (i_items (vv 0)) (pg_tup (by rfl) (pgs_cons (pg_name (i := 1) sc.nd rfl (by first | exact .inl rfl | exact .inr rfl)) (pgs_cons (pg_name (i := 2) sc.nd rfl (by first | exact .inl rfl | exact .inr rfl)) pgs_nil))) (lgT (n := 2) (lgs_cons (lgN (i := 1) (by rw [hn]; decide)) (lgs_cons (lgN (i := 2) (by rw [hn]; decide)) lgs_nil)) (lenN (lenN len0)))
  (ss_one (s_if (PW.pt (v_or (v_not (vTr (v_call G_is_word (hr.mono (by decide)) (by rfl) T.d_is_word.g T.d_is_word.F.kp T.d_is_word.b tk hX (v_cons (vv 1) v_nil)))) (pw_or1 (v_not (vTr (v_call G_is_marks (hr.mono (by decide)) (by rfl) T.d_is_marks.g T.d_is_marks.F.kp T.d_is_marks.b tk hX (v_cons (vv 2) v_nil)))))))
  (ss_one (s_raise rfl tk hX PySem.F.excBase_ValueError T.x_BadKind.ex T.x_BadKind.g T.x_BadKind.kp (raises_own T.x_BadKind.sb T.x_BadKind.ty) rfl))
  ss_nil))))
  (ss_one (s_if (vt_cmp op_lt lC (nomark _) (v_cb1 call_lenA lLen (by rfl) T.n_len (by decide +kernel) (vOf (v_lkL (v_lc rfl sc.nd (i_keys (vv 0)) (blkOk_by (own := [("word", 1)]) (N := NCheckShapes) (sc := defScope sCheckShapes) (by decide +kernel)) (fun c1 e1 => (lgN (i := 1) (by rw [e1, hn]; decide))) (fun _ _ _ _ _ => (pg_name (i := 1) sc.nd rfl (by first | exact .inl rfl | exact .inr rfl))) (fun _ _ _ _ _ c1 e1 => ts_one (vt_cmp (op_eqA hr.units) lEq (nomark _) (v_dgetV (hu_of hr) (vv 0) (vv 1) (fun _ _ => rfl)) vs)) (fun _ _ _ _ _ c1 e1 => (vv 1)) (by decide))))) vi)
  (ss_one (s_raise rfl tk hX PySem.F.excBase_ValueError T.x_BadKind.ex T.x_BadKind.g T.x_BadKind.kp (raises_own T.x_BadKind.sb T.x_BadKind.ty) rfl))
  ss_nil)))), ?_⟩
  obtain ⟨p, sh, rfl, cl, m1, q, qx⟩ := h
  refine ⟨shD sh, dku_r m1, ite2 (fun z => ?_) (fun z0 => ?_)⟩
  · have z' : (12 : Int) < ((shD sh).length : Int) := of_decide_eq_true z
    rw [shD_len] at z'
    exact qx (fun g => by have := g.1; omega) M fun _ _ => rfl
  have h12 : sh.length ≤ 12 := Nat.le_of_not_lt fun h => z0 (decide_eq_true (by rw [shD_len]; omega))
  have lock : ∀ od, updM (updM M p (.dk (some od) (shD sh))) p (.dk none (shD sh)) = M := fun od => by rw [updM_upd, updM_id m1]
  refine ⟨p, shD sh, m1, fun od => ⟨p, od, shD sh, rfl, updM_same, ?_⟩⟩
  refine forGo_of (fun rest S => ∃ (pre rr : List (Str × Str)) (y1 y2 : Slx), sh = pre ++ rr ∧ (∀ x ∈ pre, Wd x.1 ∧ Mk x.2) ∧ rest = (shD rr).map pairD ∧ S = ⟨[.val (.r p), y1, y2], updM M p (.dk (some od) (shD sh))⟩)
    (fun d ds S h R hR => ?_) (fun S h => ?_) _ _ ⟨[], sh, .no, .no, rfl, by simp, rfl, rfl⟩
  · obtain ⟨pre, rr, y1, y2, es, hp, e1, rfl⟩ := h
    cases rr with
    | nil => cases e1
    | cons x rr =>
    cases e1
    have hx : x ∈ sh := by rw [es]; simp
    have bad : ¬ (Wd x.1 ∧ Mk x.2) → Xd (.ref T.C_BadKind) none (updM M p (.dk (some od) (shD sh))) := fun nb =>
      qx (fun g => nb (g.2.1 x hx)) _ fun b hb => updM_ne hb
    obtain ⟨c1, c2⟩ := cl.ea x hx
    refine ⟨rfl, x.1, rfl, ?_⟩
    rcases c1 with c1 | c1
    · refine .inl ⟨c1, rfl, x.2, rfl, ?_⟩
      rcases c2 with c2 | c2
      · exact .inl ⟨c2, hR ⟨[.val (.r p), .val (.s x.1), .val (.s x.2)], updM M p (.dk (some od) (shD sh))⟩ ⟨pre ++ [x], rr, _, _, by rw [es, List.append_assoc]; rfl, fun y hy => by
          rcases List.mem_append.mp hy with hy | hy
          · exact hp y hy
          · rw [List.mem_singleton.mp hy]; exact ⟨c1, c2⟩, rfl, rfl⟩⟩
      · exact .inr ⟨c2, bad fun z => mk_no z.2 c2⟩
    · exact .inr ⟨c1, bad fun z => wd_no z.1 c1⟩
  · obtain ⟨pre, rr, y1, y2, es, hp, e1, rfl⟩ := h
    have e0 : rr = [] := by cases rr with | nil => rfl | cons a b => cases e1
    subst e0
    rw [List.append_nil] at es
    subst es
    refine ⟨updM_same, ?_⟩
    dsimp only
    rw [lock]
    refine ⟨p, shD sh, m1, fun od2 => ⟨p, od2, shD sh, rfl, updM_same, ?_⟩⟩
    refine lc_pure (isBase sh) (fun d hd R1 R2 hR => ?_) (fun d hd y e => ?_) (by rw [List.length_map, shD_len]; exact sz_le (by omega)) ?_
    · rw [keys_shD] at hd
      obtain ⟨z, hz, rfl⟩ := List.mem_map.mp hd
      obtain ⟨x, hx, rfl⟩ := List.mem_map.mp hz
      have hu := upS_some cl.nd (z := x.1) (v := x.2) hx
      have := hR _ (Agr.wipe.set (i := 1) (x := .val (.s x.1)) (by decide))
      refine ⟨shD sh, .inr x.1, .s x.2, dk_r updM_same, rfl, valD_shD cl.nd hx, .inl ⟨rfl, rfl, rfl, ?_⟩⟩
      rw [eqF_e]
      rw [isBase_s hu] at this
      by_cases h : x.2 = Str.empty
      · rw [decide_eq_true h]
        rw [if_pos h] at this
        exact this
      · rw [decide_eq_false h]
        rw [if_neg h] at this
        exact this
    · rw [keys_shD] at hd
      obtain ⟨z, hz, rfl⟩ := List.mem_map.mp hd
      unfold isBase at e
      dsimp only at e
      split at e <;> cases e
      rfl
    · refine ⟨updM_same, ?_⟩
      have len2 : (((shD sh).map keyD).filterMap (isBase sh)).length = bases sh := by
        rw [keys_shD]
        exact base_len cl.nd sh fun _ h => h
      refine ite2 (fun z => ?_) (fun z => ?_)
      · have z' : ((((shD sh).map keyD).filterMap (isBase sh)).length : Int) < 2 := of_decide_eq_true z
        refine qx (fun g => ?_) _ fun b hb => ?_
        · have := g.2.2
          omega
        · show updM (updM M p (.dk (some od2) (shD sh))) p (.dk none (shD sh)) b = M b
          rw [lock]
      · show Qd .n (updM (updM M p (.dk (some od2) (shD sh))) p (.dk none (shD sh)))
        rw [lock]
        refine q ⟨h12, hp, Nat.le_of_not_lt fun h => z (decide_eq_true ?_)⟩
        rw [len2]
        omega
def okS (sh un : List (Str × Str)) : Prop := gS sh ∧ gU sh un ∧ ∀ x ∈ sh, goodC un x.1
def noS (sh un : List (Str × Str)) : Prop := ¬ gS sh ∨ (gS sh ∧ ¬ gU sh un) ∨ (gS sh ∧ gU sh un ∧ ∃ x r, sh = x :: r ∧ badC un x.1)
/-- the dict that is handed in for under, or none -/
def UnA (M : Mx) (x : Addr) (u : Da) (un : List (Str × Str)) : Prop := (u = .n ∧ un = []) ∨ ∃ p2, u = .r p2 ∧ p2 ≠ x ∧ M p2 = some (.dk none (shD un))
def Ext (x : Addr) (M M' : Mx) : Prop := ∀ b m, M b = some m → b ≠ x → M' b = some m
def dc_Stock_init (C CB : Addr) : DC := fun ds M Q X => ∃ (x p1 : Addr) (u : Da) (sh un : List (Str × Str)), ds = [.r x, .r p1, u] ∧ M x = some (.ins C []) ∧ p1 ≠ x ∧ UnA M x u un ∧ Cls sh ∧ un.length ≤ 1000 ∧ M p1 = some (.dk none (shD sh)) ∧
  ((okS sh un ∧ ∀ (q1 q2 q3 : Addr) (M' : Mx), M q1 = none → M q2 = none → M q3 = none → q1 ≠ q2 → q1 ≠ q3 → q2 ≠ q3 → (∀ b, b ≠ x → b ≠ q1 → b ≠ q2 → b ≠ q3 → M' b = M b) → M' x = some (.ins C [("shapes", .r q1), ("under", .r q2), ("chains", .r q3)]) → M' q1 = some (.dk none (shD sh)) → M' q2 = some (.dk none (shD un)) → M' q3 = some (.dk none (chD sh un)) → Q .n M') ∨
   (noS sh un ∧ ∀ M', Ext x M M' → X (.ref CB) none M'))
theorem ok_Stock_init (T : Tx P K mg) (G_chain : FnOk P w K mg base (L2.CX P w) 1 T.f_chain T.fd_chain ["word", "under"] (spOf K (dc_chain T.C_BadKind))) (G_check_shapes : FnOk P w K mg base (L2.CX P w) 2 T.f_check_shapes T.fd_check_shapes ["shapes"] (spOf K (dc_check_shapes T.C_BadKind))) (G_check_under : FnOk P w K mg base (L2.CX P w) 1 T.f_check_under T.fd_check_under ["shapes", "under"] (spOf K (dc_check_under T.C_BadKind))) : FnOk P w K mg base (L2.CX P w) 3 T.f_Stock_init T.fd_Stock_init ["self", "shapes", "under"] (spOf K (dc_Stock_init T.C_Stock T.C_BadKind)) := by
  have sc := scStock_init
  refine okDD T.d_Stock_init.F sc (fun ds M Q X h => ?_) (fun cdv A outer s H E c ds M Qd Xd hn hr h hX => ?_)
  · obtain ⟨x, p1, u, sh, un, rfl, _⟩ := h
    rfl
  have tk := takes_of (X := cxOf (L2.CX P w) P w K mg base NStock_init "Stock.__init__" (defScope sStock_init) T.f_Stock_init cdv A outer s H E) rfl rfl rfl rfl
  refine ⟨_, (ss_cons (s_fld T.c_Stock.cl T.n_Stock_shapes (v_ct1 call_dcopy lDcopy (by rfl) T.n_dict (by decide +kernel) (vv 1)) (vv 0))
  (ss_cons (s_fld T.c_Stock.cl T.n_Stock_under (v_ite (vt_cmp op_isN lIs (nomark _) (vv 2) vn) v_dnew (v_ct1 call_dcopy lDcopy (by rfl) T.n_dict (by decide +kernel) (vv 2))) (vv 0))
  (ss_cons (s_expr (v_call G_check_shapes (hr.mono (by decide)) (by rfl) T.d_check_shapes.g T.d_check_shapes.F.kp T.d_check_shapes.b tk hX (v_cons (v_fld T.c_Stock.cl T.n_Stock_shapes (vv 0)) v_nil)))
  (ss_cons (s_expr (v_call G_check_under (hr.mono (by decide)) (by rfl) T.d_check_under.g T.d_check_under.F.kp T.d_check_under.b tk hX (v_cons (v_fld T.c_Stock.cl T.n_Stock_shapes (vv 0)) (v_cons (v_fld T.c_Stock.cl T.n_Stock_under (vv 0)) v_nil))))
  (ss_one (s_fld T.c_Stock.cl T.n_Stock_chains (v_lkE (v_dcX rfl rfl tk (fun _ _ _ _ _ h => h) hX rfl sc.nd (i_keys (v_fld T.c_Stock.cl T.n_Stock_shapes (vv 0))) (blkOk_by (own := [("word", 3)]) (N := NStock_init) (sc := defScope sStock_init) (by decide +kernel)) (fun c1 e1 => (lgN (i := 3) (by rw [e1, hn]; decide))) (fun _ _ _ _ _ => (pg_name (i := 3) sc.nd rfl (by first | exact .inl rfl | exact .inr rfl))) (fun _ _ _ _ _ _ _ => ts_nil) (fun _ _ _ _ _ c1 e1 => (vv 3)) (fun _ _ _ _ _ _ c1 e1 pw hx1 => (v_callP G_chain (hr.mono (by decide)) (by rfl) T.d_chain.g T.d_chain.F.kp T.d_chain.b pw hx1 (v_cons (vv 3) (v_cons (v_fld T.c_Stock.cl T.n_Stock_under (vv 0)) v_nil)))) (by decide))) (vv 0))))))), ?_⟩
  obtain ⟨x, p1, u, sh, un, rfl, mx, n1x, hu, cl, ul, m1, hq⟩ := h
  have ne_of : ∀ {a b : Addr} {m : MO} {N : Mx}, N a = none → N b = some m → b ≠ a := fun h1 h2 e => by rw [e, h1] at h2; cases h2
  refine ⟨shD sh, dk_r m1, fun q1 n1 => ⟨rfl, x, [], rfl, ?_, by decide, ?_⟩⟩
  · show updM M q1 _ x = _
    rw [updM_ne (ne_of n1 mx)]; exact mx
  have n1' : M q1 = none := n1
  have x1 := ne_of n1' mx
  let M1 : Mx := updM (updM M q1 (.dk none (shD sh))) x (.ins T.C_Stock [("shapes", .r q1)])
  show wSeq _ _ _ ⟨[.val (.r x), .val (.r p1), .val u, .no], M1⟩
  have g1 : M1 q1 = some (.dk none (shD sh)) := by show updM _ x _ q1 = _; rw [updM_ne (Ne.symm x1), updM_same]
  have gx : M1 x = some (.ins T.C_Stock [("shapes", .r q1)]) := updM_same
  have go : ∀ b, b ≠ x → b ≠ q1 → M1 b = M b := fun b h1 h2 => by show updM _ x _ b = _; rw [updM_ne h1, updM_ne h2]
  apply via_tail (TOk := fun S => ∃ q2, M1 q2 = none ∧ S = ⟨[.val (.r x), .val (.r p1), .val u, .no], updM (updM M1 q2 (.dk none (shD un))) x (.ins T.C_Stock [("shapes", .r q1), ("under", .r q2)])⟩)
  case main =>
    intro tail
    rcases hu with ⟨rfl, rfl⟩ | ⟨p2, rfl, n2x, m2⟩
    · refine fun q2 n2 => ⟨rfl, x, [("shapes", .r q1)], rfl, ?_, by show (1 : Nat) < 1000; decide, tail _ ⟨q2, n2, rfl⟩⟩
      show updM M1 q2 _ x = _
      rw [updM_ne (ne_of n2 gx)]; exact gx
    · have g2 : M1 p2 = some (.dk none (shD un)) := by show updM _ x _ p2 = _; rw [updM_ne n2x, updM_ne (ne_of n1' m2)]; exact m2
      refine ⟨shD un, dk_r g2, fun q2 n2 => ⟨rfl, x, [("shapes", .r q1)], rfl, ?_, by show (1 : Nat) < 1000; decide, tail _ ⟨q2, n2, rfl⟩⟩⟩
      show updM M1 q2 _ x = _
      rw [updM_ne (ne_of n2 gx)]; exact gx
  case tail =>
    rintro S ⟨q2, n2', rfl⟩
    have x2 := ne_of n2' gx
    have q12 := ne_of n2' g1
    let M2 : Mx := updM (updM M1 q2 (.dk none (shD un))) x (.ins T.C_Stock [("shapes", .r q1), ("under", .r q2)])
    show wSeq _ _ _ ⟨[.val (.r x), .val (.r p1), .val u, .no], M2⟩
    have k1 : M2 q1 = some (.dk none (shD sh)) := by show updM _ x _ q1 = _; rw [updM_ne (Ne.symm x1), updM_ne q12]; exact g1
    have k2 : M2 q2 = some (.dk none (shD un)) := by show updM _ x _ q2 = _; rw [updM_ne (Ne.symm x2), updM_same]
    have kx : M2 x = some (.ins T.C_Stock [("shapes", .r q1), ("under", .r q2)]) := updM_same
    have ko : ∀ b, b ≠ x → b ≠ q1 → b ≠ q2 → M2 b = M b := fun b h1 h2 h3 => by show updM _ x _ b = _; rw [updM_ne h1, updM_ne h3]; exact go b h1 h2
    have n2M : M q2 = none := by rw [go q2 (Ne.symm x2) (Ne.symm q12)] at n2'; exact n2'
    have old : ∀ {b m}, M b = some m → b ≠ x → M2 b = some m := fun {b m} hb hbx => by rw [ko b hbx (ne_of n1' hb) (ne_of n2M hb)]; exact hb
    refine ⟨_, _, kx, rfl, rfl, q1, sh, rfl, cl, k1, fun gs => ?_, fun ngs M' hM' => ?_⟩
    rotate_left
    · rcases hq with ⟨ok, _⟩ | ⟨_, qx⟩
      · exact absurd ok.1 ngs
      · exact qx M' fun b m hb hbx => by rw [hM' b (ne_of n1' hb)]; exact old hb hbx
    refine ⟨_, _, kx, rfl, rfl, _, _, kx, rfl, rfl, q1, q2, sh, un, rfl, q12, k1, k2, fun gu => ?_, fun ngu M' hM' => ?_⟩
    rotate_left
    · rcases hq with ⟨ok, _⟩ | ⟨_, qx⟩
      · exact absurd ok.2.1 ngu
      · exact qx M' fun b m hb hbx => by rw [hM' b (ne_of n2M hb)]; exact old hb hbx
    refine ⟨q1, shD sh, k1, fun od => ⟨_, _, (by show updM M2 q1 _ x = _; rw [updM_ne x1]; exact kx), rfl, q1, od, shD sh, rfl, updM_same, ?_⟩⟩
    have l2 : updM M2 q1 (.dk (some od) (shD sh)) q2 = some (.dk none (shD un)) := by rw [updM_ne (Ne.symm q12)]; exact k2
    have lx : updM M2 q1 (.dk (some od) (shD sh)) x = some (.ins T.C_Stock [("shapes", .r q1), ("under", .r q2)]) := by rw [updM_ne x1]; exact kx
    rcases hq with ⟨ok, q⟩ | ⟨no, qx⟩
    rotate_left
    · rcases no with no | ⟨_, no⟩ | ⟨_, _, y, r, rfl, hb⟩
      · exact absurd gs no
      · exact absurd gu no
      · refine ⟨rfl, _, _, lx, rfl, rfl, q2, y.1, un, none, rfl, l2, .inr ⟨hb, qx _ fun b m hb hbx => ?_⟩⟩
        show updM M2 q1 _ b = _
        rw [updM_ne (ne_of n1' hb)]
        exact old hb hbx
    refine dc_map (fun d => match d with | .s z => .inr z | _ => .inl 0) (fun d => match d with | .s z => .t ((chn un 7 z).map .s) | _ => .n) (fun d hd R1 hR1 => ?_) ?_ (fun d hd => ?_) (by rw [List.length_map, shD_len]; exact sz_le (by have := gs.1; omega)) ?_
    · rw [keys_shD] at hd
      obtain ⟨z, hz, rfl⟩ := List.mem_map.mp hd
      obtain ⟨y, hy, rfl⟩ := List.mem_map.mp hz
      refine ⟨rfl, _, _, lx, rfl, rfl, q2, y.1, un, none, rfl, l2, .inl ⟨ok.2.2 y hy, ?_⟩⟩
      exact hR1 (.s y.1) _ rfl (Agr.wipe.set (i := 3) (x := .val (.s y.1)) (by decide))
    · rw [keys_shD, List.map_map, List.map_map]
      have e : ((fun d : Da => (match d with | .s z => .inr z | _ => .inl 0 : Key)) ∘ Da.s) ∘ (fun x : Str × Str => x.1) = fun x => Sum.inr x.1 := rfl
      have nd := cl.nd
      rw [List.nodup_iff_pairwise_ne, List.pairwise_map] at nd ⊢
      exact nd.imp fun h q => h (Sum.inr.inj q)
    · rw [keys_shD] at hd
      obtain ⟨z, hz, rfl⟩ := List.mem_map.mp hd
      rfl
    · intro q3 n3
      have n3a : updM M2 q1 (.dk (some od) (shD sh)) q3 = none := n3
      have q31 : q3 ≠ q1 := fun e => by rw [e, updM_same] at n3a; cases n3a
      have n3' : M2 q3 = none := by rw [updM_ne q31] at n3a; exact n3a
      have q32 : q3 ≠ q2 := fun e => by rw [e, k2] at n3'; cases n3'
      have q3x : q3 ≠ x := fun e => by rw [e, kx] at n3'; cases n3'
      have ec : ((shD sh).map keyD).map (fun d => ((match d with | .s z => .inr z | _ => .inl 0 : Key), (match d with | .s z => .t ((chn un 7 z).map .s) | _ => .n : Da))) = chD sh un := by
        rw [keys_shD, List.map_map, List.map_map]
        rfl
      let M3 : Mx := updM (updM (updM M2 q1 (.dk (some od) (shD sh))) q3 (.dk none (chD sh un))) q1 (.dk none (shD sh))
      refine ⟨rfl, ?_, rfl, x, [("shapes", .r q1), ("under", .r q2)], rfl, ?_, by show (2 : Nat) < 1000; decide, ?_⟩
      · show updM (updM M2 q1 _) q3 _ q1 = _
        rw [updM_ne (Ne.symm q31), updM_same]
      · show updM (updM (updM M2 q1 _) q3 _) q1 _ x = _
        rw [updM_ne x1, updM_ne (Ne.symm q3x), updM_ne x1]
        exact kx
      · have n1M := n1'
        have n3M : M q3 = none := by rw [ko q3 q3x q31 q32] at n3'; exact n3'
        refine q q1 q2 q3 _ n1M n2M n3M q12 (Ne.symm q31) (Ne.symm q32) (fun b h1 h2 h3 h4 => ?_) updM_same ?_ ?_ ?_
        · show updM (updM (updM (updM M2 q1 _) q3 _) q1 _) x _ b = _
          rw [updM_ne h1, updM_ne h2, updM_ne h4, updM_ne h2]
          exact ko b h1 h2 h3
        · show updM (updM (updM (updM M2 q1 _) q3 _) q1 _) x _ q1 = _
          rw [updM_ne (Ne.symm x1), updM_same]
        · show updM (updM (updM (updM M2 q1 _) q3 _) q1 _) x _ q2 = _
          rw [updM_ne (Ne.symm x2), updM_ne (Ne.symm q12), updM_ne (Ne.symm q32), updM_ne (Ne.symm q12)]
          exact k2
        · show updM (updM (updM (updM M2 q1 _) q3 _) q1 _) x _ q3 = _
          rw [updM_ne q3x, updM_ne q31, updM_same, ← ec]
def dc_Stock_fits (C : Addr) : DC := fun ds M Q _ => ∃ (lb : Bool) (sh un : List (Str × Str)) (d : Da), ds = [stD C sh un, d] ∧ (sh.map (·.1)).Nodup ∧ (∀ z v, (z, v) ∈ sh → v.length ≤ sizeLine) ∧ Fk lb d ∧ d.sz ≤ 1000 ∧ Q (.b (fitB sh d)) M
theorem ok_Stock_fits (T : Tx P K mg) (G_walk : FnOk P w K mg base (L2.CX P w) 1 T.f_walk T.fd_walk ["form"] (spOf K dc_walk)) (G_is_form : FnOk P w K mg base (L2.CX P w) 2 T.f_is_form T.fd_is_form ["row"] (spOf K dc_is_form)) : FnOk P w K mg base (L2.CX P w) 3 T.f_Stock_fits T.fd_Stock_fits ["self", "form"] (spOf K (dc_Stock_fits T.C_Stock)) := by
  have sc := scStock_fits
  refine okD T.d_Stock_fits.F sc (fun ds M Q X h => ?_) (fun cdv A outer s H E c ds M Qd Xd hn hr h hX => ?_)
  · obtain ⟨lb, sh, un, d, rfl, _⟩ := h
    rfl
  have tk := takes_of (X := cxOf (L2.CX P w) P w K mg base NStock_fits "Stock.fits" (defScope sStock_fits) T.f_Stock_fits cdv A outer s H E) rfl rfl rfl rfl
  refine ⟨_, (ss_cons (s_if (v_not (vTr (v_call G_is_form (hr.mono (by decide)) (by rfl) T.d_is_form.g T.d_is_form.F.kp T.d_is_form.b tk hX (v_cons (vv 1) v_nil))))
  (ss_one (s_ret vb))
  ss_nil)
  (ss_cons (s_for (passes_of rfl) rfl (i_sq (v_call G_walk (hr.mono (by decide)) (by rfl) T.d_walk.g T.d_walk.F.kp T.d_walk.b tk hX (v_cons (vv 1) v_nil))) (pg_name (i := 2) sc.nd rfl (by first | exact .inl rfl | exact .inr rfl)) (lgN (i := 2) (by rw [hn]; decide))
  (ss_cons (s_if (vB (v_isi isi_str (by rfl) T.n_isinstance (by rfl) T.n_str (by decide +kernel) (vv 2)))
  (ss_one s_cont)
  ss_nil)
  (ss_one (s_if (PW.pt (v_or (vt_dninV (hu_of hr) (by rfl) (v_ix (vv 2) vi (fun _ _ => rfl)) (v_fld T.c_Stock.cl T.n_Stock_shapes (vv 0))) (pw_or1 (vt_cmp (op_neA hr.units) lNe (nomark _) (v_cb1 call_lenA lLen (by rfl) T.n_len (by decide +kernel) (v_dgetV (hu_of hr) (v_fld T.c_Stock.cl T.n_Stock_shapes (vv 0)) (v_ix (vv 2) vi (fun _ _ => rfl)) (fun _ _ => rfl))) (v_op op_sub lI0 (v_cb1 call_lenA lLen (by rfl) T.n_len (by decide +kernel) (vv 2)) vi)))))
  (ss_one (s_ret vb))
  ss_nil))))
  (ss_one (s_ret vb)))), ?_⟩
  obtain ⟨lb, sh, un, d, rfl, nd, hm, hf, hz, q⟩ := h
  have dO : d.isO = false := by cases hf <;> rfl
  refine ⟨dO, lb, d, rfl, hf, by omega, dO, lb, d, rfl, hf, by omega, fun hs hl => ?_⟩
  unfold fitB at q
  have key : ∀ x ∈ d.subs, (∃ z, x = .s z) ∨ ∃ z fs, x = .t (.s z :: fs) ∧ fs.length ≤ 3 := fun x hx => by
    have := hs x hx
    cases this with
    | lt h _ _ => exact .inl ⟨_, rfl⟩
    | nd _ h3 _ => exact .inr ⟨_, _, rfl, h3⟩
  generalize d.subs = xs at q hl key
  refine forGo_of (fun rest S => ∃ (y2 : Slx), S = ⟨[.val (stD T.C_Stock sh un), .val d, y2], M⟩ ∧ (∀ x ∈ rest, (∃ z, x = .s z) ∨ ∃ z fs, x = .t (.s z :: fs) ∧ fs.length ≤ 3) ∧ xs.all (okF sh) = rest.all (okF sh))
    (fun x ds S h R hR => ?_) (fun S h => ?_) _ _ ⟨.no, rfl, key, rfl⟩
  · obtain ⟨y2, rfl, hk, ha⟩ := h
    rcases hk x (by simp) with ⟨z, rfl⟩ | ⟨z, fs, rfl, h3⟩
    · exact hR _ ⟨_, rfl, fun y hy => hk y (by simp [hy]), by rw [ha]; simp [okF]⟩
    have e := okF_eq nd z fs
    refine ⟨_, atI_nat (j := 0) rfl, _, _, ⟨rfl, rfl⟩, rfl, shD sh, .inr z, rfl, rfl, ?_⟩
    rw [valD_up]
    rw [List.all_cons, e] at ha
    cases eu : upS sh z with
    | none =>
      rw [eu] at ha
      rw [ha] at q
      exact ⟨rfl, q⟩
    | some v =>
      rw [eu] at ha
      refine ⟨_, _, ⟨rfl, rfl⟩, rfl, _, atI_nat (j := 0) rfl, shD sh, .inr z, .s v, rfl, rfl, (by rw [valD_up, eu]; rfl), ?_⟩
      have zl := upS_mem eu
      refine ⟨hm z v zl, .inl ⟨rfl, rfl, rfl, ?_⟩⟩
      have e2 : eqF (.i (v.length : Int)) (.i (((Da.s z :: fs).length : Int) - 1)) = decide (v.cps.toList.length = fs.length) := by
        rw [str_len]
        simp only [eqF, List.length_cons]
        exact dec_of (by omega)
      show if (!eqF (.i (v.length : Int)) (.i (((Da.s z :: fs).length : Int) - 1))) = true then _ else _
      rw [e2]
      change xs.all (okF sh) = (decide (v.cps.toList.length = fs.length) && ds.all (okF sh)) at ha
      cases ev : decide (v.cps.toList.length = fs.length) with
      | true =>
        rw [ev] at ha
        exact hR _ ⟨_, rfl, fun y hy => hk y (by simp [hy]), ha⟩
      | false =>
        rw [ev] at ha
        have ha : xs.all (okF sh) = false := ha
        rw [ha] at q
        exact ⟨rfl, q⟩
  · obtain ⟨y2, rfl, hk, ha⟩ := h
    rw [ha] at q
    exact ⟨rfl, q⟩
end
end VL
set_option Elab.async false
set_option linter.all false
set_option maxRecDepth 100000
set_option maxHeartbeats 1000000
namespace VL
open PySem PySem.Spec PyProof.Rows L2
/-! ### stocks that are refused -/
def putS (sh : List (Str × Str)) (z v : Str) : List (Str × Str) := if (sh.any fun x => decide (x.1 = z)) = true then sh.map (fun x => if x.1 = z then (x.1, v) else x) else sh ++ [(z, v)]
theorem any_keys (sh : List (Str × Str)) (z : Str) : ((shD sh).any fun kd => decide (kd.1 = Sum.inr z)) = sh.any fun x => decide (x.1 = z) := by
  unfold shD
  rw [List.any_map]
  congr 1
  funext x
  show decide ((Sum.inr x.1 : Key) = Sum.inr z) = decide (x.1 = z)
  by_cases e : x.1 = z
  · rw [e]; simp
  · rw [decide_eq_false e, decide_eq_false fun h => e (Sum.inr.inj h)]
theorem putD_putS (sh : List (Str × Str)) (z v : Str) : putD (shD sh) (.inr z) (.s v) = shD (putS sh z v) := by
  unfold putD putS
  rw [any_keys]
  split
  · unfold shD
    rw [List.map_map, List.map_map]
    refine List.map_congr_left fun x _ => ?_
    show (if (Sum.inr x.1 : Key) = Sum.inr z then ((Sum.inr x.1 : Key), Da.s v) else (Sum.inr x.1, Da.s x.2)) = (fun x : Str × Str => ((Sum.inr x.1 : Key), Da.s x.2)) (if x.1 = z then (x.1, v) else x)
    by_cases e : x.1 = z
    · rw [if_pos e, if_pos (congrArg Sum.inr e)]
    · rw [if_neg e, if_neg fun h => e (Sum.inr.inj h)]
  · unfold shD
    rw [List.map_append]
    rfl
theorem put_or (sh : List (Str × Str)) (z v : Str) : (z ∈ sh.map (·.1) ∧ putS sh z v = sh.map fun x => if x.1 = z then (x.1, v) else x) ∨ (z ∉ sh.map (·.1) ∧ putS sh z v = sh ++ [(z, v)]) := by
  unfold putS
  split
  · rename_i h
    obtain ⟨x, hx, e⟩ := List.any_eq_true.mp h
    exact .inl ⟨List.mem_map.mpr ⟨x, hx, of_decide_eq_true e⟩, rfl⟩
  · rename_i h
    refine .inr ⟨fun hz => h ?_, rfl⟩
    obtain ⟨x, hx, e⟩ := List.mem_map.mp hz
    exact List.any_eq_true.mpr ⟨x, hx, decide_eq_true e⟩
theorem put_mem (sh : List (Str × Str)) (z v : Str) : (z, v) ∈ putS sh z v := by
  rcases put_or sh z v with ⟨h, e⟩ | ⟨h, e⟩
  · obtain ⟨x, hx, rfl⟩ := List.mem_map.mp h
    rw [e]
    exact List.mem_map.mpr ⟨x, hx, if_pos rfl⟩
  · rw [e]; simp
theorem mem_put {sh : List (Str × Str)} {z v : Str} {x : Str × Str} (h : x ∈ putS sh z v) : x = (z, v) ∨ (x ∈ sh ∧ x.1 ≠ z) := by
  rcases put_or sh z v with ⟨hk, e⟩ | ⟨hk, e⟩
  · rw [e] at h
    obtain ⟨y, hy, rfl⟩ := List.mem_map.mp h
    by_cases q : y.1 = z
    · rw [if_pos q, q]; exact .inl rfl
    · rw [if_neg q]; exact .inr ⟨hy, q⟩
  · rw [e] at h
    rcases List.mem_append.mp h with h | h
    · exact .inr ⟨h, fun q => hk (List.mem_map.mpr ⟨x, h, q⟩)⟩
    · exact .inl (List.mem_singleton.mp h)
theorem put_keys {sh : List (Str × Str)} {z v : Str} : (sh.map fun x => if x.1 = z then (x.1, v) else x).map (·.1) = sh.map (·.1) := by
  rw [List.map_map]
  refine List.map_congr_left fun x _ => ?_
  show (if x.1 = z then (x.1, v) else x).1 = x.1
  split <;> rfl
theorem put_nd {sh : List (Str × Str)} {z v : Str} (h : (sh.map (·.1)).Nodup) : ((putS sh z v).map (·.1)).Nodup := by
  rcases put_or sh z v with ⟨hk, e⟩ | ⟨hk, e⟩
  · rw [e, put_keys]; exact h
  · rw [e, List.map_append]
    exact List.nodup_append.mpr ⟨h, by simp, fun a ha b hb q => hk (by simp at hb; rw [← hb, ← q]; exact ha)⟩
theorem put_len (sh : List (Str × Str)) (z v : Str) : (putS sh z v).length ≤ sh.length + 1 := by
  rcases put_or sh z v with ⟨hk, e⟩ | ⟨hk, e⟩
  · rw [e, List.length_map]; omega
  · rw [e]; simp
theorem put_new {sh : List (Str × Str)} {z v : Str} (h : z ∉ sh.map (·.1)) : putS sh z v = sh ++ [(z, v)] := by
  rcases put_or sh z v with ⟨hk, e⟩ | ⟨hk, e⟩
  · exact absurd hk h
  · exact e
theorem Cls.put {sh : List (Str × Str)} {z v : Str} (c : Cls sh) (hl : sh.length ≤ 900) (h1 : Wd z ∨ NoWd z) (h2 : Mk v ∨ NoMk v) : Cls (putS sh z v) := by
  refine ⟨put_nd c.nd, by have := put_len sh z v; omega, fun x hx => ?_⟩
  rcases mem_put hx with rfl | ⟨hx, _⟩
  · exact ⟨h1, h2⟩
  · exact c.ea x hx
theorem up_none {sh : List (Str × Str)} {z : Str} (h : z ∉ sh.map (·.1)) : upS sh z = none := by
  cases e : upS sh z with
  | none => rfl
  | some v => exact absurd (List.mem_map.mpr ⟨_, upS_mem e, rfl⟩) h
theorem no_w {sh un : List (Str × Str)} {x : Str × Str} (hx : x ∈ sh) (h : NoWd x.1 ∨ NoMk x.2) : noS sh un := .inl fun g => by
  obtain ⟨a, b⟩ := g.2.1 x hx
  rcases h with h | h
  · exact wd_no a h
  · exact mk_no b h
theorem no_b {sh un : List (Str × Str)} (h : bases sh < 2) : noS sh un := .inl fun g => by have := g.2.2; omega
theorem no_l {sh un : List (Str × Str)} (h : 12 < sh.length) : noS sh un := .inl fun g => by have := g.1; omega
theorem no_u {sh un : List (Str × Str)} (h : ¬ gU sh un) : noS sh un := by
  rcases Classical.em (gS sh) with g | g
  · exact .inr (.inl ⟨g, h⟩)
  · exact .inl g
theorem mk_e : Mk Str.empty := by
  rw [← empty_eq, empty_str]
  exact ⟨by decide, fun c hc => by cases hc⟩
theorem ShpS.cls {sh : List (Str × Str)} (s : ShpS sh) : Cls sh := ⟨s.shp.nd, by have := s.hi; omega, fun x hx => ⟨.inl (s.shp.wd x hx), .inl ⟨s.shp.ar x hx, s.mks x hx⟩⟩⟩
theorem bases_app (a b : List (Str × Str)) : bases (a ++ b) = bases a + bases b := by
  unfold bases
  rw [List.filter_append, List.length_append]
/-- the first two words -/
def Two (sh : List (Str × Str)) (fi se : Str) : Prop := ∃ r, sh = (fi, Str.empty) :: (se, Str.empty) :: r
theorem Two.bases {sh : List (Str × Str)} {fi se : Str} (t : Two sh fi se) : 2 ≤ bases sh := by
  obtain ⟨r, rfl⟩ := t
  unfold VL.bases
  rw [List.filter_cons_of_pos (by simp), List.filter_cons_of_pos (by simp)]
  simp
theorem two_of {sh : List (Str × Str)} (s : Shp sh) : ∃ fi se, Two sh fi se := by
  have lo := s.lo
  have z0 := s.z0
  match sh, lo, z0 with
  | (a1, a2) :: (b1, b2) :: r, _, z0 =>
    have ha : a2 = Str.empty := z0 0 (by simp) (by decide)
    have hb : b2 = Str.empty := z0 1 (by simp) (by decide)
    subst ha
    subst hb
    exact ⟨a1, b1, r, rfl⟩
theorem ShpS.gS {sh : List (Str × Str)} (s : ShpS sh) {fi se : Str} (t : Two sh fi se) : gS sh := ⟨by have := s.hi; omega, fun x hx => ⟨s.shp.wd x hx, s.shp.ar x hx, s.mks x hx⟩, t.bases⟩
theorem und_gU {sh un : List (Str × Str)} (s : Shp sh) (u : Und sh un) : gU sh un := fun x hx => by
  obtain ⟨h1, h2⟩ := und_get s u hx
  exact ⟨upS_some s.nd h1, upS_some s.nd h2⟩
theorem ok_stock {sh un : List (Str × Str)} (s : ShpS sh) {fi se : Str} (t : Two sh fi se) (u : Und sh un) : okS sh un := ⟨s.gS t, und_gU s.shp u, fun x hx => .inl ⟨x.2, sh, s.shp, u, s.hi, hx⟩⟩
abbrev lng : Str := Str.ofString "abcdefghijkl"
theorem wd_lng : Wd lng := wd_lit (by decide +kernel)
theorem lng_len : lng.cps.toList.length = 12 := by decide +kernel
theorem long_new {sh : List (Str × Str)} (s : ShpS sh) {z : Str} (h : 10 < z.cps.toList.length) : z ∉ sh.map (·.1) := fun hz => by
  obtain ⟨x, hx, rfl⟩ := List.mem_map.mp hz
  have := s.l10 x hx
  omega
structure Bad (sh un : List (Str × Str)) : Prop where
  c : Cls sh
  u : un.length ≤ 1000
  n : noS sh un
def lone (sh : List (Str × Str)) : List (Str × Str) := sh.map fun x => (x.1, Str.ofString "+")
theorem lone_keys (sh : List (Str × Str)) : (lone sh).map (·.1) = sh.map (·.1) := by
  unfold lone
  rw [List.map_map]
  rfl
theorem mk_plus : Mk (Str.ofString "+") := ⟨by decide +kernel, by decide +kernel⟩
theorem plus_ne : Str.ofString "+" ≠ Str.empty := by rw [← empty_eq]; decide +kernel
theorem lone_cls {sh : List (Str × Str)} (s : ShpS sh) : Cls (lone sh) := by
  refine ⟨by rw [lone_keys]; exact s.shp.nd, by unfold lone; rw [List.length_map]; have := s.hi; omega, fun x hx => ?_⟩
  obtain ⟨y, hy, rfl⟩ := List.mem_map.mp hx
  exact ⟨.inl (s.shp.wd y hy), .inl mk_plus⟩
theorem lone_len {sh : List (Str × Str)} (s : ShpS sh) : (lone sh).length ≤ 7 := by
  unfold lone
  rw [List.length_map]
  exact s.hi
theorem bases_lone (sh : List (Str × Str)) : bases (lone sh) = 0 := by
  unfold bases
  rw [List.length_eq_zero_iff, List.filter_eq_nil_iff]
  intro x hx
  obtain ⟨y, hy, rfl⟩ := List.mem_map.mp hx
  simpa using plus_ne
theorem len1 {α : Type} {a : α} : ∀ {l : List α}, l.Nodup → (∀ x ∈ l, x = a) → l.length ≤ 1
  | [], _, _ => by simp
  | [_], _, _ => by simp
  | x :: y :: l, nd, h => by
    have e1 := h x (by simp)
    have e2 := h y (by simp)
    rw [List.nodup_cons] at nd
    exact absurd (by rw [e1, e2]; simp) nd.1
theorem nd_of_map {sh : List (Str × Str)} (nd : (sh.map (·.1)).Nodup) : sh.Nodup := by
  rw [List.nodup_iff_pairwise_ne, List.pairwise_map] at nd
  rw [List.nodup_iff_pairwise_ne]
  exact nd.imp fun h e => h (congrArg _ e)
theorem bad_lone {sh : List (Str × Str)} (s : ShpS sh) : Bad (lone sh) [] := ⟨lone_cls s, by simp, no_b (by rw [bases_lone]; decide)⟩
theorem bad_none : Bad [] [] := ⟨⟨by simp, by simp, by simp⟩, by simp, no_b (by decide)⟩
theorem bad_one {sh : List (Str × Str)} (s : ShpS sh) {z : Str} (hz : Wd z) : Bad (putS (lone sh) z (Str.ofString "")) [] := by
  have hl := lone_len s
  refine ⟨(lone_cls s).put (by omega) (.inl hz) (.inl (by rw [empty_eq]; exact mk_e)), by simp, no_b ?_⟩
  have nd := put_nd (z := z) (v := Str.ofString "") (lone_cls s).nd
  have : bases (putS (lone sh) z (Str.ofString "")) ≤ 1 := by
    unfold bases
    refine len1 (a := (z, Str.ofString "")) (List.Nodup.sublist List.filter_sublist (nd_of_map nd)) fun x hx => ?_
    obtain ⟨hx, e⟩ := List.mem_filter.mp hx
    rcases mem_put hx with e1 | ⟨h1, _⟩
    · exact e1
    · obtain ⟨y, hy, rfl⟩ := List.mem_map.mp h1
      exact absurd (of_decide_eq_true e) plus_ne
  omega
theorem bad_word {sh : List (Str × Str)} (s : ShpS sh) {z v : Str} (h1 : Wd z ∨ NoWd z) (h2 : Mk v ∨ NoMk v) (h : NoWd z ∨ NoMk v) : Bad (putS sh z v) [] :=
  ⟨s.cls.put (by have := s.hi; omega) h1 h2, by simp, no_w (put_mem sh z v) h⟩
theorem bad_above {sh : List (Str × Str)} (s : ShpS sh) (z : Str) : Bad sh [(z, lng)] := ⟨s.cls, by simp, no_u fun g => by
  have := (g (z, lng) (by simp)).2
  rw [up_none (long_new s (by rw [lng_len]; decide))] at this
  cases this⟩
theorem bad_below {sh : List (Str × Str)} (s : ShpS sh) (z : Str) : Bad sh [(lng, z)] := ⟨s.cls, by simp, no_u fun g => by
  have := (g (lng, z) (by simp)).1
  rw [up_none (long_new s (by rw [lng_len]; decide))] at this
  cases this⟩
theorem Two.up {sh : List (Str × Str)} {fi se : Str} (t : Two sh fi se) (nd : (sh.map (·.1)).Nodup) : upS sh fi = some Str.empty ∧ upS sh se = some Str.empty ∧ fi ≠ se := by
  obtain ⟨r, rfl⟩ := t
  refine ⟨upS_some nd (by simp), upS_some nd (by simp), fun e => ?_⟩
  rw [List.map_cons, List.nodup_cons] at nd
  exact nd.1 (by rw [show (fi, Str.empty).1 = se from e]; simp)
theorem bad_self {sh : List (Str × Str)} (s : ShpS sh) {fi se : Str} (t : Two sh fi se) : Bad sh [(fi, fi)] := by
  obtain ⟨u1, u2, ne⟩ := t.up s.shp.nd
  refine ⟨s.cls, by simp, .inr (.inr ⟨s.gS t, fun x hx => by rw [List.mem_singleton.mp hx]; exact ⟨u1, u1⟩, ?_⟩)⟩
  obtain ⟨r, rfl⟩ := t
  exact ⟨_, _, rfl, fi, by simp [upS], .inl rfl⟩
theorem bad_ring {sh : List (Str × Str)} (s : ShpS sh) {fi se : Str} (t : Two sh fi se) : Bad sh [(fi, se), (se, fi)] := by
  obtain ⟨u1, u2, ne⟩ := t.up s.shp.nd
  refine ⟨s.cls, by simp, .inr (.inr ⟨s.gS t, fun x hx => ?_, ?_⟩)⟩
  · simp at hx
    rcases hx with rfl | rfl
    · exact ⟨u1, u2⟩
    · exact ⟨u2, u1⟩
  obtain ⟨r, rfl⟩ := t
  exact ⟨_, _, rfl, se, by simp [upS], .inr (by simp [upS, ne])⟩
theorem up_minus {sh : List (Str × Str)} (s : ShpS sh) : upS (putS sh lng (Str.ofString "-")) lng = some (Str.ofString "-") := upS_some (put_nd s.shp.nd) (put_mem ..)
theorem minus_ne : Str.ofString "-" ≠ Str.empty := by rw [← empty_eq]; decide +kernel
theorem minus_cls {sh : List (Str × Str)} (s : ShpS sh) : Cls (putS sh lng (Str.ofString "-")) := s.cls.put (by have := s.hi; omega) (.inl wd_lng) (.inl ⟨by decide +kernel, by decide +kernel⟩)
theorem bad_above2 {sh : List (Str × Str)} (s : ShpS sh) (z : Str) : Bad (putS sh lng (Str.ofString "-")) [(z, lng)] := ⟨minus_cls s, by simp, no_u fun g => by
  have := (g (z, lng) (by simp)).2
  rw [up_minus s] at this
  exact minus_ne (Option.some.inj this)⟩
theorem bad_below2 {sh : List (Str × Str)} (s : ShpS sh) (z : Str) : Bad (putS sh lng (Str.ofString "-")) [(lng, z)] := ⟨minus_cls s, by simp, no_u fun g => by
  have := (g (lng, z) (by simp)).1
  rw [up_minus s] at this
  exact minus_ne (Option.some.inj this)⟩
theorem nw_Q : NoWd (Str.ofString "Q") := ⟨by decide +kernel, .inr (.inr ⟨81, by decide +kernel, by decide +kernel⟩)⟩
theorem nw_e : NoWd (Str.ofString "") := ⟨by decide +kernel, .inl (by decide +kernel)⟩
theorem nw_13 : NoWd (Str.ofString "abcdefghijklm") := ⟨by decide +kernel, .inr (.inl (by decide +kernel))⟩
theorem wd_okay : Wd (Str.ofString "okay") := wd_lit (by decide +kernel)
theorem nm_x : NoMk (Str.ofString "+x") := ⟨by decide +kernel, .inr ⟨120, by decide +kernel, by decide +kernel⟩⟩
theorem nm_4 : NoMk (Str.ofString "+-+-") := ⟨by decide +kernel, .inl (by decide +kernel)⟩
/-! ### what stood, stands -/
def Ext0 (M M' : Mx) : Prop := ∀ b m, M b = some m → M' b = some m
theorem Ext0.refl {M : Mx} : Ext0 M M := fun _ _ h => h
theorem Ext0.trans {M M1 M2 : Mx} (h : Ext0 M M1) (k : Ext0 M1 M2) : Ext0 M M2 := fun b m e => k b m (h b m e)
theorem ext0_new {M : Mx} {q : Addr} {m : MO} (n : M q = none) : Ext0 M (updM M q m) := fun b m' e => by
  rw [updM_ne fun z => by rw [z, n] at e; cases e]
  exact e
def rowR (r : Addr × Addr) : Da := .t [.r r.1, .r r.2]
def RowsOk (M : Mx) (rows : List (Addr × Addr)) : Prop := ∀ r ∈ rows, ∃ sh un, Bad sh un ∧ M r.1 = some (.dk none (shD sh)) ∧ M r.2 = some (.dk none (shD un))
theorem RowsOk.ext {M M' : Mx} {rows : List (Addr × Addr)} (h : RowsOk M rows) (e : Ext0 M M') : RowsOk M' rows := fun r hr => by
  obtain ⟨sh, un, b, h1, h2⟩ := h r hr
  exact ⟨sh, un, b, e _ _ h1, e _ _ h2⟩
theorem RowsOk.snoc {M : Mx} {rows : List (Addr × Addr)} {a b : Addr} {sh un : List (Str × Str)} (h : RowsOk M rows) (hb : Bad sh un) (h1 : M a = some (.dk none (shD sh))) (h2 : M b = some (.dk none (shD un))) : RowsOk M (rows ++ [(a, b)]) := fun r hr => by
  rcases List.mem_append.mp hr with hr | hr
  · exact h r hr
  · rw [List.mem_singleton.mp hr]
    exact ⟨sh, un, hb, h1, h2⟩
end VL
set_option Elab.async false
set_option linter.all false
set_option maxRecDepth 100000
set_option maxHeartbeats 1000000
namespace VL
open PySem PySem.Spec PyProof.Rows L2
section
variable {P : Program} {w : World} {K : PySem.W.Frag} {mg : Str → Option Value} {base : Heap}
def dc_Stock_flat (C : Addr) : DC := fun ds M Q _ => ∃ (sh un : List (Str × Str)), ds = [stD C sh un] ∧ Q (.b un.isEmpty) M
theorem ok_Stock_flat (T : Tx P K mg)  : FnOk P w K mg base (L2.CX P w) 1 T.f_Stock_flat T.fd_Stock_flat ["self"] (spOf K (dc_Stock_flat T.C_Stock)) := by
  have sc := scStock_flat
  refine okD T.d_Stock_flat.F sc (fun ds M Q X h => ?_) (fun cdv A outer s H E c ds M Qd Xd hn hr h hX => ?_)
  · obtain ⟨sh, un, rfl, _⟩ := h
    rfl
  have tk := takes_of (X := cxOf (L2.CX P w) P w K mg base NStock_flat "Stock.flat" (defScope sStock_flat) T.f_Stock_flat cdv A outer s H E) rfl rfl rfl rfl
  refine ⟨_, (ss_one (s_ret (v_notD (v_fld T.c_Stock.cl T.n_Stock_under (vv 0))))), ?_⟩
  obtain ⟨sh, un, rfl, q⟩ := h
  have e : (shD un).isEmpty = un.isEmpty := by cases un <;> rfl
  rw [← e] at q
  exact ⟨_, _, ⟨rfl, rfl⟩, rfl, shD un, rfl, rfl, q⟩
def dc_l_flat (C : Addr) : DC := fun ds M Q _ => ∃ (sh un : List (Str × Str)) (p : Addr), ds = [stD C sh un, .r p] ∧ M p = some (.dk none (shD un)) ∧ Q (.b true) M
theorem ok_l_flat (T : Tx P K mg) (G_Stock_flat : FnOk P w K mg base (L2.CX P w) 1 T.f_Stock_flat T.fd_Stock_flat ["self"] (spOf K (dc_Stock_flat T.C_Stock))) : FnOk P w K mg base (L2.CX P w) 3 T.f_l_flat T.fd_l_flat ["_law_stock_here", "_law_under"] (spOf K (dc_l_flat T.C_Stock)) := by
  have sc := scLFlat
  refine okD T.d_l_flat.F sc (fun ds M Q X h => ?_) (fun cdv A outer s H E c ds M Qd Xd hn hr h hX => ?_)
  · obtain ⟨sh, un, p, rfl, _⟩ := h
    rfl
  have tk := takes_of (X := cxOf (L2.CX P w) P w K mg base NLFlat "_law_flat" (defScope sLFlat) T.f_l_flat cdv A outer s H E) rfl rfl rfl rfl
  refine ⟨_, (ss_one (s_ret (ve_and (v_isi isi_bool (by rfl) T.n_isinstance (by rfl) T.n_bool (by decide +kernel) (v_prop G_Stock_flat (hr.mono (by decide)) T.c_Stock.cl T.d_Stock_flat.p T.d_Stock_flat.b (vv 0))) (pe_one (v_cmp (op_eqA hr.units) lEq (nomark _) (v_prop G_Stock_flat (hr.mono (by decide)) T.c_Stock.cl T.d_Stock_flat.p T.d_Stock_flat.b (vv 0)) (v_cmp (op_eqA hr.units) lEq (nomark _) (v_cb1 call_lenA lLenD (by rfl) T.n_len (by decide +kernel) (vv 1)) vi)))))), ?_⟩
  obtain ⟨sh, un, p, rfl, m1, q⟩ := h
  have e2 : eqF (.b un.isEmpty) (.b (eqF (.i ((shD un).length : Int)) (.i 0))) = true := by
    cases un with
    | nil => rfl
    | cons a b =>
      have : eqF (.i (((shD (a :: b)).length : Nat) : Int)) (.i 0) = false := by
        simp only [eqF]
        rw [shD_len, List.length_cons]
        exact decide_eq_false (by omega)
      rw [this]
      rfl
  refine ⟨_, ⟨rfl, rfl⟩, sh, un, rfl, _, ⟨rfl, rfl⟩, sh, un, rfl, shD un, dku_r m1, .inl ⟨rfl, rfl, rfl, .inl ⟨rfl, rfl, rfl, ?_⟩⟩⟩
  rw [e2]
  exact ⟨rfl, q⟩
def dc_l_with : DC := fun ds M Q _ => ∃ (p : Addr) (sh : List (Str × Str)) (z v : Str), ds = [.r p, .s z, .s v] ∧ M p = some (.dk none (shD sh)) ∧ sh.length ≤ 100 ∧ ∀ q, M q = none → Q (.r q) (updM M q (.dk none (shD (putS sh z v))))
theorem ok_l_with (T : Tx P K mg)  : FnOk P w K mg base (L2.CX P w) 1 T.f_l_with T.fd_l_with ["_law_shapes", "_law_word", "_law_marks"] (spOf K dc_l_with) := by
  have sc := scLWith
  refine okD T.d_l_with.F sc (fun ds M Q X h => ?_) (fun cdv A outer s H E c ds M Qd Xd hn hr h hX => ?_)
  · obtain ⟨p, sh, z, v, rfl, _⟩ := h
    rfl
  have tk := takes_of (X := cxOf (L2.CX P w) P w K mg base NLWith "_law_with" (defScope sLWith) T.f_l_with cdv A outer s H E) rfl rfl rfl rfl
  refine ⟨_, (ss_cons (s_set (i := 3) sc.nd rfl (by first | exact .inl rfl | exact .inr rfl) (by rw [hn]; decide) (v_ct1 call_dcopy lDcopy (by rfl) T.n_dict (by decide +kernel) (vv 0)))
  (ss_cons (s_putD (hu_of hr) (vv 2) (vv 3) (vv 1))
  (ss_one (s_ret (vv 3))))), ?_⟩
  obtain ⟨p, sh, z, v, rfl, m1, hl, q⟩ := h
  refine ⟨shD sh, dk_r m1, fun a na => ⟨rfl, rfl, a, shD sh, .inr z, rfl, updM_same, rfl, by rw [shD_len, sizeLine_eq]; omega, ?_⟩⟩
  refine ⟨rfl, ?_⟩
  show Qd (.r a) (updM (updM M a _) a (.dk none (putD (shD sh) (.inr z) (.s v))))
  rw [updM_upd, putD_putS]
  exact q a na
def dc_l_refused (C : Addr) : DC := fun ds M Q _ => ∃ (p1 p2 : Addr) (sh un : List (Str × Str)), ds = [.r p1, .r p2] ∧ M p1 = some (.dk none (shD sh)) ∧ M p2 = some (.dk none (shD un)) ∧ Bad sh un ∧ ∀ M', Ext0 M M' → Q (.b true) M'
theorem ok_l_refused (T : Tx P K mg) (G_Stock_init : FnOk P w K mg base (L2.CX P w) 3 T.f_Stock_init T.fd_Stock_init ["self", "shapes", "under"] (spOf K (dc_Stock_init T.C_Stock T.C_BadKind))) : FnOk P w K mg base (L2.CX P w) 5 T.f_l_refused T.fd_l_refused ["_law_shapes", "_law_under"] (spOf K (dc_l_refused T.C_Stock)) := by
  have sc := scLRefused
  refine okD T.d_l_refused.F sc (fun ds M Q X h => ?_) (fun cdv A outer s H E c ds M Qd Xd hn hr h hX => ?_)
  · obtain ⟨p1, p2, sh, un, rfl, _⟩ := h
    rfl
  have tk := takes_of (X := cxOf (L2.CX P w) P w K mg base NLRefused "_law_refused" (defScope sLRefused) T.f_l_refused cdv A outer s H E) rfl rfl rfl rfl
  refine ⟨_, (ss_cons (s_tryAs (i := 2) rfl rfl sc.nd rfl rfl ⟨by rfl, by decide, .inl T.x_NotesError.g⟩ (by rw [hn]; decide) tk hX (fun W1 pn1 xe1 Xs1 c1 e1 tk1 hX1 po1 => (ss_one (s_expr (vFrz (v_make G_Stock_init (hr.mono (by decide)) T.m_Stock_init (by rfl) T.c_Stock.g T.d_Stock_init.b tk1 hX1 (v_cons (vv 0) (v_cons (vv 1) v_nil)))))))
  (fun ea oe1 cls1 d1 ofs1 pn1 c2 hz hf e2 EX => (ss_one (s_ret (ve_and (v_isE hz hf EX (by rfl) T.n_isinstance (pe_glob (v := .ref T.C_BadKind) (by rfl) T.x_BadKind.g rfl) (fun u r => r) (vv 2)) (pe_one (v_isE hz hf EX (by rfl) T.n_isinstance (pe_bltn (v := .ty "ValueError") (by rfl) T.n_ValueError (by decide +kernel) rfl) (fun u r => r) (vv 2))))))))
  (ss_one (s_ret vb))), ?_⟩
  obtain ⟨p1, p2, sh, un, rfl, m1, m2, b, q⟩ := h
  refine ⟨rfl, rfl, fun x nx => ?_⟩
  have nx' : M x = none := nx
  have ne : ∀ {a : Addr} {m : MO}, M a = some m → a ≠ x := fun h e => by rw [e, nx'] at h; cases h
  refine ⟨x, p1, .r p2, sh, un, rfl, updM_same, ne m1, .inr ⟨p2, rfl, ne m2, by show updM M x _ p2 = _; rw [updM_ne (ne m2)]; exact m2⟩, b.c, b.u, by show updM M x _ p1 = _; rw [updM_ne (ne m1)]; exact m1, .inr ⟨b.n, fun M' hM' => ?_⟩⟩
  refine ⟨true, T.e_BadKind_NotesError, fun _ ea na => ?_, fun z => by cases z⟩
  refine ⟨rfl, T.C_BadKind, true, rfl, T.x_BadKind.ec, T.k_BadKind_BadKind, rfl, T.C_BadKind, true, rfl, T.x_BadKind.ec, T.k_BadKind_ValueError, rfl, q M' fun a m h => hM' a m ?_ (ne h)⟩
  show updM M x _ a = _
  rw [updM_ne (ne h)]
  exact h
theorem head_no {sh : List (Str × Str)} {x : Da} {es : List Da} (h : okF sh (.t (x :: es)) = false) : fitB sh (.t (x :: es)) = false := by
  unfold fitB
  rw [Da.subs, List.all_cons, h]
  rfl
theorem sz_two {z : Str} {d : Da} : (Da.t [.s z, d]).sz = 2 + d.sz := by simp [Da.sz, szs]; omega
def oddL (d : Da) (fi : Str) : List Da := [.t [.s fi, .s (Str.ofString "A")], .t [.s lng], .t [.s fi, d], .t [.s lng, d]]
theorem fk_A : Fk true (.s (Str.ofString "A")) := by
  have e : Str.ofString "A" = ⟨#[65]⟩ := by decide +kernel
  rw [e]
  exact .lt rfl (by decide) (by decide)
def dc_l_fits (C : Addr) : DC := fun ds M Q _ => ∃ (lb : Bool) (sh un : List (Str × Str)) (d : Da) (fi : Str), ds = [stD C sh un, d, .s fi] ∧ (sh.map (·.1)).Nodup ∧ (∀ z v, (z, v) ∈ sh → v.length ≤ sizeLine) ∧ Fk lb d ∧ d.sz ≤ 900 ∧ fitB sh d = true ∧ upS sh fi = some Str.empty ∧ Wd fi ∧ upS sh lng = none ∧ Q (.b true) M
theorem ok_l_fits (T : Tx P K mg) (G_Stock_fits : FnOk P w K mg base (L2.CX P w) 3 T.f_Stock_fits T.fd_Stock_fits ["self", "form"] (spOf K (dc_Stock_fits T.C_Stock))) : FnOk P w K mg base (L2.CX P w) 4 T.f_l_fits T.fd_l_fits ["_law_stock_here", "_law_pattern", "_law_first"] (spOf K (dc_l_fits T.C_Stock)) := by
  have sc := scLFits
  refine okD T.d_l_fits.F sc (fun ds M Q X h => ?_) (fun cdv A outer s H E c ds M Qd Xd hn hr h hX => ?_)
  · obtain ⟨lb, sh, un, d, fi, rfl, _⟩ := h
    rfl
  have tk := takes_of (X := cxOf (L2.CX P w) P w K mg base NLFits "_law_fits" (defScope sLFits) T.f_l_fits cdv A outer s H E) rfl rfl rfl rfl
  refine ⟨_, (ss_cons (s_set (i := 3) sc.nd rfl (by first | exact .inl rfl | exact .inr rfl) (by rw [hn]; decide) (vOf (v_lst (v_cons (v_tup (v_cons (vv 2) (v_cons vs v_nil))) (v_cons (v_tup (v_cons vs v_nil)) (v_cons (v_tup (v_cons (vv 2) (v_cons (vv 1) v_nil))) (v_cons (v_tup (v_cons vs (v_cons (vv 1) v_nil))) v_nil)))))))
  (ss_cons (s_if (vt_cmp op_isNotB lIsNotB (nomark _) (v_meth G_Stock_fits (hr.mono (by decide)) T.c_Stock.cl T.d_Stock_fits.m T.d_Stock_fits.b tk hX (vv 0) (v_cons (vv 1) v_nil)) vb)
  (ss_one (s_ret vb))
  ss_nil)
  (ss_one (s_ret (v_cb1 (cr_all rfl) lAll (by rfl) T.n_all (by decide +kernel) (vOf (v_lc rfl sc.nd (i_sq (vv 3)) (blkOk_by (own := [("_law_one", 4)]) (N := NLFits) (sc := defScope sLFits) (by decide +kernel)) (fun c1 e1 => (lgN (i := 4) (by rw [e1, hn]; decide))) (fun _ _ _ _ _ => (pg_name (i := 4) sc.nd rfl (by first | exact .inl rfl | exact .inr rfl))) (fun _ _ _ _ _ _ _ => ts_nil) (fun _ _ _ _ _ c1 e1 => (v_cmp op_isB lIsB (nomark _) (v_meth G_Stock_fits (hr.mono (by decide)) T.c_Stock.cl T.d_Stock_fits.m T.d_Stock_fits.b takes0 xno (vv 0) (v_cons (vv 4) v_nil)) vb)) (by decide)))))))), ?_⟩
  obtain ⟨lb, sh, un, d, fi, rfl, nd, hm, hf, hz, hfit, hu, wf, hn, q⟩ := h
  have dO : d.isO = false := by cases hf <;> rfl
  have odd : ∀ x ∈ oddL d fi, (∃ lb', Fk lb' x) ∧ x.sz ≤ 1000 ∧ fitB sh x = false := fun x hx => by
    simp only [oddL, List.mem_cons, List.not_mem_nil, or_false] at hx
    rcases hx with rfl | rfl | rfl | rfl
    · refine ⟨⟨true, .nd wf (by simp) fun y hy => by rw [List.mem_singleton.mp hy]; exact fk_A⟩, ?_, head_no ?_⟩
      · rw [sz_two]
        simp [Da.sz]
      · rw [okF_eq nd, hu]
        exact decide_eq_false (show ¬ (0 : Nat) = 1 by decide)
    · refine ⟨⟨true, .nd wd_lng (by simp) (by simp)⟩, by simp [Da.sz, szs], head_no ?_⟩
      rw [okF_eq nd, hn]
    · refine ⟨⟨lb, .nd wf (by simp) fun y hy => by rw [List.mem_singleton.mp hy]; exact hf⟩, by rw [sz_two]; omega, head_no ?_⟩
      rw [okF_eq nd, hu]
      exact decide_eq_false (show ¬ (0 : Nat) = 1 by decide)
    · refine ⟨⟨lb, .nd wd_lng (by simp) fun y hy => by rw [List.mem_singleton.mp hy]; exact hf⟩, by rw [sz_two]; omega, head_no ?_⟩
      rw [okF_eq nd, hn]
  have l1 : ∀ n : Nat, n ≤ 4 → n ≤ sizeLine := fun n h => by rw [sizeLine_eq]; omega
  apply via_tail (TOk := fun S => S = ⟨[.val (stD T.C_Stock sh un), .val d, .val (.s fi), .val (.l (oddL d fi)), .no], M⟩)
  case main =>
    intro tail
    exact ⟨rfl, rfl, l1 2 (by decide), rfl, rfl, l1 1 (by decide), rfl, rfl, dO, l1 2 (by decide), rfl, rfl, dO, l1 2 (by decide), rfl, l1 4 (by decide), rfl, tail _ rfl⟩
  rintro S rfl
  have l4 : (oddL d fi).length ≤ sizeLine := l1 4 (by decide)
  generalize oddL d fi = L at odd l4 ⊢
  refine ⟨_, ⟨rfl, rfl⟩, rfl, dO, lb, sh, un, d, rfl, nd, hm, hf, by omega, ?_⟩
  rw [hfit]
  dsimp only [wC, rdIsB]
  rw [if_neg (by decide)]
  refine lc_map (ds := L) (fun x => .b (fitB sh x == false)) (fun x hx R1 hR1 => ?_) (fun x hx => rfl) l4 ?_
  · obtain ⟨⟨lb', hk⟩, hs, hn2⟩ := odd x hx
    have xO : x.isO = false := by cases hk <;> rfl
    exact ⟨_, ⟨rfl, rfl⟩, rfl, xO, lb', sh, un, x, rfl, nd, hm, hk, hs, hR1 _ (Agr.wipe.set (i := 4) (x := .val x) (by decide))⟩
  · refine ⟨_, _, rfl, by rw [show (L).map (fun x => Da.b (fitB sh x == false)) = ((L).map fun x => fitB sh x == false).map Da.b from by rw [List.map_map]; rfl]; exact bools_map _, ?_⟩
    have : ((L).map fun x => fitB sh x == false).all id = true := by
      rw [List.all_eq_true]
      intro b hb
      obtain ⟨x, hx, rfl⟩ := List.mem_map.mp hb
      rw [(odd x hx).2.2]
      rfl
    rw [this]
    exact ⟨rfl, q⟩
end
end VL
set_option Elab.async false
set_option linter.all false
set_option maxRecDepth 100000
set_option maxHeartbeats 1000000
namespace VL
open PySem PySem.Spec PyProof.Rows L2
/-! ### the stock of twelve words -/
def zw (c : Nat) : Str := Str.ofString "zzzzzzzzzzz" ++ ⟨#[c]⟩
def abm : List Nat := (Str.ofString "abcdefghijklm").cps.toList
theorem abm_eq : abm = [97, 98, 99, 100, 101, 102, 103, 104, 105, 106, 107, 108, 109] := by decide +kernel
theorem zw_cps (c : Nat) : (zw c).cps.toList = List.replicate 11 122 ++ [c] := by
  unfold zw
  rw [str_app]
  congr 1
theorem zw_inj {a b : Nat} (h : zw a = zw b) : a = b := by
  have := congrArg (fun z : Str => z.cps.toList) h
  simp only [zw_cps] at this
  simpa using this
theorem zw_len (c : Nat) : (zw c).cps.toList.length = 12 := by rw [zw_cps]; rfl
theorem wd_zw {c : Nat} (h : 97 ≤ c ∧ c ≤ 122) : Wd (zw c) := ⟨by rw [zw_len]; decide, by rw [zw_len]; decide, fun x hx => by
  rw [zw_cps] at hx
  rcases List.mem_append.mp hx with hx | hx
  · rw [List.eq_of_mem_replicate hx]; decide
  · rw [List.mem_singleton.mp hx]; exact h⟩
theorem zw_lng (c : Nat) : zw c ≠ lng := fun h => by
  have := congrArg (fun z : Str => z.cps.toList) h
  simp only [zw_cps] at this
  have e : lng.cps.toList = [97, 98, 99, 100, 101, 102, 103, 104, 105, 106, 107, 108] := by decide +kernel
  rw [e] at this
  simp at this
theorem zw_a : Str.ofString "zzzzzzzzzzza" = zw 97 := by decide +kernel
def zrow (c : Nat) : Str × Str := (zw c, Str.empty)
def wide (sh : List (Str × Str)) (pre : List Nat) : List (Str × Str) := sh ++ (pre.take (12 - sh.length)).map zrow
theorem wide_nil (sh : List (Str × Str)) : wide sh [] = sh := by unfold wide; simp
theorem wide_len {sh : List (Str × Str)} {pre : List Nat} (h : sh.length ≤ 12) : (wide sh pre).length = sh.length + min (12 - sh.length) pre.length := by
  unfold wide
  rw [List.length_append, List.length_map, List.length_take]
theorem wide_more {sh : List (Str × Str)} {pre : List Nat} {c : Nat} (h : pre.length < 12 - sh.length) : wide sh (pre ++ [c]) = wide sh pre ++ [(zw c, Str.empty)] := by
  unfold wide
  have h1 : (pre ++ [c]).take (12 - sh.length) = pre ++ [c] := List.take_of_length_le (by rw [List.length_append, List.length_singleton]; omega)
  have h2 : pre.take (12 - sh.length) = pre := List.take_of_length_le (by omega)
  rw [h1, h2, List.map_append, List.append_assoc]
  rfl
theorem wide_full {sh : List (Str × Str)} {pre : List Nat} {c : Nat} (h : ¬ pre.length < 12 - sh.length) : wide sh (pre ++ [c]) = wide sh pre := by
  unfold wide
  rw [List.take_append_of_le_length (by omega)]
theorem wide_mem {sh : List (Str × Str)} {pre : List Nat} {x : Str × Str} (h : x ∈ wide sh pre) : x ∈ sh ∨ ∃ c ∈ pre, x = zrow c := by
  unfold wide at h
  rcases List.mem_append.mp h with h | h
  · exact .inl h
  · obtain ⟨c, hc, rfl⟩ := List.mem_map.mp h
    exact .inr ⟨c, List.mem_of_mem_take hc, rfl⟩
theorem wide_new {sh : List (Str × Str)} (s : ShpS sh) {pre : List Nat} {c : Nat} (h : c ∉ pre) : zw c ∉ (wide sh pre).map (·.1) := fun hx => by
  obtain ⟨x, hx, e⟩ := List.mem_map.mp hx
  rcases wide_mem hx with hx | ⟨c', hc, rfl⟩
  · exact long_new s (by rw [zw_len]; decide) (List.mem_map.mpr ⟨x, hx, e⟩)
  · exact h (by rw [← zw_inj e]; exact hc)
theorem wide_nd {sh : List (Str × Str)} (s : ShpS sh) : ∀ {pre : List Nat}, pre.Nodup → ((wide sh pre).map (·.1)).Nodup := fun {pre} nd => by
  unfold wide
  rw [List.map_append, List.map_map]
  refine List.nodup_append.mpr ⟨s.shp.nd, ?_, fun a ha b hb e => ?_⟩
  · have := List.Nodup.sublist (List.take_sublist (12 - sh.length) pre) nd
    rw [List.nodup_iff_pairwise_ne] at this ⊢
    rw [List.pairwise_map]
    exact this.imp fun h e => h (zw_inj e)
  · obtain ⟨c, _, rfl⟩ := List.mem_map.mp hb
    subst e
    exact long_new s (show 10 < (zw c).cps.toList.length by rw [zw_len]; decide) ha
theorem up_app {a b : List (Str × Str)} {z v : Str} (h : upS a z = some v) : upS (a ++ b) z = some v := by
  unfold upS at h ⊢
  rw [List.find?_append]
  cases e : a.find? (fun x => decide (x.1 = z)) with
  | none => rw [e] at h; cases h
  | some x => rw [e] at h; exact h
abbrev wd12 (sh : List (Str × Str)) : List (Str × Str) := wide sh abm
theorem abm_nd : abm.Nodup := by rw [abm_eq]; decide
theorem abm_c {c : Nat} (h : c ∈ abm) : 97 ≤ c ∧ c ≤ 122 := by
  rw [abm_eq] at h
  simp at h
  omega
theorem wd12_len {sh : List (Str × Str)} (s : ShpS sh) : (wd12 sh).length = 12 := by
  have := s.hi
  rw [wide_len (by omega), abm_eq]
  simp
  omega
theorem wd12_each {sh : List (Str × Str)} (s : ShpS sh) {x : Str × Str} (h : x ∈ wd12 sh) : Wd x.1 ∧ Mk x.2 := by
  rcases wide_mem h with h | ⟨c, hc, rfl⟩
  · exact ⟨s.shp.wd x h, s.shp.ar x h, s.mks x h⟩
  · exact ⟨wd_zw (abm_c hc), mk_e⟩
theorem wd12_cls {sh : List (Str × Str)} (s : ShpS sh) : Cls (wd12 sh) := ⟨wide_nd s abm_nd, by rw [wd12_len s]; decide, fun x hx => ⟨.inl (wd12_each s hx).1, .inl (wd12_each s hx).2⟩⟩
theorem wd12_zw {sh : List (Str × Str)} (s : ShpS sh) : (zw 97, Str.empty) ∈ wd12 sh := by
  have := s.hi
  refine List.mem_append_right _ (List.mem_map.mpr ⟨97, ?_, rfl⟩)
  rw [abm_eq]
  obtain ⟨n, hn⟩ : ∃ n, 12 - sh.length = n + 1 := ⟨12 - sh.length - 1, by omega⟩
  rw [hn, List.take_succ_cons]
  simp
theorem wd12_ok {sh un : List (Str × Str)} (s : ShpS sh) {fi se : Str} (t : Two sh fi se) (u : Und sh un) : okS (wd12 sh) un := by
  have hi := s.hi
  refine ⟨⟨by rw [wd12_len s]; decide, fun x hx => wd12_each s hx, ?_⟩, fun x hx => ?_, fun x hx => ?_⟩
  · unfold wd12 wide
    rw [bases_app]
    have := t.bases
    omega
  · obtain ⟨h1, h2⟩ := und_gU s.shp u x hx
    exact ⟨up_app h1, up_app h2⟩
  · rcases wide_mem hx with hx | ⟨c, hc, rfl⟩
    · exact .inl ⟨x.2, sh, s.shp, u, s.hi, hx⟩
    · refine .inr (up_none fun hz => ?_)
      obtain ⟨y, hy, e⟩ := List.mem_map.mp hz
      have h1 := (und_get s.shp u hy).1
      exact long_new s (show 10 < (zw c).cps.toList.length by rw [zw_len]; decide) (List.mem_map.mpr ⟨_, h1, e⟩)
theorem wd12_lng {sh : List (Str × Str)} (s : ShpS sh) : lng ∉ (wd12 sh).map (·.1) := fun h => by
  obtain ⟨x, hx, e⟩ := List.mem_map.mp h
  rcases wide_mem hx with hx | ⟨c, hc, rfl⟩
  · exact long_new s (by rw [lng_len]; decide) (List.mem_map.mpr ⟨x, hx, e⟩)
  · exact zw_lng c e
theorem bad_13 {sh : List (Str × Str)} (s : ShpS sh) : Bad (putS (wd12 sh) lng (Str.ofString "")) [] := by
  refine ⟨(wd12_cls s).put (by rw [wd12_len s]; decide) (.inl wd_lng) (.inl (by rw [empty_eq]; exact mk_e)), by simp, no_l ?_⟩
  rw [put_new (wd12_lng s), List.length_append, wd12_len s]
  decide
theorem wd12_fit {sh : List (Str × Str)} (s : ShpS sh) : fitB (wd12 sh) (.t [.s (zw 97)]) = true := by
  have h : okF (wd12 sh) (.t [.s (zw 97)]) = true := by
    rw [okF_eq (wd12_cls s).nd, upS_some (wd12_cls s).nd (wd12_zw s)]
    rfl
  unfold fitB
  rw [Da.subs, List.all_cons, h]
  rfl
theorem wd12_ml {sh : List (Str × Str)} (s : ShpS sh) : ∀ z v, (z, v) ∈ wd12 sh → v.length ≤ sizeLine := fun z v hz => by
  rw [str_len]
  have := (wd12_each s hz).2.1
  exact sz_le (show v.cps.toList.length ≤ 1000 from Nat.le_trans this (by decide))
end VL
set_option Elab.async false
set_option linter.all false
set_option maxRecDepth 100000
set_option maxHeartbeats 1000000
namespace VL
open PySem PySem.Spec PyProof.Rows L2
section
variable {P : Program} {w : World} {K : PySem.W.Frag} {mg : Str → Option Value} {base : Heap}
theorem lone_snoc (a : List (Str × Str)) (x : Str × Str) : lone (a ++ [x]) = lone a ++ [(x.1, Str.ofString "+")] := by
  unfold lone
  rw [List.map_append]
  rfl
theorem rows_nil {M : Mx} : RowsOk M [] := fun r hr => by cases hr
theorem merge2 {fi se : Str} (ne : fi ≠ se) : mergeD [] [(.inr fi, .s se), (.inr se, .s fi)] = shD [(fi, se), (se, fi)] := by
  show putD (putD [] (.inr fi) (.s se)) (.inr se) (.s fi) = _
  rw [show putD [] (.inr fi) (.s se) = shD [(fi, se)] from rfl, putD_shD (by simpa using Ne.symm ne)]
  rfl
def dc_l_bad_stocks : DC := fun ds M Q _ => ∃ (p : Addr) (sh : List (Str × Str)) (fi se : Str), ds = [.r p, .s fi, .s se] ∧ M p = some (.dk none (shD sh)) ∧ ShpS sh ∧ Two sh fi se ∧ ∀ (rows : List (Addr × Addr)) (M' : Mx), Ext0 M M' → RowsOk M' rows → rows.length ≤ 20 → Q (.l (rows.map rowR)) M'
theorem ok_l_bad_stocks (T : Tx P K mg) (G_l_with : FnOk P w K mg base (L2.CX P w) 1 T.f_l_with T.fd_l_with ["_law_shapes", "_law_word", "_law_marks"] (spOf K dc_l_with)) : FnOk P w K mg base (L2.CX P w) 2 T.f_l_bad_stocks T.fd_l_bad_stocks ["_law_shapes", "_law_first", "_law_second"] (spOf K dc_l_bad_stocks) := by
  have sc := scLBadStocks
  refine okD T.d_l_bad_stocks.F sc (fun ds M Q X h => ?_) (fun cdv A outer s H E c ds M Qd Xd hn hr h hX => ?_)
  · obtain ⟨p, sh, fi, se, rfl, _⟩ := h
    rfl
  have tk := takes_of (X := cxOf (L2.CX P w) P w K mg base NLBadStocks "_law_bad_stocks" (defScope sLBadStocks) T.f_l_bad_stocks cdv A outer s H E) rfl rfl rfl rfl
  refine ⟨_, (ss_cons (s_set (i := 3) sc.nd rfl (by first | exact .inl rfl | exact .inr rfl) (by rw [hn]; decide) v_dnew)
  (ss_cons (s_lk (s_for (passes_of rfl) rfl (i_keys (vv 0)) (pg_name (i := 4) sc.nd rfl (by first | exact .inl rfl | exact .inr rfl)) (lgN (i := 4) (by rw [hn]; decide))
  (ss_one (s_putD (hu_of hr) vs (vv 3) (vv 4)))))
  (ss_cons (s_set (i := 5) sc.nd rfl (by first | exact .inl rfl | exact .inr rfl) (by rw [hn]; decide) (vOf (v_lst (v_cons (v_tup (v_cons (vv 3) (v_cons v_dnew v_nil))) (v_cons (v_tup (v_cons v_dnew (v_cons v_dnew v_nil))) (v_cons (v_tup (v_cons (v_call G_l_with (hr.mono (by decide)) (by rfl) T.d_l_with.g T.d_l_with.F.kp T.d_l_with.b tk hX (v_cons (vv 3) (v_cons (vv 1) (v_cons vs v_nil)))) (v_cons v_dnew v_nil))) (v_cons (v_tup (v_cons (v_call G_l_with (hr.mono (by decide)) (by rfl) T.d_l_with.g T.d_l_with.F.kp T.d_l_with.b tk hX (v_cons (vv 0) (v_cons vs (v_cons vs v_nil)))) (v_cons v_dnew v_nil))) v_nil)))))))
  (ss_cons (s_set (i := 5) sc.nd rfl (by first | exact .inl rfl | exact .inr rfl) (by rw [hn]; decide) (vOf (v_catL (vv 5) (vOf (v_lst (v_cons (v_tup (v_cons (v_call G_l_with (hr.mono (by decide)) (by rfl) T.d_l_with.g T.d_l_with.F.kp T.d_l_with.b tk hX (v_cons (vv 0) (v_cons vs (v_cons vs v_nil)))) (v_cons v_dnew v_nil))) (v_cons (v_tup (v_cons (v_call G_l_with (hr.mono (by decide)) (by rfl) T.d_l_with.g T.d_l_with.F.kp T.d_l_with.b tk hX (v_cons (vv 0) (v_cons vs (v_cons vs v_nil)))) (v_cons v_dnew v_nil))) v_nil)))))))
  (ss_cons (s_set (i := 5) sc.nd rfl (by first | exact .inl rfl | exact .inr rfl) (by rw [hn]; decide) (vOf (v_catL (vv 5) (vOf (v_lst (v_cons (v_tup (v_cons (v_call G_l_with (hr.mono (by decide)) (by rfl) T.d_l_with.g T.d_l_with.F.kp T.d_l_with.b tk hX (v_cons (vv 0) (v_cons vs (v_cons vs v_nil)))) (v_cons v_dnew v_nil))) (v_cons (v_tup (v_cons (v_call G_l_with (hr.mono (by decide)) (by rfl) T.d_l_with.g T.d_l_with.F.kp T.d_l_with.b tk hX (v_cons (vv 0) (v_cons vs (v_cons vs v_nil)))) (v_cons v_dnew v_nil))) v_nil)))))))
  (ss_cons (s_set (i := 5) sc.nd rfl (by first | exact .inl rfl | exact .inr rfl) (by rw [hn]; decide) (vOf (v_catL (vv 5) (vOf (v_lst (v_cons (v_tup (v_cons (vv 0) (v_cons (v_disp (ppd_cons (fun c1 e1 => (vv 1)) (fun c1 e1 => vs) ppd_nil)) v_nil))) (v_cons (v_tup (v_cons (vv 0) (v_cons (v_disp (ppd_cons (fun c1 e1 => vs) (fun c1 e1 => (vv 1)) ppd_nil)) v_nil))) (v_cons (v_tup (v_cons (vv 0) (v_cons (v_disp (ppd_cons (fun c1 e1 => (vv 1)) (fun c1 e1 => (vv 1)) ppd_nil)) v_nil))) v_nil))))))))
  (ss_cons (s_set (i := 5) sc.nd rfl (by first | exact .inl rfl | exact .inr rfl) (by rw [hn]; decide) (vOf (v_catL (vv 5) (vOf (v_lst (v_cons (v_tup (v_cons (vv 0) (v_cons (v_disp (ppd_cons (fun c1 e1 => (vv 1)) (fun c1 e1 => (vv 2)) (ppd_cons (fun c1 e1 => (vv 2)) (fun c1 e1 => (vv 1)) ppd_nil))) v_nil))) v_nil))))))
  (ss_cons (s_set (i := 6) sc.nd rfl (by first | exact .inl rfl | exact .inr rfl) (by rw [hn]; decide) (v_call G_l_with (hr.mono (by decide)) (by rfl) T.d_l_with.g T.d_l_with.F.kp T.d_l_with.b tk hX (v_cons (vv 0) (v_cons vs (v_cons vs v_nil)))))
  (ss_one (s_ret (vOf (v_catL (vv 5) (vOf (v_lst (v_cons (v_tup (v_cons (vv 6) (v_cons (v_disp (ppd_cons (fun c1 e1 => (vv 1)) (fun c1 e1 => vs) ppd_nil)) v_nil))) (v_cons (v_tup (v_cons (vv 6) (v_cons (v_disp (ppd_cons (fun c1 e1 => vs) (fun c1 e1 => (vv 1)) ppd_nil)) v_nil))) v_nil)))))))))))))))), ?_⟩
  obtain ⟨p, sh, fi, se, rfl, m1, s, t, q⟩ := h
  have hi := s.hi
  let S1 : Sx → Prop := fun S => ∃ (a : Addr) (y4 : Slx) (N : Mx), S = ⟨[.val (.r p), .val (.s fi), .val (.s se), .val (.r a), y4, .no, .no], N⟩ ∧ N a = some (.dk none (shD (lone sh))) ∧ Ext0 M N
  apply via_tail (TOk := S1)
  case main =>
   intro tail
   refine fun a na => ?_
   have na' : M a = none := na
   have pa : p ≠ a := fun e => by rw [e, na'] at m1; cases m1
   refine ⟨rfl, p, shD sh, (by show updM M a _ p = _; rw [updM_ne pa]; exact m1), fun od => ⟨p, od, shD sh, rfl, updM_same, ?_⟩⟩
   refine forGo_of (fun rest S => ∃ (pre rr : List (Str × Str)) (y4 : Slx) (M3 : Mx), sh = pre ++ rr ∧ rest = (shD rr).map keyD ∧ (M3 a = some (.dk none (shD (lone pre))) ∧ M3 p = some (.dk (some od) (shD sh)) ∧ ∀ b, b ≠ a → b ≠ p → M3 b = M b) ∧ S = ⟨[.val (.r p), .val (.s fi), .val (.s se), .val (.r a), y4, .no, .no], M3⟩)
     (fun d ds S h R hR => ?_) (fun S h => ?_) _ _ ⟨[], sh, .no, _, rfl, rfl, ⟨by rw [updM_ne (Ne.symm pa)]; exact updM_same, updM_same, fun b h1 h2 => by rw [updM_ne h2]; exact updM_ne h1⟩, rfl⟩
   · obtain ⟨pre, rr, y4, M3, es, e1, ⟨ka, kp, ko⟩, rfl⟩ := h
     cases rr with
     | nil => cases e1
     | cons x rr =>
     cases e1
     have nd := s.shp.nd
     have nin : x.1 ∉ (lone pre).map (·.1) := fun hx => by
       rw [lone_keys] at hx
       rw [es, List.map_append, List.map_cons] at nd
       exact (List.nodup_append.mp nd).2.2 _ hx _ (by simp) rfl
     have ll : (lone pre).length ≤ 7 := by
       unfold lone
       rw [List.length_map]
       have := congrArg List.length es
       rw [List.length_append] at this
       omega
     refine ⟨rfl, a, shD (lone pre), .inr x.1, rfl, ka, rfl, by rw [shD_len, sizeLine_eq]; omega, hR _ ⟨pre ++ [x], rr, .val (.s x.1), _, by rw [es, List.append_assoc]; rfl, rfl, ⟨?_, ?_, fun b h1 h2 => ?_⟩, rfl⟩⟩
     · rw [lone_snoc, ← putD_shD nin]
       exact updM_same
     · show updM M3 a _ p = _
       rw [updM_ne pa]
       exact kp
     · show updM M3 a _ b = _
       rw [updM_ne h1]
       exact ko b h1 h2
   · obtain ⟨pre, rr, y4, M3, es, e1, ⟨ka, kp, ko⟩, rfl⟩ := h
     have e0 : rr = [] := by cases rr with | nil => rfl | cons a b => cases e1
     subst e0
     rw [List.append_nil] at es
     subst es
     refine ⟨kp, ?_⟩
     have g1 : updM M3 p (.dk none (shD sh)) a = some (.dk none (shD (lone sh))) := by rw [updM_ne (Ne.symm pa)]; exact ka
     exact tail _ ⟨a, y4, _, rfl, g1, fun b m e => by
      have ba : b ≠ a := fun z => by rw [z, na'] at e; cases e
      by_cases bp : b = p
      · rw [bp, m1] at e
        cases e
        rw [bp]
        exact updM_same
      · rw [updM_ne bp]
        show M3 b = some m
        rw [ko b ba bp]
        exact e⟩
  rintro S ⟨a, y4, N, rfl, g2, g3⟩
  have g_p := g3 _ _ m1
  have g_a := g2
  have lN : (lone sh).length ≤ 7 := lone_len s
  have l1 : ∀ n : Nat, n ≤ 30 → n ≤ sizeLine := fun n h => by rw [sizeLine_eq]; omega
  obtain ⟨u1, u2, ne⟩ := t.up s.shp.nd
  have wfi : Wd fi := by
    obtain ⟨r, e⟩ := t
    exact s.shp.wd (fi, Str.empty) (by rw [e]; simp)
  have mk_em : Mk (Str.ofString "") := by rw [empty_eq]; exact mk_e
  let SR : Nat → Sx → Prop := fun k S => ∃ (rows : List (Addr × Addr)) (rs : List Da) (N : Mx), S = ⟨[.val (.r p), .val (.s fi), .val (.s se), .val (.r a), y4, .val (.l rs), .no], N⟩ ∧ rs = rows.map rowR ∧ rows.length = k ∧ RowsOk N rows ∧ Ext0 M N
  apply via_tail (TOk := SR 4)
  case main =>
   intro tail
   exact ⟨rfl, fun b1 k1 => ⟨rfl, l1 2 (by decide), rfl, fun b2 k2 => ⟨rfl, fun b3 k3 => ⟨rfl, l1 2 (by decide), rfl, rfl, rfl, rfl, a, lone sh, fi, (Str.ofString ""), rfl, ((((ext0_new k1).trans (ext0_new k2)).trans (ext0_new k3)) _ _ g_a), by omega, fun b4 k4 => ⟨rfl, fun b5 k5 => ⟨rfl, l1 2 (by decide), rfl, rfl, rfl, rfl, p, sh, (Str.ofString "Q"), (Str.ofString ""), rfl, ((((((ext0_new k1).trans (ext0_new k2)).trans (ext0_new k3)).trans (ext0_new k4)).trans (ext0_new k5)) _ _ g_p), by omega, fun b6 k6 => ⟨rfl, fun b7 k7 => ⟨rfl, l1 2 (by decide), rfl, l1 4 (by decide), rfl, tail _ ⟨(((([] ++ [(a, b1)]) ++ [(b2, b3)]) ++ [(b4, b5)]) ++ [(b6, b7)]), _, _, rfl, rfl, by simp; try omega, ((((rows_nil.snoc (bad_lone s) ((((((((ext0_new k1).trans (ext0_new k2)).trans (ext0_new k3)).trans (ext0_new k4)).trans (ext0_new k5)).trans (ext0_new k6)).trans (ext0_new k7)) _ _ g_a) (((((((ext0_new k2).trans (ext0_new k3)).trans (ext0_new k4)).trans (ext0_new k5)).trans (ext0_new k6)).trans (ext0_new k7)) _ _ updM_same)).snoc bad_none ((((((ext0_new k3).trans (ext0_new k4)).trans (ext0_new k5)).trans (ext0_new k6)).trans (ext0_new k7)) _ _ updM_same) (((((ext0_new k4).trans (ext0_new k5)).trans (ext0_new k6)).trans (ext0_new k7)) _ _ updM_same)).snoc (bad_one s wfi) ((((ext0_new k5).trans (ext0_new k6)).trans (ext0_new k7)) _ _ updM_same) (((ext0_new k6).trans (ext0_new k7)) _ _ updM_same)).snoc (bad_word s (.inr nw_Q) (.inl mk_em) (.inl nw_Q)) ((ext0_new k7) _ _ updM_same) (Ext0.refl _ _ updM_same)), (g3.trans (((((((ext0_new k1).trans (ext0_new k2)).trans (ext0_new k3)).trans (ext0_new k4)).trans (ext0_new k5)).trans (ext0_new k6)).trans (ext0_new k7)))⟩⟩⟩⟩⟩⟩⟩⟩⟩
  rintro S ⟨rows, rs, N, rfl, hrs, hlen, hrows, g3⟩
  have g_p := g3 _ _ m1
  apply via_tail (TOk := SR 6)
  case main =>
   intro tail
   exact ⟨rfl, rfl, rfl, p, sh, (Str.ofString ""), (Str.ofString "+"), rfl, (Ext0.refl _ _ g_p), by omega, fun b1 k1 => ⟨rfl, fun b2 k2 => ⟨rfl, l1 2 (by decide), rfl, rfl, rfl, rfl, p, sh, (Str.ofString "abcdefghijklm"), (Str.ofString ""), rfl, (((ext0_new k1).trans (ext0_new k2)) _ _ g_p), by omega, fun b3 k3 => ⟨rfl, fun b4 k4 => ⟨rfl, l1 2 (by decide), rfl, l1 2 (by decide), rows.map rowR, _, by rw [← hrs]; rfl, rfl, by rw [List.length_map]; show rows.length + 2 ≤ _; exact l1 _ (by omega), rfl, tail _ ⟨((rows ++ [(b1, b2)]) ++ [(b3, b4)]), _, _, rfl, by simp [rowR], by simp; try omega, (((hrows.ext ((((ext0_new k1).trans (ext0_new k2)).trans (ext0_new k3)).trans (ext0_new k4))).snoc (bad_word s (.inr nw_e) (.inl mk_plus) (.inl nw_e)) ((((ext0_new k2).trans (ext0_new k3)).trans (ext0_new k4)) _ _ updM_same) (((ext0_new k3).trans (ext0_new k4)) _ _ updM_same)).snoc (bad_word s (.inr nw_13) (.inl mk_em) (.inl nw_13)) ((ext0_new k4) _ _ updM_same) (Ext0.refl _ _ updM_same)), (g3.trans ((((ext0_new k1).trans (ext0_new k2)).trans (ext0_new k3)).trans (ext0_new k4)))⟩⟩⟩⟩⟩⟩
  rintro S ⟨rows, rs, N, rfl, hrs, hlen, hrows, g3⟩
  have g_p := g3 _ _ m1
  apply via_tail (TOk := SR 8)
  case main =>
   intro tail
   exact ⟨rfl, rfl, rfl, p, sh, (Str.ofString "okay"), (Str.ofString "+x"), rfl, (Ext0.refl _ _ g_p), by omega, fun b1 k1 => ⟨rfl, fun b2 k2 => ⟨rfl, l1 2 (by decide), rfl, rfl, rfl, rfl, p, sh, (Str.ofString "okay"), (Str.ofString "+-+-"), rfl, (((ext0_new k1).trans (ext0_new k2)) _ _ g_p), by omega, fun b3 k3 => ⟨rfl, fun b4 k4 => ⟨rfl, l1 2 (by decide), rfl, l1 2 (by decide), rows.map rowR, _, by rw [← hrs]; rfl, rfl, by rw [List.length_map]; show rows.length + 2 ≤ _; exact l1 _ (by omega), rfl, tail _ ⟨((rows ++ [(b1, b2)]) ++ [(b3, b4)]), _, _, rfl, by simp [rowR], by simp; try omega, (((hrows.ext ((((ext0_new k1).trans (ext0_new k2)).trans (ext0_new k3)).trans (ext0_new k4))).snoc (bad_word s (.inl wd_okay) (.inr nm_x) (.inr nm_x)) ((((ext0_new k2).trans (ext0_new k3)).trans (ext0_new k4)) _ _ updM_same) (((ext0_new k3).trans (ext0_new k4)) _ _ updM_same)).snoc (bad_word s (.inl wd_okay) (.inr nm_4) (.inr nm_4)) ((ext0_new k4) _ _ updM_same) (Ext0.refl _ _ updM_same)), (g3.trans ((((ext0_new k1).trans (ext0_new k2)).trans (ext0_new k3)).trans (ext0_new k4)))⟩⟩⟩⟩⟩⟩
  rintro S ⟨rows, rs, N, rfl, hrs, hlen, hrows, g3⟩
  have g_p := g3 _ _ m1
  apply via_tail (TOk := SR 11)
  case main =>
   intro tail
   exact ⟨rfl, _, rfl, rfl, by show 1 ≤ 15; decide, fun b1 k1 => ⟨rfl, l1 2 (by decide), rfl, rfl, _, rfl, rfl, by show 1 ≤ 15; decide, fun b2 k2 => ⟨rfl, l1 2 (by decide), rfl, rfl, _, rfl, rfl, by show 1 ≤ 15; decide, fun b3 k3 => ⟨rfl, l1 2 (by decide), rfl, l1 3 (by decide), rows.map rowR, _, by rw [← hrs]; rfl, rfl, by rw [List.length_map]; show rows.length + 3 ≤ _; exact l1 _ (by omega), rfl, tail _ ⟨(((rows ++ [(p, b1)]) ++ [(p, b2)]) ++ [(p, b3)]), _, _, rfl, by simp [rowR], by simp; try omega, ((((hrows.ext (((ext0_new k1).trans (ext0_new k2)).trans (ext0_new k3))).snoc (bad_above s fi) ((((ext0_new k1).trans (ext0_new k2)).trans (ext0_new k3)) _ _ g_p) (((ext0_new k2).trans (ext0_new k3)) _ _ updM_same)).snoc (bad_below s fi) ((((ext0_new k1).trans (ext0_new k2)).trans (ext0_new k3)) _ _ g_p) ((ext0_new k3) _ _ updM_same)).snoc (bad_self s t) ((((ext0_new k1).trans (ext0_new k2)).trans (ext0_new k3)) _ _ g_p) (Ext0.refl _ _ updM_same)), (g3.trans (((ext0_new k1).trans (ext0_new k2)).trans (ext0_new k3)))⟩⟩⟩⟩⟩
  rintro S ⟨rows, rs, N, rfl, hrs, hlen, hrows, g3⟩
  have g_p := g3 _ _ m1
  apply via_tail (TOk := SR 12)
  case main =>
   intro tail
   exact ⟨rfl, _, rfl, rfl, _, rfl, rfl, by show 2 ≤ 15; decide, fun b1 k1 => ⟨rfl, l1 2 (by decide), rfl, l1 1 (by decide), rows.map rowR, _, by rw [← hrs]; rfl, rfl, by rw [List.length_map]; show rows.length + 1 ≤ _; exact l1 _ (by omega), rfl, tail _ ⟨(rows ++ [(p, b1)]), _, _, rfl, by simp [rowR], by simp; try omega, ((hrows.ext (ext0_new k1)).snoc (bad_ring s t) ((ext0_new k1) _ _ g_p) (by rw [← merge2 ne]; exact (Ext0.refl _ _ updM_same))), (g3.trans (ext0_new k1))⟩⟩⟩
  rintro S ⟨rows, rs, N, rfl, hrs, hlen, hrows, g3⟩
  have g_p := g3 _ _ m1
  refine ⟨rfl, rfl, rfl, p, sh, lng, (Str.ofString "-"), rfl, g_p, by omega, fun c kc => ⟨rfl, ?_⟩⟩
  have g_c := updM_same (M := N) (a := c) (m := .dk none (shD (putS sh lng (Str.ofString "-"))))
  have gx : Ext0 N (updM N c (.dk none (shD (putS sh lng (Str.ofString "-"))))) := ext0_new kc
  have g3 := g3.trans gx
  have hrows := hrows.ext gx
  exact ⟨rfl, _, rfl, rfl, by show 1 ≤ 15; decide, fun b1 k1 => ⟨rfl, l1 2 (by decide), rfl, rfl, _, rfl, rfl, by show 1 ≤ 15; decide, fun b2 k2 => ⟨rfl, l1 2 (by decide), rfl, l1 2 (by decide), rows.map rowR, _, by rw [← hrs]; rfl, rfl, by rw [List.length_map]; show rows.length + 2 ≤ _; exact l1 _ (by omega), rfl, (by have key := q (((rows ++ [(c, b1)]) ++ [(c, b2)])) _ (g3.trans ((ext0_new k1).trans (ext0_new k2))) (((hrows.ext ((ext0_new k1).trans (ext0_new k2))).snoc (bad_above2 s fi) (((ext0_new k1).trans (ext0_new k2)) _ _ g_c) ((ext0_new k2) _ _ updM_same)).snoc (bad_below2 s fi) (((ext0_new k1).trans (ext0_new k2)) _ _ g_c) (Ext0.refl _ _ updM_same)) (by simp; omega); rw [show List.map rowR (((rows ++ [(c, b1)]) ++ [(c, b2)])) = rows.map rowR ++ [rowR (c, b1), rowR (c, b2)] from by simp] at key; exact key)⟩⟩⟩
end
end VL
set_option Elab.async false
set_option linter.all false
set_option pp.maxSteps 3000
set_option maxRecDepth 100000
set_option maxHeartbeats 1000000
namespace VL
open PySem PySem.Spec PyProof.Rows L2
section
variable {P : Program} {w : World} {K : PySem.W.Frag} {mg : Str → Option Value} {base : Heap}
theorem menu_pm : ∀ v ∈ [Str.ofString "+", Str.ofString "-+", Str.ofString "++-", Str.ofString "-", Str.ofString "+-+"], v.cps.toList.length ≤ 3 ∧ ∀ c ∈ v.cps.toList, c = 43 ∨ c = 45 := by decide +kernel
theorem ab_c : ∀ c ∈ (Str.ofString "AB").cps.toList, 65 ≤ c ∧ c ≤ 90 := by decide +kernel
/-- a new stock is made and frozen: what stood, stands -/
theorem frz_ext {M M' : Mx} {x a1 a2 a3 : Addr} {m : MO} (nx : M x = none) (n1 : updM M x m a1 = none) (n2 : updM M x m a2 = none) (n3 : updM M x m a3 = none) (hout : ∀ b, b ≠ x → b ≠ a1 → b ≠ a2 → b ≠ a3 → M' b = updM M x m b) : Ext0 M (dropM M' [x, a1, a2, a3]) := fun b k e => by
  have hx : b ≠ x := fun z => by rw [z, nx] at e; cases e
  have e' : updM M x m b = some k := by rw [updM_ne hx]; exact e
  have h1 : b ≠ a1 := fun z => by rw [z, n1] at e'; cases e'
  have h2 : b ≠ a2 := fun z => by rw [z, n2] at e'; cases e'
  have h3 : b ≠ a3 := fun z => by rw [z, n3] at e'; cases e'
  rw [dropM_out (by simp [hx, h1, h2, h3]), hout b hx h1 h2 h3]
  exact e'
theorem shv_len {sh : List (Str × Str)} (s : ShpS sh) : ∀ z v, (z, v) ∈ sh → v.length ≤ sizeLine := fun z v hz => by
  rw [str_len]
  have := s.shp.ar _ hz
  exact sz_le (show v.cps.toList.length ≤ 1000 from Nat.le_trans this (by decide))
theorem ok_law (T : Tx P K mg) (G_Stock_init : FnOk P w K mg base (L2.CX P w) 3 T.f_Stock_init T.fd_Stock_init ["self", "shapes", "under"] (spOf K (dc_Stock_init T.C_Stock T.C_BadKind))) (G_Stock_fits : FnOk P w K mg base (L2.CX P w) 3 T.f_Stock_fits T.fd_Stock_fits ["self", "form"] (spOf K (dc_Stock_fits T.C_Stock))) (G_Stock_flat : FnOk P w K mg base (L2.CX P w) 1 T.f_Stock_flat T.fd_Stock_flat ["self"] (spOf K (dc_Stock_flat T.C_Stock))) (G_l_bad_stocks : FnOk P w K mg base (L2.CX P w) 2 T.f_l_bad_stocks T.fd_l_bad_stocks ["_law_shapes", "_law_first", "_law_second"] (spOf K dc_l_bad_stocks)) (G_l_fits : FnOk P w K mg base (L2.CX P w) 4 T.f_l_fits T.fd_l_fits ["_law_stock_here", "_law_pattern", "_law_first"] (spOf K (dc_l_fits T.C_Stock))) (G_l_flat : FnOk P w K mg base (L2.CX P w) 3 T.f_l_flat T.fd_l_flat ["_law_stock_here", "_law_under"] (spOf K (dc_l_flat T.C_Stock))) (G_l_form : FnOk P w K mg base (L2.CX P w) 4 T.f_l_form T.fd_l_form ["_law_tape_here", "_law_shapes", "_law_letters", "_law_depth"] (spOf K (dc_l_form 3))) (G_l_refused : FnOk P w K mg base (L2.CX P w) 5 T.f_l_refused T.fd_l_refused ["_law_shapes", "_law_under"] (spOf K (dc_l_refused T.C_Stock))) (G_l_stock : FnOk P w K mg base (L2.CX P w) 3 T.f_l_stock T.fd_l_stock ["_law_tape_here", "_law_flat_here", "_law_menu"] (spOf K dc_l_stock)) (G_l_take : FnOk P w K mg base (L2.CX P w) 1 T.f_l_take T.fd_l_take ["_law_tape_here", "_law_many"] (spOf K dc_l_take)) (G_l_tape : FnOk P w K mg base (L2.CX P w) 2 T.f_l_tape T.fd_l_tape ["_law_script", "_law_k", "_law_size"] (spOf K dc_l_tape)) (G_l_with : FnOk P w K mg base (L2.CX P w) 1 T.f_l_with T.fd_l_with ["_law_shapes", "_law_word", "_law_marks"] (spOf K dc_l_with)) : FnOk P w K mg base (L2.CX P w) 6 T.f_law T.fd_law ["_law_script"] (spOf K dc_law) := by
  have sc := scLaw
  refine okD T.d_law.F sc (fun ds M Q X h => ?_) (fun cdv A outer s H E c ds M Qd Xd hn hr h hX => ?_)
  · obtain ⟨d, ns, rfl, _⟩ := h
    rfl
  have tk := takes_of (X := cxOf (L2.CX P w) P w K mg base NLaw "law" (defScope sLaw) T.f_law cdv A outer s H E) rfl rfl rfl rfl
  refine ⟨_, (ss_cons (s_set (i := 1) sc.nd rfl (by first | exact .inl rfl | exact .inr rfl) (by rw [hn]; decide) (v_call G_l_tape (hr.mono (by decide)) (by rfl) T.d_l_tape.g T.d_l_tape.F.kp T.d_l_tape.b tk hX (v_cons (vv 0) (v_cons vi (v_cons vi v_nil)))))
  (ss_cons (s_set (i := 2) sc.nd rfl (by first | exact .inl rfl | exact .inr rfl) (by rw [hn]; decide) (v_call G_l_stock (hr.mono (by decide)) (by rfl) T.d_l_stock.g T.d_l_stock.F.kp T.d_l_stock.b tk hX (v_cons (vv 1) (v_cons (v_cmp (op_eqA hr.units) lEq (nomark _) (v_call G_l_take (hr.mono (by decide)) (by rfl) T.d_l_take.g T.d_l_take.F.kp T.d_l_take.b tk hX (v_cons (vv 1) (v_cons vi v_nil))) vi) (v_cons (vOf (v_lst (v_cons vs (v_cons vs (v_cons vs (v_cons vs (v_cons vs v_nil))))))) v_nil)))))
  (ss_cons (s_set (i := 3) sc.nd rfl (by first | exact .inl rfl | exact .inr rfl) (by rw [hn]; decide) (v_ix (vv 2) vi (fun _ _ => rfl)))
  (ss_cons (s_set (i := 4) sc.nd rfl (by first | exact .inl rfl | exact .inr rfl) (by rw [hn]; decide) (v_ix (vv 2) vi (fun _ _ => rfl)))
  (ss_cons (s_set (i := 5) sc.nd rfl (by first | exact .inl rfl | exact .inr rfl) (by rw [hn]; decide) (v_ix (vOf (v_lkL (v_lc rfl sc.nd (i_keys (vv 3)) (blkOk_by (own := [("_law_word", 13)]) (N := NLaw) (sc := defScope sLaw) (by decide +kernel)) (fun c1 e1 => (lgN (i := 13) (by rw [e1, hn]; decide))) (fun _ _ _ _ _ => (pg_name (i := 13) sc.nd rfl (by first | exact .inl rfl | exact .inr rfl))) (fun _ _ _ _ _ _ _ => ts_nil) (fun _ _ _ _ _ c1 e1 => (vv 13)) (by decide)))) vi (fun _ _ => rfl)))
  (ss_cons (s_set (i := 6) sc.nd rfl (by first | exact .inl rfl | exact .inr rfl) (by rw [hn]; decide) (v_ix (vOf (v_lkL (v_lc rfl sc.nd (i_keys (vv 3)) (blkOk_by (own := [("_law_word", 13)]) (N := NLaw) (sc := defScope sLaw) (by decide +kernel)) (fun c1 e1 => (lgN (i := 13) (by rw [e1, hn]; decide))) (fun _ _ _ _ _ => (pg_name (i := 13) sc.nd rfl (by first | exact .inl rfl | exact .inr rfl))) (fun _ _ _ _ _ _ _ => ts_nil) (fun _ _ _ _ _ c1 e1 => (vv 13)) (by decide)))) vi (fun _ _ => rfl)))
  (ss_cons (s_set (i := 7) sc.nd rfl (by first | exact .inl rfl | exact .inr rfl) (by rw [hn]; decide) (v_call G_l_form (hr.mono (by decide)) (by rfl) T.d_l_form.g T.d_l_form.F.kp T.d_l_form.b tk hX (v_cons (vv 1) (v_cons (vv 3) (v_cons vs (v_cons vi v_nil))))))
  (ss_cons (s_set (i := 8) sc.nd rfl (by first | exact .inl rfl | exact .inr rfl) (by rw [hn]; decide) (vOf (v_lst (v_cons (v_ct1 call_dcopy lDcopy (by rfl) T.n_dict (by decide +kernel) (vv 3)) (v_cons (v_ct1 call_dcopy lDcopy (by rfl) T.n_dict (by decide +kernel) (vv 4)) v_nil)))))
  (ss_cons (s_set (i := 9) sc.nd rfl (by first | exact .inl rfl | exact .inr rfl) (by rw [hn]; decide) (vFrz (v_make G_Stock_init (hr.mono (by decide)) T.m_Stock_init (by rfl) T.c_Stock.g T.d_Stock_init.b tk hX (v_cons (v_ix (vv 8) vi (fun _ _ => rfl)) (v_cons (v_ix (vv 8) vi (fun _ _ => rfl)) v_nil)))))
  (ss_cons (s_if (PW.pt (v_or (v_not (vTr (v_call G_l_flat (hr.mono (by decide)) (by rfl) T.d_l_flat.g T.d_l_flat.F.kp T.d_l_flat.b tk hX (v_cons (vv 9) (v_cons (vv 4) v_nil))))) (pw_or1 (v_not (vTr (v_call G_l_fits (hr.mono (by decide)) (by rfl) T.d_l_fits.g T.d_l_fits.F.kp T.d_l_fits.b tk hX (v_cons (vv 9) (v_cons (vv 7) (v_cons (vv 5) v_nil)))))))))
  (ss_one (s_ret vb))
  ss_nil)
  (ss_cons (s_putD (hu_of hr) vs (v_ix (vv 8) vi (fun _ _ => rfl)) (vv 5))
  (ss_cons (s_putD (hu_of hr) vs (v_ix (vv 8) vi (fun _ _ => rfl)) (vv 6))
  (ss_cons (s_expr (v_clear (v_ix (vv 8) vi (fun _ _ => rfl))))
  (ss_cons (s_if (PW.pt (v_or (v_not (vTr (v_call G_l_flat (hr.mono (by decide)) (by rfl) T.d_l_flat.g T.d_l_flat.F.kp T.d_l_flat.b tk hX (v_cons (vv 9) (v_cons (vv 4) v_nil))))) (pw_or1 (v_not (vTr (v_call G_l_fits (hr.mono (by decide)) (by rfl) T.d_l_fits.g T.d_l_fits.F.kp T.d_l_fits.b tk hX (v_cons (vv 9) (v_cons (vv 7) (v_cons (vv 5) v_nil)))))))))
  (ss_one (s_ret vb))
  ss_nil)
  (ss_cons (s_if (vt_cmp op_isNotB lIsNotB (nomark _) (v_prop G_Stock_flat (hr.mono (by decide)) T.c_Stock.cl T.d_Stock_flat.p T.d_Stock_flat.b (vFrz (v_makeE G_Stock_init (hr.mono (by decide)) T.m_Stock_init (by rfl) T.c_Stock.g T.de_Stock_init (fun _ _ => rpa_n _ _) tk hX (v_cons (v_ct1 call_dcopy lDcopy (by rfl) T.n_dict (by decide +kernel) (vv 3)) v_nil)))) vb)
  (ss_one (s_ret vb))
  ss_nil)
  (ss_cons (s_for (passes_of rfl) rfl (i_sq (v_call G_l_bad_stocks (hr.mono (by decide)) (by rfl) T.d_l_bad_stocks.g T.d_l_bad_stocks.F.kp T.d_l_bad_stocks.b tk hX (v_cons (vv 3) (v_cons (vv 5) (v_cons (vv 6) v_nil))))) (pg_name (i := 10) sc.nd rfl (by first | exact .inl rfl | exact .inr rfl)) (lgN (i := 10) (by rw [hn]; decide))
  (ss_one (s_if (v_not (vTr (v_call G_l_refused (hr.mono (by decide)) (by rfl) T.d_l_refused.g T.d_l_refused.F.kp T.d_l_refused.b tk hX (v_cons (v_ix (vv 10) vi (fun _ _ => rfl)) (v_cons (v_ix (vv 10) vi (fun _ _ => rfl)) v_nil)))))
  (ss_one (s_ret vb))
  ss_nil)))
  (ss_cons (s_set (i := 11) sc.nd rfl (by first | exact .inl rfl | exact .inr rfl) (by rw [hn]; decide) (v_ct1 call_dcopy lDcopy (by rfl) T.n_dict (by decide +kernel) (vv 3)))
  (ss_cons (s_for (passes_of rfl) rfl (i_str vs) (pg_name (i := 12) sc.nd rfl (by first | exact .inl rfl | exact .inr rfl)) (lgN (i := 12) (by rw [hn]; decide))
  (ss_one (s_if (vt_cmp op_lt lC (nomark _) (v_cb1 call_lenA lLenD (by rfl) T.n_len (by decide +kernel) (vv 11)) vi)
  (ss_one (s_putD (hu_of hr) vs (vv 11) (v_op op_addA lAdd vs (vv 12))))
  ss_nil)))
  (ss_cons (s_if (vt_cmp op_isNotB lIsNotB (nomark _) (v_meth G_Stock_fits (hr.mono (by decide)) T.c_Stock.cl T.d_Stock_fits.m T.d_Stock_fits.b tk hX (vFrz (v_make G_Stock_init (hr.mono (by decide)) T.m_Stock_init (by rfl) T.c_Stock.g T.d_Stock_init.b tk hX (v_cons (vv 11) (v_cons (v_ct1 call_dcopy lDcopy (by rfl) T.n_dict (by decide +kernel) (vv 4)) v_nil)))) (v_cons (v_tup (v_cons vs v_nil)) v_nil)) vb)
  (ss_one (s_ret vb))
  ss_nil)
  (ss_one (s_ret (v_call G_l_refused (hr.mono (by decide)) (by rfl) T.d_l_refused.g T.d_l_refused.F.kp T.d_l_refused.b tk hX (v_cons (v_call G_l_with (hr.mono (by decide)) (by rfl) T.d_l_with.g T.d_l_with.F.kp T.d_l_with.b tk hX (v_cons (vv 11) (v_cons vs (v_cons vs v_nil)))) (v_cons v_dnew v_nil)))))))))))))))))))))))), ?_⟩
  obtain ⟨d, ns, rfl, hs, hl, q⟩ := h
  have dO : d.isO = false := by rcases hs with rfl | rfl <;> rfl
  have ne_of : ∀ {a b : Addr} {m : MO} {N : Mx}, N a = none → N b = some m → b ≠ a := fun h1 h2 e => by rw [e, h1] at h2; cases h2
  let TA : Sx → Prop := fun S => ∃ (p p1 p2 : Addr) (sh un : List (Str × Str)) (fi se : Str) (f : Da) (M5 : Mx), ShpS sh ∧ Und sh un ∧ Two sh fi se ∧ Fo sh (Str.ofString "AB") 3 f ∧ p1 ≠ p2 ∧ M5 p1 = some (.dk none (shD sh)) ∧ M5 p2 = some (.dk none (shD un)) ∧
    S = ⟨[.val d, .val (.r p), .val (.t [.r p1, .r p2]), .val (.r p1), .val (.r p2), .val (.s fi), .val (.s se), .val f, .no, .no, .no, .no, .no, .no], M5⟩
  apply via_tail (TOk := TA)
  case main =>
    intro tail
    refine ⟨dO, rfl, rfl, d, ns, 0, 60, rfl, hs, hl, by decide, fun p M1 n1 t1 => ⟨rfl, ?_⟩⟩
    refine ⟨rfl, rfl, rfl, p, 3, rfl, t1.tp, by decide, fun r0 M2 hr0 t2 => ?_⟩
    refine .inl ⟨rfl, rfl, rfl, rfl, ?_⟩
    refine ⟨rfl, rfl, rfl, rfl, rfl, by show 5 ≤ sizeLine; decide, rfl, p, _, [Str.ofString "+", Str.ofString "-+", Str.ofString "++-", Str.ofString "-", Str.ofString "+-+"], rfl, t2.tp, by decide, by decide, fun v hv => (menu_pm v hv).1, fun v hv => (menu_pm v hv).2, fun sh p1 p2 un M3 shs und _ st n2 h2p h2q hud => ⟨rfl, ?_⟩⟩
    have shp := shs.shp
    have d3 := st.dk
    obtain ⟨fi, se, t⟩ := two_of shp
    refine ⟨_, atI_nat (j := 0) rfl, rfl, _, atI_nat (j := 1) rfl, rfl, ?_⟩
    have at_ : ∀ r, (h : r < sh.length) → atI ((sh.map (·.1)).map Da.s) (r : Int) = some (.s sh[r].1) := fun r h => by
      rw [atI_some (by simp [h])]
      simp
    have at0 : atI ((sh.map (·.1)).map Da.s) 0 = some (.s fi) := by
      obtain ⟨r, rfl⟩ := t
      exact at_ 0 (by simp)
    have at1 : atI ((sh.map (·.1)).map Da.s) 1 = some (.s se) := by
      obtain ⟨r, rfl⟩ := t
      exact at_ 1 (by simp)
    have kO : ∀ d ∈ (shD sh).map keyD, (id d).isO = false := fun d hd => by
      rw [keys_shD] at hd
      obtain ⟨z, _, rfl⟩ := List.mem_map.mp hd
      rfl
    have kl : ((shD sh).map keyD).length ≤ sizeLine := by rw [List.length_map, shD_len]; exact sz_le (by have := shs.hi; omega)
    refine ⟨p1, shD sh, d3, fun od => ⟨p1, od, shD sh, rfl, updM_same, ?_⟩⟩
    refine lc_map id (fun d hd R1 hR1 => hR1 _ (Agr.wipe.set (by decide))) kO kl ?_
    rw [List.map_id, keys_shD]
    have eM : updM (updM M3 p1 (.dk (some od) (shD sh))) p1 (.dk none (shD sh)) = M3 := by
      rw [updM_upd]
      exact updM_id d3
    refine ⟨updM_same, _, _, rfl, at0, rfl, ?_⟩
    show wSeq _ _ _ ⟨[.val d, .val (.r p), .val (.t [.r p1, .r p2]), .val (.r p1), .val (.r p2), .val (.s fi), .no, .no, .no, .no, .no, .no, .no, .no], updM (updM M3 p1 (.dk (some od) (shD sh))) p1 (.dk none (shD sh))⟩
    rw [eM]
    refine ⟨p1, shD sh, d3, fun od2 => ⟨p1, od2, shD sh, rfl, updM_same, ?_⟩⟩
    refine lc_map id (fun d hd R1 hR1 => hR1 _ (Agr.wipe.set (by decide))) kO kl ?_
    rw [List.map_id, keys_shD]
    have eM2 : updM (updM M3 p1 (.dk (some od2) (shD sh))) p1 (.dk none (shD sh)) = M3 := by
      rw [updM_upd]
      exact updM_id d3
    refine ⟨updM_same, _, _, rfl, at1, rfl, ?_⟩
    show wSeq _ _ _ ⟨[.val d, .val (.r p), .val (.t [.r p1, .r p2]), .val (.r p1), .val (.r p2), .val (.s fi), .val (.s se), .no, .no, .no, .no, .no, .no, .no], updM (updM M3 p1 (.dk (some od2) (shD sh))) p1 (.dk none (shD sh))⟩
    rw [eM2]
    have hp1 : p1 ≠ p := st.ne
    exact ⟨rfl, rfl, rfl, rfl, p, p1, sh, Str.ofString "AB", 2, rfl, hp1, st.tp, d3, shp, by decide +kernel, by decide, fun f M5 t5 hf => ⟨hf.nO, tail _ ⟨p, p1, p2, sh, un, fi, se, f, M5, shs, und, t, hf, Ne.symm h2q, (t5.out p1 hp1).trans d3, (t5.out p2 h2p).trans hud, rfl⟩⟩⟩
  rintro S ⟨p, p1, p2, sh, un, fi, se, f, M5, shs, und, t, hf, p12, d5, u5, rfl⟩
  have shp := shs.shp
  have cl := shs.cls
  have okk := ok_stock shs t und
  obtain ⟨fu1, fu2, fne⟩ := t.up shp.nd
  have wfi : Wd fi := by
    obtain ⟨r, e⟩ := t
    exact shp.wd (fi, Str.empty) (by rw [e]; simp)
  have fk := fo_fkl shp ab_c hf
  have fz : f.sz ≤ 53 := fo_sz shp hf
  have ff := fo_fit hf
  have fO := hf.nO
  have l1 : ∀ n : Nat, n ≤ 30 → n ≤ sizeLine := fun n h => by rw [sizeLine_eq]; omega
  have ul : un.length ≤ 1000 := by have := und.hi; omega
  let TB : Sx → Prop := fun S => ∃ (q1 q2 : Addr) (M6 : Mx), Ext0 M5 M6 ∧ q1 ≠ q2 ∧ p1 ≠ q1 ∧ p1 ≠ q2 ∧ p2 ≠ q1 ∧ p2 ≠ q2 ∧ M6 q1 = some (.dk none (shD sh)) ∧ M6 q2 = some (.dk none (shD un)) ∧ S = ⟨[.val d, .val (.r p), .val (.t [.r p1, .r p2]), .val (.r p1), .val (.r p2), .val (.s fi), .val (.s se), .val f, .val (.l [.r q1, .r q2]), .val (stD T.C_Stock sh un), .no, .no, .no, .no], M6⟩
  apply via_tail (TOk := TB)
  case main =>
    intro tail
    refine ⟨shD sh, dk_r d5, fun q1 k1 => ⟨rfl, shD un, dk_r (S := ⟨_, updM M5 q1 (.dk none (shD sh))⟩) (lk := none) (ext0_new k1 _ _ u5), fun q2 k2 => ⟨rfl, l1 2 (by decide), rfl, ?_⟩⟩⟩
    have k1' : M5 q1 = none := k1
    have k2' : updM M5 q1 (.dk none (shD sh)) q2 = none := k2
    have q12 : q1 ≠ q2 := ne_of k2' updM_same
    have x1 : Ext0 M5 (updM M5 q1 (.dk none (shD sh))) := ext0_new k1'
    have x2 : Ext0 (updM M5 q1 (.dk none (shD sh))) (updM (updM M5 q1 (.dk none (shD sh))) q2 (.dk none (shD un))) := ext0_new k2'
    have m1 := x2 _ _ (updM_same (M := M5) (a := q1) (m := .dk none (shD sh)))
    have m2 := updM_same (M := updM M5 q1 (.dk none (shD sh))) (a := q2) (m := .dk none (shD un))
    refine ⟨_, _, rfl, atI_nat (j := 0) rfl, rfl, _, _, rfl, atI_nat (j := 1) rfl, rfl, fun x nx => ?_⟩
    have nx' : updM (updM M5 q1 (.dk none (shD sh))) q2 (.dk none (shD un)) x = none := nx
    refine ⟨x, q1, .r q2, sh, un, rfl, updM_same, ne_of nx' m1, .inr ⟨q2, rfl, ne_of nx' m2, ext0_new nx' _ _ m2⟩, cl, ul, ext0_new nx' _ _ m1, .inl ⟨okk, fun a1 a2 a3 M' na1 na2 na3 n12 n13 n23 hout hx h1 h2 h3 => ?_⟩⟩
    have ex := frz_ext nx' na1 na2 na3 hout
    exact ⟨rfl, x, T.C_Stock, _, [("shapes", .dk (shD sh)), ("under", .dk (shD un)), ("chains", .dk (chD sh un))], [a1, a2, a3], rfl, hx, .cons (.dk h1 (by simp)) (.cons (.dk h2 (by simp)) (.cons (.dk h3 (by simp)) .nil)), rfl, tail _ ⟨q1, q2, _, (x1.trans x2).trans ex, q12, ne_of k1' d5, ne_of k2' (x1 _ _ d5), ne_of k1' u5, ne_of k2' (x1 _ _ u5), ex _ _ m1, ex _ _ m2, rfl⟩⟩
  rintro S ⟨q1, q2, M6, x6, q12, p1q1, p1q2, p2q1, p2q2, m1, m2, rfl⟩
  have d6 := x6 _ _ d5
  have u6 := x6 _ _ u5
  have lngN : upS sh lng = none := up_none (long_new shs (by rw [lng_len]; decide))
  let TC : Sx → Prop := fun S => ∃ (M7 : Mx), M7 p1 = some (.dk none (shD sh)) ∧ M7 p2 = some (.dk none (shD un)) ∧ S = ⟨[.val d, .val (.r p), .val (.t [.r p1, .r p2]), .val (.r p1), .val (.r p2), .val (.s fi), .val (.s se), .val f, .val (.l [.r q1, .r q2]), .val (stD T.C_Stock sh un), .no, .no, .no, .no], M7⟩
  apply via_tail (TOk := TC)
  case main =>
    intro tail
    refine ⟨rfl, rfl, sh, un, p2, rfl, u6, ?_⟩
    refine ⟨rfl, fO, rfl, true, sh, un, f, fi, rfl, shp.nd, shv_len shs, fk, by omega, ff, fu1, wfi, lngN, ?_⟩
    dsimp only [trD]
    rw [if_neg (by decide)]
    have le : ∀ n : Nat, n ≤ 30 → n < sizeLine := fun n h => by rw [sizeLine_eq]; omega
    have z1 : (shD sh).length ≤ 7 := by rw [shD_len]; exact shs.hi
    refine ⟨_, _, rfl, atI_nat (j := 0) rfl, rfl, q1, shD sh, .inr fi, rfl, m1, rfl, le _ (by omega), ?_⟩
    have z2 : (putD (shD sh) (.inr fi) (.s (Str.ofString "++"))).length ≤ 8 := by
      have := putD_length (kds := shD sh) (k := .inr fi) (d := .s (Str.ofString "++"))
      omega
    generalize putD (shD sh) (.inr fi) (.s (Str.ofString "++")) = K1 at z2 ⊢
    refine ⟨_, _, rfl, atI_nat (j := 0) rfl, rfl, q1, K1, .inr se, rfl, updM_same, rfl, le _ (by omega), ?_⟩
    generalize putD K1 (.inr se) (.s (Str.ofString "+")) = K2
    refine ⟨_, _, rfl, atI_nat (j := 1) rfl, q2, shD un, rfl, ?_, ?_⟩
    · show updM (updM M6 q1 _) q1 _ q2 = _
      rw [updM_upd, updM_ne (Ne.symm q12)]
      exact m2
    let M7 : Mx := updM (updM (updM M6 q1 (.dk none K1)) q1 (.dk none K2)) q2 (.dk none [])
    have g1 : M7 p1 = some (.dk none (shD sh)) := by show updM (updM (updM M6 q1 _) q1 _) q2 _ p1 = _; rw [updM_ne p1q2, updM_ne p1q1, updM_ne p1q1]; exact d6
    have g2 : M7 p2 = some (.dk none (shD un)) := by show updM (updM (updM M6 q1 _) q1 _) q2 _ p2 = _; rw [updM_ne p2q2, updM_ne p2q1, updM_ne p2q1]; exact u6
    refine ⟨rfl, rfl, sh, un, p2, rfl, g2, ?_⟩
    refine ⟨rfl, fO, rfl, true, sh, un, f, fi, rfl, shp.nd, shv_len shs, fk, by omega, ff, fu1, wfi, lngN, ?_⟩
    dsimp only [trD]
    rw [if_neg (by decide)]
    exact tail _ ⟨M7, g1, g2, rfl⟩
  rintro S ⟨M7, d7, u7, rfl⟩
  have ok0 : okS sh [] := ok_stock shs t ⟨by simp, by simp, by simp⟩
  let TD : Sx → Prop := fun S => ∃ (y8 : Slx) (M8 : Mx), M8 p1 = some (.dk none (shD sh)) ∧ M8 p2 = some (.dk none (shD un)) ∧ S = ⟨[.val d, .val (.r p), .val (.t [.r p1, .r p2]), .val (.r p1), .val (.r p2), .val (.s fi), .val (.s se), .val f, y8, .val (stD T.C_Stock sh un), .no, .no, .no, .no], M8⟩
  apply via_tail (TOk := TD)
  case main =>
    intro tail
    refine ⟨shD sh, dk_r d7, fun q3 k3 => ⟨rfl, fun x nx => ?_⟩⟩
    have k3' : M7 q3 = none := k3
    have x1 : Ext0 M7 (updM M7 q3 (.dk none (shD sh))) := ext0_new k3'
    have m3 := updM_same (M := M7) (a := q3) (m := .dk none (shD sh))
    have nx' : updM M7 q3 (.dk none (shD sh)) x = none := nx
    refine ⟨x, q3, .n, sh, [], rfl, updM_same, ne_of nx' m3, .inl ⟨rfl, rfl⟩, cl, by simp, ext0_new nx' _ _ m3, .inl ⟨ok0, fun a1 a2 a3 M' na1 na2 na3 n12 n13 n23 hout hx h1 h2 h3 => ?_⟩⟩
    have ex := frz_ext nx' na1 na2 na3 hout
    refine ⟨rfl, x, T.C_Stock, _, [("shapes", .dk (shD sh)), ("under", .dk (shD [])), ("chains", .dk (chD sh []))], [a1, a2, a3], rfl, hx, .cons (.dk h1 (by simp)) (.cons (.dk h2 (by simp)) (.cons (.dk h3 (by simp)) .nil)), _, ⟨rfl, rfl⟩, sh, [], rfl, ?_⟩
    dsimp only [wC, rdIsB]
    rw [if_neg (by decide)]
    exact tail _ ⟨_, _, (x1.trans ex) _ _ d7, (x1.trans ex) _ _ u7, rfl⟩
  rintro S ⟨y8, M8, d8, u8, rfl⟩
  let TE : Sx → Prop := fun S => ∃ (y10 : Slx) (M9 : Mx), M9 p1 = some (.dk none (shD sh)) ∧ M9 p2 = some (.dk none (shD un)) ∧ S = ⟨[.val d, .val (.r p), .val (.t [.r p1, .r p2]), .val (.r p1), .val (.r p2), .val (.s fi), .val (.s se), .val f, y8, .val (stD T.C_Stock sh un), y10, .no, .no, .no], M9⟩
  apply via_tail (TOk := TE)
  case main =>
    intro tail
    refine ⟨rfl, rfl, rfl, p1, sh, fi, se, rfl, d8, shs, t, fun rows N ex hrows hlen => ?_⟩
    refine forGo_of (fun rest S => ∃ (rr : List (Addr × Addr)) (y10 : Slx) (N2 : Mx), (∀ r ∈ rr, r ∈ rows) ∧ rest = rr.map rowR ∧ Ext0 N N2 ∧ S = ⟨[.val d, .val (.r p), .val (.t [.r p1, .r p2]), .val (.r p1), .val (.r p2), .val (.s fi), .val (.s se), .val f, y8, .val (stD T.C_Stock sh un), y10, .no, .no, .no], N2⟩)
      (fun d ds S h R hR => ?_) (fun S h => ?_) _ _ ⟨rows, .no, N, fun _ h => h, rfl, Ext0.refl, rfl⟩
    · obtain ⟨rr, y10, N2, hrr, e1, e2, rfl⟩ := h
      cases rr with
      | nil => cases e1
      | cons x rr =>
      cases e1
      obtain ⟨sh', un', bad, h1, h2⟩ := hrows x (hrr x (by simp))
      refine ⟨_, atI_nat (j := 0) rfl, rfl, _, atI_nat (j := 1) rfl, rfl, x.1, x.2, sh', un', rfl, e2 _ _ h1, e2 _ _ h2, bad, fun M' e' => ?_⟩
      dsimp only [trD]
      rw [if_neg (by decide)]
      exact hR _ ⟨rr, _, M', fun y hy => hrr y (by simp [hy]), rfl, e2.trans e', rfl⟩
    · obtain ⟨rr, y10, N2, hrr, e1, e2, rfl⟩ := h
      exact tail _ ⟨y10, N2, (ex.trans e2) _ _ d8, (ex.trans e2) _ _ u8, rfl⟩
  rintro S ⟨y10, M9, d9, u9, rfl⟩
  have hi := shs.hi
  let TF : Sx → Prop := fun S => ∃ (q4 : Addr) (y12 : Slx) (M10 : Mx), M10 q4 = some (.dk none (shD (wd12 sh))) ∧ M10 p2 = some (.dk none (shD un)) ∧ S = ⟨[.val d, .val (.r p), .val (.t [.r p1, .r p2]), .val (.r p1), .val (.r p2), .val (.s fi), .val (.s se), .val f, y8, .val (stD T.C_Stock sh un), y10, .val (.r q4), y12, .no], M10⟩
  apply via_tail (TOk := TF)
  case main =>
    intro tail
    refine ⟨shD sh, dk_r d9, fun q4 k4 => ⟨rfl, ?_⟩⟩
    have k4' : M9 q4 = none := k4
    have p2q4 := ne_of k4' u9
    refine forGo_of (fun rest S => ∃ (pre rr : List Nat) (y12 : Slx) (N2 : Mx), abm = pre ++ rr ∧ rest = rr.map (fun c => Da.s ⟨#[c]⟩) ∧ (N2 q4 = some (.dk none (shD (wide sh pre))) ∧ N2 p2 = some (.dk none (shD un))) ∧ S = ⟨[.val d, .val (.r p), .val (.t [.r p1, .r p2]), .val (.r p1), .val (.r p2), .val (.s fi), .val (.s se), .val f, y8, .val (stD T.C_Stock sh un), y10, .val (.r q4), y12, .no], N2⟩)
      (fun d ds S h R hR => ?_) (fun S h => ?_) _ _ ⟨[], abm, .no, _, rfl, rfl, ⟨by rw [wide_nil]; exact updM_same, ext0_new k4' _ _ u9⟩, rfl⟩
    · obtain ⟨pre, rr, y12, N2, es, e1, ⟨g4, g2⟩, rfl⟩ := h
      cases rr with
      | nil => cases e1
      | cons c rr =>
      cases e1
      have nd := abm_nd
      have nin : c ∉ pre := fun hx => by
        rw [es] at nd
        exact (List.nodup_append.mp nd).2.2 _ hx _ (by simp) rfl
      have wl := wide_len (sh := sh) (pre := pre) (by omega)
      refine ⟨shD (wide sh pre), dku_r g4, ite2 (fun y => ?_) (fun y => ?_)⟩
      · have y' : ((shD (wide sh pre)).length : Int) < 12 := of_decide_eq_true y
        rw [shD_len] at y'
        have ea : (Str.ofString "zzzzzzzzzzz").cps.toList.length = 11 := by decide +kernel
        have e1 : (Str.mk #[c]).cps.toList.length = 1 := rfl
        refine ⟨by rw [str_len, str_len, ea, e1, sizeLine_eq]; omega, rfl, q4, shD (wide sh pre), .inr (zw c), rfl, g4, rfl, by rw [shD_len, sizeLine_eq]; omega, hR _ ⟨pre ++ [c], rr, _, _, by rw [es, List.append_assoc]; rfl, rfl, ⟨?_, ?_⟩, rfl⟩⟩
        · rw [wide_more (by omega), ← putD_shD (wide_new shs nin), ← empty_eq]
          exact updM_same
        · show updM N2 q4 _ p2 = _
          rw [updM_ne p2q4]
          exact g2
      · have y' : ¬ ((shD (wide sh pre)).length : Int) < 12 := fun h => y (decide_eq_true h)
        rw [shD_len] at y'
        exact hR _ ⟨pre ++ [c], rr, _, N2, by rw [es, List.append_assoc]; rfl, rfl, ⟨by rw [wide_full (by omega)]; exact g4, g2⟩, rfl⟩
    · obtain ⟨pre, rr, y12, N2, es, e1, ⟨g4, g2⟩, rfl⟩ := h
      have e0 : rr = [] := by cases rr with | nil => rfl | cons a b => cases e1
      subst e0
      rw [List.append_nil] at es
      subst es
      exact tail _ ⟨q4, y12, N2, g4, g2, rfl⟩
  rintro S ⟨q4, y12, M10, g4, g2, rfl⟩
  have wcl := wd12_cls shs
  have wok := wd12_ok shs t und
  have wfk : Fk true (.t [.s (zw 97)]) := .nd (wd_zw (by decide)) (by simp) (by simp)
  have wln := wd12_len shs
  refine ⟨rfl, shD un, dk_r g2, fun q5 k5 => ⟨rfl, fun x nx => ?_⟩⟩
  have k5' : M10 q5 = none := k5
  have x5 : Ext0 M10 (updM M10 q5 (.dk none (shD un))) := ext0_new k5'
  have m5 := updM_same (M := M10) (a := q5) (m := .dk none (shD un))
  have h4 := x5 _ _ g4
  have nx' : updM M10 q5 (.dk none (shD un)) x = none := nx
  refine ⟨x, q4, .r q5, wd12 sh, un, rfl, updM_same, ne_of nx' h4, .inr ⟨q5, rfl, ne_of nx' m5, ext0_new nx' _ _ m5⟩, wcl, ul, ext0_new nx' _ _ h4, .inl ⟨wok, fun a1 a2 a3 M' na1 na2 na3 n12 n13 n23 hout hx h1 h2 h3 => ?_⟩⟩
  have ex := frz_ext nx' na1 na2 na3 hout
  have j4 := ex _ _ h4
  have len12 : (wd12 sh).length ≤ 1000 := by rw [wln]; decide
  refine ⟨rfl, x, T.C_Stock, _, [("shapes", .dk (shD (wd12 sh))), ("under", .dk (shD un)), ("chains", .dk (chD (wd12 sh) un))], [a1, a2, a3], rfl, hx, .cons (.dk h1 (by simp)) (.cons (.dk h2 (by simp)) (.cons (.dk h3 (by simp)) .nil)), _, ⟨rfl, rfl⟩, rfl, rfl, l1 1 (by decide), rfl, true, wd12 sh, un, .t [.s (Str.ofString "zzzzzzzzzzza")], rfl, wcl.nd, wd12_ml shs, by rw [zw_a]; exact wfk, by simp [Da.sz, szs], ?_⟩
  rw [zw_a, wd12_fit shs]
  dsimp only [wC, rdIsB]
  rw [if_neg (by decide)]
  have j4' := (x5.trans ex) _ _ g4
  refine ⟨rfl, rfl, rfl, q4, wd12 sh, lng, Str.ofString "", rfl, j4', by rw [wln]; decide, fun q6 k6 => ⟨rfl, fun q7 k7 => ⟨rfl, q6, q7, putS (wd12 sh) lng (Str.ofString ""), [], rfl, ext0_new k7 _ _ updM_same, updM_same, bad_13 shs, fun M' e' => ⟨rfl, q _⟩⟩⟩⟩
end
end VL
set_option Elab.async false
set_option linter.all false
set_option maxRecDepth 100000
set_option maxHeartbeats 1000000
namespace VL
open PySem PySem.Spec PyProof.Rows L2
/-! ### what the top has written -/
theorem kit_self2 {K : PySem.W.Frag} {C : Addr} : PySem.W.kitOne K (.ref C) (.ref C) = some true := by
  unfold PySem.W.kitOne
  rw [if_pos (beq_self_eq_true _)]
theorem kit_builtin2 {K : PySem.W.Frag} {C : Addr} {T : String} {b : Bool} (m : PySem.W.kitMeta T = true) (h : PySem.W.subIn K (.ref C) (.type T) = some b) : PySem.W.kitOne K (.ref C) (.type T) = some b := by
  have hne : ¬ ((Value.ref C == Value.type T) = true) := fun e => by
    have e2 := beq_iff_eq.mp e
    cases e2
  unfold PySem.W.kitOne
  rw [if_neg hne]
  show (if PySem.W.kitMeta T = true then _ else none) = _
  rw [if_pos m]
  exact h
theorem kit_other2 {K : PySem.W.Frag} {C D : Addr} (h1 : PySem.W.subIn K (.ref C) (.ref C) = some true) (h2 : PySem.W.subIn K (.ref C) (.ref D) = some false) (hd : PySem.W.hasDictIn K D = true) (ht : PySem.W.typeIn K (.ref D) = some (.type "type")) : PySem.W.kitOne K (.ref C) (.ref D) = some false := by
  have hne : ¬ ((Value.ref C == Value.ref D) = true) := fun e => by
    have e2 : C = D := Value.ref.inj (beq_iff_eq.mp e)
    subst e2
    rw [h1] at h2
    cases h2
  obtain ⟨cd, hc, _⟩ := PySem.W.any_some hd
  unfold PySem.W.kitOne
  rw [if_neg hne]
  show (if ((PySem.W.clsIn K D).isSome && PySem.W.typeIn K (.ref D) == some (.type "type")) = true then _ else none) = _
  rw [if_pos (by rw [hc, ht]; rfl)]
  exact h2
theorem all_mk {l : PySem.W.OpenLaw} {w : World} {K : PySem.W.Frag} {h : Heap} {mg : Str → Option Value} {fa C_Stock C_BadKind C_NotesError  f1 f2 f3 f4 f5 f6 f7 f8 f9 f10 f11 f12 f13 f14 f15 f16 f17 f18 f19 f20 f21 f22 f23 T4  P5 : Addr} {tk_SMALL tk_CAPITAL : Tok} (X : K.In h) (G : h.Ns mainGlobals mg) (hfa : mg "law" = some (.ref fa))
    {od1 an1 od2 an2 od3 an3 od4 an4 od5 an5 od6 an6 od7 an7 od8 an8 od9 an9 od10 an10 od11 an11 od12 an12 od13 an13 od14 an14 od15 an15 od16 an16 od17 an17 od18 an18 od19 an19 od20 an20 od21 an21 od22 an22 od23 an23 : Option Addr} {sl1 sl2 sl3 sl4 sl5 sl6 sl7 sl8 sl9 sl10 sl11 sl12 sl13 sl14 sl15 sl16 sl17 sl18 sl19 sl20 sl21 sl22 sl23 : Array (Option Value)} {oc1 kV1 dc1 pm1 cd1 ct1 oc2 kV2 dc2 pm2 cd2 ct2 oc3 kV3 dc3 pm3 cd3 ct3 oc4 kV4 dc4 pm4 cd4 ct4 oc5 kV5 dc5 pm5 cd5 ct5 oc6 kV6 dc6 pm6 cd6 ct6 oc7 kV7 dc7 pm7 cd7 ct7 oc8 kV8 dc8 pm8 cd8 ct8 oc9 kV9 dc9 pm9 cd9 ct9 oc10 kV10 dc10 pm10 cd10 ct10 oc11 kV11 dc11 pm11 cd11 ct11 oc12 kV12 dc12 pm12 cd12 ct12 oc13 kV13 dc13 pm13 cd13 ct13 oc14 kV14 dc14 pm14 cd14 ct14 oc15 kV15 dc15 pm15 cd15 ct15 oc16 kV16 dc16 pm16 cd16 ct16 oc17 kV17 dc17 pm17 cd17 ct17 oc18 kV18 dc18 pm18 cd18 ct18 oc19 kV19 dc19 pm19 cd19 ct19 oc20 kV20 dc20 pm20 cd20 ct20 oc21 kV21 dc21 pm21 cd21 ct21 oc22 kV22 dc22 pm22 cd22 ct22 oc23 kV23 dc23 pm23 cd23 ct23 : Value}
    {RP5 : List Value}
    {tc4 : Value} {td4 : Option Addr} {tn4 : Nat} {ts4 : Array (Option Value)}
    (g_Stock : PySem.W.nsIn K mainGlobals "Stock" = some (some (.ref C_Stock)))
    (a1 : PySem.W.nsIn K mainGlobals "is_word" = some (some (.ref f1)))
    (l1 : K.lookup f1 = some ⟨oc1, od1, .func (PySem.W.fnOf "is_word" "is_word" (defArgs sIsWord) (defBody sIsWord) (defScope sIsWord) .none kV1 dc1 pm1 an1 cd1 ct1), sl1⟩)
    (c1 : PySem.W.codeIn K cd1 "is_word" = true)
    (k1 : PySem.W.keepIn K (.ref f1) = true)
    (a2 : PySem.W.nsIn K mainGlobals "is_letter" = some (some (.ref f2)))
    (l2 : K.lookup f2 = some ⟨oc2, od2, .func (PySem.W.fnOf "is_letter" "is_letter" (defArgs sIsLetter) (defBody sIsLetter) (defScope sIsLetter) .none kV2 dc2 pm2 an2 cd2 ct2), sl2⟩)
    (c2 : PySem.W.codeIn K cd2 "is_letter" = true)
    (k2 : PySem.W.keepIn K (.ref f2) = true)
    (a3 : PySem.W.nsIn K mainGlobals "is_form" = some (some (.ref f3)))
    (l3 : K.lookup f3 = some ⟨oc3, od3, .func (PySem.W.fnOf "is_form" "is_form" (defArgs sIsForm) (defBody sIsForm) (defScope sIsForm) .none kV3 dc3 pm3 an3 cd3 ct3), sl3⟩)
    (c3 : PySem.W.codeIn K cd3 "is_form" = true)
    (k3 : PySem.W.keepIn K (.ref f3) = true)
    (m4 : PySem.W.findIn K (.ref C_Stock) "__init__" = some (some (.ref f4)))
    (l4 : K.lookup f4 = some ⟨oc4, od4, .func (PySem.W.fnOf "__init__" "Stock.__init__" (defArgs sStock_init) (defBody sStock_init) (defScope sStock_init) (.ref T4) kV4 dc4 pm4 an4 cd4 ct4), sl4⟩)
    (c4 : PySem.W.codeIn K cd4 "Stock.__init__" = true)
    (k4 : PySem.W.keepIn K (.ref f4) = true)
    (n4 : PySem.W.isFn K (.ref f4) = true)
    (ff4 : PySem.W.fnIn K f4 = true)
    (mk4 : PySem.W.makesIn K C_Stock = true)
    (kc4 : PySem.W.keepIn K (.ref C_Stock) = true)
    (t4 : K.lookup T4 = some ⟨tc4, td4, .seq [Value.none].toArray tn4, ts4⟩)
    (p1_5 : PySem.W.findIn K (.ref C_Stock) "flat" = some (some (.ref P5)))
    (p2_5 : PySem.W.specialIn K (.ref P5) "__get__" = some (some (.builtin "property.__get__")))
    (p3_5 : PySem.W.takesIn K (.ref P5) = some true)
    (p4_5 : PySem.W.recIn K P5 "property" = some (.ref f5 :: RP5))
    (l5 : K.lookup f5 = some ⟨oc5, od5, .func (PySem.W.fnOf "flat" "Stock.flat" (defArgs sStock_flat) (defBody sStock_flat) (defScope sStock_flat) .none kV5 dc5 pm5 an5 cd5 ct5), sl5⟩)
    (c5 : PySem.W.codeIn K cd5 "Stock.flat" = true)
    (k5 : PySem.W.keepIn K (.ref f5) = true)
    (m6 : PySem.W.findIn K (.ref C_Stock) "fits" = some (some (.ref f6)))
    (l6 : K.lookup f6 = some ⟨oc6, od6, .func (PySem.W.fnOf "fits" "Stock.fits" (defArgs sStock_fits) (defBody sStock_fits) (defScope sStock_fits) .none kV6 dc6 pm6 an6 cd6 ct6), sl6⟩)
    (c6 : PySem.W.codeIn K cd6 "Stock.fits" = true)
    (k6 : PySem.W.keepIn K (.ref f6) = true)
    (n6 : PySem.W.isFn K (.ref f6) = true)
    (ff6 : PySem.W.fnIn K f6 = true)
    (a7 : PySem.W.nsIn K mainGlobals "_walk" = some (some (.ref f7)))
    (l7 : K.lookup f7 = some ⟨oc7, od7, .func (PySem.W.fnOf "_walk" "_walk" (defArgs sWalk) (defBody sWalk) (defScope sWalk) .none kV7 dc7 pm7 an7 cd7 ct7), sl7⟩)
    (c7 : PySem.W.codeIn K cd7 "_walk" = true)
    (k7 : PySem.W.keepIn K (.ref f7) = true)
    (a8 : PySem.W.nsIn K mainGlobals "_is_marks" = some (some (.ref f8)))
    (l8 : K.lookup f8 = some ⟨oc8, od8, .func (PySem.W.fnOf "_is_marks" "_is_marks" (defArgs sIsMarks) (defBody sIsMarks) (defScope sIsMarks) .none kV8 dc8 pm8 an8 cd8 ct8), sl8⟩)
    (c8 : PySem.W.codeIn K cd8 "_is_marks" = true)
    (k8 : PySem.W.keepIn K (.ref f8) = true)
    (a9 : PySem.W.nsIn K mainGlobals "_check_shapes" = some (some (.ref f9)))
    (l9 : K.lookup f9 = some ⟨oc9, od9, .func (PySem.W.fnOf "_check_shapes" "_check_shapes" (defArgs sCheckShapes) (defBody sCheckShapes) (defScope sCheckShapes) .none kV9 dc9 pm9 an9 cd9 ct9), sl9⟩)
    (c9 : PySem.W.codeIn K cd9 "_check_shapes" = true)
    (k9 : PySem.W.keepIn K (.ref f9) = true)
    (a10 : PySem.W.nsIn K mainGlobals "_check_under" = some (some (.ref f10)))
    (l10 : K.lookup f10 = some ⟨oc10, od10, .func (PySem.W.fnOf "_check_under" "_check_under" (defArgs sCheckUnder) (defBody sCheckUnder) (defScope sCheckUnder) .none kV10 dc10 pm10 an10 cd10 ct10), sl10⟩)
    (c10 : PySem.W.codeIn K cd10 "_check_under" = true)
    (k10 : PySem.W.keepIn K (.ref f10) = true)
    (a11 : PySem.W.nsIn K mainGlobals "_chain" = some (some (.ref f11)))
    (l11 : K.lookup f11 = some ⟨oc11, od11, .func (PySem.W.fnOf "_chain" "_chain" (defArgs sChain) (defBody sChain) (defScope sChain) .none kV11 dc11 pm11 an11 cd11 ct11), sl11⟩)
    (c11 : PySem.W.codeIn K cd11 "_chain" = true)
    (k11 : PySem.W.keepIn K (.ref f11) = true)
    (a12 : PySem.W.nsIn K mainGlobals "_law_cell" = some (some (.ref f12)))
    (l12 : K.lookup f12 = some ⟨oc12, od12, .func (PySem.W.fnOf "_law_cell" "_law_cell" (defArgs sLCell) (defBody sLCell) (defScope sLCell) .none kV12 dc12 pm12 an12 cd12 ct12), sl12⟩)
    (c12 : PySem.W.codeIn K cd12 "_law_cell" = true)
    (k12 : PySem.W.keepIn K (.ref f12) = true)
    (a13 : PySem.W.nsIn K mainGlobals "_law_tape" = some (some (.ref f13)))
    (l13 : K.lookup f13 = some ⟨oc13, od13, .func (PySem.W.fnOf "_law_tape" "_law_tape" (defArgs sLTape) (defBody sLTape) (defScope sLTape) .none kV13 dc13 pm13 an13 cd13 ct13), sl13⟩)
    (c13 : PySem.W.codeIn K cd13 "_law_tape" = true)
    (k13 : PySem.W.keepIn K (.ref f13) = true)
    (a14 : PySem.W.nsIn K mainGlobals "_law_take" = some (some (.ref f14)))
    (l14 : K.lookup f14 = some ⟨oc14, od14, .func (PySem.W.fnOf "_law_take" "_law_take" (defArgs sLTake) (defBody sLTake) (defScope sLTake) .none kV14 dc14 pm14 an14 cd14 ct14), sl14⟩)
    (c14 : PySem.W.codeIn K cd14 "_law_take" = true)
    (k14 : PySem.W.keepIn K (.ref f14) = true)
    (a15 : PySem.W.nsIn K mainGlobals "_law_words" = some (some (.ref f15)))
    (l15 : K.lookup f15 = some ⟨oc15, od15, .func (PySem.W.fnOf "_law_words" "_law_words" (defArgs sLWords) (defBody sLWords) (defScope sLWords) .none kV15 dc15 pm15 an15 cd15 ct15), sl15⟩)
    (c15 : PySem.W.codeIn K cd15 "_law_words" = true)
    (k15 : PySem.W.keepIn K (.ref f15) = true)
    (a16 : PySem.W.nsIn K mainGlobals "_law_stock" = some (some (.ref f16)))
    (l16 : K.lookup f16 = some ⟨oc16, od16, .func (PySem.W.fnOf "_law_stock" "_law_stock" (defArgs sLStock) (defBody sLStock) (defScope sLStock) .none kV16 dc16 pm16 an16 cd16 ct16), sl16⟩)
    (c16 : PySem.W.codeIn K cd16 "_law_stock" = true)
    (k16 : PySem.W.keepIn K (.ref f16) = true)
    (a17 : PySem.W.nsIn K mainGlobals "_law_form" = some (some (.ref f17)))
    (l17 : K.lookup f17 = some ⟨oc17, od17, .func (PySem.W.fnOf "_law_form" "_law_form" (defArgs sLForm) (defBody sLForm) (defScope sLForm) .none kV17 dc17 pm17 an17 cd17 ct17), sl17⟩)
    (c17 : PySem.W.codeIn K cd17 "_law_form" = true)
    (k17 : PySem.W.keepIn K (.ref f17) = true)
    (a18 : PySem.W.nsIn K mainGlobals "_law_refused" = some (some (.ref f18)))
    (l18 : K.lookup f18 = some ⟨oc18, od18, .func (PySem.W.fnOf "_law_refused" "_law_refused" (defArgs sLRefused) (defBody sLRefused) (defScope sLRefused) .none kV18 dc18 pm18 an18 cd18 ct18), sl18⟩)
    (c18 : PySem.W.codeIn K cd18 "_law_refused" = true)
    (k18 : PySem.W.keepIn K (.ref f18) = true)
    (a19 : PySem.W.nsIn K mainGlobals "_law_with" = some (some (.ref f19)))
    (l19 : K.lookup f19 = some ⟨oc19, od19, .func (PySem.W.fnOf "_law_with" "_law_with" (defArgs sLWith) (defBody sLWith) (defScope sLWith) .none kV19 dc19 pm19 an19 cd19 ct19), sl19⟩)
    (c19 : PySem.W.codeIn K cd19 "_law_with" = true)
    (k19 : PySem.W.keepIn K (.ref f19) = true)
    (a20 : PySem.W.nsIn K mainGlobals "_law_bad_stocks" = some (some (.ref f20)))
    (l20 : K.lookup f20 = some ⟨oc20, od20, .func (PySem.W.fnOf "_law_bad_stocks" "_law_bad_stocks" (defArgs sLBadStocks) (defBody sLBadStocks) (defScope sLBadStocks) .none kV20 dc20 pm20 an20 cd20 ct20), sl20⟩)
    (c20 : PySem.W.codeIn K cd20 "_law_bad_stocks" = true)
    (k20 : PySem.W.keepIn K (.ref f20) = true)
    (a21 : PySem.W.nsIn K mainGlobals "_law_flat" = some (some (.ref f21)))
    (l21 : K.lookup f21 = some ⟨oc21, od21, .func (PySem.W.fnOf "_law_flat" "_law_flat" (defArgs sLFlat) (defBody sLFlat) (defScope sLFlat) .none kV21 dc21 pm21 an21 cd21 ct21), sl21⟩)
    (c21 : PySem.W.codeIn K cd21 "_law_flat" = true)
    (k21 : PySem.W.keepIn K (.ref f21) = true)
    (a22 : PySem.W.nsIn K mainGlobals "_law_fits" = some (some (.ref f22)))
    (l22 : K.lookup f22 = some ⟨oc22, od22, .func (PySem.W.fnOf "_law_fits" "_law_fits" (defArgs sLFits) (defBody sLFits) (defScope sLFits) .none kV22 dc22 pm22 an22 cd22 ct22), sl22⟩)
    (c22 : PySem.W.codeIn K cd22 "_law_fits" = true)
    (k22 : PySem.W.keepIn K (.ref f22) = true)
    (a23 : PySem.W.nsIn K mainGlobals "law" = some (some (.ref f23)))
    (l23 : K.lookup f23 = some ⟨oc23, od23, .func (PySem.W.fnOf "law" "law" (defArgs sLaw) (defBody sLaw) (defScope sLaw) .none kV23 dc23 pm23 an23 cd23 ct23), sl23⟩)
    (c23 : PySem.W.codeIn K cd23 "law" = true)
    (k23 : PySem.W.keepIn K (.ref f23) = true)
    (pg_Stock : PySem.W.plainGet K C_Stock Str.empty = true)
    (hd_Stock : PySem.W.hasDictIn K C_Stock = true)
    (po_Stock : PySem.W.plainOver K C_Stock = true)
    (sa_Stock : PySem.W.findIn K (.ref C_Stock) "__setattr__" = some (some (.builtin "object.__setattr__")))
    (nq_Stock : PySem.W.noSeq K C_Stock = true)
    (n_Stock_chains : PySem.W.findIn K (.ref C_Stock) "chains" = some none)
    (n_Stock_shapes : PySem.W.findIn K (.ref C_Stock) "shapes" = some none)
    (n_Stock_under : PySem.W.findIn K (.ref C_Stock) "under" = some none)
    (z_ValueError : PySem.W.nsIn K mainGlobals "ValueError" = some none)
    (z_all : PySem.W.nsIn K mainGlobals "all" = some none)
    (z_bool : PySem.W.nsIn K mainGlobals "bool" = some none)
    (z_dict : PySem.W.nsIn K mainGlobals "dict" = some none)
    (z_int : PySem.W.nsIn K mainGlobals "int" = some none)
    (z_isinstance : PySem.W.nsIn K mainGlobals "isinstance" = some none)
    (z_len : PySem.W.nsIn K mainGlobals "len" = some none)
    (z_range : PySem.W.nsIn K mainGlobals "range" = some none)
    (z_str : PySem.W.nsIn K mainGlobals "str" = some none)
    (z_tuple : PySem.W.nsIn K mainGlobals "tuple" = some none)
    (s_SMALL : PySem.W.nsIn K mainGlobals "SMALL" = some (some (.str (Str.ofString "abcdefghijklmnopqrstuvwxyz") tk_SMALL)))
    (s_CAPITAL : PySem.W.nsIn K mainGlobals "CAPITAL" = some (some (.str (Str.ofString "ABCDEFGHIJKLMNOPQRSTUVWXYZ") tk_CAPITAL)))
    (x_BadKind : PySem.W.nsIn K mainGlobals "BadKind" = some (some (.ref C_BadKind)))
    (x_NotesError : PySem.W.nsIn K mainGlobals "NotesError" = some (some (.ref C_NotesError)))
    (e3_BadKind : PySem.W.subIn K (.ref C_BadKind) (.type "BaseException") = some true)
    (e4_BadKind : PySem.W.typeIn K (.ref C_BadKind) = some (.type "type"))
    (e5_BadKind : PySem.W.hasDictIn K C_BadKind = true)
    (e1_BadKind : PySem.W.keepIn K (.ref C_BadKind) = true)
    (e2_BadKind : PySem.W.excIn K C_BadKind [.type "ValueError", .type "Exception", .type "BaseException", .type "object"] "ValueError.__new__" = true)
    (e6_BadKind : PySem.W.findIn K (.ref C_BadKind) "__getattribute__" = some (some (.builtin "BaseException.__getattribute__")))
    (e7_BadKind : PySem.W.findIn K (.ref C_BadKind) "__getattr__" = some none)
    (e8_BadKind : PySem.W.findIn K (.ref C_BadKind) "__class__" = some (some (.builtin "object.__class__")))
    (e9_BadKind : PySem.W.specialIn K (.builtin "object.__class__") "__get__" = some (some (.builtin "getset_descriptor.__get__")))
    (e10_BadKind : PySem.W.takesIn K (.builtin "object.__class__") = some true)
    (e11_BadKind : PySem.W.mroIn K C_BadKind (.type "object") = some true)
    (e3_NotesError : PySem.W.subIn K (.ref C_NotesError) (.type "BaseException") = some true)
    (e4_NotesError : PySem.W.typeIn K (.ref C_NotesError) = some (.type "type"))
    (e5_NotesError : PySem.W.hasDictIn K C_NotesError = true)
    (em_BadKind_NotesError : PySem.W.subIn K (.ref C_BadKind) (.ref C_NotesError) = some true)
    (km_BadKind_ValueError : PySem.W.subIn K (.ref C_BadKind) (.type "ValueError") = some true) :
    ∃ fd : FuncData, (∀ (s : Shared) (v : Value), BindsTo s fd ⟨[v], []⟩ [("_law_script", v)]) ∧ ∀ base : Heap, K.In base → base.Ns mainGlobals mg → FnOk l.prog w K mg base CX0 6 fa fd ["_law_script"] (spLaw K) := by
  have e := hfa.symm.trans (PySem.W.mg_of X G a23)
  cases e
  have F1 := fun_mk (st := sIsWord) l1 c1 k1
  have b1 := F1.binds (ps := ["text"]) fun _ _ _ _ _ _ us hl => match us, hl with | [_], _ => rfl
  have F2 := fun_mk (st := sIsLetter) l2 c2 k2
  have b2 := F2.binds (ps := ["text"]) fun _ _ _ _ _ _ us hl => match us, hl with | [_], _ => rfl
  have F3 := fun_mk (st := sIsForm) l3 c3 k3
  have b3 := F3.binds (ps := ["row"]) fun _ _ _ _ _ _ us hl => match us, hl with | [_], _ => rfl
  have F4 : L2.FunD K "__init__" "Stock.__init__" (defArgs sStock_init) (defBody sStock_init) (defScope sStock_init) [V.non] [] f4 (PySem.W.fnOf "__init__" "Stock.__init__" (defArgs sStock_init) (defBody sStock_init) (defScope sStock_init) (.ref T4) kV4 dc4 pm4 an4 cd4 ct4) := ⟨⟨oc4, od4, .ref T4, kV4, dc4, pm4, an4, cd4, ct4, sl4, rfl, l4, c4, .inr ⟨by simp, T4, _, [Value.none], tn4, rfl, t4, rfl, .cons rfl (.nil)⟩, .inl rfl⟩, k4⟩
  have b4 : Binds K (PySem.W.fnOf "__init__" "Stock.__init__" (defArgs sStock_init) (defBody sStock_init) (defScope sStock_init) (.ref T4) kV4 dc4 pm4 an4 cd4 ct4) ["self", "shapes", "under"] [] := by
    obtain ⟨ds, r, b⟩ := F4.binds1 (ps := ["self", "shapes", "under"]) 3 1 (by simp) rfl (fun _ _ _ _ _ _ _ us its hl hi => match us, hl, its, hi with | [_, _, _], _, [_], _ => ⟨_, rfl, rfl⟩)
    cases r
    exact b
  have de4 : ∃ ds, Vals [V.non] ds ∧ Binds K (PySem.W.fnOf "__init__" "Stock.__init__" (defArgs sStock_init) (defBody sStock_init) (defScope sStock_init) (.ref T4) kV4 dc4 pm4 an4 cd4 ct4) ["self", "shapes", "under"] ds := F4.binds1 (ps := ["self", "shapes", "under"]) 2 0 (by simp) rfl (fun _ _ _ _ _ _ _ us its hl hi => match us, hl, its, hi with | [_, _], _, [_], _ => ⟨_, rfl, rfl⟩)
  have F5 := fun_mk (st := sStock_flat) l5 c5 k5
  have b5 := F5.binds (ps := ["self"]) fun _ _ _ _ _ _ us hl => match us, hl with | [_], _ => rfl
  have F6 := fun_mk (st := sStock_fits) l6 c6 k6
  have b6 := F6.binds (ps := ["self", "form"]) fun _ _ _ _ _ _ us hl => match us, hl with | [_, _], _ => rfl
  have F7 := fun_mk (st := sWalk) l7 c7 k7
  have b7 := F7.binds (ps := ["form"]) fun _ _ _ _ _ _ us hl => match us, hl with | [_], _ => rfl
  have F8 := fun_mk (st := sIsMarks) l8 c8 k8
  have b8 := F8.binds (ps := ["marks"]) fun _ _ _ _ _ _ us hl => match us, hl with | [_], _ => rfl
  have F9 := fun_mk (st := sCheckShapes) l9 c9 k9
  have b9 := F9.binds (ps := ["shapes"]) fun _ _ _ _ _ _ us hl => match us, hl with | [_], _ => rfl
  have F10 := fun_mk (st := sCheckUnder) l10 c10 k10
  have b10 := F10.binds (ps := ["shapes", "under"]) fun _ _ _ _ _ _ us hl => match us, hl with | [_, _], _ => rfl
  have F11 := fun_mk (st := sChain) l11 c11 k11
  have b11 := F11.binds (ps := ["word", "under"]) fun _ _ _ _ _ _ us hl => match us, hl with | [_, _], _ => rfl
  have F12 := fun_mk (st := sLCell) l12 c12 k12
  have b12 := F12.binds (ps := ["_law_script", "_law_k"]) fun _ _ _ _ _ _ us hl => match us, hl with | [_, _], _ => rfl
  have F13 := fun_mk (st := sLTape) l13 c13 k13
  have b13 := F13.binds (ps := ["_law_script", "_law_k", "_law_size"]) fun _ _ _ _ _ _ us hl => match us, hl with | [_, _, _], _ => rfl
  have F14 := fun_mk (st := sLTake) l14 c14 k14
  have b14 := F14.binds (ps := ["_law_tape_here", "_law_many"]) fun _ _ _ _ _ _ us hl => match us, hl with | [_, _], _ => rfl
  have F15 := fun_mk (st := sLWords) l15 c15 k15
  have b15 := F15.binds (ps := ["_law_tape_here", "_law_many"]) fun _ _ _ _ _ _ us hl => match us, hl with | [_, _], _ => rfl
  have F16 := fun_mk (st := sLStock) l16 c16 k16
  have b16 := F16.binds (ps := ["_law_tape_here", "_law_flat_here", "_law_menu"]) fun _ _ _ _ _ _ us hl => match us, hl with | [_, _, _], _ => rfl
  have F17 := fun_mk (st := sLForm) l17 c17 k17
  have b17 := F17.binds (ps := ["_law_tape_here", "_law_shapes", "_law_letters", "_law_depth"]) fun _ _ _ _ _ _ us hl => match us, hl with | [_, _, _, _], _ => rfl
  have F18 := fun_mk (st := sLRefused) l18 c18 k18
  have b18 := F18.binds (ps := ["_law_shapes", "_law_under"]) fun _ _ _ _ _ _ us hl => match us, hl with | [_, _], _ => rfl
  have F19 := fun_mk (st := sLWith) l19 c19 k19
  have b19 := F19.binds (ps := ["_law_shapes", "_law_word", "_law_marks"]) fun _ _ _ _ _ _ us hl => match us, hl with | [_, _, _], _ => rfl
  have F20 := fun_mk (st := sLBadStocks) l20 c20 k20
  have b20 := F20.binds (ps := ["_law_shapes", "_law_first", "_law_second"]) fun _ _ _ _ _ _ us hl => match us, hl with | [_, _, _], _ => rfl
  have F21 := fun_mk (st := sLFlat) l21 c21 k21
  have b21 := F21.binds (ps := ["_law_stock_here", "_law_under"]) fun _ _ _ _ _ _ us hl => match us, hl with | [_, _], _ => rfl
  have F22 := fun_mk (st := sLFits) l22 c22 k22
  have b22 := F22.binds (ps := ["_law_stock_here", "_law_pattern", "_law_first"]) fun _ _ _ _ _ _ us hl => match us, hl with | [_, _, _], _ => rfl
  have F23 := fun_mk (st := sLaw) l23 c23 k23
  have b23 := F23.binds (ps := ["_law_script"]) fun _ _ _ _ _ _ us hl => match us, hl with | [_], _ => rfl
  let T : Tx l.prog K mg := { C_Stock := C_Stock, c_Stock := ⟨⟨pg_Stock, hd_Stock, po_Stock, sa_Stock⟩, PySem.W.mg_of X G g_Stock, nq_Stock⟩, f_is_word := f1, fd_is_word := _, d_is_word := ⟨F1, b1, PySem.W.mg_of X G a1⟩, f_is_letter := f2, fd_is_letter := _, d_is_letter := ⟨F2, b2, PySem.W.mg_of X G a2⟩, f_is_form := f3, fd_is_form := _, d_is_form := ⟨F3, b3, PySem.W.mg_of X G a3⟩, de_Stock_init := de4, f_Stock_init := f4, fd_Stock_init := _, d_Stock_init := ⟨F4, b4⟩, m_Stock_init := ⟨mk4, m4, n4, kc4⟩, f_Stock_flat := f5, fd_Stock_flat := _, p_Stock_flat := P5, d_Stock_flat := ⟨F5, b5, ⟨p1_5, p2_5, p3_5, _, p4_5⟩⟩, f_Stock_fits := f6, fd_Stock_fits := _, d_Stock_fits := ⟨F6, b6, ⟨m6, n6, k6⟩, ff6⟩, f_walk := f7, fd_walk := _, d_walk := ⟨F7, b7, PySem.W.mg_of X G a7⟩, f_is_marks := f8, fd_is_marks := _, d_is_marks := ⟨F8, b8, PySem.W.mg_of X G a8⟩, f_check_shapes := f9, fd_check_shapes := _, d_check_shapes := ⟨F9, b9, PySem.W.mg_of X G a9⟩, f_check_under := f10, fd_check_under := _, d_check_under := ⟨F10, b10, PySem.W.mg_of X G a10⟩, f_chain := f11, fd_chain := _, d_chain := ⟨F11, b11, PySem.W.mg_of X G a11⟩, f_l_cell := f12, fd_l_cell := _, d_l_cell := ⟨F12, b12, PySem.W.mg_of X G a12⟩, f_l_tape := f13, fd_l_tape := _, d_l_tape := ⟨F13, b13, PySem.W.mg_of X G a13⟩, f_l_take := f14, fd_l_take := _, d_l_take := ⟨F14, b14, PySem.W.mg_of X G a14⟩, f_l_words := f15, fd_l_words := _, d_l_words := ⟨F15, b15, PySem.W.mg_of X G a15⟩, f_l_stock := f16, fd_l_stock := _, d_l_stock := ⟨F16, b16, PySem.W.mg_of X G a16⟩, f_l_form := f17, fd_l_form := _, d_l_form := ⟨F17, b17, PySem.W.mg_of X G a17⟩, f_l_refused := f18, fd_l_refused := _, d_l_refused := ⟨F18, b18, PySem.W.mg_of X G a18⟩, f_l_with := f19, fd_l_with := _, d_l_with := ⟨F19, b19, PySem.W.mg_of X G a19⟩, f_l_bad_stocks := f20, fd_l_bad_stocks := _, d_l_bad_stocks := ⟨F20, b20, PySem.W.mg_of X G a20⟩, f_l_flat := f21, fd_l_flat := _, d_l_flat := ⟨F21, b21, PySem.W.mg_of X G a21⟩, f_l_fits := f22, fd_l_fits := _, d_l_fits := ⟨F22, b22, PySem.W.mg_of X G a22⟩, f_law := fa, fd_law := _, d_law := ⟨F23, b23, PySem.W.mg_of X G a23⟩, n_Stock_chains := n_Stock_chains, n_Stock_shapes := n_Stock_shapes, n_Stock_under := n_Stock_under, n_ValueError := PySem.W.mg_none_of X G z_ValueError, n_all := PySem.W.mg_none_of X G z_all, n_bool := PySem.W.mg_none_of X G z_bool, n_dict := PySem.W.mg_none_of X G z_dict, n_int := PySem.W.mg_none_of X G z_int, n_isinstance := PySem.W.mg_none_of X G z_isinstance, n_len := PySem.W.mg_none_of X G z_len, n_range := PySem.W.mg_none_of X G z_range, n_str := PySem.W.mg_none_of X G z_str, n_tuple := PySem.W.mg_none_of X G z_tuple, t_SMALL := tk_SMALL, c_SMALL := PySem.W.mg_of X G s_SMALL, t_CAPITAL := tk_CAPITAL, c_CAPITAL := PySem.W.mg_of X G s_CAPITAL, C_BadKind := C_BadKind, x_BadKind := ⟨PySem.W.mg_of X G x_BadKind, e1_BadKind, e2_BadKind, e3_BadKind, e4_BadKind, e5_BadKind, ⟨e6_BadKind, e7_BadKind, e3_BadKind, e5_BadKind, e8_BadKind, e9_BadKind, e10_BadKind, e11_BadKind⟩⟩, C_NotesError := C_NotesError, x_NotesError := ⟨PySem.W.mg_of X G x_NotesError⟩, e_BadKind_NotesError := PySem.W.exm_ref e3_NotesError e5_NotesError e4_NotesError em_BadKind_NotesError, k_BadKind_BadKind := kit_self2, k_BadKind_ValueError := kit_builtin2 (by decide +kernel) km_BadKind_ValueError }
  refine ⟨PySem.W.fnOf "law" "law" (defArgs sLaw) (defBody sLaw) (defScope sLaw) .none kV23 dc23 pm23 an23 cd23 ct23, fun s v => .of_eq rfl, fun base _ _ => ?_⟩
  have G_is_word := ok_is_word (P := l.prog) (w := w) (base := base) T
  have G_is_letter := ok_is_letter (P := l.prog) (w := w) (base := base) T
  have G_is_form := ok_is_form (P := l.prog) (w := w) (base := base) T G_is_letter G_is_word
  have G_Stock_flat := ok_Stock_flat (P := l.prog) (w := w) (base := base) T
  have G_walk := ok_walk (P := l.prog) (w := w) (base := base) T
  have G_is_marks := ok_is_marks (P := l.prog) (w := w) (base := base) T
  have G_check_shapes := ok_check_shapes (P := l.prog) (w := w) (base := base) T G_is_marks G_is_word
  have G_check_under := ok_check_under (P := l.prog) (w := w) (base := base) T
  have G_chain := ok_chain (P := l.prog) (w := w) (base := base) T
  have G_l_cell := ok_l_cell (P := l.prog) (w := w) (base := base) T
  have G_l_tape := ok_l_tape (P := l.prog) (w := w) (base := base) T G_l_cell
  have G_l_take := ok_l_take (P := l.prog) (w := w) (base := base) T
  have G_l_words := ok_l_words (P := l.prog) (w := w) (base := base) T G_l_take
  have G_l_stock := ok_l_stock (P := l.prog) (w := w) (base := base) T G_l_take G_l_words
  have G_l_form : FnOk l.prog w K mg base (L2.CX l.prog w) 4 T.f_l_form T.fd_l_form ["_law_tape_here", "_law_shapes", "_law_letters", "_law_depth"] (spOf K (dc_l_form 3)) := ok_l_form (P := l.prog) (w := w) (base := base) T G_l_take 3
  have G_l_with := ok_l_with (P := l.prog) (w := w) (base := base) T
  have G_l_bad_stocks := ok_l_bad_stocks (P := l.prog) (w := w) (base := base) T G_l_with
  have G_l_flat := ok_l_flat (P := l.prog) (w := w) (base := base) T G_Stock_flat
  have G_Stock_init := ok_Stock_init (P := l.prog) (w := w) (base := base) T G_chain G_check_shapes G_check_under
  have G_Stock_fits := ok_Stock_fits (P := l.prog) (w := w) (base := base) T G_walk G_is_form
  have G_l_refused := ok_l_refused (P := l.prog) (w := w) (base := base) T G_Stock_init
  have G_l_fits := ok_l_fits (P := l.prog) (w := w) (base := base) T G_Stock_fits
  have G_law := ok_law (P := l.prog) (w := w) (base := base) T G_Stock_init G_Stock_fits G_Stock_flat G_l_bad_stocks G_l_fits G_l_flat G_l_form G_l_refused G_l_stock G_l_take G_l_tape G_l_with
  exact law_of G_law
end VL
open PySem PySem.W PyProof.Rows
set_option Elab.async false
set_option maxRecDepth 100000 in
set_option maxHeartbeats 0 in
theorem PySem.Challenge.cw_kindnotes_k03_stocks_holds : PySem.Challenge.rw_kindnotes_k03_stocks.Holds := by
  w_on; o_law; k_head; (case hw => w_witness2)
  k_fill
  refine L2.walk_of (l := PySem.Challenge.rw_kindnotes_k03_stocks) (n := 63) (k := 6) (x := "_law_script") (CX := fun _ => L2.CX0) (sp := fun w => VL.spLaw _) rfl (by decide) rfl ⟨rfl, by decide, by decide⟩ (fun w h Y => PySem.W.kIn_of Y) ?F (fun _ _ a ns hl _ hS => ⟨a, ns, rfl, hS, hl, fun _ => rfl⟩) (fun _ _ _ _ _ h => h)
  case F =>
    intro w mg fa h KX G hmg
    refine' VL.all_mk KX G hmg ?g_Stock ?a1 ?l1 ?c1 ?k1 ?a2 ?l2 ?c2 ?k2 ?a3 ?l3 ?c3 ?k3 ?m4 ?l4 ?c4 ?k4 ?n4 ?ff4 ?mk4 ?kc4 ?t4 ?p1_5 ?p2_5 ?p3_5 ?p4_5 ?l5 ?c5 ?k5 ?m6 ?l6 ?c6 ?k6 ?n6 ?ff6 ?a7 ?l7 ?c7 ?k7 ?a8 ?l8 ?c8 ?k8 ?a9 ?l9 ?c9 ?k9 ?a10 ?l10 ?c10 ?k10 ?a11 ?l11 ?c11 ?k11 ?a12 ?l12 ?c12 ?k12 ?a13 ?l13 ?c13 ?k13 ?a14 ?l14 ?c14 ?k14 ?a15 ?l15 ?c15 ?k15 ?a16 ?l16 ?c16 ?k16 ?a17 ?l17 ?c17 ?k17 ?a18 ?l18 ?c18 ?k18 ?a19 ?l19 ?c19 ?k19 ?a20 ?l20 ?c20 ?k20 ?a21 ?l21 ?c21 ?k21 ?a22 ?l22 ?c22 ?k22 ?a23 ?l23 ?c23 ?k23 ?pg_Stock ?hd_Stock ?po_Stock ?sa_Stock ?nq_Stock ?n_Stock_chains ?n_Stock_shapes ?n_Stock_under ?z_ValueError ?z_all ?z_bool ?z_dict ?z_int ?z_isinstance ?z_len ?z_range ?z_str ?z_tuple ?s_SMALL ?s_CAPITAL ?x_BadKind ?x_NotesError ?e3_BadKind ?e4_BadKind ?e5_BadKind ?e1_BadKind ?e2_BadKind ?e6_BadKind ?e7_BadKind ?e8_BadKind ?e9_BadKind ?e10_BadKind ?e11_BadKind ?e3_NotesError ?e4_NotesError ?e5_NotesError ?em_BadKind_NotesError ?km_BadKind_ValueError
    (case g_Stock => k_is)
    (case a1 => k_is)
    (case l1 => k_is)
    (case c1 => k_is)
    (case k1 => k_is)
    (case a2 => k_is)
    (case l2 => k_is)
    (case c2 => k_is)
    (case k2 => k_is)
    (case a3 => k_is)
    (case l3 => k_is)
    (case c3 => k_is)
    (case k3 => k_is)
    (case m4 => k_is)
    (case l4 => k_is)
    (case c4 => k_is)
    (case k4 => k_is)
    (case n4 => k_is)
    (case ff4 => k_is)
    (case mk4 => k_is)
    (case kc4 => k_is)
    (case t4 => k_is)
    (case p1_5 => k_is)
    (case p2_5 => k_is)
    (case p3_5 => k_is)
    (case p4_5 => k_is)
    (case l5 => k_is)
    (case c5 => k_is)
    (case k5 => k_is)
    (case m6 => k_is)
    (case l6 => k_is)
    (case c6 => k_is)
    (case k6 => k_is)
    (case n6 => k_is)
    (case ff6 => k_is)
    (case a7 => k_is)
    (case l7 => k_is)
    (case c7 => k_is)
    (case k7 => k_is)
    (case a8 => k_is)
    (case l8 => k_is)
    (case c8 => k_is)
    (case k8 => k_is)
    (case a9 => k_is)
    (case l9 => k_is)
    (case c9 => k_is)
    (case k9 => k_is)
    (case a10 => k_is)
    (case l10 => k_is)
    (case c10 => k_is)
    (case k10 => k_is)
    (case a11 => k_is)
    (case l11 => k_is)
    (case c11 => k_is)
    (case k11 => k_is)
    (case a12 => k_is)
    (case l12 => k_is)
    (case c12 => k_is)
    (case k12 => k_is)
    (case a13 => k_is)
    (case l13 => k_is)
    (case c13 => k_is)
    (case k13 => k_is)
    (case a14 => k_is)
    (case l14 => k_is)
    (case c14 => k_is)
    (case k14 => k_is)
    (case a15 => k_is)
    (case l15 => k_is)
    (case c15 => k_is)
    (case k15 => k_is)
    (case a16 => k_is)
    (case l16 => k_is)
    (case c16 => k_is)
    (case k16 => k_is)
    (case a17 => k_is)
    (case l17 => k_is)
    (case c17 => k_is)
    (case k17 => k_is)
    (case a18 => k_is)
    (case l18 => k_is)
    (case c18 => k_is)
    (case k18 => k_is)
    (case a19 => k_is)
    (case l19 => k_is)
    (case c19 => k_is)
    (case k19 => k_is)
    (case a20 => k_is)
    (case l20 => k_is)
    (case c20 => k_is)
    (case k20 => k_is)
    (case a21 => k_is)
    (case l21 => k_is)
    (case c21 => k_is)
    (case k21 => k_is)
    (case a22 => k_is)
    (case l22 => k_is)
    (case c22 => k_is)
    (case k22 => k_is)
    (case a23 => k_is)
    (case l23 => k_is)
    (case c23 => k_is)
    (case k23 => k_is)
    (case pg_Stock => k_is)
    (case hd_Stock => k_is)
    (case po_Stock => k_is)
    (case sa_Stock => k_is)
    (case nq_Stock => k_is)
    (case n_Stock_chains => k_is)
    (case n_Stock_shapes => k_is)
    (case n_Stock_under => k_is)
    (case z_ValueError => k_is)
    (case z_all => k_is)
    (case z_bool => k_is)
    (case z_dict => k_is)
    (case z_int => k_is)
    (case z_isinstance => k_is)
    (case z_len => k_is)
    (case z_range => k_is)
    (case z_str => k_is)
    (case z_tuple => k_is)
    (case s_SMALL => k_is)
    (case s_CAPITAL => k_is)
    (case x_BadKind => k_is)
    (case x_NotesError => k_is)
    (case e3_BadKind => k_is)
    (case e4_BadKind => k_is)
    (case e5_BadKind => k_is)
    (case e1_BadKind => k_is)
    (case e2_BadKind => k_exc)
    (case e6_BadKind => k_is)
    (case e7_BadKind => k_is)
    (case e8_BadKind => k_is)
    (case e9_BadKind => k_is)
    (case e10_BadKind => k_is)
    (case e11_BadKind => k_is)
    (case e3_NotesError => k_is)
    (case e4_NotesError => k_is)
    (case e5_NotesError => k_is)
    (case em_BadKind_NotesError => k_is)
    (case km_BadKind_ValueError => k_is)
