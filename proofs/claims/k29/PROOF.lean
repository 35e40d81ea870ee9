import PyProof.Rows.All
import Wide.All
import OpenK.AllK
import Wide.FinOn
import HandS.ForMost
import HandS.Exc
import HandS.ExcOwn
import HandS.ExcIs
import HandS.TryOnly
import HandS.WordsExc
import HandS.IsInst
import HandS.Star
import HandS.Walk
import HandS.FStr
import HandS.Deep
import HandS.SetFor
import HandS.Defaults
import HandS.TupAny
import HandS.Flow
import HandS.RaiseOp
import KE.KeyNested
import KE.KDictKeyed
import HandS.CallSlots
import HandS.RaiseMore
import KE.GoesEnum
import OpenK.KMeth
import HandS.Property
import HandS.DictComp
import HandS.Nested
import HandS.ExcInit
import KE.KExcSuper
import HandS.ExcField
import KE.KEqDict
import HandS.Text
import HandS.Rev
import HandS.IterVal
import KE.KxField
import HandS.Zip
import KE.GoesMore
import KE.RegKSuper
import PySem.Challenge.RW_kindnotes_k29_still_at_a_lot
set_option Elab.async false
set_option linter.all false
set_option maxRecDepth 100000
set_option maxHeartbeats 1000000
namespace VL
open PySem PySem.Spec PyProof.Rows L2
inductive Da where
  | n | b (x : Bool) | i (k : Int) | s (z : Str) | t (ds : List Da) | l (ds : List Da)
  | dk (kvs : List (Key × Da)) | ins (C : Addr) (fs : List (Str × Da)) | r (a : Addr) | ty (nm : String) | sc (ns : List Int) | o (j : Nat)
/-- a list of ints that nobody changes -/
def Scl (K : PySem.W.Frag) (H : Hp) (a : Addr) (ns : List Int) : Prop := (∃ o, H a = some (.frz o (.lst (ns.map V.int)))) ∨ SqL K (fun _ => none) a (ns.map V.int)
section
variable (K : PySem.W.Frag) (A : Addr → Prop) (H : Hp)
mutual
/-- the value v is the data d; A: what may change -/
inductive Rp : V → Da → Prop
  | n : Rp .non .n
  | b (x : Bool) : Rp (.bl x) (.b x)
  | i (k : Int) : Rp (.int k) (.i k)
  | s (z : Str) : Rp (.str z) (.s z)
  | r (a : Addr) : Rp (.ref a) (.r a)
  | ty (nm : String) : Rp (.ty nm) (.ty nm)
  | sc {a : Addr} {ns : List Int} : Scl K H a ns → Rp (.ref a) (.sc ns)
  | t {a : Addr} {vs : List V} {ds : List Da} : SqT K H a vs → RpA vs ds → Rp (.ref a) (.t ds)
  | l {a : Addr} {vs : List V} {ds : List Da} : H a = some (.lst vs) → ¬ A a → RpA vs ds → Rp (.ref a) (.l ds)
  | dk {a : Addr} {kvs : List (Key × V)} {kds : List (Key × Da)} : H a = some (.dK kvs) → ¬ A a → RpK kvs kds → Rp (.ref a) (.dk kds)
  | ins {a C dx : Addr} {fs : List (Str × V)} {gs : List (Str × Da)} : H a = some (.ins C dx fs) → ¬ A a → RpF fs gs → Rp (.ref a) (.ins C gs)
inductive RpA : List V → List Da → Prop
  | nil : RpA [] []
  | cons {v : V} {vs : List V} {d : Da} {ds : List Da} : Rp v d → RpA vs ds → RpA (v :: vs) (d :: ds)
inductive RpK : List (Key × V) → List (Key × Da) → Prop
  | nil : RpK [] []
  | cons {k : Key} {v : V} {vs : List (Key × V)} {d : Da} {ds : List (Key × Da)} : Rp v d → RpK vs ds → RpK ((k, v) :: vs) ((k, d) :: ds)
inductive RpF : List (Str × V) → List (Str × Da) → Prop
  | nil : RpF [] []
  | cons {k : Str} {v : V} {vs : List (Str × V)} {d : Da} {ds : List (Str × Da)} : Rp v d → RpF vs ds → RpF ((k, v) :: vs) ((k, d) :: ds)
end
end
mutual
def Da.nk : Da → NestedKey
  | .b x => .num (if x = true then 1 else 0)
  | .i k => .num k
  | .s z => .text z
  | .t ds => .tup (nks ds)
  | _ => .none
def nks : List Da → List NestedKey
  | [] => []
  | d :: ds => d.nk :: nks ds
end
mutual
def Da.nkB : Da → Bool
  | .n => true
  | .b _ => true
  | .i _ => true
  | .s _ => true
  | .t ds => nkBs ds
  | _ => false
def nkBs : List Da → Bool
  | [] => true
  | d :: ds => d.nkB && nkBs ds
end
def Da.isT : Da → Bool
  | .t _ => true
  | _ => false
/-- the data is a key -/
def Da.key8 (d : Da) : Bool := d.isT && (d.nkB && decide (d.nk.depth ≤ 8))
/-- a dict with such keys, as it stands; their tuples stand at the second places -/
def rawN (P : Program) (w : World) (a : Addr) (kas : List (NestedKey × Addr × V)) : Heap → Prop := fun h => kas.length ≤ sizeLine ∧ (a == sysModules) = false ∧ ∃ xs : List (NestedKey × Addr × Value),
  Paired (fun (p : NestedKey × Addr × V) (q : NestedKey × Addr × Value) => p.1 = q.1 ∧ p.2.1 = q.2.1 ∧ RelV p.2.2 q.2.2) kas xs ∧
  ∃ o es ep, h.get? a = some o ∧ o.ExactDict ∧ o.data = .dict es ep ∧ es.toList = xs.map (entryOfKey (nestedKind P w)) ∧ (xs.map (·.1)).Nodup
def dnO (P : Program) (w : World) (a : Addr) : Option Obj → List (NestedKey × Addr × V) → HO
  | none, kas => .ext (rawN P w a kas)
  | some o, kas => .frz o (.ext (rawN P w a kas))
inductive RpN (K : PySem.W.Frag) (A : Addr → Prop) (H : Hp) : List (NestedKey × Addr × V) → List (Da × Da) → Prop
  | nil : RpN K A H [] []
  | cons {b : Addr} {v : V} {dk dv : Da} {kas : List (NestedKey × Addr × V)} {kds : List (Da × Da)} (hk : dk.key8 = true) (hb : Rp K A H (.ref b) dk) (hv : Rp K A H v dv) (t : RpN K A H kas kds) : RpN K A H ((dk.nk, b, v) :: kas) ((dk, dv) :: kds)
/-- what stands outside W, and what never changes, stands; what may change behind is old or new -/
structure Kp (W W' : Addr → Prop) (H H' : Hp) : Prop where
  keep : ∀ b o, H b = some o → (¬ W b ∨ ¬ Mut (some o)) → H' b = some o
  mono : ∀ b, W' b → W b ∨ H b = none
section
variable {K : PySem.W.Frag} {W W1 W2 A A' : Addr → Prop} {H H1 H2 H' : Hp}
theorem Kp.refl : Kp W W H H := ⟨fun _ _ h _ => h, fun _ h => .inl h⟩
theorem Kp.trans (a : Kp W W1 H H1) (b : Kp W1 W2 H1 H2) : Kp W W2 H H2 := by
  refine ⟨fun x o h z => ?_, fun x h => ?_⟩
  · refine b.keep x o (a.keep x o h z) ?_
    rcases z with z | z
    · refine .inl fun q => ?_
      rcases a.mono x q with q | q
      · exact z q
      · rw [h] at q; cases q
    · exact .inr z
  · rcases b.mono x h with q | q
    · exact a.mono x q
    · cases e : H x with
      | none => exact .inr rfl
      | some o =>
        refine .inl (Classical.byContradiction fun z => ?_)
        rw [a.keep x o e (.inl z)] at q
        cases q
theorem Kp.same (s : Same H H') : Kp W W H H' := ⟨fun b o h _ => s b o h, fun _ h => .inl h⟩
theorem Kp.sub (a : Kp W W1 H H1) (h : ∀ b, W2 b → W1 b) : Kp W W2 H H1 := ⟨a.keep, fun b z => a.mono b (h b z)⟩
theorem Kp.or {Z : Addr → Prop} (a : Kp W W1 H H1) : Kp (fun b => Z b ∨ W b) (fun b => Z b ∨ W1 b) H H1 :=
  ⟨fun b o h z => a.keep b o h (z.imp (fun q r => q (.inr r)) id), fun b z => by
    rcases z with z | z
    · exact .inl (.inl z)
    · exact (a.mono b z).imp .inr id⟩
theorem sqt_kp {a : Addr} {vs : List V} (k : Kp W W1 H H1) (h : SqT K H a vs) : SqT K H1 a vs := by
  rcases h with h | h
  · refine .inl ?_
    rcases h with h | ⟨o, h⟩
    · exact .inl (k.keep _ _ h (.inr id))
    · exact .inr ⟨o, k.keep _ _ h (.inr id)⟩
  · exact .inr h
theorem scl_kp {a : Addr} {ns : List Int} (k : Kp W W1 H H1) (h : Scl K H a ns) : Scl K H1 a ns := h.imp (fun ⟨o, h⟩ => ⟨o, k.keep _ _ h (.inr id)⟩) id
theorem Scl.sq {a : Addr} {ns : List Int} (h : Scl K H a ns) : SqL K H a (ns.map V.int) := by
  rcases h with ⟨o, h⟩ | h
  · exact .inl (.inr ⟨o, h⟩)
  · rcases h with (h | ⟨o, h⟩) | h
    · cases h
    · cases h
    · exact .inr h
theorem old_new (k : Kp A A' H H') {a : Addr} {o : HO} (h : H a = some o) (n : ¬ A a) : H' a = some o ∧ ¬ A' a :=
  ⟨k.keep a o h (.inl n), fun z => (k.mono a z).elim n fun q => by rw [h] at q; cases q⟩
mutual
theorem Rp.kp (k : Kp A A' H H') : ∀ {v : V} {d : Da}, Rp K A H v d → Rp K A' H' v d
  | _, _, .n => .n
  | _, _, .b x => .b x
  | _, _, .i x => .i x
  | _, _, .s x => .s x
  | _, _, .r x => .r x
  | _, _, .ty x => .ty x
  | _, _, .sc h => .sc (scl_kp k h)
  | _, _, .t h a => .t (sqt_kp k h) (RpA.kp k a)
  | _, _, .l h n a => .l (old_new k h n).1 (old_new k h n).2 (RpA.kp k a)
  | _, _, .dk h n a => .dk (old_new k h n).1 (old_new k h n).2 (RpK.kp k a)
  | _, _, .ins h n a => .ins (old_new k h n).1 (old_new k h n).2 (RpF.kp k a)
theorem RpA.kp (k : Kp A A' H H') : ∀ {vs : List V} {ds : List Da}, RpA K A H vs ds → RpA K A' H' vs ds
  | _, _, .nil => .nil
  | _, _, .cons h a => .cons (Rp.kp k h) (RpA.kp k a)
theorem RpK.kp (k : Kp A A' H H') : ∀ {vs : List (Key × V)} {ds : List (Key × Da)}, RpK K A H vs ds → RpK K A' H' vs ds
  | _, _, .nil => .nil
  | _, _, .cons h a => .cons (Rp.kp k h) (RpK.kp k a)
theorem RpF.kp (k : Kp A A' H H') : ∀ {vs : List (Str × V)} {ds : List (Str × Da)}, RpF K A H vs ds → RpF K A' H' vs ds
  | _, _, .nil => .nil
  | _, _, .cons h a => .cons (Rp.kp k h) (RpF.kp k a)
end
theorem Rp.anti (h : ∀ b, A' b → A b) {v : V} {d : Da} (r : Rp K A H v d) : Rp K A' H v d := r.kp ⟨fun _ _ e _ => e, fun b z => .inl (h b z)⟩
theorem RpA.anti (h : ∀ b, A' b → A b) {v : List V} {d : List Da} (r : RpA K A H v d) : RpA K A' H v d := r.kp ⟨fun _ _ e _ => e, fun b z => .inl (h b z)⟩
theorem RpA.length : ∀ {vs : List V} {ds : List Da}, RpA K A H vs ds → vs.length = ds.length
  | _, _, .nil => rfl
  | _, _, .cons h a => by rw [List.length_cons, List.length_cons, RpA.length a]
theorem RpA.append : ∀ {vs us : List V} {ds es : List Da}, RpA K A H vs ds → RpA K A H us es → RpA K A H (vs ++ us) (ds ++ es)
  | _, _, _, _, .nil, h => h
  | _, _, _, _, .cons h a, h2 => .cons h (RpA.append a h2)
theorem RpA.snoc {vs : List V} {ds : List Da} {v : V} {d : Da} (a : RpA K A H vs ds) (h : Rp K A H v d) : RpA K A H (vs ++ [v]) (ds ++ [d]) := a.append (.cons h .nil)
theorem RpA.set : ∀ {vs : List V} {ds : List Da} {j : Nat} {v : V} {d : Da}, RpA K A H vs ds → Rp K A H v d → RpA K A H (vs.set j v) (ds.set j d)
  | _, _, _, _, _, .nil, _ => .nil
  | _, _, 0, _, _, .cons _ a, h => .cons h a
  | _, _, j + 1, _, _, .cons h0 a, h => .cons h0 (RpA.set a h)
theorem RpA.take : ∀ {vs : List V} {ds : List Da} (j : Nat), RpA K A H vs ds → RpA K A H (vs.take j) (ds.take j)
  | _, _, 0, _ => .nil
  | _, _, _ + 1, .nil => .nil
  | _, _, j + 1, .cons h a => .cons h (RpA.take j a)
theorem RpA.drop : ∀ {vs : List V} {ds : List Da} (j : Nat), RpA K A H vs ds → RpA K A H (vs.drop j) (ds.drop j)
  | _, _, 0, r => r
  | _, _, _ + 1, .nil => .nil
  | _, _, j + 1, .cons h a => RpA.drop j a
theorem RpA.get : ∀ {vs : List V} {ds : List Da} {j : Nat} {d : Da}, RpA K A H vs ds → ds[j]? = some d → ∃ v, vs[j]? = some v ∧ Rp K A H v d
  | _, _, _, _, .nil, h => by simp at h
  | _, _, 0, _, .cons h0 a, h => ⟨_, rfl, by
    have := Option.some.inj h
    rw [← this]
    exact h0⟩
  | _, _, j + 1, _, .cons h0 a, h => RpA.get (j := j) a h
theorem RpA.reverse {vs : List V} {ds : List Da} (a : RpA K A H vs ds) : RpA K A H vs.reverse ds.reverse := by
  induction a using RpA.rec (motive_1 := fun _ _ _ => True) (motive_3 := fun _ _ _ => True) (motive_4 := fun _ _ _ => True) with
  | nil => exact .nil
  | cons h a _ ih => rw [List.reverse_cons, List.reverse_cons]; exact ih.snoc h
  | _ => trivial
end
theorem same_upd {H : Hp} {p : Addr} {o : HO} (h : H p = none) : Same H (upd H p o) := fun b x e => by
  rw [upd_ne (ne_of_none e h)]
  exact e
inductive Slx where
  | no | val (d : Da) | own (p : Addr) (ds : List Da)
inductive MO where
  | lst (ds : List Da) | dk (lk : Option Obj) (kvs : List (Key × Da)) | ins (C : Addr) (fs : List (Str × Da)) | dn (P : Program) (w : World) (lk : Option Obj) (kvs : List (Da × Da)) | rg (lo hi : Int)
abbrev Mx := Addr → Option MO
structure Sx where
  ρ : List Slx
  M : Mx
structure Cq where
  A0 : Addr → Prop
  W0 : Addr → Prop
  H0 : Hp
  n : Nat
def wM (M : Mx) : Addr → Prop := fun a => M a ≠ none
def Sx.W (S : Sx) : Addr → Prop := fun a => (∃ (i : Nat) (ds : List Da), S.ρ[i]? = some (Slx.own a ds)) ∨ S.M a ≠ none
def Sx.A (S : Sx) (c : Cq) : Addr → Prop := fun a => c.A0 a ∨ S.W a
def Sx.set (S : Sx) (i : Nat) (x : Slx) : Sx := ⟨S.ρ.set i x, S.M⟩
/-- a dict, locked while it is walked -/
def dkO : Option Obj → List (Key × V) → HO
  | none, kvs => .dK kvs
  | some o, kvs => .frz o (.dK kvs)
def MOk (K : PySem.W.Frag) (A : Addr → Prop) (H : Hp) (a : Addr) : MO → Prop
  | .lst ds => ∃ vs, H a = some (.lst vs) ∧ RpA K A H vs ds
  | .dk lk kds => ∃ kvs, H a = some (dkO lk kvs) ∧ RpK K A H kvs kds
  | .ins C gs => ∃ dx fs, H a = some (.ins C dx fs) ∧ RpF K A H fs gs
  | .dn P w lk kds => ∃ kas, H a = some (dnO P w a lk kas) ∧ RpN K A H kas kds
  | .rg lo hi => H a = some (.rng lo hi)
structure Rel (K : PySem.W.Frag) (c : Cq) (S : Sx) (σ : L2.St) (H : Hp) : Prop where
  len : σ.length = S.ρ.length
  cn : S.ρ.length = c.n
  val : ∀ (i : Nat) d, S.ρ[i]? = some (Slx.val d) → ∃ v, σ[i]? = some (some v) ∧ Rp K (S.A c) H v d
  own : ∀ (i : Nat) p ds, S.ρ[i]? = some (Slx.own p ds) → σ[i]? = some (some (V.ref p)) ∧ ∃ vs, H p = some (.lst vs) ∧ RpA K (S.A c) H vs ds
  inj : ∀ (i j : Nat) p ds es, S.ρ[i]? = some (Slx.own p ds) → S.ρ[j]? = some (Slx.own p es) → i = j
  sep : ∀ (i : Nat) p ds, S.ρ[i]? = some (Slx.own p ds) → S.M p = none
  mem : ∀ a m, S.M a = some m → MOk K (S.A c) H a m
  a0 : ∀ a, c.A0 a → H a ≠ none ∧ ¬ S.W a
  kp : Kp c.W0 S.W c.H0 H
section
variable {K : PySem.W.Frag} {c : Cq} {S S' : Sx} {σ σ' : L2.St} {H H' : Hp}
theorem RpN.kp {A A' : Addr → Prop} (k : Kp A A' H H') {kas : List (NestedKey × Addr × V)} {kds : List (Da × Da)} (h : RpN K A H kas kds) : RpN K A' H' kas kds := by
  induction h with
  | nil => exact .nil
  | cons hk hb hv _ ih => exact .cons hk (hb.kp k) (hv.kp k) ih
theorem MOk.kp {A A' : Addr → Prop} {a : Addr} {m : MO} (k : Kp A A' H H') (hx : ∀ o, H a = some o → H' a = some o) (h : MOk K A H a m) : MOk K A' H' a m := by
  cases m with
  | lst ds => obtain ⟨vs, e, r⟩ := h; exact ⟨vs, hx _ e, r.kp k⟩
  | dk _ ds => obtain ⟨vs, e, r⟩ := h; exact ⟨vs, hx _ e, r.kp k⟩
  | ins C ds => obtain ⟨dx, vs, e, r⟩ := h; exact ⟨dx, vs, hx _ e, r.kp k⟩
  | dn P w lk ds => obtain ⟨vs, e, r⟩ := h; exact ⟨vs, hx _ e, r.kp k⟩
  | rg lo hi => exact hx _ h
theorem Rel.next (r : Rel K c S σ H) (k : Kp S.W S'.W H H') (len : σ'.length = S'.ρ.length) (cn : S'.ρ.length = S.ρ.length)
    (val : ∀ (i : Nat) d, S'.ρ[i]? = some (Slx.val d) → ∃ v, σ'[i]? = some (some v) ∧ Rp K (S'.A c) H' v d)
    (own : ∀ (i : Nat) p ds, S'.ρ[i]? = some (Slx.own p ds) → σ'[i]? = some (some (V.ref p)) ∧ ∃ vs, H' p = some (.lst vs) ∧ RpA K (S'.A c) H' vs ds)
    (inj : ∀ (i j : Nat) p ds es, S'.ρ[i]? = some (Slx.own p ds) → S'.ρ[j]? = some (Slx.own p es) → i = j)
    (sep : ∀ (i : Nat) p ds, S'.ρ[i]? = some (Slx.own p ds) → S'.M p = none)
    (mem : ∀ a m, S'.M a = some m → MOk K (S'.A c) H' a m) : Rel K c S' σ' H' := by
  refine ⟨len, cn.trans r.cn, val, own, inj, sep, mem, fun a z => ?_, r.kp.trans k⟩
  obtain ⟨h1, h2⟩ := r.a0 a z
  cases e : H a with
  | none => exact absurd e h1
  | some o =>
    have q := k.keep a o e (.inl h2)
    refine ⟨(fun z => by rw [q] at z; cases z), fun w => ?_⟩
    rcases k.mono a w with w | w
    · exact h2 w
    · exact h1 w
theorem kA (k : Kp S.W S'.W H H') : Kp (S.A c) (S'.A c) H H' := k.or
theorem Rel.same (r : Rel K c S σ H) (s : Same H H') : Rel K c S σ H' := by
  have k : Kp S.W S.W H H' := .same s
  refine r.next k r.len rfl (fun i d e => ?_) (fun i p ds e => ?_) r.inj r.sep (fun a m e => ?_)
  · obtain ⟨v, h1, h2⟩ := r.val i d e
    exact ⟨v, h1, h2.kp (kA k)⟩
  · obtain ⟨h1, vs, h2, h3⟩ := r.own i p ds e
    exact ⟨h1, vs, s _ _ h2, h3.kp (kA k)⟩
  · exact (r.mem a m e).kp (kA k) (s a)
theorem Rel.new (r : Rel K c S σ H) {p : Addr} {o : HO} (n : H p = none) : Rel K c S σ (upd H p o) := r.same (same_upd n)
theorem get_set {α : Type} {l : List α} {i j : Nat} {x y : α} (h : (l.set i x)[j]? = some y) : (i = j ∧ x = y) ∨ (i ≠ j ∧ l[j]? = some y) := by
  rw [List.getElem?_set] at h
  by_cases e : i = j
  · subst e
    simp only [if_true] at h
    split at h
    · exact .inl ⟨rfl, Option.some.inj h⟩
    · cases h
  · rw [if_neg e] at h
    exact .inr ⟨e, h⟩
theorem set_get {α : Type} {l : List α} {i : Nat} {x : α} (h : i < l.length) : (l.set i x)[i]? = some x := List.getElem?_set_self h
/-- a slot gets a value -/
theorem Rel.setV (r : Rel K c S σ H) {i : Nat} {v : V} {d : Da} (h : Rp K (S.A c) H v d) (hi : i < S.ρ.length) : Rel K c (S.set i (.val d)) (σ.set i (some v)) H ∧ Kp S.W (S.set i (.val d)).W H H := by
  have k : Kp S.W (S.set i (.val d)).W H H := by
    refine Kp.refl.sub fun b z => ?_
    rcases z with ⟨j, ds, z⟩ | z
    · rcases get_set z with ⟨_, q⟩ | ⟨_, q⟩
      · cases q
      · exact .inl ⟨j, ds, q⟩
    · exact .inr z
  refine ⟨r.next k (by simp [Sx.set, r.len]) (by simp [Sx.set]) (fun j e he => ?_) (fun j p ds he => ?_) (fun j j' p ds es h1 h2 => ?_) (fun j p ds he => ?_) (fun a m e => ?_), k⟩
  · rcases get_set he with ⟨rfl, q⟩ | ⟨ne, q⟩
    · cases q
      exact ⟨v, set_get (by rw [r.len]; exact hi), h.kp (kA k)⟩
    · obtain ⟨v', h1, h2⟩ := r.val j e q
      exact ⟨v', by rw [List.getElem?_set_ne ne]; exact h1, h2.kp (kA k)⟩
  · rcases get_set he with ⟨rfl, q⟩ | ⟨ne, q⟩
    · cases q
    · obtain ⟨h1, vs, h2, h3⟩ := r.own j p ds q
      exact ⟨by rw [List.getElem?_set_ne ne]; exact h1, vs, h2, h3.kp (kA k)⟩
  · rcases get_set h1 with ⟨rfl, q⟩ | ⟨ne, q⟩
    · cases q
    · rcases get_set h2 with ⟨rfl, q'⟩ | ⟨ne', q'⟩
      · cases q'
      · exact r.inj j j' p ds es q q'
  · rcases get_set he with ⟨rfl, q⟩ | ⟨ne, q⟩
    · cases q
    · exact r.sep j p ds q
  · exact (r.mem a m e).kp (kA k) fun _ z => z
/-- a slot gets a new list -/
theorem Rel.setO (r : Rel K c S σ H) {i : Nat} {p : Addr} {vs : List V} {ds : List Da} (np : H p = none) (h : RpA K (S.A c) H vs ds) (hi : i < S.ρ.length) :
    Rel K c (S.set i (.own p ds)) (σ.set i (some (.ref p))) (upd H p (.lst vs)) ∧ Kp S.W (S.set i (.own p ds)).W H (upd H p (.lst vs)) := by
  have k : Kp S.W (S.set i (.own p ds)).W H (upd H p (.lst vs)) := by
    refine ⟨fun b o e _ => by rw [upd_ne (ne_of_none e np)]; exact e, fun b z => ?_⟩
    rcases z with ⟨j, ds', z⟩ | z
    · rcases get_set z with ⟨_, q⟩ | ⟨_, q⟩
      · cases q
        exact .inr np
      · exact .inl (.inl ⟨j, ds', q⟩)
    · exact .inl (.inr z)
  have s : Same H (upd H p (.lst vs)) := same_upd np
  have pn : ∀ {j : Nat} {q : Addr} {es : List Da}, S.ρ[j]? = some (Slx.own q es) → q ≠ p := fun {j q es} e => by
    obtain ⟨_, _, h2, _⟩ := r.own j q es e
    exact ne_of_none h2 np
  refine ⟨r.next k (by simp [Sx.set, r.len]) (by simp [Sx.set]) (fun j e he => ?_) (fun j q es he => ?_) (fun j j' q ds' es h1 h2 => ?_) (fun j q es he => ?_) (fun a m e => ?_), k⟩
  · rcases get_set he with ⟨rfl, q⟩ | ⟨ne, q⟩
    · cases q
    · obtain ⟨v', h1, h2⟩ := r.val j e q
      exact ⟨v', by rw [List.getElem?_set_ne ne]; exact h1, h2.kp (kA k)⟩
  · rcases get_set he with ⟨rfl, z⟩ | ⟨ne, z⟩
    · cases z
      exact ⟨set_get (by rw [r.len]; exact hi), vs, upd_same, h.kp (kA k)⟩
    · obtain ⟨h1, vs', h2, h3⟩ := r.own j q es z
      exact ⟨by rw [List.getElem?_set_ne ne]; exact h1, vs', s _ _ h2, h3.kp (kA k)⟩
  · rcases get_set h1 with ⟨e1, q1⟩ | ⟨ne, q1⟩
    · rcases get_set h2 with ⟨e2, q2⟩ | ⟨ne', q2⟩
      · rw [← e1, ← e2]
      · cases q1
        exact absurd rfl (pn q2)
    · rcases get_set h2 with ⟨e2, q2⟩ | ⟨ne', q2⟩
      · cases q2
        exact absurd rfl (pn q1)
      · exact r.inj j j' q ds' es q1 q2
  · rcases get_set he with ⟨rfl, z⟩ | ⟨ne, z⟩
    · cases z
      cases e : S.M p with
      | none => exact e
      | some m =>
        have := r.mem p m e
        cases m with
        | lst ds => obtain ⟨vs, e, r⟩ := this; rw [np] at e; cases e
        | dk _ ds => obtain ⟨vs, e, r⟩ := this; rw [np] at e; cases e
        | ins C ds => obtain ⟨dx, vs, e, r⟩ := this; rw [np] at e; cases e
        | dn P w lk ds => obtain ⟨vs, e, r⟩ := this; rw [np] at e; cases e
        | rg lo hi => have e : H p = some (.rng lo hi) := this; rw [np] at e; cases e
    · exact r.sep j q es z
  · exact (r.mem a m e).kp (kA k) fun o z => s a o z
/-- a list of one's own changes -/
theorem Rel.updO (r : Rel K c S σ H) {i : Nat} {p : Addr} {es : List Da} {vs : List V} {ds : List Da} (e : S.ρ[i]? = some (Slx.own p es)) (h : RpA K (S.A c) H vs ds) :
    Rel K c (S.set i (.own p ds)) σ (upd H p (.lst vs)) ∧ Kp S.W (S.set i (.own p ds)).W H (upd H p (.lst vs)) := by
  obtain ⟨hσ, ws, hp, _⟩ := r.own i p es e
  have hi : i < S.ρ.length := by
    rw [List.getElem?_eq_some_iff] at e
    exact e.1
  have k : Kp S.W (S.set i (.own p ds)).W H (upd H p (.lst vs)) := by
    refine ⟨fun b o eb z => ?_, fun b z => ?_⟩
    · have : b ≠ p := fun q => by
        subst q
        rcases z with z | z
        · exact z (.inl ⟨i, es, e⟩)
        · rw [hp] at eb
          cases eb
          exact z trivial
      rw [upd_ne this]
      exact eb
    · rcases z with ⟨j, ds', z⟩ | z
      · rcases get_set z with ⟨_, q⟩ | ⟨_, q⟩
        · cases q
          exact .inl (.inl ⟨i, es, e⟩)
        · exact .inl (.inl ⟨j, ds', q⟩)
      · exact .inl (.inr z)
  have pn : ∀ {j : Nat} {q : Addr} {es' : List Da}, i ≠ j → S.ρ[j]? = some (Slx.own q es') → q ≠ p := fun {j q es'} ne z1 z2 => by
    subst z2
    exact ne (r.inj i j q es es' e z1)
  refine ⟨r.next k (by simp [Sx.set, r.len]) (by simp [Sx.set]) (fun j d he => ?_) (fun j q es' he => ?_) (fun j j' q ds' es' h1 h2 => ?_) (fun j q es' he => ?_) (fun a m em => ?_), k⟩
  · rcases get_set he with ⟨rfl, q⟩ | ⟨ne, q⟩
    · cases q
    · obtain ⟨v', h1, h2⟩ := r.val j d q
      exact ⟨v', h1, h2.kp (kA k)⟩
  · rcases get_set he with ⟨rfl, z⟩ | ⟨ne, z⟩
    · cases z
      exact ⟨hσ, vs, upd_same, h.kp (kA k)⟩
    · obtain ⟨h1, vs', h2, h3⟩ := r.own j q es' z
      exact ⟨h1, vs', by rw [upd_ne (pn ne z)]; exact h2, h3.kp (kA k)⟩
  · rcases get_set h1 with ⟨e1, q1⟩ | ⟨ne, q1⟩
    · rcases get_set h2 with ⟨e2, q2⟩ | ⟨ne', q2⟩
      · rw [← e1, ← e2]
      · cases q1
        exact absurd rfl (pn ne' q2)
    · rcases get_set h2 with ⟨e2, q2⟩ | ⟨ne', q2⟩
      · cases q2
        exact absurd rfl (pn ne q1)
      · exact r.inj j j' q ds' es' q1 q2
  · rcases get_set he with ⟨rfl, z⟩ | ⟨ne, z⟩
    · cases z
      exact r.sep i p es e
    · exact r.sep j q es' z
  · refine (r.mem a m em).kp (kA k) fun o z => ?_
    have : a ≠ p := fun q => by
      have em' : S.M a = some m := em
      rw [q, r.sep i p es e] at em'
      cases em'
    rw [upd_ne this]
    exact z
/-- a list of one's own is not changed any more -/
theorem Rel.frz (r : Rel K c S σ H) {i : Nat} {p : Addr} {es : List Da} (e : S.ρ[i]? = some (Slx.own p es)) :
    Rel K c (S.set i (.val (.l es))) σ H ∧ Kp S.W (S.set i (.val (.l es))).W H H ∧ Rp K ((S.set i (.val (.l es))).A c) H (.ref p) (.l es) := by
  obtain ⟨hσ, ws, hp, hw⟩ := r.own i p es e
  have sub : ∀ b, (S.set i (.val (.l es))).W b → S.W b ∧ b ≠ p := fun b z => by
    rcases z with ⟨j, ds', z⟩ | z
    · rcases get_set z with ⟨_, q⟩ | ⟨ne, q⟩
      · cases q
      · exact ⟨.inl ⟨j, ds', q⟩, fun z => by subst z; exact ne (r.inj i j b es ds' e q)⟩
    · exact ⟨.inr z, fun w => z (by rw [w]; exact r.sep i p es e)⟩
  have k : Kp S.W (S.set i (.val (.l es))).W H H := Kp.refl.sub fun b z => (sub b z).1
  have nA : ¬ (S.set i (.val (.l es))).A c p := fun z => by
    rcases z with z | z
    · exact (r.a0 p z).2 (.inl ⟨i, es, e⟩)
    · exact (sub p z).2 rfl
  have rp : Rp K ((S.set i (.val (.l es))).A c) H (.ref p) (.l es) := .l hp nA (hw.kp (kA k))
  refine ⟨r.next k (by simp [Sx.set, r.len]) (by simp [Sx.set]) (fun j d he => ?_) (fun j q es' he => ?_) (fun j j' q ds' es' h1 h2 => ?_) (fun j q es' he => ?_) (fun a m em => ?_), k, rp⟩
  · rcases get_set he with ⟨rfl, q⟩ | ⟨ne, q⟩
    · cases q
      exact ⟨_, hσ, rp⟩
    · obtain ⟨v', h1, h2⟩ := r.val j d q
      exact ⟨v', h1, h2.kp (kA k)⟩
  · rcases get_set he with ⟨rfl, z⟩ | ⟨ne, z⟩
    · cases z
    · obtain ⟨h1, vs', h2, h3⟩ := r.own j q es' z
      exact ⟨h1, vs', h2, h3.kp (kA k)⟩
  · rcases get_set h1 with ⟨e1, q1⟩ | ⟨ne, q1⟩
    · cases q1
    · rcases get_set h2 with ⟨e2, q2⟩ | ⟨ne', q2⟩
      · cases q2
      · exact r.inj j j' q ds' es' q1 q2
  · rcases get_set he with ⟨rfl, z⟩ | ⟨ne, z⟩
    · cases z
    · exact r.sep j q es' z
  · exact (r.mem a m em).kp (kA k) fun o z => z
end
end VL
set_option Elab.async false
set_option linter.all false
set_option maxRecDepth 100000
set_option maxHeartbeats 1000000
namespace VL
open PySem PySem.Spec PyProof.Rows L2
abbrev WE := Sx → (Da → Sx → Prop) → Prop
abbrev WA := Sx → (List Da → Sx → Prop) → Prop
abbrev WT := Sx → (Bool → Sx → Prop) → Prop
structure Dn where
  nx : Sx → Prop
  rt : Da → Sx → Prop
  bk : Sx → Prop := fun _ => False
  ct : Sx → Prop := fun _ => False
abbrev WS := Dn → Sx → Prop
def Da.isO : Da → Bool
  | .o _ => true
  | _ => false
def RpS (K : PySem.W.Frag) (A : Addr → Prop) (σ : L2.St) (H : Hp) (v : V) (d : Da) : Prop := Rp K A H v d ∨ ∃ j, d = .o j ∧ σ[j]? = some (some v)
section
variable (K : PySem.W.Frag) (c : Cq)
def Pst (S : Sx) (σ : L2.St) (H : Hp) (Qd : Da → Sx → Prop) (Q : VK) : Prop :=
  ∀ d S', Qd d S' → ∀ H' v, Rel K c S' σ H' → Kp S.W S'.W H H' → RpS K (S'.A c) σ H' v d → Q v H'
def PstL (S : Sx) (σ : L2.St) (H : Hp) (Qd : List Da → Sx → Prop) (Q : VK) : Prop :=
  ∀ ds S', Qd ds S' → ∀ H' p vs, Rel K c S' σ H' → Kp S.W S'.W H H' → H' p = none → RpA K (S'.A c) H' vs ds → ds.length ≤ sizeLine → Q (.ref p) (upd H' p (.lst vs))
def PstA (S : Sx) (σ : L2.St) (H : Hp) (Qd : List Da → Sx → Prop) (Q : List V → Hp → Prop) : Prop :=
  ∀ ds S', Qd ds S' → ∀ H' vs, Rel K c S' σ H' → Kp S.W S'.W H H' → RpA K (S'.A c) H' vs ds → Q vs H'
def PstT (S : Sx) (σ : L2.St) (H : Hp) (Qd : Bool → Sx → Prop) (Q : Bool → Hp → Prop) : Prop :=
  ∀ b S', Qd b S' → ∀ H', Rel K c S' σ H' → Kp S.W S'.W H H' → Q b H'
structure PstS (S : Sx) (H : Hp) (Dd : Dn) (D : Ends) : Prop where
  nx : ∀ S', Dd.nx S' → ∀ σ' H', Rel K c S' σ' H' → Kp S.W S'.W H H' → D.nx σ' H'
  rt : ∀ d S', Dd.rt d S' → ∀ σ' H' v, Rel K c S' σ' H' → Kp S.W S'.W H H' → Rp K (S'.A c) H' v d → D.rt v H'
  bk : ∀ S', Dd.bk S' → ∀ σ' H', Rel K c S' σ' H' → Kp S.W S'.W H H' → D.bk σ' H'
  ct : ∀ S', Dd.ct S' → ∀ σ' H', Rel K c S' σ' H' → Kp S.W S'.W H H' → D.ct σ' H'
def lE (w : WE) : TE := fun σ H Q => ∃ S Qd, Rel K c S σ H ∧ w S Qd ∧ Pst K c S σ H Qd Q
/-- a new list -/
def lL (w : WA) : TE := fun σ H Q => ∃ S Qd, Rel K c S σ H ∧ w S Qd ∧ PstL K c S σ H Qd Q
def lA (w : WA) : TA := fun σ H Q => ∃ S Qd, Rel K c S σ H ∧ w S Qd ∧ PstA K c S σ H Qd Q
def lT (w : WT) : TT := fun σ H Q => ∃ S Qd, Rel K c S σ H ∧ w S Qd ∧ PstT K c S σ H Qd Q
def lS (w : WS) : TS := fun D σ H => ∃ S Dd, Rel K c S σ H ∧ w Dd S ∧ PstS K c S H Dd D
end
theorem pe_imp {X : Cx} {e : Expr} {t t' : TE} (h : PE X e t) (i : ∀ σ H Q, t' σ H Q → t σ H Q) : PE X e t' := ⟨fun pins s σ H Q I hq => h.run pins s σ H Q I (i σ H Q hq)⟩
theorem pa_imp {X : Cx} {es : List Expr} {t t' : TA} (h : PA X es t) (i : ∀ σ H Q, t' σ H Q → t σ H Q) : PA X es t' := ⟨fun pos pins s σ H Q I hq => h.run pos pins s σ H Q I (i σ H Q hq)⟩
theorem pt_imp {X : Cx} {e : Expr} {t t' : TT} (h : PT X e t) (i : ∀ σ H Q, t' σ H Q → t σ H Q) : PT X e t' := ⟨fun pins s σ H Q I hq => h.run pins s σ H Q I (i σ H Q hq)⟩
theorem pw_imp {X : Cx} {e : Expr} {t t' : TT} (h : PW X e t) (i : ∀ σ H Q, t' σ H Q → t σ H Q) : PW X e t' := ⟨fun wh pins s σ H Q I hq => h.run wh pins s σ H Q I (i σ H Q hq)⟩
theorem ps_imp {X : Cx} {e : Stmt} {t t' : TS} (h : PS X e t) (i : ∀ D σ H, t' D σ H → t D σ H) : PS X e t' := ⟨fun pins s σ H D I hq => h.run pins s σ H D I (i D σ H hq)⟩
theorem pss_imp {X : Cx} {e : List Stmt} {t t' : TS} (h : PSs X e t) (i : ∀ D σ H, t' D σ H → t D σ H) : PSs X e t' := ⟨fun pins s σ H D I hq => h.run pins s σ H D I (i D σ H hq)⟩
section
variable {K : PySem.W.Frag} {c : Cq} {S S1 S' : Sx} {σ : L2.St} {H H1 H' : Hp} {A : Addr → Prop} {v x y : V} {d e : Da} {ds es : List Da}
theorem RpS.pure (h : RpS K A σ H v d) (n : d.isO = false) : Rp K A H v d := by
  rcases h with h | ⟨j, rfl, _⟩
  · exact h
  · cases n
theorem RpS.kp {A' : Addr → Prop} (k : Kp A A' H H') (h : RpS K A σ H v d) : RpS K A' σ H' v d := h.imp (·.kp k) id
theorem PstS.at {Dd : Dn} {D : Ends} (p : PstS K c S H Dd D) (k : Kp S.W S1.W H H1) : PstS K c S1 H1 Dd D :=
  ⟨fun S' h σ' H' r k' => p.nx S' h σ' H' r (k.trans k'), fun d S' h σ' H' v r k' => p.rt d S' h σ' H' v r (k.trans k'), fun S' h σ' H' r k' => p.bk S' h σ' H' r (k.trans k'), fun S' h σ' H' r k' => p.ct S' h σ' H' r (k.trans k')⟩
theorem Rel.notA (r : Rel K c S σ H) {p : Addr} (n : H p = none) : ¬ S.A c p := fun z => by
  rcases z with z | ⟨i, ds, z⟩ | z
  · exact (r.a0 p z).1 n
  · obtain ⟨_, vs, h, _⟩ := r.own i p ds z
    rw [n] at h; cases h
  · cases e : S.M p with
    | none => exact z e
    | some m =>
      have := r.mem p m e
      cases m with
      | lst ds => obtain ⟨vs, e, r⟩ := this; rw [n] at e; cases e
      | dk _ ds => obtain ⟨vs, e, r⟩ := this; rw [n] at e; cases e
      | ins C ds => obtain ⟨dx, vs, e, r⟩ := this; rw [n] at e; cases e
      | dn P w lk ds => obtain ⟨vs, e, r⟩ := this; rw [n] at e; cases e
      | rg lo hi => have e : H p = some (.rng lo hi) := this; rw [n] at e; cases e
/-- a new object, its value -/
theorem Rel.alloc (r : Rel K c S σ H) {p : Addr} {o : HO} (n : H p = none) : Rel K c S σ (upd H p o) ∧ Kp S.W S.W H (upd H p o) ∧ ¬ S.A c p := ⟨r.new n, .same (same_upd n), r.notA n⟩
def Sx.lst (S : Sx) : Da → Option (List Da)
  | .l ds => some ds
  | .o j => match S.ρ[j]? with
    | some (.own _ ds) => some ds
    | _ => none
  | .r a => match S.M a with
    | some (.lst ds) => some ds
    | _ => none
  | _ => none
theorem lst_ok (r : Rel K c S σ H) (h : RpS K (S.A c) σ H v d) (e : S.lst d = some ds) : ∃ p vs, v = .ref p ∧ H p = some (.lst vs) ∧ RpA K (S.A c) H vs ds := by
  rcases h with h | ⟨j, rfl, hj⟩
  · cases h with
    | l h1 h2 h3 => cases e; exact ⟨_, _, rfl, h1, h3⟩
    | r a =>
      simp only [Sx.lst] at e
      split at e
      · rename_i q
        cases e
        obtain ⟨vs, h1, h2⟩ := r.mem a _ q
        exact ⟨_, _, rfl, h1, h2⟩
      · cases e
    | _ => cases e
  · simp only [Sx.lst] at e
    split at e
    · rename_i q
      cases e
      obtain ⟨h1, vs, h2, h3⟩ := r.own j _ _ q
      rw [hj] at h1
      cases h1
      exact ⟨_, _, rfl, h2, h3⟩
    · cases e
theorem tup_ok (h : RpS K A σ H v (.t ds)) : ∃ p vs, v = .ref p ∧ SqT K H p vs ∧ RpA K A H vs ds := by
  rcases h with h | ⟨j, e, _⟩
  · cases h with
    | t h1 h2 => exact ⟨_, _, rfl, h1, h2⟩
  · cases e
end
section
variable {X : Cx} {c : Cq} {pos : Pos}
def wVar (i : Nat) : WE := fun S Q => match S.ρ[i]? with
  | some (.val d) => Q d S
  | some (.own _ _) => Q (.o i) S
  | _ => False
def wC (d : Da) : WE := fun S Q => Q d S
theorem vv (i : Nat) {x : Str} (hN : X.N[i]? = some x := by rfl) (hv : Vis X.env.scope x := by first | exact Or.inl rfl | exact Or.inr (Or.inl rfl) | exact Or.inr (Or.inr rfl)) (hd : (x == ("__debug__" : Str)) = false := by decide)
    (hcd : (x == ("__classdict__" : Str)) = false := by decide) : PE X (.Name x pos) (lE X.K c (wVar i)) := by
  refine pe_imp (pe_var hN hv hd hcd) fun σ H Q h => ?_
  obtain ⟨S, Qd, r, h, p⟩ := h
  unfold wVar at h
  split at h
  · rename_i d q
    obtain ⟨v, h1, h2⟩ := r.val i d q
    exact ⟨v, h1, p _ _ h _ _ r .refl (.inl h2)⟩
  · rename_i a ds q
    obtain ⟨h1, vs, h2, h3⟩ := r.own i _ _ q
    exact ⟨_, h1, p _ _ h _ _ r .refl (.inr ⟨i, rfl, h1⟩)⟩
  · exact h.elim
theorem vc {e : Expr} {v : V} {d : Da} (h : PE X e (tC v)) (r : ∀ K A H, Rp K A H v d) : PE X e (lE X.K c (wC d)) := pe_imp h fun σ H Q h => by
  obtain ⟨S, Qd, rr, h, p⟩ := h
  exact p _ _ h _ _ rr .refl (.inl (r _ _ _))
theorem vi {i : Int} {j : Nat} : PE X (.Constant (.int i) j pos) (lE X.K c (wC (.i i))) := vc pe_int fun _ _ _ => .i i
theorem vb {b : Bool} {j : Nat} : PE X (.Constant (.bool b) j pos) (lE X.K c (wC (.b b))) := vc pe_bl fun _ _ _ => .b b
theorem vn {j : Nat} : PE X (.Constant .none j pos) (lE X.K c (wC .n)) := vc pe_non fun _ _ _ => .n
theorem vs {z : Str} {j : Nat} : PE X (.Constant (.str z) j pos) (lE X.K c (wC (.s z))) := vc pe_str fun _ _ _ => .s z
theorem vgs {x z : Str} {t : Tok} (hg : Gl X x) (hm : X.mg x = some (.str z t)) (hd : (x == ("__debug__" : Str)) = false := by decide) : PE X (.Name x pos) (lE X.K c (wC (.s z))) := vc (pe_glob hg hm (v := .str z) ⟨_, rfl⟩ hd) fun _ _ _ => .s z
end
section
variable {X : Cx} {c : Cq} {pos : Pos} {a b : Expr} {wa wb : WE}
abbrev RD := Da → Da → Sx → (Da → Sx → Prop) → Prop
abbrev RU := Da → Sx → (Da → Sx → Prop) → Prop
def wOp (rd : RD) (wa wb : WE) : WE := fun S Q => wa S fun x S1 => wb S1 fun y S2 => rd x y S2 Q
def wUn (rd : RU) (wa : WE) : WE := fun S Q => wa S fun x S1 => rd x S1 Q
/-- a rule by values says what the data's rule asks -/
def OpL (K : PySem.W.Frag) (c : Cq) (r : R2) (rd : RD) : Prop := ∀ σ H S x y dx dy Qd Q, Rel K c S σ H → RpS K (S.A c) σ H x dx → RpS K (S.A c) σ H y dy → rd dx dy S Qd → Pst K c S σ H Qd Q → r x y H Q
def UnL (K : PySem.W.Frag) (c : Cq) (r : V → Hp → VK → Prop) (rd : RU) : Prop := ∀ σ H S x dx Qd Q, Rel K c S σ H → RpS K (S.A c) σ H x dx → rd dx S Qd → Pst K c S σ H Qd Q → r x H Q
theorem Pst.at {K : PySem.W.Frag} {c : Cq} {S S1 : Sx} {σ : L2.St} {H H1 : Hp} {Qd : Da → Sx → Prop} {Q : VK} (p : Pst K c S σ H Qd Q) (k : Kp S.W S1.W H H1) : Pst K c S1 σ H1 Qd Q :=
  fun d S' h H' v r k' rp => p d S' h H' v r (k.trans k') rp
theorem PstA.at {K : PySem.W.Frag} {c : Cq} {S S1 : Sx} {σ : L2.St} {H H1 : Hp} {Qd : List Da → Sx → Prop} {Q : List V → Hp → Prop} (p : PstA K c S σ H Qd Q) (k : Kp S.W S1.W H H1) : PstA K c S1 σ H1 Qd Q :=
  fun d S' h H' v r k' rp => p d S' h H' v r (k.trans k') rp
theorem PstL.at {K : PySem.W.Frag} {c : Cq} {S S1 : Sx} {σ : L2.St} {H H1 : Hp} {Qd : List Da → Sx → Prop} {Q : VK} (p : PstL K c S σ H Qd Q) (k : Kp S.W S1.W H H1) : PstL K c S1 σ H1 Qd Q :=
  fun d S' h H' v vs r k' n rp => p d S' h H' v vs r (k.trans k') n rp
theorem PstT.at {K : PySem.W.Frag} {c : Cq} {S S1 : Sx} {σ : L2.St} {H H1 : Hp} {Qd : Bool → Sx → Prop} {Q : Bool → Hp → Prop} (p : PstT K c S σ H Qd Q) (k : Kp S.W S1.W H H1) : PstT K c S1 σ H1 Qd Q :=
  fun d S' h H' r k' => p d S' h H' r (k.trans k')
theorem lop {r : R2} {rd : RD} {K : PySem.W.Frag} (L : OpL K c r rd) : ∀ σ H Q, lE K c (wOp rd wa wb) σ H Q → tOp r (lE K c wa) (lE K c wb) σ H Q := fun σ H Q h => by
  obtain ⟨S, Qd, rr, h, p⟩ := h
  refine ⟨S, _, rr, h, fun x S1 h1 H1 v1 r1 k1 p1 => ⟨S1, _, r1, h1, fun y S2 h2 H2 v2 r2 k2 p2 => ?_⟩⟩
  exact L σ H2 S2 v1 v2 x y Qd Q r2 (p1.kp (kA k2)) p2 h2 (p.at (k1.trans k2))
theorem lun {r : V → Hp → VK → Prop} {rd : RU} {K : PySem.W.Frag} (L : UnL K c r rd) : ∀ σ H Q, lE K c (wUn rd wa) σ H Q → tUn r (lE K c wa) σ H Q := fun σ H Q h => by
  obtain ⟨S, Qd, rr, h, p⟩ := h
  exact ⟨S, _, rr, h, fun x S1 h1 H1 v1 r1 k1 p1 => L σ H1 S1 v1 x Qd Q r1 p1 h1 (p.at k1)⟩
theorem v_op {op : Operator} {r : R2} {rd : RD} (ho : OpR X (binaryOp op) r) (L : OpL X.K c r rd) (ha : PE X a (lE X.K c wa)) (hb : PE X b (lE X.K c wb)) : PE X (.BinOp a op b pos) (lE X.K c (wOp rd wa wb)) := pe_imp (pe_op ho ha hb) (lop L)
theorem v_cmp {op : CmpOp} {r : R2} {rd : RD} (ho : OpR X (compareOp op) r) (L : OpL X.K c r rd) (hm : behindInMarks op b = false) (ha : PE X a (lE X.K c wa)) (hb : PE X b (lE X.K c wb)) : PE X (.Compare a [op] [b] pos) (lE X.K c (wOp rd wa wb)) := pe_imp (pe_cmpR ho ha hb hm) (lop L)
theorem OpR.or {f : Value → Value → Sem Value} {r r' : R2} (h : OpR X f r) (h' : OpR X f r') : OpR X f (fun x y H Q => r x y H Q ∨ r' x y H Q) := fun pins s σ H x y v u Q I rx ry q => q.elim (h pins s σ H x y v u Q I rx ry) (h' pins s σ H x y v u Q I rx ry)
end
end VL
set_option Elab.async false
set_option linter.all false
set_option maxRecDepth 100000
set_option maxHeartbeats 1000000
namespace VL
open PySem PySem.Spec PyProof.Rows L2
section
variable {K : PySem.W.Frag} {c : Cq} {A : Addr → Prop} {H : Hp} {σ : L2.St} {v x y : V} {d : Da} {ds : List Da}
theorem rs_i {k : Int} (h : RpS K A σ H v (.i k)) : v = .int k := by
  rcases h with h | ⟨_, e, _⟩
  · cases h; rfl
  · cases e
theorem rs_s {k : Str} (h : RpS K A σ H v (.s k)) : v = .str k := by
  rcases h with h | ⟨_, e, _⟩
  · cases h; rfl
  · cases e
theorem rs_b {k : Bool} (h : RpS K A σ H v (.b k)) : v = .bl k := by
  rcases h with h | ⟨_, e, _⟩
  · cases h; rfl
  · cases e
theorem rs_n (h : RpS K A σ H v .n) : v = .non := by
  rcases h with h | ⟨_, e, _⟩
  · cases h; rfl
  · cases e
def rdI (C : Int → Int → Prop) (g : Int → Int → Int) : RD := fun x y S Q => match x, y with
  | .i a, .i b => C a b ∧ Q (.i (g a b)) S
  | _, _ => False
def rdI0 (g : Int → Int → Int) : RD := fun x y S Q => match x, y with
  | .i a, .i b => Q (.i (g a b)) S
  | _, _ => False
def rdC (g : Int → Int → Bool) : RD := fun x y S Q => match x, y with
  | .i a, .i b => Q (.b (g a b)) S
  | _, _ => False
theorem lI {C : Int → Int → Prop} {g : Int → Int → Int} : OpL K c (rI C fun i j => .int (g i j)) (rdI C g) := fun σ H S x y dx dy Qd Q r rx ry h p => by
  cases dx <;> cases dy <;> try exact h.elim
  obtain ⟨h1, h2⟩ := h
  exact ⟨_, _, rs_i rx, rs_i ry, h1, p _ _ h2 _ _ r .refl (.inl (.i _))⟩
theorem lI0 {g : Int → Int → Int} : OpL K c (rI0 fun i j => .int (g i j)) (rdI0 g) := fun σ H S x y dx dy Qd Q r rx ry h p => by
  cases dx <;> cases dy <;> try exact h.elim
  exact ⟨_, _, rs_i rx, rs_i ry, p _ _ h _ _ r .refl (.inl (.i _))⟩
theorem lC {g : Int → Int → Bool} : OpL K c (rI0 fun i j => .bl (g i j)) (rdC g) := fun σ H S x y dx dy Qd Q r rx ry h p => by
  cases dx <;> cases dy <;> try exact h.elim
  exact ⟨_, _, rs_i rx, rs_i ry, p _ _ h _ _ r .refl (.inl (.b _))⟩
def rdAdd : RD := fun x y S Q => match x, y with
  | .i a, .i b => Q (.i (a + b)) S
  | .s a, .s b => a.length + b.length ≤ sizeLine ∧ Q (.s (a ++ b)) S
  | .t a, .t b => a.length + b.length ≤ sizeLine ∧ Q (.t (a ++ b)) S
  | _, _ => False
def rAddA (K : PySem.W.Frag) : R2 := fun x y H Q => (rI0 fun i j => .int (i + j)) x y H Q ∨ (∃ i j, x = .str i ∧ y = .str j ∧ i.length + j.length ≤ sizeLine ∧ Q (.str (i ++ j)) H) ∨ rCatA K x y H Q
theorem op_addA {X : Cx} : OpR X (binaryOp .Add) (rAddA X.K) := op_add.or (op_add_str.or op_catA)
theorem lAdd : OpL K c (rAddA K) rdAdd := fun σ H S x y dx dy Qd Q r rx ry h p => by
  cases dx <;> cases dy <;> try exact h.elim
  · exact .inl ⟨_, _, rs_i rx, rs_i ry, p _ _ h _ _ r .refl (.inl (.i _))⟩
  · exact .inr (.inl ⟨_, _, rs_s rx, rs_s ry, h.1, p _ _ h.2 _ _ r .refl (.inl (.s _))⟩)
  · rename_i ds es
    obtain ⟨a, vs, ea, ha, ra⟩ := tup_ok rx
    obtain ⟨b, us, eb, hb, rb⟩ := tup_ok ry
    have l1 := ra.length
    have l2 := rb.length
    obtain ⟨h1, h2⟩ := h
    refine .inr (.inr ⟨a, b, vs, us, ea, eb, ha, hb, by omega, fun e => ?_, fun _ e => ?_, fun _ _ q nq => ?_⟩)
    · subst e
      have : ds = [] := List.length_eq_zero_iff.mp (by simpa using l1.symm)
      subst this
      exact p _ _ h2 _ _ r .refl (.inl (.t hb rb))
    · subst e
      have : es = [] := List.length_eq_zero_iff.mp (by simpa using l2.symm)
      subst this
      rw [List.append_nil] at h2
      exact p _ _ h2 _ _ r .refl (.inl (.t ha ra))
    · obtain ⟨r', k, nA⟩ := r.alloc (o := .tup (vs ++ us)) nq
      exact p _ _ h2 _ _ r' k (.inl (.t (.inl (.inl upd_same)) ((ra.append rb).kp (kA k))))
mutual
def Da.py : Da → PyData
  | .n => .none
  | .b x => .bool x
  | .i k => .int k
  | .s z => .str z
  | .t ds => .tuple (pys ds)
  | .l ds => .list (pys ds)
  | _ => .none
def pys : List Da → List PyData
  | [] => []
  | d :: ds => d.py :: pys ds
end
mutual
/-- plain data, that == knows -/
def Da.pl : Da → Bool
  | .n => true
  | .b _ => true
  | .i _ => true
  | .s z => PyData.strOk z
  | .t ds => pls ds
  | .l ds => pls ds
  | _ => false
def pls : List Da → Bool
  | [] => true
  | d :: ds => d.pl && pls ds
end
mutual
theorem Rp.dp : ∀ {v : V} {d : Da}, d.pl = true → Rp K A H v d → Dp K H v d.py
  | _, _, _, .n => .non
  | _, _, _, .b x => .bl x
  | _, _, _, .i x => .int x
  | _, _, _, .s x => .str x
  | _, _, h, .t h1 h2 => .tup h1 (RpA.dp (by simpa [Da.pl] using h) h2)
  | _, _, h, .l h1 _ h2 => .lst (SqL.of h1) (RpA.dp (by simpa [Da.pl] using h) h2)
  | _, _, h, .r _ => by simp [Da.pl] at h
  | _, _, h, .ty _ => by simp [Da.pl] at h
  | _, _, h, .sc _ => by simp [Da.pl] at h
  | _, _, h, .dk _ _ _ => by simp [Da.pl] at h
  | _, _, h, .ins _ _ _ => by simp [Da.pl] at h
theorem RpA.dp : ∀ {vs : List V} {ds : List Da}, pls ds = true → RpA K A H vs ds → DpAll K H vs (pys ds)
  | _, _, _, .nil => .nil
  | _, _, h, .cons h1 h2 => by
    simp only [pls, Bool.and_eq_true] at h
    exact .cons (Rp.dp h.1 h1) (RpA.dp h.2 h2)
end
mutual
theorem canLay_py : ∀ d : Da, d.pl = true → d.py.canLay0 = true
  | .n, _ => rfl
  | .b _, _ => rfl
  | .i _, _ => rfl
  | .s z, h => by simpa [Da.py, PyData.canLay0, Da.pl] using h
  | .t ds, h => by
    simp only [Da.py, PyData.canLay0]
    exact canLay_pys ds (by simpa [Da.pl] using h)
  | .l ds, h => by
    simp only [Da.py, PyData.canLay0]
    exact canLay_pys ds (by simpa [Da.pl] using h)
  | .dk _, _ => rfl
  | .ins _ _, _ => rfl
  | .r _, _ => rfl
  | .ty _, _ => rfl
  | .sc _, _ => rfl
  | .o _, _ => rfl
theorem canLay_pys : ∀ ds : List Da, pls ds = true → PyData.canLayAll0 (pys ds) = true
  | [], _ => rfl
  | d :: ds, h => by
    simp only [pls, Bool.and_eq_true] at h
    simp only [pys, PyData.canLayAll0, Bool.and_eq_true]
    exact ⟨canLay_py d h.1, canLay_pys ds h.2⟩
end
/-- == can be asked of it -/
def Da.eqb (d : Da) : Bool := d.pl && decide (d.py.depth ≤ 64)
theorem eqb_shaped (h : d.eqb = true) : SeqAt.shaped d.py = true ∧ d.pl = true := by
  unfold Da.eqb at h
  rw [Bool.and_eq_true] at h
  refine ⟨?_, h.1⟩
  show (d.py.canLay0 && decide (d.py.depth ≤ 64)) = true
  rw [canLay_py d h.1, h.2]
  rfl
/-- the scalars -/
def Da.va : Da → V
  | .b x => .bl x
  | .i k => .int k
  | .s z => .str z
  | _ => .non
def Da.fl : Da → Bool
  | .n => true
  | .b _ => true
  | .i _ => true
  | .s _ => true
  | _ => false
theorem rs_fl (f : d.fl = true) (h : RpS K A σ H v d) : v = d.va := by
  cases d <;> first
    | exact rs_n h
    | exact rs_b h
    | exact rs_i h
    | exact rs_s h
    | exact Bool.noConfusion f
theorem fl_flat (f : d.fl = true) : flatV d.va = true := by
  cases d <;> first | rfl | exact Bool.noConfusion f
theorem rpa_fl : ∀ {ds : List Da} {vs : List V}, ds.all Da.fl = true → RpA K A H vs ds → vs = ds.map Da.va ∧ vs.all flatV = true
  | _, _, _, .nil => ⟨rfl, rfl⟩
  | _, _, f, .cons h a => by
    rw [List.all_cons, Bool.and_eq_true] at f
    obtain ⟨e1, e2⟩ := rpa_fl f.2 a
    have e := rs_fl (σ := []) f.1 (.inl h)
    subst e
    rw [List.map_cons, ← e1, List.all_cons, e2, fl_flat f.1]
    exact ⟨rfl, rfl⟩
/-- == of scalars -/
def eqF : Da → Da → Bool
  | .n, .n => true
  | .b x, .b y => decide (x = y)
  | .i x, .i y => decide (x = y)
  | .s x, .s y => decide (x = y)
  | _, _ => false
theorem dec_of {p q : Prop} [Decidable p] [Decidable q] (h : p ↔ q) : decide p = decide q := by
  by_cases hp : p
  · rw [decide_eq_true hp, decide_eq_true (h.mp hp)]
  · rw [decide_eq_false hp, decide_eq_false fun z => hp (h.mpr z)]
theorem eqF_ok {x y : Da} (hx : x.fl = true) (hy : y.fl = true) : decide (x.va = y.va) = eqF x y := by
  cases x <;> cases y <;> first
    | exact Bool.noConfusion hx
    | exact Bool.noConfusion hy
    | exact decide_eq_false (fun e => by cases e)
    | exact decide_eq_true rfl
    | exact dec_of ⟨fun e => by injection e, fun e => by rw [e]⟩
def rdEq : RD := fun x y S Q => (x.fl = true ∧ y.fl = true ∧ scal x.va y.va = true ∧ Q (.b (eqF x y)) S) ∨ (x.eqb = true ∧ y.eqb = true ∧ Q (.b (PyData.eqv x.py y.py)) S)
def rdNe : RD := fun x y S Q => (x.fl = true ∧ y.fl = true ∧ scal x.va y.va = true ∧ Q (.b (!eqF x y)) S) ∨ (x.eqb = true ∧ y.eqb = true ∧ Q (.b (!PyData.eqv x.py y.py)) S)
def rEqA (K : PySem.W.Frag) : R2 := fun x y H Q => rEq x y H Q ∨ rEqD K x y H Q
def rNeA (K : PySem.W.Frag) : R2 := fun x y H Q => rNe x y H Q ∨ rNeD K x y H Q
theorem op_eqA {X : Cx} (hu : X.A.units + 64 < cLine) : OpR X (compareOp .Eq) (rEqA X.K) := op_eq.or (op_eqD hu)
theorem op_neA {X : Cx} (hu : X.A.units + 64 < cLine) : OpR X (compareOp .NotEq) (rNeA X.K) := op_ne.or (op_neD hu)
theorem eqb_no (h : d.eqb = true) : d.isO = false := by
  cases d <;> first | rfl | (simp [Da.eqb, Da.pl] at h)
theorem lEq : OpL K c (rEqA K) rdEq := fun σ H S x y dx dy Qd Q r rx ry h p => by
  rcases h with ⟨f1, f2, f3, h⟩ | ⟨f1, f2, h⟩
  · rw [rs_fl f1 rx, rs_fl f2 ry]
    exact .inl ⟨f3, by rw [eqF_ok f1 f2]; exact p _ _ h _ _ r .refl (.inl (.b _))⟩
  · exact .inr ⟨_, _, (rx.pure (eqb_no f1)).dp (eqb_shaped f1).2, (ry.pure (eqb_no f2)).dp (eqb_shaped f2).2, (eqb_shaped f1).1, (eqb_shaped f2).1, p _ _ h _ _ r .refl (.inl (.b _))⟩
theorem lNe : OpL K c (rNeA K) rdNe := fun σ H S x y dx dy Qd Q r rx ry h p => by
  rcases h with ⟨f1, f2, f3, h⟩ | ⟨f1, f2, h⟩
  · rw [rs_fl f1 rx, rs_fl f2 ry]
    exact .inl ⟨f3, by rw [eqF_ok f1 f2]; exact p _ _ h _ _ r .refl (.inl (.b _))⟩
  · exact .inr ⟨_, _, (rx.pure (eqb_no f1)).dp (eqb_shaped f1).2, (ry.pure (eqb_no f2)).dp (eqb_shaped f2).2, (eqb_shaped f1).1, (eqb_shaped f2).1, p _ _ h _ _ r .refl (.inl (.b _))⟩
def Sx.sq (S : Sx) : Da → Option (List Da)
  | .t ds => some ds
  | .sc ns => some (ns.map Da.i)
  | d => S.lst d
theorem rpa_ofInts {K : PySem.W.Frag} {A : Addr → Prop} {H : Hp} : ∀ ns : List Int, RpA K A H (ns.map V.int) (ns.map Da.i)
  | [] => .nil
  | n :: r => .cons (.i n) (rpa_ofInts r)
theorem sc_ok {ns : List Int} (h : RpS K A σ H v (.sc ns)) : ∃ p, v = .ref p ∧ SqL K H p (ns.map V.int) := by
  rcases h with h | ⟨j, e, _⟩
  · cases h with
    | sc h1 => exact ⟨_, rfl, h1.sq⟩
  · cases e
theorem sq_ok {S : Sx} (r : Rel K c S σ H) (h : RpS K (S.A c) σ H v d) (e : S.sq d = some ds) : ∃ p vs, v = .ref p ∧ (SqL K H p vs ∨ SqT K H p vs) ∧ RpA K (S.A c) H vs ds := by
  cases d with
  | t es =>
    cases e
    obtain ⟨p, vs, e1, h1, h2⟩ := tup_ok h
    exact ⟨p, vs, e1, .inr h1, h2⟩
  | sc ns =>
    cases e
    obtain ⟨p, e1, h1⟩ := sc_ok h
    exact ⟨p, _, e1, .inl h1, rpa_ofInts ns⟩
  | _ =>
    obtain ⟨p, vs, e1, h1, h2⟩ := lst_ok r h e
    exact ⟨p, vs, e1, .inl (SqL.of h1), h2⟩
def inD (x : Da) (ds : List Da) : Bool := inV x.va (ds.map Da.va)
/-- x in a list or tuple of flat things; in a text -/
def rdIn (neg : Bool) : RD := fun x y S Q => match x, y with
  | .s a, .s b => Q (.b (if neg then !(!(Builtin.Str.occurrences b a 0 b.length 1).isEmpty) else !(Builtin.Str.occurrences b a 0 b.length 1).isEmpty)) S
  | x, y => ∃ ds, S.sq y = some ds ∧ x.fl = true ∧ ds.all Da.fl = true ∧ Q (.b (if neg then !inD x ds else inD x ds)) S
def rInA (K : PySem.W.Frag) : R2 := fun x y H Q => rIn K false x y H Q ∨ (∃ i j, x = .str i ∧ y = .str j ∧ Q (.bl (!(Builtin.Str.occurrences j i 0 j.length 1).isEmpty)) H)
theorem op_inA {X : Cx} : OpR X (compareOp .In) (rInA X.K) := op_in_seq.or op_in_str
theorem lInL {neg : Bool} {S : Sx} {dx dy : Da} {Qd : Da → Sx → Prop} {Q : VK} (r : Rel K c S σ H) (rx : RpS K (S.A c) σ H x dx) (ry : RpS K (S.A c) σ H y dy)
    (h : ∃ ds, S.sq dy = some ds ∧ dx.fl = true ∧ ds.all Da.fl = true ∧ Qd (.b (if neg then !inD dx ds else inD dx ds)) S) (p : Pst K c S σ H Qd Q) : rIn K neg x y H Q := by
  obtain ⟨ds, e, f1, f2, h⟩ := h
  obtain ⟨a, vs, e1, h1, h2⟩ := sq_ok r ry e
  obtain ⟨e3, f3⟩ := rpa_fl f2 h2
  have e2 := rs_fl f1 rx
  subst e2
  refine ⟨a, vs, e1, h1, fl_flat f1, f3, ?_⟩
  rw [e3]
  have h' : Qd (.b (if neg then !inV dx.va (ds.map Da.va) else inV dx.va (ds.map Da.va))) S := h
  cases neg
  · exact p _ _ h' _ _ r .refl (.inl (.b _))
  · exact p _ _ h' _ _ r .refl (.inl (.b _))
theorem lIn : OpL K c (rInA K) (rdIn false) := fun σ H S x y dx dy Qd Q r rx ry h p => by
  unfold rdIn at h
  split at h
  · exact .inr ⟨_, _, rs_s rx, rs_s ry, p _ _ h _ _ r .refl (.inl (.b _))⟩
  · exact .inl (lInL (neg := false) r rx ry h p)
def Da.isN : Da → Bool
  | .n => true
  | _ => false
theorem isN_ok (r : Rp K A H v d) : decide (v = .non) = d.isN := by
  cases r <;> first | rfl | exact decide_eq_false (fun e => by cases e)
def rdIs (neg : Bool) : RD := fun x y S Q => match x, y with
  | .o _, _ => False
  | x, .n => Q (.b (if neg then !x.isN else x.isN)) S
  | _, _ => False
theorem lIs : OpL K c (fun x y H Q => y = .non ∧ Q (.bl (decide (x = .non))) H) (rdIs false) := fun σ H S x y dx dy Qd Q r rx ry h p => by
  unfold rdIs at h
  split at h
  · exact h.elim
  · rename_i no
    refine ⟨rs_n ry, ?_⟩
    rw [isN_ok (rx.pure (by cases dx <;> first | rfl | exact absurd rfl (no _)))]
    exact p _ _ h _ _ r .refl (.inl (.b _))
  · exact h.elim
theorem lIsNot : OpL K c (fun x y H Q => y = .non ∧ Q (.bl (!decide (x = .non))) H) (rdIs true) := fun σ H S x y dx dy Qd Q r rx ry h p => by
  unfold rdIs at h
  split at h
  · exact h.elim
  · rename_i no
    refine ⟨rs_n ry, ?_⟩
    rw [isN_ok (rx.pure (by cases dx <;> first | rfl | exact absurd rfl (no _)))]
    exact p _ _ h _ _ r .refl (.inl (.b _))
  · exact h.elim
end
end VL
set_option Elab.async false
set_option linter.all false
set_option maxRecDepth 100000
set_option maxHeartbeats 1000000
namespace VL
open PySem PySem.Spec PyProof.Rows L2
section
variable {X : Cx} {c : Cq} {pos p apos : Pos} {e a b : Expr} {es rest : List Expr} {we wa wb : WE} {wt wu : WT} {wl wr : WA}
def wFz (we : WE) : WE := fun S Q => we S fun d S' => match d with
  | .o i => match S'.ρ[i]? with
    | some (.own _ ds) => Q (.l ds) (S'.set i (.val (.l ds)))
    | _ => False
  | d => Q d S'
theorem vFz (h : PE X e (lE X.K c we)) : PE X e (lE X.K c (wFz we)) := pe_imp h fun σ H Q h => by
  obtain ⟨S, Qd, r, h, p⟩ := h
  refine ⟨S, _, r, h, fun d S1 h1 H1 v r1 k1 p1 => ?_⟩
  split at h1
  · rename_i i
    split at h1
    · rename_i q ds e
      obtain ⟨r2, k2, p2⟩ := r1.frz e
      have : v = .ref q := by
        rcases p1 with p1 | ⟨j, e1, e2⟩
        · cases p1
        · cases e1
          rw [(r1.own _ _ _ e).1] at e2
          cases e2
          rfl
      subst this
      exact p _ _ h1 _ _ r2 (k1.trans k2) (.inl p2)
    · exact h1.elim
  · exact p _ _ h1 _ _ r1 k1 p1
def wB (we : WE) : WT := fun S Q => we S fun d S' => match d with
  | .b k => Q k S'
  | _ => False
theorem lB {K : PySem.W.Frag} : ∀ σ H Q, lT K c (wB we) σ H Q → tB (lE K c we) σ H Q := fun σ H Q h => by
  obtain ⟨S, Qd, r, h, p⟩ := h
  refine ⟨S, _, r, h, fun d S1 h1 H1 v r1 k1 p1 => ?_⟩
  cases d <;> try exact h1.elim
  exact ⟨_, rs_b p1, p _ _ h1 _ r1 k1⟩
theorem vB (h : PE X e (lE X.K c we)) (he : ∀ whole, isTrue e X.env whole = (do let v ← whole; standAt e.pos; holding [v] (truthy v)) := by intro _; rfl) : PT X e (lT X.K c (wB we)) := pt_imp (pt_val h he) lB
theorem lTest {K : PySem.W.Frag} {t : TE} (h : ∀ σ H Q, lE K c we σ H Q → t σ H Q) : ∀ σ H Q, lT K c (wB we) σ H Q → tTest t σ H Q := fun σ H Q h' => by
  obtain ⟨S, Qd, r, h', p⟩ := h'
  refine h _ _ _ ⟨S, _, r, h', fun d S1 h1 H1 v r1 k1 p1 => ?_⟩
  cases d <;> try exact h1.elim
  exact ⟨_, rs_b p1, p _ _ h1 _ r1 k1⟩
theorem vt_cmp {op : CmpOp} {r : R2} {rd : RD} (ho : OpR X (compareOp op) r) (L : OpL X.K c r rd) (hm : behindInMarks op b = false) (ha : PE X a (lE X.K c wa)) (hb : PE X b (lE X.K c wb)) : PT X (.Compare a [op] [b] pos) (lT X.K c (wB (wOp rd wa wb))) :=
  pt_imp (pt_cmpR ho ha hb hm) (lTest (lop L))
/-- truth -/
def trD (S : Sx) (d : Da) (Q : Bool → Prop) : Prop := match d with
  | .n => Q false
  | .b k => Q k
  | .i k => Q (k != 0)
  | .s z => z.length ≤ sizeLine ∧ Q ((z.length : Int) != 0)
  | .t ds => Q (!ds.isEmpty)
  | .dk ds => Q (!ds.isEmpty)
  | .l ds => Q (!ds.isEmpty)
  | d => ∃ ds, S.lst d = some ds ∧ Q (!ds.isEmpty)
def wTr (we : WE) : WT := fun S Q => we S fun d S' => trD S' d fun k => Q k S'
theorem rpa_empty {K : PySem.W.Frag} {A : Addr → Prop} {H : Hp} {vs : List V} {ds : List Da} (h : RpA K A H vs ds) : vs.isEmpty = ds.isEmpty := by cases h <;> rfl
theorem rpk_empty {K : PySem.W.Frag} {A : Addr → Prop} {H : Hp} {vs : List (Key × V)} {ds : List (Key × Da)} (h : RpK K A H vs ds) : vs.isEmpty = ds.isEmpty := by cases h <;> rfl
theorem tr_ok {K : PySem.W.Frag} {S : Sx} {σ : L2.St} {H : Hp} {v : V} {d : Da} {Q : Bool → Prop} (r : Rel K c S σ H) (h : RpS K (S.A c) σ H v d) (t : trD S d Q) : ∃ k, TruV K v H k ∧ Q k := by
  cases d with
  | n => rw [rs_n h]; exact ⟨_, rfl, t⟩
  | b x => rw [rs_b h]; exact ⟨_, rfl, t⟩
  | i x => rw [rs_i h]; exact ⟨_, rfl, t⟩
  | s x => rw [rs_s h]; exact ⟨_, ⟨t.1, rfl⟩, t.2⟩
  | t ds =>
    obtain ⟨q, vs, rfl, h1, h2⟩ := tup_ok h
    exact ⟨_, .inr (.inl ⟨vs, h1, rfl⟩), by rw [rpa_empty h2]; exact t⟩
  | l ds =>
    obtain ⟨q, vs, rfl, h1, h2⟩ := lst_ok r h rfl
    exact ⟨_, .inl ⟨vs, SqL.of h1, rfl⟩, by rw [rpa_empty h2]; exact t⟩
  | dk ds =>
    cases h.pure rfl with
    | dk h1 _ h2 => exact ⟨_, .inr (.inr ⟨_, h1, rfl⟩), by rw [rpk_empty h2]; exact t⟩
  | ins C fs => obtain ⟨ds, e, _⟩ := t; cases e
  | ty _ => obtain ⟨ds, e, _⟩ := t; cases e
  | sc _ => obtain ⟨ds, e, _⟩ := t; cases e
  | r x =>
    obtain ⟨ds, e, t⟩ := t
    obtain ⟨q, vs, rfl, h1, h2⟩ := lst_ok r h e
    exact ⟨_, .inl ⟨vs, SqL.of h1, rfl⟩, by rw [rpa_empty h2]; exact t⟩
  | o x =>
    obtain ⟨ds, e, t⟩ := t
    obtain ⟨q, vs, rfl, h1, h2⟩ := lst_ok r h e
    exact ⟨_, .inl ⟨vs, SqL.of h1, rfl⟩, by rw [rpa_empty h2]; exact t⟩
theorem vTr (h : PE X e (lE X.K c we)) (he : ∀ whole, isTrue e X.env whole = (do let v ← whole; standAt e.pos; holding [v] (truthy v)) := by intro _; rfl) : PT X e (lT X.K c (wTr we)) := pt_imp (pt_truth h he) fun σ H Q h => by
  obtain ⟨S, Qd, r, h, p⟩ := h
  refine ⟨S, _, r, h, fun d S1 h1 H1 v r1 k1 p1 => ?_⟩
  obtain ⟨k, t, q⟩ := tr_ok r1 p1 h1
  exact ⟨k, t, p _ _ q _ r1 k1⟩
def wAnd (wt wu : WT) : WT := fun S Q => wt S fun k S1 => if k = true then wu S1 Q else Q false S1
def wOr (wt wu : WT) : WT := fun S Q => wt S fun k S1 => if k = true then Q true S1 else wu S1 Q
def wNot (wt : WT) : WT := fun S Q => wt S fun k S1 => Q (!k) S1
theorem ite_of {k : Bool} {P Q P' Q' : Prop} (h : if k = true then P else Q) (h1 : P → P') (h2 : Q → Q') : if k = true then P' else Q' := by
  cases k
  · exact h2 h
  · exact h1 h
theorem v_and (ha : PT X a (lT X.K c wt)) (hb : PW X (.BoolOp .And (b :: rest) pos) (lT X.K c wu)) : PW X (.BoolOp .And (a :: b :: rest) pos) (lT X.K c (wAnd wt wu)) := pw_imp (pw_and ha hb) fun σ H Q h => by
  obtain ⟨S, Qd, r, h, p⟩ := h
  exact ⟨S, _, r, h, fun k S1 h1 H1 r1 k1 => ite_of h1 (fun h2 => ⟨S1, _, r1, h2, p.at k1⟩) fun h2 => p _ _ h2 _ r1 k1⟩
theorem v_or (ha : PT X a (lT X.K c wt)) (hb : PW X (.BoolOp .Or (b :: rest) pos) (lT X.K c wu)) : PW X (.BoolOp .Or (a :: b :: rest) pos) (lT X.K c (wOr wt wu)) := pw_imp (pw_or ha hb) fun σ H Q h => by
  obtain ⟨S, Qd, r, h, p⟩ := h
  exact ⟨S, _, r, h, fun k S1 h1 H1 r1 k1 => ite_of h1 (fun h2 => p _ _ h2 _ r1 k1) fun h2 => ⟨S1, _, r1, h2, p.at k1⟩⟩
theorem v_not (ha : PT X a (lT X.K c wt)) : PT X (.UnaryOp .Not a pos) (lT X.K c (wNot wt)) := pt_imp (pt_not ha) fun σ H Q h => by
  obtain ⟨S, Qd, r, h, p⟩ := h
  exact ⟨S, _, r, h, fun k S1 h1 H1 r1 k1 => p _ _ h1 _ r1 k1⟩
def wAndV (wa wb : WE) : WE := fun S Q => wa S fun d S1 => match d with
  | .b k => if k = true then wb S1 Q else Q (.b false) S1
  | _ => False
def wOrV (wa wb : WE) : WE := fun S Q => wa S fun d S1 => match d with
  | .b k => if k = true then Q (.b true) S1 else wb S1 Q
  | _ => False
def wNotV (wa : WE) : WE := fun S Q => wa S fun d S1 => match d with
  | .b k => Q (.b (!k)) S1
  | _ => False
theorem ve_and (ha : PE X a (lE X.K c wa)) (hb : PE X (.BoolOp .And (b :: rest) pos) (lE X.K c wb)) : PE X (.BoolOp .And (a :: b :: rest) pos) (lE X.K c (wAndV wa wb)) := pe_imp (pe_and ha hb) fun σ H Q h => by
  obtain ⟨S, Qd, r, h, p⟩ := h
  refine ⟨S, _, r, h, fun d S1 h1 H1 v r1 k1 p1 => ?_⟩
  cases d <;> try exact h1.elim
  exact ⟨_, rs_b p1, ite_of h1 (fun h2 => ⟨S1, _, r1, h2, p.at k1⟩) fun h2 => p _ _ h2 _ _ r1 k1 (.inl (.b _))⟩
theorem ve_or (ha : PE X a (lE X.K c wa)) (hb : PE X (.BoolOp .Or (b :: rest) pos) (lE X.K c wb)) : PE X (.BoolOp .Or (a :: b :: rest) pos) (lE X.K c (wOrV wa wb)) := pe_imp (pe_or ha hb) fun σ H Q h => by
  obtain ⟨S, Qd, r, h, p⟩ := h
  refine ⟨S, _, r, h, fun d S1 h1 H1 v r1 k1 p1 => ?_⟩
  cases d <;> try exact h1.elim
  exact ⟨_, rs_b p1, ite_of h1 (fun h2 => p _ _ h2 _ _ r1 k1 (.inl (.b _))) fun h2 => ⟨S1, _, r1, h2, p.at k1⟩⟩
theorem ve_not (ha : PE X a (lE X.K c wa)) : PE X (.UnaryOp .Not a pos) (lE X.K c (wNotV wa)) := pe_imp (pe_not ha) fun σ H Q h => by
  obtain ⟨S, Qd, r, h, p⟩ := h
  refine ⟨S, _, r, h, fun d S1 h1 H1 v r1 k1 p1 => ?_⟩
  cases d <;> try exact h1.elim
  exact ⟨_, rs_b p1, p _ _ h1 _ _ r1 k1 (.inl (.b _))⟩
def wIte (wt : WT) (wa wb : WE) : WE := fun S Q => wt S fun k S1 => if k = true then wa S1 Q else wb S1 Q
theorem v_ite {t : Expr} (ht : PT X t (lT X.K c wt)) (ha : PE X a (lE X.K c wa)) (hb : PE X b (lE X.K c wb)) : PE X (.IfExp t a b pos) (lE X.K c (wIte wt wa wb)) := pe_imp (pe_ifExp ht ha hb) fun σ H Q h => by
  obtain ⟨S, Qd, r, h, p⟩ := h
  exact ⟨S, _, r, h, fun k S1 h1 H1 r1 k1 => ite_of h1 (fun h2 => ⟨S1, _, r1, h2, p.at k1⟩) fun h2 => ⟨S1, _, r1, h2, p.at k1⟩⟩
/-- a <= b <= c -/
def wChain (rd rd' : RD) (wa wb wc : WE) : WE := fun S Q => wa S fun x S1 => wb S1 fun y S2 => rd x y S2 fun z S3 => match z with
  | .b k => if k = true then wc S3 fun u S4 => rd' y u S4 Q else Q (.b false) S3
  | _ => False
theorem lchain {K : PySem.W.Frag} {r r' : R2} {rd rd' : RD} {wc : WE} (L : OpL K c r rd) (L' : OpL K c r' rd') : ∀ σ H Q, lE K c (wChain rd rd' wa wb wc) σ H Q → tChain r r' (lE K c wa) (lE K c wb) (lE K c wc) σ H Q := fun σ H Q h => by
  obtain ⟨S, Qd, rr, h, p⟩ := h
  refine ⟨S, _, rr, h, fun x S1 h1 H1 v1 r1 k1 p1 => ⟨S1, _, r1, h1, fun y S2 h2 H2 v2 r2 k2 p2 => ?_⟩⟩
  refine L σ H2 S2 v1 v2 x y _ _ r2 (p1.kp (kA k2)) p2 h2 fun z S3 h3 H3 v3 r3 k3 p3 => ?_
  cases z <;> try exact h3.elim
  refine ⟨_, rs_b p3, ite_of h3 (fun h4 => ⟨S3, _, r3, h4, fun u S4 h4 H4 v4 r4 k4 p4 => ?_⟩) fun h4 => p _ _ h4 _ _ r3 ((k1.trans k2).trans k3) (.inl (.b _))⟩
  exact L' σ H4 S4 v2 v4 y u Qd Q r4 (p2.kp (kA (k3.trans k4))) p4 h4 (p.at (((k1.trans k2).trans k3).trans k4))
theorem v_chain {op op' : CmpOp} {r r' : R2} {rd rd' : RD} {d : Expr} {wc : WE} (ho : OpR X (compareOp op) r) (L : OpL X.K c r rd) (ho' : OpR X (compareOp op') r') (L' : OpL X.K c r' rd') (ha : PE X a (lE X.K c wa)) (hb : PE X b (lE X.K c wb)) (hc : PE X d (lE X.K c wc))
    (hm : lastMarks [op, op'] [b, d] = false := by with_unfolding_all rfl) : PE X (.Compare a [op, op'] [b, d] pos) (lE X.K c (wChain rd rd' wa wb wc)) := pe_imp (pe_chain ho ho' ha hb hc hm) (lchain L L')
theorem vt_chain {op op' : CmpOp} {r r' : R2} {rd rd' : RD} {d : Expr} {wc : WE} (ho : OpR X (compareOp op) r) (L : OpL X.K c r rd) (ho' : OpR X (compareOp op') r') (L' : OpL X.K c r' rd') (ha : PE X a (lE X.K c wa)) (hb : PE X b (lE X.K c wb)) (hc : PE X d (lE X.K c wc))
    (hm : lastMarks [op, op'] [b, d] = false := by with_unfolding_all rfl) : PT X (.Compare a [op, op'] [b, d] pos) (lT X.K c (wB (wChain rd rd' wa wb wc))) := pt_imp (pt_chain ho ho' ha hb hc hm) (lTest (lchain L L'))
def wNil : WA := fun S Q => Q [] S
def wCons (we : WE) (wr : WA) : WA := fun S Q => we S fun d S1 => d.isO = false ∧ wr S1 fun ds S2 => Q (d :: ds) S2
theorem v_nil : PA X [] (lA X.K c wNil) := pa_imp pa_nil fun σ H Q h => by
  obtain ⟨S, Qd, r, h, p⟩ := h
  exact p _ _ h _ _ r .refl .nil
theorem v_cons (he : PE X e (lE X.K c we)) (hr : PA X es (lA X.K c wr)) (hs : starEach (e :: es) X.env = (false, eval e X.env) :: starEach es X.env := by rfl) : PA X (e :: es) (lA X.K c (wCons we wr)) := pa_imp (pa_cons he hr hs) fun σ H Q h => by
  obtain ⟨S, Qd, r, h, p⟩ := h
  refine ⟨S, _, r, h, fun d S1 h1 H1 v r1 k1 p1 => ⟨S1, _, r1, h1.2, fun ds S2 h2 H2 vs r2 k2 p2 => ?_⟩⟩
  exact p _ _ h2 _ _ r2 (k1.trans k2) (.cons ((p1.pure h1.1).kp (kA k2)) p2)
def wTup (wl : WA) : WE := fun S Q => wl S fun ds S' => ds.length ≤ sizeLine ∧ Q (.t ds) S'
theorem v_tup {k : Nat} (h : PA X es (lA X.K c wl)) : PE X (.Tuple es k pos) (lE X.K c (wTup wl)) := pe_imp (pe_tup h) fun σ H Q h => by
  obtain ⟨S, Qd, r, h, p⟩ := h
  refine ⟨S, _, r, h, fun ds S1 h1 H1 vs r1 k1 p1 => ⟨by rw [p1.length]; exact h1.1, fun q nq => ?_⟩⟩
  obtain ⟨r2, k2, nA⟩ := r1.alloc (o := .tup vs) nq
  exact p _ _ h1.2 _ _ r2 (k1.trans k2) (.inl (.t (.inl (.inl upd_same)) (p1.kp (kA k2))))
def wLst (wl : WA) : WA := fun S Q => wl S fun ds S' => ds.length ≤ sizeLine ∧ Q ds S'
theorem v_lst (h : PA X es (lA X.K c wl)) : PE X (.List es pos) (lL X.K c (wLst wl)) := pe_imp (pe_lst h) fun σ H Q h => by
  obtain ⟨S, Qd, r, h, p⟩ := h
  exact ⟨S, _, r, h, fun ds S1 h1 H1 vs r1 k1 p1 => ⟨by rw [p1.length]; exact h1.1, fun q nq => p _ _ h1.2 _ _ _ r1 k1 nq p1 h1.1⟩⟩
/-- a new list as a value -/
def wOf (wl : WA) : WE := fun S Q => wl S fun ds S' => Q (.l ds) S'
theorem vOf (h : PE X e (lL X.K c wl)) : PE X e (lE X.K c (wOf wl)) := pe_imp h fun σ H Q h => by
  obtain ⟨S, Qd, r, h, p⟩ := h
  refine ⟨S, _, r, h, fun ds S1 h1 H1 q vs r1 k1 nq p1 _ => ?_⟩
  obtain ⟨r2, k2, nA⟩ := r1.alloc (o := .lst vs) nq
  exact p _ _ h1 _ _ r2 (k1.trans k2) (.inl (.l upd_same nA (p1.kp (kA k2))))
def Un1 (K : PySem.W.Frag) (c : Cq) (r : List V → Hp → VK → Prop) (rd : RU) : Prop := UnL K c (fun x H Q => r [x] H Q) rd
theorem CallR.or {f : Value} {r r' : List V → Hp → VK → Prop} (h : CallR X f r) (h' : CallR X f r') : CallR X f (fun xs H Q => r xs H Q ∨ r' xs H Q) := fun pins s σ H xs us Q I rv q => q.elim (h pins s σ H xs us Q I rv) (h' pins s σ H xs us Q I rv)
theorem lcb1 {K : PySem.W.Frag} {r : List V → Hp → VK → Prop} {rd : RU} (L : Un1 K c r rd) : ∀ σ H Q, lE K c (wUn rd we) σ H Q → tCB r (tCons (lE K c we) tNil) σ H Q := fun σ H Q h => by
  obtain ⟨S, Qd, rr, h, p⟩ := h
  exact ⟨S, _, rr, h, fun x S1 h1 H1 v1 r1 k1 p1 => L σ H1 S1 v1 x Qd Q r1 p1 h1 (p.at k1)⟩
theorem v_cb1 {x : Str} {id : String} {r : List V → Hp → VK → Prop} {rd : RU} (hc : CallR X (.builtin id) r) (L : Un1 X.K c r rd) (hg : Gl X x) (hm : X.mg x = none) (hv : bootBuiltins x = some (.builtin id)) (he : PE X e (lE X.K c we)) (hs : starEach [e] X.env = (false, eval e X.env) :: starEach [] X.env := by rfl)
    (hn : x ≠ "__name__" := by decide) (hdb : (x == ("__debug__" : Str)) = false := by decide) (hpl : (backTo pos (starEach [] X.env)).any (·.1) = false := by rfl) : PE X (.Call (.Name x p) [e] [] pos) (lE X.K c (wUn rd we)) :=
  pe_imp (pe_callB hc hg hm hv (pa_cons he pa_nil hs) hn hdb hs hpl) (lcb1 L)
theorem v_ct1 {x : Str} {T : String} {r : List V → Hp → VK → Prop} {rd : RU} (hc : CallR X (.type T) r) (L : Un1 X.K c r rd) (hg : Gl X x) (hm : X.mg x = none) (hv : bootBuiltins x = some (.type T)) (he : PE X e (lE X.K c we)) (hs : starEach [e] X.env = (false, eval e X.env) :: starEach [] X.env := by rfl)
    (hn : x ≠ "__name__" := by decide) (hdb : (x == ("__debug__" : Str)) = false := by decide) (hpl : (backTo pos (starEach [] X.env)).any (·.1) = false := by rfl) : PE X (.Call (.Name x p) [e] [] pos) (lE X.K c (wUn rd we)) :=
  pe_imp (pe_callTy hc hg hm hv (pa_cons he pa_nil hs) hn hdb hs hpl) (lcb1 L)
def rdLen : RU := fun d S Q => match d with
  | .s z => z.length ≤ sizeLine ∧ Q (.i z.length) S
  | .t ds => Q (.i ds.length) S
  | .l ds => Q (.i ds.length) S
  | .dk ds => Q (.i ds.length) S
  | .sc ns => Q (.i ns.length) S
  | d => ∃ ds, S.lst d = some ds ∧ Q (.i ds.length) S
def rLenA (K : PySem.W.Frag) : List V → Hp → VK → Prop := fun xs H Q => (∃ x n, xs = [x] ∧ LenV K x H n ∧ Q (.int n) H) ∨ (∃ a kvs, xs = [V.ref a] ∧ H a = some (.dK kvs) ∧ Q (.int kvs.length) H)
theorem call_lenA : CallR X (.builtin "len") (rLenA X.K) := CallR.or call_len call_lenD
theorem rpk_len {K : PySem.W.Frag} {A : Addr → Prop} {H : Hp} : ∀ {vs : List (Key × V)} {ds : List (Key × Da)}, RpK K A H vs ds → vs.length = ds.length
  | _, _, .nil => rfl
  | _, _, .cons _ a => by rw [List.length_cons, List.length_cons, rpk_len a]
theorem lLen {K : PySem.W.Frag} : Un1 K c (rLenA K) rdLen := fun σ H S x d Qd Q r rx h p => by
  have lst : ∀ ds, S.lst d = some ds → Qd (.i ds.length) S → rLenA K [x] H Q := fun ds e q => by
    obtain ⟨b, vs, rfl, h1, h2⟩ := lst_ok r rx e
    exact .inl ⟨_, _, rfl, .inl ⟨vs, SqL.of h1, rfl⟩, by rw [h2.length]; exact p _ _ q _ _ r .refl (.inl (.i _))⟩
  cases d with
  | s z => rw [rs_s rx]; exact .inl ⟨_, _, rfl, ⟨h.1, rfl⟩, p _ _ h.2 _ _ r .refl (.inl (.i _))⟩
  | t ds =>
    obtain ⟨b, vs, rfl, h1, h2⟩ := tup_ok rx
    exact .inl ⟨_, _, rfl, .inr ⟨vs, h1, rfl⟩, by rw [h2.length]; exact p _ _ h _ _ r .refl (.inl (.i _))⟩
  | dk ds =>
    cases rx.pure rfl with
    | dk h1 _ h2 => exact .inr ⟨_, _, rfl, h1, by rw [rpk_len h2]; exact p _ _ h _ _ r .refl (.inl (.i _))⟩
  | l ds => exact lst ds rfl h
  | sc ns =>
    obtain ⟨b, rfl, h1⟩ := sc_ok rx
    exact .inl ⟨_, _, rfl, .inl ⟨_, h1, rfl⟩, by rw [List.length_map]; exact p _ _ h _ _ r .refl (.inl (.i _))⟩
  | n => obtain ⟨ds, e, q⟩ := h; exact lst ds e q
  | b _ => obtain ⟨ds, e, q⟩ := h; exact lst ds e q
  | i _ => obtain ⟨ds, e, q⟩ := h; exact lst ds e q
  | ins _ _ => obtain ⟨ds, e, q⟩ := h; exact lst ds e q
  | r _ => obtain ⟨ds, e, q⟩ := h; exact lst ds e q
  | ty _ => obtain ⟨ds, e, q⟩ := h; exact lst ds e q
  | o _ => obtain ⟨ds, e, q⟩ := h; exact lst ds e q
def rdInt : RU := fun d S Q => match d with
  | .i k => Q (.i k) S
  | .b k => Q (.i (if k then 1 else 0)) S
  | _ => False
theorem lInt {K : PySem.W.Frag} : Un1 K c (fun xs H Q => (∃ i, xs = [.int i] ∧ Q (.int i) H) ∨ ∃ k, xs = [.bl k] ∧ Q (.int (if k then 1 else 0)) H) rdInt := fun σ H S x d Qd Q r rx h p => by
  cases d <;> try exact h.elim
  · rw [rs_b rx]
    exact .inr ⟨_, rfl, p _ _ h _ _ r .refl (.inl (.i _))⟩
  · rw [rs_i rx]
    exact .inl ⟨_, rfl, p _ _ h _ _ r .refl (.inl (.i _))⟩
/-- tuple(list), tuple(tuple) -/
def rdTuple : RU := fun d S Q => match d with
  | .t ds => Q (.t ds) S
  | .l ds => Q (.t ds) S
  | d => ∃ ds, S.lst d = some ds ∧ Q (.t ds) S
def rTupleA (K : PySem.W.Frag) : List V → Hp → VK → Prop := fun xs H Q => ∃ p ys, xs = [.ref p] ∧ ((SqL K H p ys ∧ ∀ l, H l = none → Q (.ref l) (upd H l (.tup ys))) ∨ (SqT K H p ys ∧ Q (.ref p) H))
theorem call_tupleA : CallR X (.type "tuple") (rTupleA X.K) := call_tuple_of
theorem lTuple {K : PySem.W.Frag} : Un1 K c (rTupleA K) rdTuple := fun σ H S x d Qd Q r rx h p => by
  have lst : ∀ ds, S.lst d = some ds → Qd (.t ds) S → rTupleA K [x] H Q := fun ds e q => by
    obtain ⟨b, vs, rfl, h1, h2⟩ := lst_ok r rx e
    refine ⟨b, vs, rfl, .inl ⟨SqL.of h1, fun l nl => ?_⟩⟩
    obtain ⟨r2, k2, nA⟩ := r.alloc (o := .tup vs) nl
    exact p _ _ q _ _ r2 k2 (.inl (.t (.inl (.inl upd_same)) (h2.kp (kA k2))))
  cases d with
  | t ds =>
    obtain ⟨b, vs, rfl, h1, h2⟩ := tup_ok rx
    exact ⟨b, vs, rfl, .inr ⟨h1, p _ _ h _ _ r .refl (.inl (.t h1 h2))⟩⟩
  | l ds => exact lst ds rfl h
  | s _ => obtain ⟨ds, e, q⟩ := h; exact lst ds e q
  | dk _ => obtain ⟨ds, e, q⟩ := h; exact lst ds e q
  | n => obtain ⟨ds, e, q⟩ := h; exact lst ds e q
  | b _ => obtain ⟨ds, e, q⟩ := h; exact lst ds e q
  | i _ => obtain ⟨ds, e, q⟩ := h; exact lst ds e q
  | ins _ _ => obtain ⟨ds, e, q⟩ := h; exact lst ds e q
  | r _ => obtain ⟨ds, e, q⟩ := h; exact lst ds e q
  | ty _ => obtain ⟨ds, e, q⟩ := h; exact lst ds e q
  | sc _ => obtain ⟨ds, e, q⟩ := h; exact lst ds e q
  | o _ => obtain ⟨ds, e, q⟩ := h; exact lst ds e q
/-- all, any of bools -/
def bools : List Da → Option (List Bool)
  | [] => some []
  | .b x :: r => (bools r).map (x :: ·)
  | _ => none
theorem bools_map : ∀ (bs : List Bool), bools (bs.map Da.b) = some bs
  | [] => rfl
  | b :: r => by rw [List.map_cons, bools, bools_map r]; rfl
theorem bools_ok {K : PySem.W.Frag} {A : Addr → Prop} {H : Hp} : ∀ {ds : List Da} {vs : List V} {bs : List Bool}, bools ds = some bs → RpA K A H vs ds → vs = bs.map V.bl
  | [], _, _, e, h => by cases e; cases h; rfl
  | .b x :: r, _, _, e, h => by
    rw [bools] at e
    cases q : bools r with
    | none => rw [q] at e; cases e
    | some bs =>
      rw [q] at e
      cases e
      cases h with
      | cons h1 h2 =>
        cases h1
        rw [bools_ok q h2]
        rfl
  | .n :: _, _, _, e, _ => by cases e
  | .i _ :: _, _, _, e, _ => by cases e
  | .s _ :: _, _, _, e, _ => by cases e
  | .t _ :: _, _, _, e, _ => by cases e
  | .l _ :: _, _, _, e, _ => by cases e
  | .dk _ :: _, _, _, e, _ => by cases e
  | .ins _ _ :: _, _, _, e, _ => by cases e
  | .r _ :: _, _, _, e, _ => by cases e
  | .ty _ :: _, _, _, e, _ => by cases e
  | .sc _ :: _, _, _, e, _ => by cases e
  | .o _ :: _, _, _, e, _ => by cases e
def rdAll : RU := fun d S Q => ∃ ds bs, S.lst d = some ds ∧ bools ds = some bs ∧ Q (.b (bs.all id)) S
def rdAny : RU := fun d S Q => ∃ ds bs, S.lst d = some ds ∧ bools ds = some bs ∧ Q (.b (bs.any id)) S
theorem lAll {K : PySem.W.Frag} : Un1 K c (rAll K) rdAll := fun σ H S x d Qd Q r rx h p => by
  obtain ⟨ds, bs, e, e2, q⟩ := h
  obtain ⟨b, vs, rfl, h1, h2⟩ := lst_ok r rx e
  rw [bools_ok e2 h2] at h1
  exact ⟨b, bs, rfl, SqL.of h1, p _ _ q _ _ r .refl (.inl (.b _))⟩
theorem lAny {K : PySem.W.Frag} : Un1 K c (rAny K) rdAny := fun σ H S x d Qd Q r rx h p => by
  obtain ⟨ds, bs, e, e2, q⟩ := h
  obtain ⟨b, vs, rfl, h1, h2⟩ := lst_ok r rx e
  rw [bools_ok e2 h2] at h1
  exact ⟨b, bs, rfl, SqL.of h1, p _ _ q _ _ r .refl (.inl (.b _))⟩
theorem rpa_ints {K : PySem.W.Frag} {A : Addr → Prop} {H : Hp} : ∀ {ns : List Int} {vs : List V}, RpA K A H vs (ns.map Da.i) → vs = ns.map V.int
  | [], _, h => by cases h; rfl
  | n :: r, _, h => by
    cases h with
    | cons h1 h2 =>
      cases h1
      rw [rpa_ints h2]
      rfl
end
end VL
set_option Elab.async false
set_option linter.all false
set_option maxRecDepth 100000
set_option maxHeartbeats 1000000
namespace VL
open PySem PySem.Spec PyProof.Rows
theorem extend_tup (l : Addr) (items : Array Value) (n : Nat) (b : Addr) (dd : Option Addr) (sl : Array (Option Value)) (items2 : Array Value) (n2 : Nat) (hs0 : ¬(!items.isEmpty && Builtin.List.listTooLong (items.size + items2.size)) = true) (hs1 : items.size ≤ sizeLine) (hs2 : items.size + items2.size ≤ sizeLine + 1) :
    Meets (Builtin.«list.extend» ⟨[.ref l, .ref b], []⟩) (fun _ R s => s.heap.get? l = some { cls := .type "list", dict := none, data := .seq items n, slots := #[] } ∧ s.heap.get? b = some { cls := .type "tuple", dict := dd, data := .seq items2 n2, slots := sl } ∧ R (.ok (.ret Value.none)) { s with heap := s.heap.update l (Obj.mapSeq fun x => x ++ items2), toks := s.toks }) :=
  .of_wp fun prog w A R s h => by
    obtain ⟨hp, g, d, tk, os⟩ := s; obtain ⟨hl, hb, h⟩ := h; have f1 := AutoSeq1.idx_int; have f2 := AutoSeq1.sub_tuple_tuple; have f3 := AutoSeq1.sub_list_list; have f4 := AutoSeq1.sub_tuple_list; have f5 := AutoSeq1.sub_list_tuple
    have hz' : (items ++ items2).size ≤ sizeLine + 1 := by rw [Array.size_append]; exact hs2
    wp_walk using (wpAny_updateSeq hl rfl (hz := hs1) (_hz' := hz')), AutoSeq1.wpAny_loadPart' hl, AutoSeq1.wpAny_loadPart' hb; exact ⟨_, rfl, h⟩
end VL
namespace L2
open PySem PySem.Spec PyProof.Rows
section
variable {X : Cx}
def rExtendT (K : PySem.W.Frag) : V → List V → Hp → VK → Prop := fun x vs H Q => ∃ l b xs zs, x = .ref l ∧ vs = [.ref b] ∧ H l = some (.lst xs) ∧ SqT K H b zs ∧ xs.length + zs.length ≤ sizeLine ∧ Q .non (upd H l (.lst (xs ++ zs)))
theorem mt_extendT : MtM X "list.extend" (rExtendT X.K) := by
  intro pins s σ H x vs v us Q I rx rv h
  obtain ⟨l, b, xs, zs, rfl, rfl, hH, hB, hz, q⟩ := h
  cases rx
  obtain ⟨u, rfl, ru⟩ := rv.one
  cases ru
  obtain ⟨z, its, n, r, hl, e⟩ := I.lstM hH
  obtain ⟨its2, r2, ⟨o2, ho2, hc2, n2, hd2⟩, hl2⟩ := I.tuple hB
  obtain ⟨oc, od, oda, osl⟩ := o2
  dsimp only at hc2 hd2
  subst hc2 hd2
  have e1 := r.length
  have e2 := r2.length
  have hsz : its.toArray.size + its2.toArray.size ≤ sizeLine := by rw [List.size_toArray, List.size_toArray]; omega
  have hlong : ¬ (!its.toArray.isEmpty && Builtin.List.listTooLong (its.toArray.size + its2.toArray.size)) = true := by
    rw [notLongL hsz, Bool.and_false]
    exact Bool.false_ne_true
  refine call_meets F.slot_list_extend ⟨_, e, rfl⟩ F.entry_list_extend (F.args_list_extend_2 _ _)
    (VL.extend_tup l its.toArray n b od osl its2.toArray n2 hlong (by rw [List.size_toArray]; omega) (by omega)) ⟨e, ho2, ?_⟩
  refine ⟨.non, _, I.lset (its' := its ++ its2) hH e (by simp) (r.append r2) ?_, rfl, q⟩
  rw [List.length_append]
  omega
end
end L2
namespace VL
open PySem PySem.Spec PyProof.Rows L2
section
variable {K : PySem.W.Frag} {c : Cq} {S S' : Sx} {σ : L2.St} {H H' : Hp} {A : Addr → Prop} {v : V} {d : Da} {ds es : List Da}
def updM (M : Mx) (a : Addr) (m : MO) : Mx := fun b => if b = a then some m else M b
theorem updM_same {M : Mx} {a : Addr} {m : MO} : updM M a m a = some m := by unfold updM; rw [if_pos rfl]
theorem updM_ne {M : Mx} {a b : Addr} {m : MO} (h : b ≠ a) : updM M a m b = M b := by unfold updM; rw [if_neg h]
theorem Rel.updM (r : Rel K c S σ H) {a : Addr} {m m' : MO} {o o' : HO} (e : S.M a = some m) (ha : H a = some o) (mu : Mut (some o)) (new : ∀ A, Kp (S.A c) A H (upd H a o') → MOk K A (upd H a o') a m') :
    Rel K c ⟨S.ρ, VL.updM S.M a m'⟩ σ (upd H a o') ∧ Kp S.W (Sx.W ⟨S.ρ, VL.updM S.M a m'⟩) H (upd H a o') := by
  have eq : ∀ b, Sx.W ⟨S.ρ, VL.updM S.M a m'⟩ b ↔ S.W b := fun b => by
    unfold Sx.W
    refine or_congr Iff.rfl ?_
    show VL.updM S.M a m' b ≠ none ↔ _
    by_cases q : b = a
    · subst q
      rw [updM_same, e]
      simp
    · rw [updM_ne q]
  have k : Kp S.W (Sx.W ⟨S.ρ, VL.updM S.M a m'⟩) H (upd H a o') := by
    refine ⟨fun b u eb z => ?_, fun b z => .inl ((eq b).1 z)⟩
    have : b ≠ a := fun q => by
      subst q
      rcases z with z | z
      · exact z (.inr (by rw [e]; exact fun q => by cases q))
      · rw [ha] at eb
        cases eb
        exact z mu
    rw [upd_ne this]
    exact eb
  refine ⟨r.next k r.len rfl (fun i d he => ?_) (fun i p ds he => ?_) r.inj (fun i p ds he => ?_) (fun b u eb => ?_), k⟩
  · obtain ⟨w, h1, h2⟩ := r.val i d he
    exact ⟨w, h1, h2.kp (kA k)⟩
  · obtain ⟨h1, vs, h2, h3⟩ := r.own i p ds he
    have : p ≠ a := fun q => by
      subst q
      rw [r.sep i p ds he] at e
      cases e
    exact ⟨h1, vs, by rw [upd_ne this]; exact h2, h3.kp (kA k)⟩
  · have : p ≠ a := fun q => by
      subst q
      rw [r.sep i p ds he] at e
      cases e
    show VL.updM S.M a m' p = none
    rw [updM_ne this]
    exact r.sep i p ds he
  · by_cases q : b = a
    · subst q
      have e' : VL.updM S.M b m' b = some u := eb
      rw [updM_same] at e'
      cases e'
      exact new _ (kA k)
    · have e' : VL.updM S.M a m' b = some u := eb
      rw [updM_ne q] at e'
      exact (r.mem b u e').kp (kA k) fun o z => by rw [upd_ne q]; exact z
/-- the list d with other items -/
def Sx.putL (S : Sx) (d : Da) (ds : List Da) : Option Sx := match d with
  | .o j => match S.ρ[j]? with
    | some (.own p _) => some (S.set j (.own p ds))
    | _ => none
  | .r a => match S.M a with
    | some (.lst _) => some ⟨S.ρ, VL.updM S.M a (.lst ds)⟩
    | _ => none
  | _ => none
theorem putL_ok {S' : Sx} (r : Rel K c S σ H) (h : RpS K (S.A c) σ H v d) (e : S.putL d ds = some S') : ∃ p old, v = .ref p ∧ H p = some (.lst old) ∧
    ∀ vs, RpA K (S.A c) H vs ds → Rel K c S' σ (upd H p (.lst vs)) ∧ Kp S.W S'.W H (upd H p (.lst vs)) := by
  rcases h with h | ⟨j, rfl, hj⟩
  · cases h with
    | r a =>
      simp only [Sx.putL] at e
      split at e
      · rename_i q
        cases e
        obtain ⟨ws, h1, h2⟩ := r.mem a _ q
        exact ⟨a, ws, rfl, h1, fun vs rv => r.updM q h1 trivial fun A k => ⟨vs, upd_same, rv.kp k⟩⟩
      · cases e
    | _ => cases e
  · simp only [Sx.putL] at e
    split at e
    · rename_i q
      cases e
      obtain ⟨h1, ws, h2, h3⟩ := r.own j _ _ q
      rw [hj] at h1
      cases h1
      exact ⟨_, ws, rfl, h2, fun vs rv => r.updO q rv⟩
    · cases e
end
section
variable {X : Cx} {c : Cq} {pos p apos : Pos} {e a b : Expr} {es rest : List Expr} {we wa wb : WE} {wt wu : WT} {wl wr : WA}
def rdIx : RD := fun x y S Q => match x, y with
  | .s z, .i k => z.length ≤ sizeLine ∧ ∃ ch, atI z.cps.toList k = some ch ∧ Q (.s ⟨#[ch]⟩) S
  | .t ds, .i k => ∃ d, atI ds k = some d ∧ Q d S
  | .sc ns, .i k => ∃ v, atI ns k = some v ∧ Q (.i v) S
  | x, .i k => ∃ ds d, S.lst x = some ds ∧ atI ds k = some d ∧ Q d S
  | _, _ => False
theorem atI_rp {K : PySem.W.Frag} {A : Addr → Prop} {H : Hp} {vs : List V} {ds : List Da} {k : Int} {d : Da} (h : RpA K A H vs ds) (e : atI ds k = some d) : ∃ v, atI vs k = some v ∧ Rp K A H v d := by
  unfold atI at e ⊢
  rw [h.length]
  cases q : ixN ds.length k with
  | none => rw [q] at e; cases e
  | some j =>
    rw [q] at e
    exact h.get (show ds[j]? = some d from e)
theorem lIx {K : PySem.W.Frag} : OpL K c (rIx K) rdIx := fun σ H S x y dx dy Qd Q r rx ry h p => by
  unfold rdIx at h
  split at h
  · obtain ⟨h1, ch, h2, h3⟩ := h
    exact .inr (.inr ⟨_, _, ch, rs_s rx, rs_i ry, h1, h2, p _ _ h3 _ _ r .refl (.inl (.s _))⟩)
  · obtain ⟨d, h1, h2⟩ := h
    obtain ⟨q, vs, e1, g1, g2⟩ := tup_ok rx
    obtain ⟨v, g3, g4⟩ := atI_rp g2 h1
    exact .inr (.inl ⟨q, vs, _, v, e1, rs_i ry, g1, g3, p _ _ h2 _ _ r .refl (.inl g4)⟩)
  · obtain ⟨w, h1, h2⟩ := h
    obtain ⟨q, e1, g1⟩ := sc_ok rx
    refine .inl ⟨q, _, _, .int w, e1, rs_i ry, g1, ?_, p _ _ h2 _ _ r .refl (.inl (.i _))⟩
    unfold atI at h1 ⊢
    rw [List.length_map]
    cases e : ixN _ _ with
    | none => rw [e] at h1; cases h1
    | some j =>
      rw [e] at h1
      show (List.map V.int _)[j]? = _
      have h1' : _ = some w := h1
      rw [List.getElem?_map]
      simp only [Option.bind_some] at h1'
      rw [h1']
      rfl
  · obtain ⟨ds, d, h0, h1, h2⟩ := h
    obtain ⟨q, vs, e1, g1, g2⟩ := lst_ok r rx h0
    obtain ⟨v, g3, g4⟩ := atI_rp g2 h1
    exact .inl ⟨q, vs, _, v, e1, rs_i ry, SqL.of g1, g3, p _ _ h2 _ _ r .refl (.inl g4)⟩
  · exact h.elim
theorem v_ix (ha : PE X a (lE X.K c wa)) (hb : PE X b (lE X.K c wb)) (hs : PlainIx b) : PE X (.Subscript a b pos) (lE X.K c (wOp rdIx wa wb)) := pe_imp (pe_ix ix_seq ha hb hs) (lop lIx)
abbrev WO := Sx → (Option Int → Sx → Prop) → Prop
def lO (K : PySem.W.Frag) (c : Cq) (w : WO) : L2.St → Hp → (Option Int → Hp → Prop) → Prop := fun σ H Q => ∃ S Qd, Rel K c S σ H ∧ w S Qd ∧ ∀ o S', Qd o S' → ∀ H', Rel K c S' σ H' → Kp S.W S'.W H H' → Q o H'
theorem po_imp {o : Option Expr} {t t' : L2.St → Hp → (Option Int → Hp → Prop) → Prop} (h : PO X o t) (i : ∀ σ H Q, t' σ H Q → t σ H Q) : PO X o t' := ⟨fun pins s σ H Q I hq => h.run pins s σ H Q I (i σ H Q hq)⟩
def wNo : WO := fun S Q => Q none S
def wPart (we : WE) : WO := fun S Q => we S fun d S' => match d with
  | .i k => Q (some k) S'
  | _ => False
theorem v_no : PO X none (lO X.K c wNo) := po_imp po_none fun σ H Q h => by
  obtain ⟨S, Qd, r, h, p⟩ := h
  exact p _ _ h _ r .refl
theorem v_part (h : PE X e (lE X.K c we)) : PO X (some e) (lO X.K c (wPart we)) := po_imp (po_some h) fun σ H Q h => by
  obtain ⟨S, Qd, r, h, p⟩ := h
  refine ⟨S, _, r, h, fun d S1 h1 H1 v r1 k1 p1 => ?_⟩
  cases d <;> try exact h1.elim
  exact ⟨_, rs_i p1, p _ _ h1 _ r1 k1⟩
def cutD (xs : List Da) (lo hi : Option Int) : List Da := (xs.drop (HT.sIx xs.length 0 lo)).take (HT.sIx xs.length xs.length hi - HT.sIx xs.length 0 lo)
theorem cut_rp {K : PySem.W.Frag} {A : Addr → Prop} {H : Hp} {vs : List V} {ds : List Da} {lo hi : Option Int} (h : RpA K A H vs ds) : RpA K A H (cutV vs lo hi) (cutD ds lo hi) := by
  unfold cutV cutD
  rw [h.length]
  exact (h.drop _).take _
def rdSl (x : Da) (lo hi : Option Int) (S : Sx) (Q : Da → Sx → Prop) : Prop := match x with
  | .s z => z.length ≤ sizeLine ∧ Q (.s (cutS z lo hi)) S
  | .t ds => Q (.t (cutD ds lo hi)) S
  | x => ∃ ds, S.lst x = some ds ∧ Q (.l (cutD ds lo hi)) S
def wSl (we : WE) (wl wh : WO) : WE := fun S Q => we S fun x S1 => wl S1 fun lo S2 => wh S2 fun hi S3 => rdSl x lo hi S3 Q
def rSlU (K : PySem.W.Frag) : V → Option Int → Option Int → Hp → VK → Prop := fun x lo hi H Q => rSlL K x lo hi H Q ∨ rSlA K x lo hi H Q ∨ rSlS x lo hi H Q
theorem sl_any : SlR X (rSlU X.K) := SlR.or sl_list (SlR.or sl_tupA sl_str)
theorem cut_all {vs : List V} {lo hi : Option Int} (h : HT.sIx vs.length 0 lo = 0 ∧ HT.sIx vs.length vs.length hi = vs.length) : cutV vs lo hi = vs := by
  unfold cutV
  rw [h.1, h.2, List.drop_zero, Nat.sub_zero, List.take_length]
theorem v_sl {lo hi : Option Expr} {p2 : Pos} {w1 w2 : WO} (he : PE X e (lE X.K c we)) (hl : PO X lo (lO X.K c w1)) (hh : PO X hi (lO X.K c w2)) : PE X (.Subscript e (.Slice lo hi none p2) pos) (lE X.K c (wSl we w1 w2)) := pe_imp (pe_slice sl_any he hl hh) fun σ H Q h => by
  obtain ⟨S, Qd, r, h, p⟩ := h
  refine ⟨S, _, r, h, fun x S1 h1 H1 v r1 k1 p1 => ⟨S1, _, r1, h1, fun l S2 h2 H2 r2 k2 => ⟨S2, _, r2, h2, fun u S3 h3 H3 r3 k3 => ?_⟩⟩⟩
  have px := p1.kp (kA (c := c) (k2.trans k3))
  have k := (k1.trans k2).trans k3
  unfold rdSl at h3
  split at h3
  · rw [rs_s px]
    exact .inr (.inr ⟨_, rfl, h3.1, p _ _ h3.2 _ _ r3 k (.inl (.s _))⟩)
  · obtain ⟨q, vs, rfl, g1, g2⟩ := tup_ok px
    refine .inr (.inl ⟨q, vs, rfl, g1, fun w => ?_, fun w q' nq => ?_⟩)
    · have := cut_rp (lo := l) (hi := u) g2
      rw [cut_all w] at this
      exact p _ _ h3 _ _ r3 k (.inl (.t g1 this))
    · obtain ⟨r4, k4, nA⟩ := r3.alloc (o := .tup (cutV vs l u)) nq
      exact p _ _ h3 _ _ r4 (k.trans k4) (.inl (.t (.inl (.inl upd_same)) ((cut_rp g2).kp (kA k4))))
  · obtain ⟨ds, h0, h3⟩ := h3
    obtain ⟨q, vs, rfl, g1, g2⟩ := lst_ok r3 px h0
    refine .inl ⟨q, vs, rfl, SqL.of g1, fun q' nq => ?_⟩
    obtain ⟨r4, k4, nA⟩ := r3.alloc (o := .lst (cutV vs l u)) nq
    exact p _ _ h3 _ _ r4 (k.trans k4) (.inl (.l upd_same nA ((cut_rp g2).kp (kA k4))))
def wPop (we : WE) : WE := fun S Q => we S fun d S1 => ∃ ds x S2, S1.lst d = some ds ∧ ds[ds.length - 1]? = some x ∧ S1.putL d ds.dropLast = some S2 ∧ Q x S2
theorem rpa_dropLast {K : PySem.W.Frag} {A : Addr → Prop} {H : Hp} {vs : List V} {ds : List Da} (h : RpA K A H vs ds) : RpA K A H vs.dropLast ds.dropLast := by
  rw [List.dropLast_eq_take, List.dropLast_eq_take, h.length]
  exact h.take _
theorem rpa_eraseIdx {K : PySem.W.Frag} {A : Addr → Prop} {H : Hp} {vs : List V} {ds : List Da} (h : RpA K A H vs ds) (k : Nat) : RpA K A H (vs.eraseIdx k) (ds.eraseIdx k) := by
  rw [List.eraseIdx_eq_take_drop_succ, List.eraseIdx_eq_take_drop_succ]
  exact (h.take _).append (h.drop _)
theorem v_pop (hb : attributeBase e "pop" X.env (eval e X.env) = eval e X.env := by rfl) (hl : (apos.endLine == pos.line) = true := by rfl) (he : PE X e (lE X.K c we)) : PE X (.Call (.Attribute e "pop" apos) [] [] pos) (lE X.K c (wPop we)) :=
  pe_imp (pe_bm0 PySem.F.plainAttrs_list PySem.F.slot_list_pop PySem.F.type_list_pop mt_pop he hb hl) fun σ H Q h => by
  obtain ⟨S, Qd, r, h, p⟩ := h
  refine ⟨S, _, r, h, fun d S1 h1 H1 v r1 k1 p1 => ?_⟩
  obtain ⟨ds, x, S2, h2, h3, h4, h5⟩ := h1
  obtain ⟨q, vs, rfl, g1, g2⟩ := lst_ok r1 p1 h2
  obtain ⟨q', old, e', g3, g4⟩ := putL_ok r1 p1 h4
  cases e'
  rw [g1] at g3
  cases g3
  obtain ⟨y, g5, g6⟩ := g2.get h3
  obtain ⟨r2, k2⟩ := g4 _ (rpa_dropLast g2)
  exact ⟨.inl ⟨rfl, _, SqL.of g1⟩, q, vs, y, rfl, rfl, g1, by rw [g2.length]; exact g5, p _ _ h5 _ _ r2 (k1.trans k2) (.inl (g6.kp (kA k2)))⟩
/-- a method of one argument, by values; ty: the receiver's type is known -/
def wMet (ty : Da → Sx → Prop) (rd : RD) (we wi : WE) : WE := fun S Q => we S fun d S0 => ty d S0 ∧ wi S0 fun i S1 => rd d i S1 Q
def MetL (K : PySem.W.Frag) (c : Cq) (r : V → List V → Hp → VK → Prop) (rd : RD) : Prop := OpL K c (fun x y H Q => r x [y] H Q) rd
def tyL (d : Da) (S : Sx) : Prop := ∃ ds, S.lst d = some ds
def TyL (K : PySem.W.Frag) (c : Cq) (T : String) (ty : Da → Sx → Prop) : Prop := ∀ σ H S x d, Rel K c S σ H → RpS K (S.A c) σ H x d → ty d S → tyV K T x H
theorem tyL_ok {K : PySem.W.Frag} : TyL K c "list" tyL := fun σ H S x d r h t => by
  obtain ⟨ds, e⟩ := t
  obtain ⟨q, vs, rfl, g1, _⟩ := lst_ok r h e
  exact .inl ⟨rfl, _, SqL.of g1⟩
theorem lmet {K : PySem.W.Frag} {T : String} {ty : Da → Sx → Prop} {r : V → List V → Hp → VK → Prop} {rd : RD} (ht : TyL K c T ty) (L : MetL K c r rd) : ∀ σ H Q, lE K c (wMet ty rd we wa) σ H Q → tBM K T r (lE K c we) (tCons (lE K c wa) tNil) σ H Q := fun σ H Q h => by
  obtain ⟨S, Qd, rr, h, p⟩ := h
  refine ⟨S, _, rr, h, fun d S0 h0 H0 v r0 k0 p0 => ⟨ht _ _ _ _ _ r0 p0 h0.1, S0, _, r0, h0.2, fun y S1 h1 H1 u r1 k1 p1 => ?_⟩⟩
  exact L σ H1 S1 v u d y Qd Q r1 (p0.kp (kA k1)) p1 h1 (p.at (k0.trans k1))
theorem v_met {T id : String} {nm : Str} {ty : Da → Sx → Prop} {r : V → List V → Hp → VK → Prop} {rd : RD} {i : Expr} {wi : WE} (pa : PlainAttrs T) (slot : Slot T nm id) (hty : typeOf (.builtin id) = pure (.type "method_descriptor")) (hm : MtR X id r)
    (ht : TyL X.K c T ty) (L : MetL X.K c r rd) (he : PE X e (lE X.K c we)) (hi : PE X i (lE X.K c wi)) (hs : starEach [i] X.env = (false, eval i X.env) :: starEach [] X.env := by rfl)
    (hbase : attributeBase e nm X.env (eval e X.env) = eval e X.env := by rfl)
    (hfew : ((backTo pos (starEach [i] X.env)).all (fun x => !x.1) && (backToKw pos (keywordEach [] X.env)).all (fun x => x.1.isSome) && decide (([i] : List Expr).length + ([] : List Keyword).length + (if ([] : List Keyword).isEmpty then 0 else 1) < 30)) = true := by rfl)
    (hline : (apos.endLine == pos.line) = true := by rfl) (hplain : (backTo pos (starEach [] X.env)).any (·.1) = false := by rfl) :
    PE X (.Call (.Attribute e nm apos) [i] [] pos) (lE X.K c (wMet ty rd we wi)) := pe_imp (pe_bm pa slot hty hm he (pa_cons hi pa_nil hs) hbase hfew hline hs hplain) (lmet ht L)
def rdPopAt : RD := fun d i S Q => match i with
  | .i k => -(2 ^ 63) ≤ k ∧ k < 2 ^ 63 ∧ ∃ ds j x S2, S.lst d = some ds ∧ seqIndex? k ds.length = some j ∧ ds[j]? = some x ∧ S.putL d (ds.eraseIdx j) = some S2 ∧ Q x S2
  | _ => False
theorem lPopAt {K : PySem.W.Frag} : MetL K c rPopAt rdPopAt := fun σ H S x y d i Qd Q r rx ry h p => by
  cases i <;> try exact h.elim
  obtain ⟨b1, b2, ds, j, z, S2, h2, h3, h4, h5, h6⟩ := h
  obtain ⟨q, vs, rfl, g1, g2⟩ := lst_ok r rx h2
  obtain ⟨q', old, e', g3, g4⟩ := putL_ok r rx h5
  cases e'
  obtain ⟨w, g5, g6⟩ := g2.get h4
  obtain ⟨r2, k2⟩ := g4 _ (rpa_eraseIdx g2 j)
  rw [rs_i ry]
  exact ⟨q, vs, _, j, w, rfl, rfl, g1, b1, b2, by rw [g2.length]; exact h3, g5, p _ _ h6 _ _ r2 k2 (.inl (g6.kp (kA k2)))⟩
def rdAppend : RD := fun d y S Q => ∃ ds S2, S.lst d = some ds ∧ y.isO = false ∧ ds.length < sizeLine ∧ S.putL d (ds ++ [y]) = some S2 ∧ Q .n S2
theorem lAppend {K : PySem.W.Frag} : MetL K c rAppend rdAppend := fun σ H S x y d i Qd Q r rx ry h p => by
  obtain ⟨ds, S2, h2, h3, h4, h5, h6⟩ := h
  obtain ⟨q, vs, rfl, g1, g2⟩ := lst_ok r rx h2
  obtain ⟨q', old, e', g3, g4⟩ := putL_ok r rx h5
  cases e'
  obtain ⟨r2, k2⟩ := g4 _ (g2.snoc (ry.pure h3))
  exact ⟨q, vs, y, rfl, rfl, g1, by rw [g2.length]; exact h4, p _ _ h6 _ _ r2 k2 (.inl .n)⟩
def Sx.xq (S : Sx) : Da → Option (List Da)
  | .t ds => some ds
  | d => S.lst d
def rdExtend : RD := fun d y S Q => ∃ ds es S2, S.lst d = some ds ∧ S.xq y = some es ∧ ds.length + es.length ≤ sizeLine ∧ S.putL d (ds ++ es) = some S2 ∧ Q .n S2
def rExtA (K : PySem.W.Frag) : V → List V → Hp → VK → Prop := fun x vs H Q => rExtend x vs H Q ∨ rExtendT K x vs H Q
theorem mt_extA : MtM X "list.extend" (rExtA X.K) := fun pins s σ H x vs v us Q I rx rv h => h.elim (mt_extend pins s σ H x vs v us Q I rx rv) (mt_extendT pins s σ H x vs v us Q I rx rv)
theorem lExtend {K : PySem.W.Frag} : MetL K c (rExtA K) rdExtend := fun σ H S x y d i Qd Q r rx ry h p => by
  obtain ⟨ds, es, S2, h2, h3, h4, h5, h6⟩ := h
  obtain ⟨q, vs, rfl, g1, g2⟩ := lst_ok r rx h2
  obtain ⟨q', old, e', g3, g4⟩ := putL_ok r rx h5
  cases e'
  cases i with
  | t es' =>
    cases h3
    obtain ⟨b, us, rfl, g5, g6⟩ := tup_ok ry
    obtain ⟨r2, k2⟩ := g4 _ (g2.append g6)
    exact .inr ⟨q, b, vs, us, rfl, rfl, g1, g5, by rw [g2.length, g6.length]; exact h4, p _ _ h6 _ _ r2 k2 (.inl .n)⟩
  | _ =>
    obtain ⟨b, us, rfl, g5, g6⟩ := lst_ok r ry h3
    obtain ⟨r2, k2⟩ := g4 _ (g2.append g6)
    exact .inl ⟨q, b, vs, us, rfl, rfl, g1, g5, by rw [g2.length, g6.length]; exact h4, p _ _ h6 _ _ r2 k2 (.inl .n)⟩
def wSet (i : Nat) (we : WE) : WS := fun D S => we S fun d S' => d.isO = false ∧ D.nx (S'.set i (.val d))
/-- a new list in a slot: to be changed there -/
def wOwn (i : Nat) (wl : WA) : WS := fun D S => wl S fun ds S' => ∀ q, S'.M q = none → D.nx (S'.set i (.own q ds))
theorem lset {K : PySem.W.Frag} {t : TE} {i : Nat} (hi : i < c.n) (h : ∀ σ H Q, lE K c we σ H Q → t σ H Q) : ∀ D σ H, lS K c (wSet i we) D σ H → tAsg t (gName i) D σ H := fun D σ H h' => by
  obtain ⟨S, Dd, r, h', p⟩ := h'
  refine h _ _ _ ⟨S, _, r, h', fun d S1 h1 H1 v r1 k1 p1 => ?_⟩
  obtain ⟨r2, k2⟩ := r1.setV (i := i) (p1.pure h1.1) (by rw [r1.cn]; exact hi)
  exact p.nx _ h1.2 _ _ r2 (k1.trans k2)
theorem lown {K : PySem.W.Frag} {t : TE} {i : Nat} (hi : i < c.n) (h : ∀ σ H Q, lL K c wl σ H Q → t σ H Q) : ∀ D σ H, lS K c (wOwn i wl) D σ H → tAsg t (gName i) D σ H := fun D σ H h' => by
  obtain ⟨S, Dd, r, h', p⟩ := h'
  refine h _ _ _ ⟨S, _, r, h', fun ds S1 h1 H1 q vs r1 k1 nq p1 _ => ?_⟩
  obtain ⟨r2, k2⟩ := r1.setO (i := i) nq p1 (by rw [r1.cn]; exact hi)
  refine p.nx _ (h1 q ?_) _ _ r2 (k1.trans k2)
  cases e : S1.M q with
  | none => rfl
  | some m => exact absurd (Or.inr (Or.inr (by rw [e]; exact fun z => by cases z))) (r1.notA nq)
theorem s_set {i : Nat} {x : Str} {pos' : Pos} (hN : X.N.Nodup) (hi : X.N[i]? = some x) (hx : Loc X.env.scope x) (hn : i < c.n) (he : PE X e (lE X.K c we)) (hs : swapsWith e (some (.Name x pos')) pos.line X.env = pure false := by rfl)
    (hf : X.fn x = true ∨ X.env.scope.names.lookup x = some .local := by first | exact .inl rfl | exact .inr rfl) : PS X (.Assign [.Name x pos'] e pos) (lS X.K c (wSet i we)) := ps_imp (ps_set hN hi hx he hs hf) (lset hn fun _ _ _ h => h)
theorem s_own {i : Nat} {x : Str} {pos' : Pos} (hN : X.N.Nodup) (hi : X.N[i]? = some x) (hx : Loc X.env.scope x) (hn : i < c.n) (he : PE X e (lL X.K c wl)) (hs : swapsWith e (some (.Name x pos')) pos.line X.env = pure false := by rfl)
    (hf : X.fn x = true ∨ X.env.scope.names.lookup x = some .local := by first | exact .inl rfl | exact .inr rfl) : PS X (.Assign [.Name x pos'] e pos) (lS X.K c (wOwn i wl)) := ps_imp (ps_set hN hi hx he hs hf) (lown hn fun _ _ _ h => h)
def wDrop (we : WE) : WS := fun D S => we S fun _ S' => D.nx S'
theorem s_expr (he : PE X e (lE X.K c we)) (hs : swapsWith e none pos.line X.env = pure false := by rfl) : PS X (.Expr e pos) (lS X.K c (wDrop we)) := ps_imp (ps_expr he hs) fun D σ H h => by
  obtain ⟨S, Dd, r, h, p⟩ := h
  exact ⟨S, _, r, h, fun d S1 h1 H1 v r1 k1 p1 => p.nx _ h1 _ _ r1 k1⟩
def wRet (we : WE) : WS := fun D S => we S fun d S' => d.isO = false ∧ D.rt d S'
theorem s_ret (he : PE X e (lE X.K c we)) : PS X (.Return (some e) pos) (lS X.K c (wRet we)) := ps_imp (ps_ret he) fun D σ H h => by
  obtain ⟨S, Dd, r, h, p⟩ := h
  exact ⟨S, _, r, h, fun d S1 h1 H1 v r1 k1 p1 => p.rt _ _ h1.2 _ _ _ r1 k1 (p1.pure h1.1)⟩
def wRetN : WS := fun D S => D.rt .n S
theorem s_retN : PS X (.Return none pos) (lS X.K c wRetN) := ps_imp ps_retN fun D σ H h => by
  obtain ⟨S, Dd, r, h, p⟩ := h
  exact p.rt _ _ h _ _ _ r .refl .n
def wSeq (w1 w2 : WS) : WS := fun D S => w1 { D with nx := w2 D } S
def wNx : WS := fun D S => D.nx S
def wCt : WS := fun D S => D.ct S
theorem ss_nil : PSs X [] (lS X.K c wNx) := pss_imp pss_nil fun D σ H h => by
  obtain ⟨S, Dd, r, h, p⟩ := h
  exact p.nx _ h _ _ r .refl
theorem s_cont : PS X (.Continue pos) (lS X.K c wCt) := ps_imp ps_continue fun D σ H h => by
  obtain ⟨S, Dd, r, h, p⟩ := h
  exact p.ct _ h _ _ r .refl
theorem ss_cons {st : Stmt} {sts : List Stmt} {w1 w2 : WS} (h1 : PS X st (lS X.K c w1)) (h2 : PSs X sts (lS X.K c w2)) : PSs X (st :: sts) (lS X.K c (wSeq w1 w2)) := pss_imp (pss_cons h1 h2) fun D σ H h => by
  obtain ⟨S, Dd, r, h, p⟩ := h
  exact ⟨S, _, r, h, ⟨fun S' h' σ' H' r' k' => ⟨S', Dd, r', h', p.at k'⟩, p.rt, p.bk, p.ct⟩⟩
theorem ss_one {st : Stmt} {w1 : WS} (h1 : PS X st (lS X.K c w1)) : PSs X [st] (lS X.K c w1) := pss_one h1
def wIf (wt : WT) (w1 w2 : WS) : WS := fun D S => wt S fun k S' => if k = true then w1 D S' else w2 D S'
theorem s_if {t : Expr} {l1 l2 : List Stmt} {w1 w2 : WS} (ht : PT X t (lT X.K c wt)) (h1 : PSs X l1 (lS X.K c w1)) (h2 : PSs X l2 (lS X.K c w2)) : PS X (.If t l1 l2 pos) (lS X.K c (wIf wt w1 w2)) := ps_imp (ps_if ht h1 h2) fun D σ H h => by
  obtain ⟨S, Dd, r, h, p⟩ := h
  exact ⟨S, _, r, h, fun k S1 h1 H1 r1 k1 => ite_of h1 (fun h2 => ⟨S1, Dd, r1, h2, p.at k1⟩) fun h2 => ⟨S1, Dd, r1, h2, p.at k1⟩⟩
def wWhile (wt : WT) (wb : WS) : WS := fun D S => ∃ W : Nat → Sx → Prop, (∃ m, W m S) ∧ ∀ m S, W m S → wt S fun k S1 => if k = true then wb { D with nx := fun S' => ∃ m', m' < m ∧ W m' S', ct := fun S' => ∃ m', m' < m ∧ W m' S', bk := D.nx } S1 else D.nx S1
theorem s_while {t : Expr} {l1 : List Stmt} {wb : WS} (hp : PassesOwn (model X.prog X.w) X.A X.env X.xe) (ht : PT X t (lT X.K c wt)) (h1 : PSs X l1 (lS X.K c wb)) : PS X (.While t l1 [] pos) (lS X.K c (wWhile wt wb)) := ps_imp (ps_while hp ht h1) fun D σ H h => by
  obtain ⟨S, Dd, r, ⟨W, ⟨m0, h0⟩, turn⟩, p⟩ := h
  refine ⟨fun m σ' H' => ∃ S', Rel X.K c S' σ' H' ∧ Kp S.W S'.W H H' ∧ W m S', ⟨m0, S, r, .refl, h0⟩, fun m σ1 H1 ⟨S1, r1, k1, h1⟩ => ⟨S1, _, r1, turn m S1 h1, fun k S2 h2 H2 r2 k2 => ?_⟩⟩
  have pk := p.at (k1.trans k2)
  refine ite_of h2 (fun h3 => ⟨fun σ' H' => ∃ S' m', Rel X.K c S' σ' H' ∧ Kp S.W S'.W H H' ∧ m' < m ∧ W m' S', fun σ' H' ⟨S', m', a1, a2, a3, a4⟩ => ⟨m', a3, S', a1, a2, a4⟩, S2, _, r2, h3, ?_⟩) fun h3 => p.nx _ h3 _ _ r2 (k1.trans k2)
  exact ⟨fun S' ⟨m', l, w⟩ σ' H' r' k' => ⟨S', m', r', (k1.trans k2).trans k', l, w⟩, pk.rt, pk.nx, fun S' ⟨m', l, w⟩ σ' H' r' k' => ⟨S', m', r', (k1.trans k2).trans k', l, w⟩⟩
end
end VL
set_option Elab.async false
set_option linter.all false
set_option maxRecDepth 100000
set_option maxHeartbeats 1000000
namespace VL
open PySem PySem.Spec PyProof.Rows L2
abbrev WG := Da → Sx → (Sx → Prop) → Prop
structure LG (K : PySem.W.Frag) (c : Cq) (g : TG) (wg : WG) (is : List Nat) : Prop where
  run : ∀ x d S σ H (Qd : Sx → Prop) (Q : L2.St → Hp → Prop), Rel K c S σ H → Rp K (S.A c) H x d → wg d S Qd →
    (∀ S' σ', Qd S' → Rel K c S' σ' H → Kp S.W S'.W H H → (∀ j, j ∉ is → σ'[j]? = σ[j]?) → σ'.length = σ.length → Q σ' H) → g x σ H Q
structure LGs (K : PySem.W.Frag) (c : Cq) (g : TGs) (wg : List Da → Sx → (Sx → Prop) → Prop) (is : List Nat) : Prop where
  run : ∀ xs ds S σ H (Qd : Sx → Prop) (Q : L2.St → Hp → Prop), Rel K c S σ H → RpA K (S.A c) H xs ds → wg ds S Qd →
    (∀ S' σ', Qd S' → Rel K c S' σ' H → Kp S.W S'.W H H → (∀ j, j ∉ is → σ'[j]? = σ[j]?) → σ'.length = σ.length → Q σ' H) → g xs σ H Q
section
variable {K : PySem.W.Frag} {c : Cq}
def wgN (i : Nat) : WG := fun d S Q => Q (S.set i (.val d))
theorem lgN {i : Nat} (hi : i < c.n) : LG K c (gName i) (wgN i) [i] := ⟨fun x d S σ H Qd Q r rp h q => by
  obtain ⟨r2, k2⟩ := r.setV (i := i) rp (by rw [r.cn]; exact hi)
  exact q _ _ h r2 k2 (fun j hj => by rw [List.getElem?_set_ne (fun e => hj (by simp [e]))]) (by simp)⟩
def wgNil : List Da → Sx → (Sx → Prop) → Prop := fun ds S Q => match ds with
  | [] => Q S
  | _ => False
def wgCons (wg : WG) (wr : List Da → Sx → (Sx → Prop) → Prop) : List Da → Sx → (Sx → Prop) → Prop := fun ds S Q => match ds with
  | d :: ds => wg d S fun S1 => wr ds S1 Q
  | _ => False
theorem lgs_nil : LGs K c gNil wgNil [] := ⟨fun xs ds S σ H Qd Q r rp h q => by
  cases rp with
  | nil => exact ⟨rfl, q _ _ h r .refl (fun _ _ => rfl) rfl⟩
  | cons _ _ => exact h.elim⟩
theorem lgs_cons {g : TG} {gr : TGs} {wg : WG} {wr : List Da → Sx → (Sx → Prop) → Prop} {is js : List Nat} (L : LG K c g wg is) (R : LGs K c gr wr js) : LGs K c (gCons g gr) (wgCons wg wr) (is ++ js) := ⟨fun xs ds S σ H Qd Q r rp h q => by
  cases rp with
  | nil => exact h.elim
  | cons h1 h2 =>
    refine ⟨_, _, rfl, L.run _ _ S σ H _ _ r h1 h fun S1 σ1 e1 r1 k1 s1 l1 => ?_⟩
    refine R.run _ _ S1 σ1 H _ _ r1 (h2.kp (kA k1)) e1 fun S2 σ2 e2 r2 k2 s2 l2 => ?_
    exact q _ _ e2 r2 (k1.trans k2) (fun j hj => by
      rw [List.mem_append] at hj
      rw [s2 j (fun z => hj (.inr z)), s1 j (fun z => hj (.inl z))]) (l2.trans l1)⟩
def wgT (wr : List Da → Sx → (Sx → Prop) → Prop) : WG := fun d S Q => match d with
  | .t ds => wr ds S Q
  | _ => False
theorem lgT {n : Nat} {gr : TGs} {wr : List Da → Sx → (Sx → Prop) → Prop} {js : List Nat} (R : LGs K c gr wr js) (hl : ∀ ds S Q, wr ds S Q → ds.length = n) : LG K c (gTup K n gr) (wgT wr) js := ⟨fun x d S σ H Qd Q r rp h q => by
  cases rp <;> try exact h.elim
  rename_i h1 h2
  refine ⟨_, _, rfl, h1, by rw [h2.length]; exact hl _ _ _ h, ?_⟩
  exact R.run _ _ S σ H _ _ r h2 h q⟩
theorem len0 : ∀ ds S Q, wgNil ds S Q → ds.length = 0 := fun ds S Q h => by
  cases ds with
  | nil => rfl
  | cons _ _ => exact h.elim
end
abbrev WI := WA
def ItOk (K : PySem.W.Frag) (c : Cq) (J : It) (ds : List Da) (W : Addr → Prop) (H : Hp) : Prop := ∀ H2 (W2 : Addr → Prop), Kp W W2 H H2 → ∀ i,
  (∀ d, ds[i]? = some d → J.go i H2 ∧ ∀ x H3, J.yld i H2 x H3 → Same H2 H3 ∧ Rp K (fun a => c.A0 a ∨ W2 a) H3 x d) ∧ (ds.length ≤ i → J.stop i H2)
def lWk (K : PySem.W.Frag) (c : Cq) (wi : WI) : TI := fun σ H R => ∃ S Qd, Rel K c S σ H ∧ wi S Qd ∧ ∀ ds S', Qd ds S' → ∀ H' J, Rel K c S' σ H' → Kp S.W S'.W H H' → ItOk K c J ds S'.W H' → R J H'
theorem pi_imp {X : Cx} {tg e : Expr} {t t' : TI} (h : PI X tg e t) (i : ∀ σ H Q, t' σ H Q → t σ H Q) : PI X tg e t' := ⟨fun pins s σ H Q I hq => h.run pins s σ H Q I (i σ H Q hq)⟩
section
variable {X : Cx} {c : Cq} {pos p apos : Pos} {e a b tg : Expr} {es rest : List Expr} {we wa wb : WE} {wt wu : WT} {wl wr : WA}
/-- a list or a tuple that stands still -/
def wSq (we : WE) : WI := fun S Q => we S fun d S' => match d with
  | .l ds => Q ds S'
  | .t ds => Q ds S'
  | _ => False
theorem it_list {K : PySem.W.Frag} {q : Addr} {vs : List V} {ds : List Da} {W A : Addr → Prop} {H : Hp} (hq : H q = some (.lst vs)) (nW : ¬ (c.A0 q ∨ W q)) (ha : RpA K (fun a => c.A0 a ∨ W a) H vs ds) : ItOk K c (Itl K q) ds W H := fun H2 W2 k i => by
  have e2 : H2 q = some (.lst vs) := k.keep _ _ hq (.inl fun z => nW (.inr z))
  refine ⟨fun d hd => ?_, fun hl => ⟨vs, SqL.of e2, by rw [ha.length]; exact hl⟩⟩
  obtain ⟨v, hv, rv⟩ := ha.get hd
  refine ⟨⟨vs, v, SqL.of e2, hv⟩, fun x H3 hy => ?_⟩
  obtain ⟨rfl, hy⟩ := hy
  have := hy vs (SqL.of e2)
  rw [hv] at this
  cases this
  exact ⟨Same.refl _, rv.kp k.or⟩
theorem it_tup {K : PySem.W.Frag} {q : Addr} {vs : List V} {ds : List Da} {W A : Addr → Prop} {H : Hp} (hq : SqT K H q vs) (ha : RpA K (fun a => c.A0 a ∨ W a) H vs ds) : ItOk K c (Itt K q) ds W H := fun H2 W2 k i => by
  have e2 := sqt_kp k hq
  refine ⟨fun d hd => ?_, fun hl => ⟨vs, e2, by rw [ha.length]; exact hl⟩⟩
  obtain ⟨v, hv, rv⟩ := ha.get hd
  refine ⟨⟨vs, v, e2, hv⟩, fun x H3 hy => ?_⟩
  obtain ⟨rfl, hy⟩ := hy
  have := hy vs e2
  rw [hv] at this
  cases this
  exact ⟨Same.refl _, rv.kp k.or⟩
/-- of one value: a list or a tuple -/
theorem pi_lt {l : Expr} {tl : TE} (hl : PE X l tl) : PI X tg l (fun σ H R => tl σ H fun x H1 => ∃ a, x = .ref a ∧ (((∃ xs, SqL X.K H1 a xs) ∧ R (Itl X.K a) H1) ∨ ((∃ xs, SqT X.K H1 a xs) ∧ R (Itt X.K a) H1))) := by
  refine ⟨fun pins s σ H R I h => ?_⟩
  refine thn (hl.run pins s σ H _ I h) fun v s1 ⟨x, H1, I1, r1, a, e, q1⟩ => ?_
  subst e
  cases r1
  rcases q1 with ⟨⟨xs, hq⟩, q⟩ | ⟨⟨xs, hq⟩, q⟩
  · obtain ⟨its, rv, pl, hz⟩ := I1.list hq
    refine wpAny_pyIter_list pl.isList ⟨_, [s1.heap.objs.size], _, _, H1, rfl, I1.kept (t' := s1.toks) fun b o e => Heap.get?_push_of_some _ e, turn_list a _, ⟨_, Heap.get?_push_size _ rfl, rfl, rfl⟩, fun b hb => ?_, q⟩
    obtain rfl := List.mem_singleton.mp hb
    exact I1.fpOk (Nat.le_refl _) (I1.hok.fresh (Nat.le_refl _))
  · obtain ⟨its, rv, pl, hz⟩ := I1.tuple hq
    refine wpAny_pyIter_tuple (show s1.heap.IsTuple a its.toArray from pl) ⟨_, [s1.heap.objs.size], _, _, H1, rfl, I1.kept (t' := s1.toks) fun b o e => Heap.get?_push_of_some _ e, turn_tuple a _, ⟨_, Heap.get?_push_size _ rfl, rfl, rfl⟩, fun b hb => ?_, q⟩
    obtain rfl := List.mem_singleton.mp hb
    exact I1.fpOk (Nat.le_refl _) (I1.hok.fresh (Nat.le_refl _))
theorem i_sq (he : PE X e (lE X.K c we)) : PI X tg e (lWk X.K c (wSq we)) := pi_imp (pi_lt he) fun σ H R h => by
  obtain ⟨S, Qd, r, h, p⟩ := h
  refine ⟨S, _, r, h, fun d S1 h1 H1 v r1 k1 p1 => ?_⟩
  cases d <;> try exact h1.elim
  · obtain ⟨q, vs, rfl, g1, g2⟩ := tup_ok p1
    exact ⟨q, rfl, .inr ⟨⟨vs, g1⟩, p _ _ h1 _ _ r1 k1 (it_tup (A := fun _ => False) g1 g2)⟩⟩
  · cases p1.pure rfl with
    | l g1 g2 g3 => exact ⟨_, rfl, .inl ⟨⟨_, SqL.of g1⟩, p _ _ h1 _ _ r1 k1 (it_list (A := fun _ => False) g1 g2 g3)⟩⟩
/-- range(n) -/
def rngD (lo : Int) (n : Nat) : List Da := (List.range n).map fun (k : Nat) => Da.i (lo + (k : Int))
def wRng1 (we : WE) : WI := fun S Q => we S fun d S' => match d with
  | .i k => -(2 ^ 62) ≤ k ∧ k < 2 ^ 62 ∧ Q (rngD 0 k.toNat) S'
  | _ => False
def wRng2 (wa wb : WE) : WI := fun S Q => wa S fun d S1 => wb S1 fun e S2 => match d, e with
  | .i i, .i j => (-(2 ^ 62) ≤ i ∧ i < 2 ^ 62 ∧ -(2 ^ 62) ≤ j ∧ j < 2 ^ 62) ∧ Q (rngD i (j - i).toNat) S2
  | _, _ => False
theorem it_rng {K : PySem.W.Frag} {lo : Int} {n : Nat} {W : Addr → Prop} {H : Hp} : ItOk K c (Itr lo n) (rngD lo n) W H := fun H2 W2 k i => by
  refine ⟨fun d hd => ?_, fun hl => by
    show n ≤ i
    simpa [rngD] using hl⟩
  unfold rngD at hd
  rw [List.getElem?_map] at hd
  cases q : (List.range n)[i]? with
  | none => rw [q] at hd; cases hd
  | some j =>
    rw [q] at hd
    cases hd
    have hi : i < n := by
      have := (List.getElem?_eq_some_iff.mp q).1
      simpa using this
    have hj : j = i := by
      rw [List.getElem?_range hi] at q
      exact (Option.some.inj q).symm
    subst hj
    exact ⟨hi, fun x H3 ⟨e1, e2⟩ => ⟨by rw [e1]; exact Same.refl _, by rw [e2]; exact .i _⟩⟩
theorem i_rng1 (hg : Gl X "range") (hm : X.mg "range" = none) (ha : PE X a (lE X.K c wa)) (hs0 : starEach [a] X.env = (false, eval a X.env) :: starEach [] X.env := by rfl) (hs : starEach [a] X.env = [(false, eval a X.env)] := by rfl) : PI X tg (.Call (.Name "range" p) [a] [] pos) (lWk X.K c (wRng1 wa)) :=
  pi_imp (pi_range1 hg hm (pa_cons ha pa_nil hs0) hs) fun σ H R h => by
  obtain ⟨S, Qd, r, h, p⟩ := h
  refine ⟨S, _, r, h, fun d S1 h1 H1 v r1 k1 p1 => ?_⟩
  cases d <;> try exact h1.elim
  rw [rs_i p1]
  exact ⟨_, rfl, h1.1, h1.2.1, p _ _ h1.2.2 _ _ r1 k1 it_rng⟩
theorem i_rng2 (hg : Gl X "range") (hm : X.mg "range" = none) (ha : PE X a (lE X.K c wa)) (hb : PE X b (lE X.K c wb)) (hs0 : starEach [a, b] X.env = (false, eval a X.env) :: starEach [b] X.env := by rfl) (hs1 : starEach [b] X.env = (false, eval b X.env) :: starEach [] X.env := by rfl)
    (hs : starEach [a, b] X.env = [(false, eval a X.env), (false, eval b X.env)] := by rfl) (hs2 : starEach [b] X.env = [(false, eval b X.env)] := by rfl) : PI X tg (.Call (.Name "range" p) [a, b] [] pos) (lWk X.K c (wRng2 wa wb)) :=
  pi_imp (pi_range2 hg hm (pa_cons ha (pa_cons hb pa_nil hs1) hs0) hs hs2) fun σ H R h => by
  obtain ⟨S, Qd, r, h, p⟩ := h
  refine ⟨S, _, r, h, fun d S1 h1 H1 v r1 k1 p1 => ⟨S1, _, r1, h1, fun e S2 h2 H2 u r2 k2 p2 => ?_⟩⟩
  cases d <;> cases e <;> try exact h2.elim
  rw [rs_i p1, rs_i p2]
  exact ⟨_, _, rfl, h2.1, p _ _ h2.2 _ _ r2 (k1.trans k2) it_rng⟩
def forGo (wg : WG) (wb : WS) (D : Dn) : List Da → Sx → Prop
  | [], S => D.nx S
  | d :: ds, S => wg d S fun S2 => wb { D with nx := forGo wg wb D ds, ct := forGo wg wb D ds, bk := D.nx } S2
def wFor (wi : WI) (wg : WG) (wb : WS) : WS := fun D S => wi S fun ds S1 => forGo wg wb D ds S1
theorem s_for {iter : Expr} {body : List Stmt} {wi : WI} {g : TG} {wg : WG} {wb : WS} {is : List Nat} (hp : PassesOwn (model X.prog X.w) X.A X.env X.xe) (hc : X.calm = true) (hi : PI X tg iter (lWk X.K c wi)) (hg : PG X tg g) (L : LG X.K c g wg is) (hb : PSs X body (lS X.K c wb))
    (hs : ∀ x, foldedSetIterable iter X.env x = pure x := by intro _; rfl) : PS X (.For tg iter body [] pos) (lS X.K c (wFor wi wg wb)) := ps_imp (ps_for hp hc hi hg hb hs) fun D σ H h => by
  obtain ⟨S, Dd, r, h, p⟩ := h
  refine ⟨S, _, r, h, fun ds S1 h1 H1 J r1 k1 ok => ?_⟩
  refine ⟨fun i m σ2 H2 => m = ds.length - i ∧ i ≤ ds.length ∧ ∃ S2, Rel X.K c S2 σ2 H2 ∧ Kp S1.W S2.W H1 H2 ∧ forGo wg wb Dd (ds.drop i) S2, ⟨ds.length, by simp, Nat.zero_le _, S1, r1, .refl, by simpa using h1⟩, ?_⟩
  rintro i m σ2 H2 ⟨rfl, hi, S2, r2, k2, h2⟩
  obtain ⟨go, stop⟩ := ok H2 S2.W k2 i
  by_cases hlt : i < ds.length
  · refine .inr ⟨(go ds[i] (List.getElem?_eq_getElem hlt)).1, fun σ' H' => ∃ S', Rel X.K c S' σ' H' ∧ Kp S1.W S'.W H1 H' ∧ forGo wg wb Dd (ds.drop (i + 1)) S', fun σ' H' ⟨S', a1, a2, a3⟩ => ⟨ds.length - (i + 1), by omega, rfl, hlt, S', a1, a2, a3⟩, fun x H3 hy => ?_⟩
    obtain ⟨sm, rx⟩ := (go ds[i] (List.getElem?_eq_getElem hlt)).2 x H3 hy
    rw [List.drop_eq_getElem_cons hlt] at h2
    have r3 := r2.same sm
    have k3 : Kp S2.W S2.W H2 H3 := .same sm
    refine L.run x ds[i] S2 σ2 H3 _ _ r3 rx h2 fun S4 σ4 h4 r4 k4 _ _ => ⟨S4, _, r4, h4, ?_⟩
    have kk := (k2.trans k3).trans k4
    have pk := p.at (k1.trans kk)
    exact ⟨fun S' h' σ' H' r' k' => ⟨S', r', kk.trans k', h'⟩, pk.rt, pk.nx, fun S' h' σ' H' r' k' => ⟨S', r', kk.trans k', h'⟩⟩
  · have e : i = ds.length := by omega
    subst e
    rw [List.drop_length] at h2
    exact .inl ⟨stop (Nat.le_refl _), p.nx _ h2 _ _ r2 (k1.trans k2)⟩
end
end VL
set_option Elab.async false
set_option linter.all false
set_option maxRecDepth 100000
set_option maxHeartbeats 1000000
namespace VL
open PySem PySem.Spec PyProof.Rows L2
def wipeR (ρ : List Slx) : List Nat → List Slx
  | [] => ρ
  | v :: vs => (wipeR ρ vs).set v .no
def kept (ρ : List Slx) (v : Nat) : Slx := match ρ[v]? with
  | some (.val d) => .val d
  | _ => .no
def backR (ρ0 ρ : List Slx) : List Nat → List Slx
  | [] => ρ
  | v :: vs => (backR ρ0 ρ vs).set v (kept ρ0 v)
def Sx.wipe (S : Sx) (vs : List Nat) : Sx := ⟨wipeR S.ρ vs, S.M⟩
def Sx.back (S S4 : Sx) (vs : List Nat) : Sx := ⟨backR S.ρ S4.ρ vs, S4.M⟩
/-- the block's names are no lists of one's own -/
def Sx.norm (S : Sx) (vs : List Nat) : Sx := S.back S vs
section
variable {K : PySem.W.Frag} {c : Cq} {S S1 S' : Sx} {σ σ' : L2.St} {H H1 H' : Hp}
theorem wipeR_length (ρ : List Slx) : ∀ vs, (wipeR ρ vs).length = ρ.length
  | [] => rfl
  | v :: vs => by unfold wipeR; rw [List.length_set, wipeR_length ρ vs]
theorem backR_length (ρ0 ρ : List Slx) : ∀ vs, (backR ρ0 ρ vs).length = ρ.length
  | [] => rfl
  | v :: vs => by unfold backR; rw [List.length_set, backR_length ρ0 ρ vs]
theorem wipeR_get {ρ : List Slx} {j : Nat} {x : Slx} : ∀ {vs : List Nat}, (wipeR ρ vs)[j]? = some x → x = .no ∨ (ρ[j]? = some x ∧ j ∉ vs)
  | [], h => .inr ⟨h, by simp⟩
  | v :: vs, h => by
    unfold wipeR at h
    rcases get_set h with ⟨_, e⟩ | ⟨ne, e⟩
    · exact .inl e.symm
    · rcases wipeR_get e with e | ⟨e1, e2⟩
      · exact .inl e
      · exact .inr ⟨e1, by rw [List.mem_cons, not_or]; exact ⟨Ne.symm ne, e2⟩⟩
theorem backR_get {ρ0 ρ : List Slx} {j : Nat} {x : Slx} : ∀ {vs : List Nat}, (backR ρ0 ρ vs)[j]? = some x → (j ∈ vs ∧ x = kept ρ0 j) ∨ (j ∉ vs ∧ ρ[j]? = some x)
  | [], h => .inr ⟨by simp, h⟩
  | v :: vs, h => by
    unfold backR at h
    rcases get_set h with ⟨e1, e⟩ | ⟨ne, e⟩
    · subst e1
      exact .inl ⟨by simp, e.symm⟩
    · rcases backR_get e with ⟨e1, e2⟩ | ⟨e1, e2⟩
      · exact .inl ⟨by simp [e1], e2⟩
      · exact .inr ⟨by rw [List.mem_cons, not_or]; exact ⟨Ne.symm ne, e1⟩, e2⟩
theorem wipe_get {σ : L2.St} {j : Nat} : ∀ {vs : List Nat}, j ∉ vs → (wipe σ vs)[j]? = σ[j]?
  | [], _ => rfl
  | v :: vs, h => by
    rw [List.mem_cons, not_or] at h
    unfold wipe
    rw [List.getElem?_set_ne (Ne.symm h.1), wipe_get h.2]
theorem wipe_in {σ : L2.St} {j : Nat} : ∀ {vs : List Nat}, j ∈ vs → j < σ.length → (wipe σ vs)[j]? = some none
  | [], h, _ => by simp at h
  | v :: vs, h, hl => by
    unfold wipe
    by_cases e : v = j
    · subst e
      rw [List.getElem?_set_self (by rw [wipe_length]; exact hl)]
    · rw [List.getElem?_set_ne e]
      exact wipe_in ((List.mem_cons.mp h).resolve_left (fun z => e z.symm)) hl
theorem wipe_eq {vs : List Nat} (hl : σ'.length = σ.length) (h : ∀ j, j ∉ vs → σ'[j]? = σ[j]?) : wipe σ' vs = wipe σ vs := by
  refine List.ext_getElem? fun j => ?_
  by_cases hj : j ∈ vs
  · by_cases hlt : j < σ.length
    · rw [wipe_in hj hlt, wipe_in hj (by rw [hl]; exact hlt)]
    · rw [List.getElem?_eq_none (by rw [wipe_length]; omega), List.getElem?_eq_none (by rw [wipe_length]; omega)]
  · rw [wipe_get hj, wipe_get hj, h j hj]
theorem Rel.wipe (r : Rel K c S σ H) (vs : List Nat) : Rel K c (S.wipe vs) (L2.wipe σ vs) H ∧ Kp S.W (S.wipe vs).W H H := by
  have k : Kp S.W (S.wipe vs).W H H := by
    refine Kp.refl.sub fun b z => ?_
    rcases z with ⟨j, ds, z⟩ | z
    · rcases wipeR_get z with e | ⟨e, _⟩
      · cases e
      · exact .inl ⟨j, ds, e⟩
    · exact .inr z
  refine ⟨r.next k (by rw [wipe_length]; exact r.len.trans (wipeR_length _ _).symm) (wipeR_length _ _) (fun j d he => ?_) (fun j p ds he => ?_) (fun i j p ds es h1 h2 => ?_) (fun j p ds he => ?_) (fun a m e => (r.mem a m e).kp (kA k) fun _ z => z), k⟩
  · rcases wipeR_get he with e | ⟨e, nj⟩
    · cases e
    · obtain ⟨v, h1, h2⟩ := r.val j d e
      exact ⟨v, by rw [wipe_get nj]; exact h1, h2.kp (kA k)⟩
  · rcases wipeR_get he with e | ⟨e, nj⟩
    · cases e
    · obtain ⟨h1, vs, h2, h3⟩ := r.own j p ds e
      exact ⟨by rw [wipe_get nj]; exact h1, vs, h2, h3.kp (kA k)⟩
  · rcases wipeR_get h1 with e | ⟨e1, _⟩
    · cases e
    · rcases wipeR_get h2 with e | ⟨e2, _⟩
      · cases e
      · exact r.inj i j p ds es e1 e2
  · rcases wipeR_get he with e | ⟨e, nj⟩
    · cases e
    · exact r.sep j p ds e
/-- behind a comprehension's turn -/
theorem Rel.back {S4 : Sx} {vs : List Nat} (r : Rel K c S σ H) (r4 : Rel K c S4 σ' H') (k : Kp S.W S4.W H H') (hl : σ'.length = σ.length) (hs : ∀ j, j ∉ vs → σ'[j]? = σ[j]?) : Rel K c (S.back S4 vs) σ H' ∧ Kp S4.W (S.back S4 vs).W H' H' := by
  have k4 : Kp S4.W (S.back S4 vs).W H' H' := by
    refine Kp.refl.sub fun b z => ?_
    rcases z with ⟨j, ds, z⟩ | z
    · rcases backR_get z with ⟨_, e⟩ | ⟨_, e⟩
      · unfold kept at e
        split at e <;> cases e
      · exact .inl ⟨j, ds, e⟩
    · exact .inr z
  have no : ∀ {j : Nat} {p : Addr} {ds : List Da}, (backR S.ρ S4.ρ vs)[j]? = some (Slx.own p ds) → j ∉ vs ∧ S4.ρ[j]? = some (Slx.own p ds) := fun {j p ds} e => by
    rcases backR_get e with ⟨_, e⟩ | ⟨nj, e⟩
    · unfold kept at e
      split at e <;> cases e
    · exact ⟨nj, e⟩
  refine ⟨r4.next k4 (by rw [← hl]; exact r4.len.trans (backR_length _ _ _).symm) (backR_length _ _ _) (fun j d he => ?_) (fun j p ds he => ?_) (fun i j p ds es h1 h2 => r4.inj i j p ds es (no h1).2 (no h2).2) (fun j p ds he => r4.sep j p ds (no he).2) (fun a m e => (r4.mem a m e).kp (kA k4) fun _ z => z), k4⟩
  · rcases backR_get he with ⟨hj, e⟩ | ⟨nj, e⟩
    · unfold kept at e
      split at e
      · rename_i d' q
        cases e
        obtain ⟨v, h1, h2⟩ := r.val j d q
        exact ⟨v, h1, h2.kp (kA (k.trans k4))⟩
      · cases e
    · obtain ⟨v, h1, h2⟩ := r4.val j d e
      exact ⟨v, by rw [← hs j nj]; exact h1, h2.kp (kA k4)⟩
  · obtain ⟨nj, e⟩ := no he
    obtain ⟨h1, ws, h2, h3⟩ := r4.own j p ds e
    exact ⟨by rw [← hs j nj]; exact h1, ws, h2, h3.kp (kA k4)⟩
/-- with a new object that nothing knows -/
def Cq.plus (c : Cq) (D : Addr) : Cq := ⟨fun a => c.A0 a ∨ a = D, c.W0, c.H0, c.n⟩
theorem Rel.plus (r : Rel K c S σ H) {D : Addr} {o : HO} (nD : H D = none) : Rel K (c.plus D) S σ (upd H D o) ∧ Kp S.W S.W H (upd H D o) := by
  have s : Same H (upd H D o) := same_upd nD
  have k : Kp (S.A c) (S.A (c.plus D)) H (upd H D o) := by
    refine ⟨fun b u e _ => s b u e, fun b z => ?_⟩
    rcases z with (z | z) | z
    · exact .inl (.inl z)
    · subst z
      exact .inr nD
    · exact .inl (.inr z)
  refine ⟨⟨r.len, r.cn, fun i d e => ?_, fun i p ds e => ?_, r.inj, r.sep, fun a m e => (r.mem a m e).kp k (s a), fun a z => ?_, r.kp.trans (.same s)⟩, .same s⟩
  · obtain ⟨v, h1, h2⟩ := r.val i d e
    exact ⟨v, h1, h2.kp k⟩
  · obtain ⟨h1, vs, h2, h3⟩ := r.own i p ds e
    exact ⟨h1, vs, s _ _ h2, h3.kp k⟩
  · rcases z with z | z
    · obtain ⟨h1, h2⟩ := r.a0 a z
      refine ⟨fun q => ?_, h2⟩
      cases e : H a with
      | none => exact h1 e
      | some u => rw [s _ _ e] at q; cases q
    · subst z
      exact ⟨(fun q => by rw [upd_same] at q; cases q), fun z => r.notA nD (.inr z)⟩
/-- the unknown object changes -/
theorem Rel.upD {D : Addr} (r : Rel K (c.plus D) S σ H) {o o' : HO} (e : H D = some o) (mu : Mut (some o)) (nk : ∀ u, c.H0 D = some u → ¬ (¬ c.W0 D ∨ ¬ Mut (some u))) : Rel K (c.plus D) S σ (upd H D o') := by
  have nW : ¬ S.W D := (r.a0 D (.inr rfl)).2
  have keep : ∀ b u, H b = some u → (¬ S.A (c.plus D) b ∨ ¬ Mut (some u)) → upd H D o' b = some u := fun b u eb z => by
    have : b ≠ D := fun q => by
      subst q
      rcases z with z | z
      · exact z (.inl (.inr rfl))
      · rw [e] at eb
        cases eb
        exact z mu
    rw [upd_ne this]
    exact eb
  have k : Kp (S.A (c.plus D)) (S.A (c.plus D)) H (upd H D o') := ⟨keep, fun b z => .inl z⟩
  have ne : ∀ {a : Addr}, S.W a → a ≠ D := fun z q => by subst q; exact nW z
  refine ⟨r.len, r.cn, fun i d he => ?_, fun i p ds he => ?_, r.inj, r.sep, fun a m em => (r.mem a m em).kp k fun u z => ?_, fun a z => ⟨?_, (r.a0 a z).2⟩, ?_⟩
  · obtain ⟨v, h1, h2⟩ := r.val i d he
    exact ⟨v, h1, h2.kp k⟩
  · obtain ⟨h1, vs, h2, h3⟩ := r.own i p ds he
    exact ⟨h1, vs, by rw [upd_ne (ne (.inl ⟨i, ds, he⟩))]; exact h2, h3.kp k⟩
  · rw [upd_ne (ne (.inr (by rw [em]; exact fun q => by cases q)))]
    exact z
  · by_cases q : a = D
    · rw [q, upd_same]
      exact fun q => by cases q
    · rw [upd_ne q]
      exact (r.a0 a z).1
  · refine ⟨fun b u eb z => ?_, fun b z => ?_⟩
    · have : b ≠ D := fun q => by
        subst q
        exact nk u eb z
      rw [upd_ne this]
      exact r.kp.keep b u eb z
    · exact r.kp.mono b z
theorem Rel.nk (r : Rel K c S σ H) {D : Addr} (n : H D = none) : ∀ u, c.H0 D = some u → ¬ (¬ c.W0 D ∨ ¬ Mut (some u)) := fun u e z => by
  have := r.kp.keep D u e z
  rw [n] at this
  cases this
def offH (H : Hp) (D : Addr) : Hp := fun b => if b = D then none else H b
theorem offH_ne {H : Hp} {D b : Addr} (h : b ≠ D) : offH H D b = H b := by unfold offH; rw [if_neg h]
theorem offH_same {H : Hp} {D : Addr} : offH H D D = none := by unfold offH; rw [if_pos rfl]
theorem upd_offH {H : Hp} {D : Addr} {o : HO} (e : H D = some o) : upd (offH H D) D o = H := by
  funext b
  by_cases q : b = D
  · rw [q, upd_same, e]
  · rw [upd_ne q, offH_ne q]
/-- as if the unknown object were not there -/
theorem Rel.minus {D : Addr} (r : Rel K (c.plus D) S σ H) {o : HO} (e : H D = some o) (mu : Mut (some o)) (nA : ¬ c.A0 D) (nk : ∀ u, c.H0 D = some u → ¬ (¬ c.W0 D ∨ ¬ Mut (some u))) :
    Rel K c S σ (offH H D) ∧ Kp (S.A (c.plus D)) (S.A c) H (offH H D) := by
  have nW : ¬ S.W D := (r.a0 D (.inr rfl)).2
  have k : Kp (S.A (c.plus D)) (S.A c) H (offH H D) := by
    refine ⟨fun b u eb z => ?_, fun b z => .inl (z.imp .inl id)⟩
    have : b ≠ D := fun q => by
      subst q
      rcases z with z | z
      · exact z (.inl (.inr rfl))
      · rw [e] at eb
        cases eb
        exact z mu
    rw [offH_ne this]
    exact eb
  have ne : ∀ {a : Addr}, S.W a → a ≠ D := fun z q => by subst q; exact nW z
  refine ⟨⟨r.len, r.cn, fun i d he => ?_, fun i p ds he => ?_, r.inj, r.sep, fun a m em => (r.mem a m em).kp k fun u z => ?_, fun a z => ⟨?_, (r.a0 a (.inl z)).2⟩, ?_⟩, k⟩
  · obtain ⟨v, h1, h2⟩ := r.val i d he
    exact ⟨v, h1, h2.kp k⟩
  · obtain ⟨h1, vs, h2, h3⟩ := r.own i p ds he
    exact ⟨h1, vs, by rw [offH_ne (ne (.inl ⟨i, ds, he⟩))]; exact h2, h3.kp k⟩
  · rw [offH_ne (ne (.inr (by rw [em]; exact fun q => by cases q)))]
    exact z
  · rw [offH_ne (fun q => nA (by rw [← q]; exact z))]
    exact (r.a0 a (.inl z)).1
  · refine ⟨fun b u eb z => ?_, fun b z => ?_⟩
    · have : b ≠ D := fun q => by
        subst q
        exact nk u eb z
      rw [offH_ne this]
      exact r.kp.keep b u eb z
    · exact r.kp.mono b z
end
section
variable {X : Cx} {c : Cq} {pos p apos : Pos} {e a b tg : Expr} {es rest : List Expr} {we wa wb : WE} {wt wu : WT} {wl wr : WA}
def wYes : WT := fun S Q => Q true S
theorem t_yes {K : PySem.W.Frag} : ∀ σ H Q, lT K c wYes σ H Q → tYes σ H Q := fun σ H Q h => by
  obtain ⟨S, Qd, r, h, p⟩ := h
  exact p _ _ h _ r .refl
theorem pts_imp {X : Cx} {l : List Expr} {t t' : TT} (h : PTs X l t) (i : ∀ σ H Q, t' σ H Q → t σ H Q) : PTs X l t' := ⟨fun pins s σ H Q I hq => h.run pins s σ H Q I (i σ H Q hq)⟩
theorem ts_nil : PTs X [] (lT X.K c wYes) := pts_imp pts_nil t_yes
theorem ts_one {t : Expr} (h : PT X t (lT X.K c wt)) : PTs X [t] (lT X.K c wt) := pts_one h
def lcGo (wg : WG) (wt : WT) (we : WE) (vs : List Nat) (Q : List Da → Sx → Prop) : List Da → List Da → Sx → Prop
  | [], acc, S => Q acc S
  | d :: ds, acc, S => wg d (S.wipe vs) fun S2 => wt S2 fun b S3 => if b = true then we S3 fun y S4 => y.isO = false ∧ acc.length < sizeLine ∧ lcGo wg wt we vs Q ds (acc ++ [y]) (S.back S4 vs) else lcGo wg wt we vs Q ds acc (S.back S3 vs)
def wLc (wi : WI) (wg : WG) (wt : WT) (we : WE) (vs : List Nat) : WA := fun S Q => wi S fun ds S1 => lcGo wg wt we vs Q ds [] (S1.norm vs)
theorem llc {K : PySem.W.Frag} {wi : WI} {g : TG} {wg : WG} {tt : TT} {te : TE} {is vs : List Nat} (L : ∀ c' : Cq, c'.n = c.n → LG K c' g wg is) (hv : ∀ i ∈ is, i ∈ vs) (ht : ∀ c' : Cq, c'.n = c.n → ∀ σ H Q, lT K c' wt σ H Q → tt σ H Q)
    (he : ∀ c' : Cq, c'.n = c.n → ∀ σ H Q, lE K c' we σ H Q → te σ H Q) : ∀ σ H Q, lL K c (wLc wi wg wt we vs) σ H Q → tLc (lWk K c wi) g tt te vs σ H Q := fun σ H Q h => by
  obtain ⟨S, Qd, r, h, p⟩ := h
  refine ⟨S, _, r, h, fun ds S1 h1 H1 J r1 k1 ok D nD => ?_⟩
  have nk := r1.nk nD
  have nA : ¬ c.A0 D := fun z => (r1.a0 D z).1 nD
  obtain ⟨r1', _⟩ := r1.plus (o := .lst []) nD
  have sm1 : Same H1 (upd H1 D (.lst [])) := same_upd nD
  refine ⟨fun i m H2 => m = ds.length - i ∧ i ≤ ds.length ∧ ∃ S2 acc vacc, Rel K (c.plus D) S2 σ H2 ∧ Kp S1.W S2.W H1 H2 ∧ H2 D = some (.lst vacc) ∧ RpA K (S2.A (c.plus D)) H2 vacc acc ∧ acc.length ≤ sizeLine ∧ lcGo wg wt we vs Qd (ds.drop i) acc S2,
    ⟨ds.length, by simp, Nat.zero_le _, S1.norm vs, [], [], (r1'.back r1' .refl rfl fun _ _ => rfl).1, (Kp.same sm1).trans (r1'.back r1' .refl rfl fun _ _ => rfl).2, upd_same, .nil, Nat.zero_le _, by simpa using h1⟩, ?_⟩
  rintro i m H2 ⟨rfl, hi, S2, acc, vacc, r2, k2, eD, ra, hz, h2⟩
  obtain ⟨go, stop⟩ := ok H2 (fun a => S2.W a ∨ a = D) ⟨k2.keep, fun b z => z.elim (k2.mono b) fun q => .inr (by rw [q]; exact nD)⟩ i
  by_cases hlt : i < ds.length
  · refine .inr ⟨(go ds[i] (List.getElem?_eq_getElem hlt)).1, fun H' => ∃ S2 acc vacc, Rel K (c.plus D) S2 σ H' ∧ Kp S1.W S2.W H1 H' ∧ H' D = some (.lst vacc) ∧ RpA K (S2.A (c.plus D)) H' vacc acc ∧ acc.length ≤ sizeLine ∧ lcGo wg wt we vs Qd (ds.drop (i + 1)) acc S2,
      fun H' q => ⟨ds.length - (i + 1), by omega, rfl, hlt, q⟩, fun x H3 hy => ?_⟩
    obtain ⟨sm, rx⟩ := (go ds[i] (List.getElem?_eq_getElem hlt)).2 x H3 hy
    rw [List.drop_eq_getElem_cons hlt] at h2
    have r3 := r2.same sm
    have k3 : Kp S2.W S2.W H2 H3 := .same sm
    obtain ⟨rw3, kw3⟩ := r3.wipe vs
    -- the item does not know the new list
    have rx' : Rp K ((S2.wipe vs).A (c.plus D)) H3 x ds[i] := rx.kp ⟨fun b u e _ => e, fun b z => by
      rcases z with (z | z) | z
      · exact .inl (.inl z)
      · exact .inl (.inr (.inr z))
      · exact (kw3.mono b z).imp (fun q => .inr (.inl q)) id⟩
    refine (L (c.plus D) rfl).run x ds[i] _ _ H3 _ _ rw3 rx' h2 fun S4 σ4 h4 r4 k4 s4 l4 => ?_
    have l4' : σ4.length = σ.length := by rw [l4, wipe_length]
    have s4' : ∀ j, j ∉ vs → σ4[j]? = σ[j]? := fun j hj => by
      rw [s4 j (fun z => hj (hv j z)), wipe_get hj]
    refine ⟨wipe_eq l4' s4', ht (c.plus D) rfl _ _ _ ⟨S4, _, r4, h4, fun b S5 h5 H5 r5 k5 => ?_⟩⟩
    have k25 : Kp S2.W S5.W H2 H5 := ((k3.trans kw3).trans k4).trans k5
    have D5 : H5 D = some (.lst vacc) := k25.keep D _ eD (.inl (r2.a0 D (.inr rfl)).2)
    refine ite_of h5 (fun h6 => he (c.plus D) rfl _ _ _ ⟨S5, _, r5, h6, fun y S6 h7 H6 v r6 k6 py => ?_⟩) fun h6 => ?_
    · obtain ⟨py0, hz2, h8⟩ := h7
      have k26 := k25.trans k6
      have D6 : H6 D = some (.lst vacc) := k26.keep D _ eD (.inl (r2.a0 D (.inr rfl)).2)
      obtain ⟨rb, kb⟩ := r2.back r6 k26 l4' s4'
      have kab := kA (c := c.plus D) (k26.trans kb)
      have ra6 := ra.kp kab
      refine ⟨vacc, D6, by rw [ra.length]; exact hz2, S2.back S6 vs, acc ++ [y], vacc ++ [v], rb.upD D6 trivial nk, ?_, upd_same, ?_, by rw [List.length_append]; exact hz2, h8⟩
      · refine ⟨fun b u eb z => ?_, (k2.trans (k26.trans kb)).mono⟩
        rw [upd_ne (ne_of_none eb nD)]
        exact (k2.trans (k26.trans kb)).keep b u eb z
      · refine (ra6.snoc ((py.pure py0).kp (kA kb))).kp ⟨fun b u eb z => ?_, fun b z => .inl z⟩
        have : b ≠ D := fun q => by
          subst q
          rcases z with z | z
          · exact z (.inl (.inr rfl))
          · rw [D6] at eb
            cases eb
            exact z trivial
        rw [upd_ne this]
        exact eb
    · obtain ⟨rb, kb⟩ := r2.back r5 k25 l4' s4'
      exact ⟨S2.back S5 vs, acc, vacc, rb, k2.trans (k25.trans kb), D5, ra.kp (kA (k25.trans kb)), hz, h6⟩
  · have e : i = ds.length := by omega
    subst e
    rw [List.drop_length] at h2
    obtain ⟨rm, km⟩ := r2.minus eD trivial nA nk
    have q := p acc S2 h2 (offH H2 D) D vacc rm ?_ offH_same (ra.kp km) hz
    · rw [upd_offH eD] at q
      exact .inl ⟨stop (Nat.le_refl _), q⟩
    · refine k1.trans ⟨fun b u eb z => ?_, fun b z => k2.mono b z⟩
      rw [offH_ne (ne_of_none eb nD)]
      exact k2.keep b u eb z
theorem v_lc {elt tg iter : Expr} {ifs : List Expr} {scope : Scope} {own : List (Str × Nat)} {wi : WI} {g : TG} {wg : WG} {is : List Nat} (hc : X.calm = true) (hN : X.N.Nodup) (hi : PI X tg iter (lWk X.K c wi)) (ok : BlkOk X.N X.env.scope scope own)
    (L : ∀ c' : Cq, c'.n = c.n → LG X.K c' g wg is) (hg : ∀ (s : Shared) (H : Hp) (C : Addr) (cl : List (Str × Addr)) (fp : List Addr), PG (X.blk s H scope (compEnvC scope cl C X.env) fp) tg g)
    (ht : ∀ (s : Shared) (H : Hp) (C : Addr) (cl : List (Str × Addr)) (fp : List Addr) (c' : Cq), c'.n = c.n → PTs (X.blk s H scope (compEnvC scope cl C X.env) fp) ifs (lT X.K c' wt))
    (he : ∀ (s : Shared) (H : Hp) (C : Addr) (cl : List (Str × Addr)) (fp : List Addr) (c' : Cq), c'.n = c.n → PE (X.blk s H scope (compEnvC scope cl C X.env) fp) elt (lE X.K c' we))
    (hv : ∀ i ∈ is, i ∈ own.map (·.2)) (hs : ∀ x, foldedSetIterable iter X.env x = pure x := by intro _; rfl) : PE X (.ListComp elt [⟨tg, iter, ifs, 0⟩] scope pos) (lL X.K c (wLc wi wg wt we (own.map (·.2)))) :=
  pe_imp (pe_lc (tt := fun σ H Q => ∃ c' : Cq, c'.n = c.n ∧ lT X.K c' wt σ H Q) (te := fun σ H Q => ∃ c' : Cq, c'.n = c.n ∧ lE X.K c' we σ H Q) hc hN hi ok hg
    (fun s H C cl fp => ⟨fun pins s' σ H' Q I ⟨c', hc', h⟩ => (ht s H C cl fp c' hc').run pins s' σ H' Q I h⟩)
    (fun s H C cl fp => ⟨fun pins s' σ H' Q I ⟨c', hc', h⟩ => (he s H C cl fp c' hc').run pins s' σ H' Q I h⟩) hs)
    (llc L hv (fun c' e _ _ _ h => ⟨c', e, h⟩) (fun c' e _ _ _ h => ⟨c', e, h⟩))
/-- y = [..] -/
theorem s_ownLc {i : Nat} {y : Str} {py spos : Pos} {elt tg iter : Expr} {ifs : List Expr} {scope : Scope} {own : List (Str × Nat)} {wi : WI} {g : TG} {wg : WG} {is : List Nat} (hc : X.calm = true) (hN : X.N.Nodup) (hy : X.N[i]? = some y) (hyl : X.env.scope.names.lookup y = some .local) (hn : i < c.n)
    (hsw : swapsWith (.ListComp elt [⟨tg, iter, ifs, 0⟩] scope pos) (some (.Name y py)) spos.line X.env = pure true) (hi : PI X tg iter (lWk X.K c wi)) (ok : BlkOk X.N X.env.scope scope own)
    (L : ∀ c' : Cq, c'.n = c.n → LG X.K c' g wg is) (hg : ∀ (s : Shared) (H : Hp) (C : Addr) (cl : List (Str × Addr)) (fp : List Addr), PG (X.blk s H scope (compEnvC scope cl C X.env) fp) tg g)
    (ht : ∀ (s : Shared) (H : Hp) (C : Addr) (cl : List (Str × Addr)) (fp : List Addr) (c' : Cq), c'.n = c.n → PTs (X.blk s H scope (compEnvC scope cl C X.env) fp) ifs (lT X.K c' wt))
    (he : ∀ (s : Shared) (H : Hp) (C : Addr) (cl : List (Str × Addr)) (fp : List Addr) (c' : Cq), c'.n = c.n → PE (X.blk s H scope (compEnvC scope cl C X.env) fp) elt (lE X.K c' we))
    (hv : ∀ i ∈ is, i ∈ own.map (·.2)) (hs : ∀ x, foldedSetIterable iter X.env x = pure x := by intro _; rfl) : PS X (.Assign [.Name y py] (.ListComp elt [⟨tg, iter, ifs, 0⟩] scope pos) spos) (lS X.K c (wOwn i (wLc wi wg wt we (own.map (·.2))))) :=
  ps_imp (ps_setLc (i := i) (tt := fun σ H Q => ∃ c' : Cq, c'.n = c.n ∧ lT X.K c' wt σ H Q) (te := fun σ H Q => ∃ c' : Cq, c'.n = c.n ∧ lE X.K c' we σ H Q) hc hN hy hyl hsw hi ok hg
    (fun s H C cl fp => ⟨fun pins s' σ H' Q I ⟨c', hc', h⟩ => (ht s H C cl fp c' hc').run pins s' σ H' Q I h⟩)
    (fun s H C cl fp => ⟨fun pins s' σ H' Q I ⟨c', hc', h⟩ => (he s H C cl fp c' hc').run pins s' σ H' Q I h⟩) hs)
    (lown hn (llc L hv (fun c' e _ _ _ h => ⟨c', e, h⟩) (fun c' e _ _ _ h => ⟨c', e, h⟩)))
end
end VL
set_option Elab.async false
set_option linter.all false
set_option maxRecDepth 100000
set_option maxHeartbeats 1000000
namespace VL
open PySem PySem.Spec PyProof.Rows L2
abbrev DX := Value → Option (List (Str × Da)) → Mx → Prop
abbrev DC := List Da → Mx → (Da → Mx → Prop) → DX → Prop
def Mem (K : PySem.W.Frag) (A0 : Addr → Prop) (M : Mx) (H : Hp) : Prop := ∀ a m, M a = some m → MOk K (fun b => A0 b ∨ wM M b) H a m
def XdOk (K : PySem.W.Frag) (A : Addr → Prop) (H : Hp) (ofs : Option (List (Str × Da))) (d : Option Addr) : Prop := match ofs with
  | none => d = none
  | some gs => ∃ a fs, d = some a ∧ H a = some (.xd fs) ∧ RpF K A H fs gs
def spOf (K : PySem.W.Frag) (dc : DC) : Sp := fun vs H Q E => ∃ (A0 : Addr → Prop) (M : Mx) (ds : List Da) (Qd : Da → Mx → Prop) (Xd : DX),
  RpA K (fun a => A0 a ∨ wM M a) H vs ds ∧ Mem K A0 M H ∧ (∀ a, A0 a → H a ≠ none ∧ M a = none) ∧ dc ds M Qd Xd ∧
  (∀ d M', Qd d M' → ∀ H' v, Kp (wM M) (wM M') H H' → Mem K A0 M' H' → Rp K (fun a => A0 a ∨ wM M' a) H' v d → Q v H') ∧
  (∀ cls ofs M', Xd cls ofs M' → ∀ H' d, Kp (wM M) (wM M') H H' → Mem K A0 M' H' → XdOk K (fun a => A0 a ∨ wM M' a) H' ofs d → E cls d H')
def XOk (K : PySem.W.Frag) (c : Cq) (Xs : Value → Option (List (Str × Da)) → Sx → Prop) (W : WX) : Prop := ∀ cls ofs S', Xs cls ofs S' → ∀ σ' H' d, Rel K c S' σ' H' → XdOk K (S'.A c) H' ofs d → W cls d σ' H'
abbrev Xno : Value → Option (List (Str × Da)) → Sx → Prop := fun _ _ _ => False
theorem xno {K : PySem.W.Frag} {c : Cq} {W : WX} : XOk K c Xno W := fun _ _ _ h => h.elim
def wCall (dc : DC) (dd : List Da) (Xs : Value → Option (List (Str × Da)) → Sx → Prop) (wa : WA) : WE := fun S Q => wa S fun ds S1 => dc (ds ++ dd) S1.M (fun d M' => Q d ⟨S1.ρ, M'⟩) fun cls ofs M' => Xs cls ofs ⟨S1.ρ, M'⟩
section
variable {K : PySem.W.Frag} {c : Cq} {S : Sx} {σ : L2.St} {H H' : Hp} {A : Addr → Prop}
theorem Rel.memM (r : Rel K c S σ H) {A1 : Addr → Prop} (h : ∀ b, A1 b → c.A0 b ∨ ∃ (i : Nat) (ds : List Da), S.ρ[i]? = some (Slx.own b ds)) : Mem K A1 S.M H := fun a m e => (r.mem a m e).kp ⟨fun _ _ z _ => z, fun b z => by
  rcases z with z | z
  · rcases h b z with q | q
    · exact .inl (.inl q)
    · exact .inl (.inr (.inl q))
  · exact .inl (.inr (.inr z))⟩ fun _ z => z
/-- what a call asks of the heap, and what it leaves -/
theorem sp_call {dc : DC} {ds : List Da} {vs : List V} {Qd : Da → Sx → Prop} {Q : VK} {Xs : Value → Option (List (Str × Da)) → Sx → Prop} {W : WX} (r : Rel K c S σ H) (rv : RpA K (S.A c) H vs ds) (h : dc ds S.M (fun d M' => Qd d ⟨S.ρ, M'⟩) fun cls ofs M' => Xs cls ofs ⟨S.ρ, M'⟩)
    (p : Pst K c S σ H Qd Q) (hX : XOk K c Xs W) : spOf K dc vs H Q (fun cls d H' => W cls d σ H') := by
  let A1 : Addr → Prop := fun a => c.A0 a ∨ ∃ (i : Nat) (ds : List Da), S.ρ[i]? = some (Slx.own a ds)
  have mk : ∀ (M' : Mx) (H' : Hp), Kp (wM S.M) (wM M') H H' → Mem K A1 M' H' → Rel K c ⟨S.ρ, M'⟩ σ H' ∧ Kp S.W (Sx.W ⟨S.ρ, M'⟩) H H' := fun M' H' k hm => by
    have k' : Kp S.W (Sx.W ⟨S.ρ, M'⟩) H H' := by
      refine ⟨fun b o e z => k.keep b o e (z.imp (fun q w => q (.inr w)) id), fun b z => ?_⟩
      rcases z with z | z
      · exact .inl (.inl z)
      · exact (k.mono b z).imp .inr id
    refine ⟨r.next k' r.len rfl (fun i d e => ?_) (fun i q es e => ?_) r.inj (fun i q es e => ?_) (fun a m e => (hm a m e).kp ⟨fun _ _ z _ => z, fun b z => ?_⟩ fun _ z => z), k'⟩
    · obtain ⟨v, h1, h2⟩ := r.val i d e
      exact ⟨v, h1, h2.kp (kA k')⟩
    · obtain ⟨h1, ws, h2, h3⟩ := r.own i q es e
      exact ⟨h1, ws, k.keep _ _ h2 (.inl fun z => z (r.sep i q es e)), h3.kp (kA k')⟩
    · cases e2 : M' q with
      | none => exact e2
      | some m =>
        obtain ⟨h1, ws, h2, h3⟩ := r.own i q es e
        rcases k.mono q (by show M' q ≠ none; rw [e2]; exact fun z => by cases z) with z | z
        · exact absurd (r.sep i q es e) z
        · rw [h2] at z
          cases z
    · rcases z with z | z | z
      · exact .inl (.inl (.inl z))
      · exact .inl (.inl (.inr z))
      · exact .inl (.inr z)
  refine ⟨A1, S.M, ds, _, _, rv.anti fun b z => ?_, r.memM fun b z => z, fun a z => ?_, h, fun d M' hq H' v k hm rp => ?_, fun cls ofs M' hx H' d k hm hd => ?_⟩
  · rcases z with (z | z) | z
    · exact .inl z
    · exact .inr (.inl z)
    · exact .inr (.inr z)
  · rcases z with z | ⟨i, es, z⟩
    · obtain ⟨h1, h2⟩ := r.a0 a z
      refine ⟨h1, ?_⟩
      cases e : S.M a with
      | none => rfl
      | some m => exact absurd (Or.inr (by rw [e]; exact fun q => by cases q)) h2
    · obtain ⟨_, ws, h2, _⟩ := r.own i a es z
      exact ⟨by rw [h2]; exact fun q => (by cases q), r.sep i a es z⟩
  · obtain ⟨r', k'⟩ := mk M' H' k hm
    refine p _ _ hq _ _ r' k' (.inl (rp.anti fun b z => ?_))
    rcases z with z | z | z
    · exact .inl (.inl z)
    · exact .inl (.inr z)
    · exact .inr z
  · obtain ⟨r', k'⟩ := mk M' H' k hm
    refine hX _ _ _ hx _ _ _ r' ?_
    cases ofs with
    | none => exact hd
    | some gs =>
      obtain ⟨a, fs, e1, e2, e3⟩ := hd
      refine ⟨a, fs, e1, e2, e3.kp ⟨fun _ _ z _ => z, fun b z => ?_⟩⟩
      rcases z with z | z | z
      · exact .inl (.inl (.inl z))
      · exact .inl (.inl (.inr z))
      · exact .inl (.inr z)
end
section
variable {X : Cx} {c : Cq} {k : Nat} {f : Addr} {fd : FuncData} {ps : List Str} {dc : DC} {dvs : List V} {dvs' : List Value} {dd : List Da} {x m : Str} {p pos apos : Pos} {e o : Expr} {es : List Expr} {wl wr : WA} {we : WE} {Xs : Value → Option (List (Str × Da)) → Sx → Prop} {W : WX}
theorem v_callD (F : FnOk X.prog X.w X.K X.mg X.base (L2.CX X.prog X.w) k f fd ps (spOf X.K dc)) (hr : Room k X.A) (hg : Gl X x) (hm : X.mg x = some (.ref f)) (hk : PySem.W.keepIn X.K (.ref f) = true) (hb : Binds X.K fd ps dvs') (hd : Vals dvs dvs') (hdd : ∀ A H, RpA X.K A H dvs dd)
    (tk : Takes X W) (hX : XOk X.K c Xs W) (ha : PA X (e :: es) (lA X.K c wl)) (hdb : (x == ("__debug__" : Str)) = false := by decide) (he : starEach (e :: es) X.env = (false, eval e X.env) :: starEach es X.env := by rfl) (hpl : (backTo pos (starEach es X.env)).any (·.1) = false := by rfl) :
    PE X (.Call (.Name x p) (e :: es) [] pos) (lE X.K c (wCall dc dd Xs wl)) := pe_imp (pe_callSD F hr hg hm hk hb hd (fun σ => passAt tk σ) ha hdb he hpl) fun σ H Q h => by
  obtain ⟨S, Qd, r, h, p⟩ := h
  exact ⟨S, _, r, h, fun ds S1 h1 H1 vs r1 k1 p1 => sp_call r1 (p1.append (hdd _ _)) h1 (p.at k1) hX⟩
theorem v_call (F : FnOk X.prog X.w X.K X.mg X.base (L2.CX X.prog X.w) k f fd ps (spOf X.K dc)) (hr : Room k X.A) (hg : Gl X x) (hm : X.mg x = some (.ref f)) (hk : PySem.W.keepIn X.K (.ref f) = true) (hb : Binds X.K fd ps [])
    (tk : Takes X W) (hX : XOk X.K c Xs W) (ha : PA X (e :: es) (lA X.K c wl)) (hdb : (x == ("__debug__" : Str)) = false := by decide) (he : starEach (e :: es) X.env = (false, eval e X.env) :: starEach es X.env := by rfl) (hpl : (backTo pos (starEach es X.env)).any (·.1) = false := by rfl) :
    PE X (.Call (.Name x p) (e :: es) [] pos) (lE X.K c (wCall dc [] Xs wl)) := v_callD F hr hg hm hk hb .nil (fun _ _ => .nil) tk hX ha hdb he hpl
def wRaise (cls : Value) (Xs : Value → Option (List (Str × Da)) → Sx → Prop) : WS := fun _ S => Xs cls none S
theorem s_raise {C : Addr} {bmB : List Value} {B newId initId : String} {msg : Str} {j : Nat} {p2 : Pos} (hc : X.calm = true) (tk : Takes X W) (hX : XOk X.K c Xs W) (F : ExcBaseFacts B newId initId bmB) (q : PySem.W.excIn X.K C bmB newId = true) (gC : X.mg x = some (.ref C)) (kC : PySem.W.keepIn X.K (.ref C) = true) (r : Raises X (.ref C)) (hg : Gl X x)
    (hdb : (x == ("__debug__" : Str)) = false := by decide) : PS X (.Raise (some (.Call (.Name x p) [.Constant (.str msg) j p2] [] apos)) none pos) (lS X.K c (wRaise (.ref C) Xs)) := ps_imp (ps_raise hc tk (pmk_own F q gC kC r hg hdb)) fun D σ H h => by
  obtain ⟨S, Dd, r, h, p⟩ := h
  exact hX _ _ _ h _ _ _ r rfl
end
section
variable {P : Program} {w : World} {K : PySem.W.Frag} {mg : Str → Option Value} {base : Heap}
/-- .. that lets nothing out -/
theorem FnOk.c0 {k : Nat} {f : Addr} {fd : FuncData} {ps : List Str} {sp : Sp} (F : FnOk P w K mg base (L2.CX P w) k f fd ps sp) : FnOk P w K mg base CX0 k f fd ps (fun vs H Q _ => sp vs H Q E0) :=
  ⟨fun vs H Q E h => F.len vs H Q E0 h, fun A outer s H args us vs Q E hr e0 hb hv h => codeAny_mono (F.run A outer s H args us vs Q E0 hr e0 hb hv h) fun r s' hq => by
    cases r with
    | error e =>
      obtain ⟨_, _, _, _, _, _, _, _, _, _, _, _, z⟩ := hq
      exact z
    | ok fl => cases fl <;> first | exact hq | exact False.elim hq⟩
def startD (n : Nat) (ds : List Da) : List Slx := ds.map .val ++ List.replicate (n - ds.length) .no
theorem start_rel {c : Cq} {N : List Str} {vs : List V} {ds : List Da} {M : Mx} {H : Hp} (hn : c.n = N.length) (hl : vs.length ≤ N.length) (rp : RpA K (fun a => c.A0 a ∨ wM M a) H vs ds) (mem : Mem K c.A0 M H) (a0 : ∀ a, c.A0 a → H a ≠ none ∧ M a = none) (e1 : c.W0 = wM M) (e2 : c.H0 = H) :
    Rel K c ⟨startD N.length ds, M⟩ (L2.start N vs) H := by
  have l := rp.length
  have get : ∀ (i : Nat) (x : Slx), (startD N.length ds)[i]? = some x → x = .no ∨ ∃ d, x = .val d ∧ ds[i]? = some d := fun i x h => by
    unfold startD at h
    by_cases hi : i < (ds.map Slx.val).length
    · rw [List.getElem?_append_left hi, List.getElem?_map] at h
      cases q : ds[i]? with
      | none => rw [q] at h; cases h
      | some d => rw [q] at h; cases h; exact .inr ⟨d, rfl, rfl⟩
    · rw [List.getElem?_append_right (by omega), List.getElem?_replicate] at h
      split at h
      · cases h; exact .inl rfl
      · cases h
  have no : ∀ (i : Nat) (p : Addr) (es : List Da), (startD N.length ds)[i]? = some (Slx.own p es) → False := fun i p es h => by
    rcases get i _ h with z | ⟨d, z, _⟩ <;> cases z
  have sub : ∀ b, (Sx.W ⟨startD N.length ds, M⟩) b → wM M b := fun b z => by
    rcases z with ⟨i, es, z⟩ | z
    · exact (no i b es z).elim
    · exact z
  have subA : ∀ b, Sx.A ⟨startD N.length ds, M⟩ c b → c.A0 b ∨ wM M b := fun b z => z.imp id (sub b)
  refine ⟨?_, ?_, fun i d e => ?_, fun i p es e => (no i p es e).elim, fun i j p es es' h1 _ => (no i p es h1).elim, fun i p es e => (no i p es e).elim, fun a m e => (mem a m e).kp ⟨fun _ _ z _ => z, fun b z => .inl (subA b z)⟩ fun _ z => z, fun a z => ⟨(a0 a z).1, fun w => sub a w (a0 a z).2⟩, ?_⟩
  · unfold L2.start startD
    simp
    omega
  · unfold startD
    simp
    omega
  · rcases get i _ e with z | ⟨d', z, e'⟩
    · cases z
    · cases z
      obtain ⟨v, hv, rv⟩ := rp.get e'
      refine ⟨v, ?_, rv.anti subA⟩
      unfold L2.start
      have : i < vs.length := by
        rw [List.getElem?_eq_some_iff] at hv
        exact hv.1
      rw [List.getElem?_append_left (by simpa using this), List.getElem?_map, hv]
      rfl
  · rw [e1, e2]
    exact Kp.refl.sub sub
theorem okD {x qual : Str} {st : Stmt} {f : Addr} {fd : FuncData} {N ps : List Str} {k : Nat} {dc : DC} (F : Fun K x qual st f fd) (S : FnScope N ps (defScope st)) (hl : ∀ ds M Q X, dc ds M Q X → ds.length = ps.length)
    (hbody : ∀ (cdv : Value) (A : Around) (outer : List Env) (s : Shared) (H : Hp) (E : XK) (c : Cq) (ds : List Da) (M : Mx) (Qd : Da → Mx → Prop) (Xd : DX), c.n = N.length → Room k (A.deeper (envOfC qual (defScope st) s.heap.objs.size f cdv)) → dc ds M Qd Xd →
      XOk K c (fun cls ofs S' => Xd cls ofs S'.M) (fun cls d _ H' => E cls d H') →
      ∃ wb : WS, PSs (cxOf (L2.CX P w) P w K mg base N qual (defScope st) f cdv A outer s H E) (defBody st) (lS K c wb) ∧ wb { nx := fun S' => Qd .n S'.M, rt := fun d S' => Qd d S'.M } ⟨startD N.length ds, M⟩) :
    FnOk P w K mg base (L2.CX P w) (k + 1) f fd ps (spOf K dc) := by
  refine F.okX S (fun vs H Q E h => ?_) (fun cdv A outer s H vs Q E hr h => ?_)
  · obtain ⟨A0, M, ds, Qd, Xd, rp, _, _, hd, _⟩ := h
    rw [rp.length]
    exact hl _ _ _ _ hd
  obtain ⟨A0, M, ds, Qd, Xd, rp, mem, a0, hd, hQ, hE⟩ := h
  have hpl : ps.length ≤ N.length := by have := congrArg List.length S.pre; rw [List.length_take] at this; omega
  let c : Cq := ⟨A0, wM M, H, N.length⟩
  have done : ∀ {S' : Sx} {σ' : L2.St} {H' : Hp}, Rel K c S' σ' H' → Kp (wM M) (wM S'.M) H H' ∧ Mem K A0 S'.M H' ∧ ∀ b, (A0 b ∨ wM S'.M b) → S'.A c b := fun r => by
    refine ⟨r.kp.sub fun b z => .inr z, r.memM fun b z => .inl z, fun b z => z.imp id .inr⟩
  obtain ⟨wb, h1, h2⟩ := hbody cdv A outer s H E c ds M Qd Xd rfl hr hd fun cls ofs S' hx σ' H' d r hd' => by
    obtain ⟨k1, m1, s1⟩ := done r
    refine hE cls ofs S'.M hx H' d k1 m1 ?_
    cases ofs with
    | none => exact hd'
    | some gs =>
      obtain ⟨a, fs, e1, e2, e3⟩ := hd'
      exact ⟨a, fs, e1, e2, e3.kp ⟨fun _ _ z _ => z, fun b z => .inl (s1 b z)⟩⟩
  refine ⟨lS K c wb, h1, _, _, start_rel (c := c) rfl (by rw [rp.length, hl _ _ _ _ hd]; exact hpl) rp mem a0 rfl rfl, h2, ⟨fun S' hq σ' H' r _ => ?_, fun d S' hq σ' H' v r _ rv => ?_, fun _ h => h.elim, fun _ h => h.elim⟩⟩
  · obtain ⟨k1, m1, s1⟩ := done r
    exact hQ _ _ hq _ _ k1 m1 .n
  · obtain ⟨k1, m1, s1⟩ := done r
    exact hQ _ _ hq _ _ k1 m1 (rv.anti s1)
end
end VL
set_option Elab.async false
set_option linter.all false
set_option maxRecDepth 100000
set_option maxHeartbeats 1000000
namespace VL
open PySem PySem.Spec PyProof.Rows L2
structure Tab where
  n : Bool
  b : Bool
  i : Bool
  s : Bool
  t : Bool
  l : Bool
  d : Bool
structure IsiT (T : String) (tab : Tab) : Prop where
  n : kitB "NoneType" T = some tab.n
  b : kitB "bool" T = some tab.b
  i : kitB "int" T = some tab.i
  s : kitB "str" T = some tab.s
  t : kitB "tuple" T = some tab.t
  l : kitB "list" T = some tab.l
  d : kitB "dict" T = some tab.d
theorem isi_tuple : IsiT "tuple" ⟨false, false, false, false, true, false, false⟩ := ⟨by decide +kernel, by decide +kernel, by decide +kernel, by decide +kernel, by decide +kernel, by decide +kernel, by decide +kernel⟩
theorem isi_int : IsiT "int" ⟨false, true, true, false, false, false, false⟩ := ⟨by decide +kernel, by decide +kernel, by decide +kernel, by decide +kernel, by decide +kernel, by decide +kernel, by decide +kernel⟩
theorem isi_bool : IsiT "bool" ⟨false, true, false, false, false, false, false⟩ := ⟨by decide +kernel, by decide +kernel, by decide +kernel, by decide +kernel, by decide +kernel, by decide +kernel, by decide +kernel⟩
theorem isi_str : IsiT "str" ⟨false, false, false, true, false, false, false⟩ := ⟨by decide +kernel, by decide +kernel, by decide +kernel, by decide +kernel, by decide +kernel, by decide +kernel, by decide +kernel⟩
theorem isi_list : IsiT "list" ⟨false, false, false, false, false, true, false⟩ := ⟨by decide +kernel, by decide +kernel, by decide +kernel, by decide +kernel, by decide +kernel, by decide +kernel, by decide +kernel⟩
def isiD (tab : Tab) (d : Da) (Q : Bool → Prop) : Prop := match d with
  | .n => Q tab.n
  | .b _ => Q tab.b
  | .i _ => Q tab.i
  | .s _ => Q tab.s
  | .t _ => Q tab.t
  | .l _ => Q tab.l
  | .dk _ => Q tab.d
  | _ => False
def wIsi (tab : Tab) (we : WE) : WE := fun S Q => we S fun d S' => isiD tab d fun b => Q (.b b) S'
theorem sqt_ty {K : PySem.W.Frag} {H : Hp} {a : Addr} {vs : List V} (h : SqT K H a vs) : TyX K H (.ref a) (.type "tuple") := by
  rcases h with (h | ⟨o, h⟩) | ⟨o, its, n, h, c, _⟩
  · exact .base (.tup h)
  · exact .fTuple h
  · exact .kTuple h c
section
variable {X : Cx} {c : Cq} {pos p p2 apos : Pos} {e a b : Expr} {es rest : List Expr} {we wa wb : WE} {wt wu : WT} {wl wr : WA} {x y : Str}
theorem v_isi {T : String} {tab : Tab} (I : IsiT T tab) (hg : Gl X "isinstance") (hm : X.mg "isinstance" = none) (hgT : Gl X x) (hmT : X.mg x = none) (hvT : bootBuiltins x = some (.type T)) (he : PE X e (lE X.K c we)) (hn : x ≠ "__name__" := by decide) (hdb : (x == ("__debug__" : Str)) = false := by decide)
    (hs : starEach [e, .Name x p2] X.env = (false, eval e X.env) :: starEach [.Name x p2] X.env := by rfl) (hs2 : starEach [.Name x p2] X.env = (false, eval (.Name x p2) X.env) :: starEach [] X.env := by rfl) (hpl : (backTo pos (starEach [.Name x p2] X.env)).any (·.1) = false := by rfl)
    (hv : bootBuiltins "isinstance" = some (.builtin "isinstance") := by decide +kernel) : PE X (.Call (.Name "isinstance" p) [e, .Name x p2] [] pos) (lE X.K c (wIsi tab we)) :=
  pe_imp (pe_callB call_isi hg hm hv (pa_cons he (pa_cons (pe_bltn (v := .ty T) hgT hmT hvT rfl hn hdb) pa_nil hs2) hs) (by decide) (by decide) hs hpl) fun σ H Q h => by
  obtain ⟨S, Qd, r, h, q⟩ := h
  refine ⟨S, _, r, h, fun d S1 h1 H1 v r1 k1 p1 => ?_⟩
  have go : ∀ {A : String} {bb : Bool}, TyX X.K H1 v (.type A) → kitB A T = some bb → Qd (.b bb) S1 → rIsi X.K [v, .ty T] H1 Q := fun ty kb hq => ⟨v, _, _, _, _, rfl, .ty T, ty, kit_ty kb, q _ _ hq _ _ r1 k1 (.inl (.b _))⟩
  cases d with
  | n => exact go (by rw [rs_n p1]; exact .base .non) I.n h1
  | b z => exact go (by rw [rs_b p1]; exact .base (.bl z)) I.b h1
  | i z => exact go (by rw [rs_i p1]; exact .base (.int z)) I.i h1
  | s z => exact go (by rw [rs_s p1]; exact .base (.str z)) I.s h1
  | t ds =>
    obtain ⟨w, vs, rfl, g1, g2⟩ := tup_ok p1
    exact go (sqt_ty g1) I.t h1
  | l ds =>
    cases p1.pure rfl with
    | l g1 g2 g3 => exact go (.base (.lst g1)) I.l h1
  | dk ds =>
    cases p1.pure rfl with
    | dk g1 g2 g3 => exact go (.base (.dK g1)) I.d h1
  | _ => exact h1.elim
def wList (we : WE) : WA := fun S Q => we S fun d S' => ∃ ds, S'.sq d = some ds ∧ ds.length ≤ sizeLine ∧ Q ds S'
theorem v_list (hg : Gl X x) (hm : X.mg x = none) (hv : bootBuiltins x = some (.type "list")) (he : PE X e (lE X.K c we)) (hs : starEach [e] X.env = (false, eval e X.env) :: starEach [] X.env := by rfl)
    (hn : x ≠ "__name__" := by decide) (hdb : (x == ("__debug__" : Str)) = false := by decide) (hpl : (backTo pos (starEach [] X.env)).any (·.1) = false := by rfl) : PE X (.Call (.Name x p) [e] [] pos) (lL X.K c (wList we)) :=
  pe_imp (pe_callTy call_list_of hg hm hv (pa_cons he pa_nil hs) hn hdb hs hpl) fun σ H Q h => by
  obtain ⟨S, Qd, r, h, q⟩ := h
  refine ⟨S, _, r, h, fun d S1 h1 H1 v r1 k1 p1 => ?_⟩
  obtain ⟨ds, e1, hz, h2⟩ := h1
  obtain ⟨w, vs, rfl, g1, g2⟩ := sq_ok r1 p1 e1
  exact ⟨w, vs, rfl, g1, fun l nl => q _ _ h2 _ _ _ r1 k1 nl g2 hz⟩
def wCatL (wa wb : WE) : WA := fun S Q => wa S fun x S1 => wb S1 fun y S2 => ∃ ds es, S2.lst x = some ds ∧ S2.lst y = some es ∧ ds.length + es.length ≤ sizeLine ∧ Q (ds ++ es) S2
theorem v_catL (ha : PE X a (lE X.K c wa)) (hb : PE X b (lE X.K c wb)) : PE X (.BinOp a .Add b pos) (lL X.K c (wCatL wa wb)) := pe_imp (pe_op op_cat ha hb) fun σ H Q h => by
  obtain ⟨S, Qd, r, h, q⟩ := h
  refine ⟨S, _, r, h, fun x S1 h1 H1 v1 r1 k1 p1 => ⟨S1, _, r1, h1, fun y S2 h2 H2 v2 r2 k2 p2 => ?_⟩⟩
  obtain ⟨ds, es, e1, e2, hz, h3⟩ := h2
  obtain ⟨w1, vs1, rfl, g1, g2⟩ := lst_ok r2 (p1.kp (kA k2)) e1
  obtain ⟨w2, vs2, rfl, g3, g4⟩ := lst_ok r2 p2 e2
  exact ⟨w1, w2, vs1, vs2, rfl, rfl, g1, g3, by rw [g2.length, g4.length]; exact hz, fun l nl => q _ _ h3 _ _ _ r2 (k1.trans k2) nl (g2.append g4) (by rw [List.length_append]; exact hz)⟩
/-- x = [..], not changed any more -/
theorem s_valLc {i : Nat} {py spos : Pos} {elt tg iter : Expr} {ifs : List Expr} {scope : Scope} {own : List (Str × Nat)} {wi : WI} {g : TG} {wg : WG} {is : List Nat} (hc : X.calm = true) (hN : X.N.Nodup) (hy : X.N[i]? = some y) (hyl : X.env.scope.names.lookup y = some .local) (hn : i < c.n)
    (hsw : swapsWith (.ListComp elt [⟨tg, iter, ifs, 0⟩] scope pos) (some (.Name y py)) spos.line X.env = pure true) (hi : PI X tg iter (lWk X.K c wi)) (ok : BlkOk X.N X.env.scope scope own)
    (L : ∀ c' : Cq, c'.n = c.n → LG X.K c' g wg is) (hg : ∀ (s : Shared) (H : Hp) (C : Addr) (cl : List (Str × Addr)) (fp : List Addr), PG (X.blk s H scope (compEnvC scope cl C X.env) fp) tg g)
    (ht : ∀ (s : Shared) (H : Hp) (C : Addr) (cl : List (Str × Addr)) (fp : List Addr) (c' : Cq), c'.n = c.n → PTs (X.blk s H scope (compEnvC scope cl C X.env) fp) ifs (lT X.K c' wt))
    (he : ∀ (s : Shared) (H : Hp) (C : Addr) (cl : List (Str × Addr)) (fp : List Addr) (c' : Cq), c'.n = c.n → PE (X.blk s H scope (compEnvC scope cl C X.env) fp) elt (lE X.K c' we))
    (hv : ∀ i ∈ is, i ∈ own.map (·.2)) (hs : ∀ x, foldedSetIterable iter X.env x = pure x := by intro _; rfl) : PS X (.Assign [.Name y py] (.ListComp elt [⟨tg, iter, ifs, 0⟩] scope pos) spos) (lS X.K c (wSet i (wOf (wLc wi wg wt we (own.map (·.2)))))) :=
  ps_imp (ps_setLc (i := i) (tt := fun σ H Q => ∃ c' : Cq, c'.n = c.n ∧ lT X.K c' wt σ H Q) (te := fun σ H Q => ∃ c' : Cq, c'.n = c.n ∧ lE X.K c' we σ H Q) hc hN hy hyl hsw hi ok hg
    (fun s H C cl fp => ⟨fun pins s' σ H' Q I ⟨c', hc', h⟩ => (ht s H C cl fp c' hc').run pins s' σ H' Q I h⟩)
    (fun s H C cl fp => ⟨fun pins s' σ H' Q I ⟨c', hc', h⟩ => (he s H C cl fp c' hc').run pins s' σ H' Q I h⟩) hs)
    (lset hn fun σ H Q h => llc L hv (fun c' e _ _ _ h => ⟨c', e, h⟩) (fun c' e _ _ _ h => ⟨c', e, h⟩) σ H Q (by
      obtain ⟨S, Qd, r, h, q⟩ := h
      refine ⟨S, _, r, h, fun ds S1 h1 H1 w vs r1 k1 nw p1 _ => ?_⟩
      obtain ⟨r2, k2, nA⟩ := r1.alloc (o := .lst vs) nw
      exact q _ _ h1 _ _ r2 (k1.trans k2) (.inl (.l upd_same nA (p1.kp (kA k2))))))
def wSh (we : WE) : WE := fun S Q => we S fun d S' => match d with
  | .o i => match S'.ρ[i]? with
    | some (.own q ds) => Q (.r q) ⟨S'.ρ.set i (.val (.r q)), updM S'.M q (.lst ds)⟩
    | _ => False
  | _ => False
theorem Rel.share {K : PySem.W.Frag} {S : Sx} {σ : L2.St} {H : Hp} (r : Rel K c S σ H) {i : Nat} {q : Addr} {ds : List Da} (e : S.ρ[i]? = some (Slx.own q ds)) :
    Rel K c ⟨S.ρ.set i (.val (.r q)), VL.updM S.M q (.lst ds)⟩ σ H ∧ Kp S.W (Sx.W ⟨S.ρ.set i (.val (.r q)), VL.updM S.M q (.lst ds)⟩) H H := by
  obtain ⟨hσ, ws, hq, hw⟩ := r.own i q ds e
  have sub : ∀ b, (Sx.W ⟨S.ρ.set i (.val (.r q)), VL.updM S.M q (.lst ds)⟩) b → S.W b := fun b z => by
    rcases z with ⟨j, es, z⟩ | z
    · rcases get_set z with ⟨_, z⟩ | ⟨_, z⟩
      · cases z
      · exact .inl ⟨j, es, z⟩
    · by_cases hb : b = q
      · subst hb
        exact .inl ⟨i, ds, e⟩
      · have z' : VL.updM S.M q (.lst ds) b ≠ none := z
        rw [updM_ne hb] at z'
        exact .inr z'
  have k : Kp S.W (Sx.W ⟨S.ρ.set i (.val (.r q)), VL.updM S.M q (.lst ds)⟩) H H := Kp.refl.sub sub
  refine ⟨r.next k (by simp [r.len]) (by simp) (fun j d he => ?_) (fun j b es he => ?_) (fun j j' b es es' h1 h2 => ?_) (fun j b es he => ?_) (fun b m em => ?_), k⟩
  · rcases get_set he with ⟨rfl, z⟩ | ⟨ne, z⟩
    · cases z
      exact ⟨_, hσ, .r q⟩
    · obtain ⟨v, h1, h2⟩ := r.val j d z
      exact ⟨v, h1, h2.kp (kA k)⟩
  · rcases get_set he with ⟨rfl, z⟩ | ⟨ne, z⟩
    · cases z
    · obtain ⟨h1, vs, h2, h3⟩ := r.own j b es z
      exact ⟨h1, vs, h2, h3.kp (kA k)⟩
  · rcases get_set h1 with ⟨rfl, z⟩ | ⟨ne, z⟩
    · cases z
    · rcases get_set h2 with ⟨rfl, z'⟩ | ⟨ne', z'⟩
      · cases z'
      · exact r.inj j j' b es es' z z'
  · rcases get_set he with ⟨rfl, z⟩ | ⟨ne, z⟩
    · cases z
    · have hb : b ≠ q := fun hb => by
        subst hb
        exact ne (r.inj i j b ds es e z)
      show VL.updM S.M q (.lst ds) b = none
      rw [updM_ne hb]
      exact r.sep j b es z
  · by_cases hb : b = q
    · subst hb
      have em' : VL.updM S.M b (.lst ds) b = some m := em
      rw [updM_same] at em'
      cases em'
      exact ⟨ws, hq, hw.kp (kA k)⟩
    · have em' : VL.updM S.M q (.lst ds) b = some m := em
      rw [updM_ne hb] at em'
      exact (r.mem b m em').kp (kA k) fun _ z => z
theorem vSh (h : PE X e (lE X.K c we)) : PE X e (lE X.K c (wSh we)) := pe_imp h fun σ H Q h => by
  obtain ⟨S, Qd, r, h, p⟩ := h
  refine ⟨S, _, r, h, fun d S1 h1 H1 v r1 k1 p1 => ?_⟩
  split at h1
  · rename_i i
    split at h1
    · rename_i q ds e
      obtain ⟨r2, k2⟩ := r1.share e
      have : v = .ref q := by
        rcases p1 with p1 | ⟨j, e1, e2⟩
        · cases p1
        · cases e1
          rw [(r1.own _ _ _ e).1] at e2
          cases e2
          rfl
      subst this
      exact p _ _ h1 _ _ r2 (k1.trans k2) (.inl (.r _))
    · exact h1.elim
  · exact h1.elim
def rdNeg : RU := fun d S Q => match d with
  | .i k => Q (.i (-k)) S
  | _ => False
theorem v_neg (ha : PE X a (lE X.K c wa)) : PE X (.UnaryOp .USub a pos) (lE X.K c (wUn rdNeg wa)) := pe_imp (pe_un un_neg ha) (lun fun σ H S x d Qd Q r rx h p => by
  cases d <;> try exact h.elim
  exact ⟨_, rs_i rx, p _ _ h _ _ r .refl (.inl (.i _))⟩)
theorem lenN {i n : Nat} {wr : List Da → Sx → (Sx → Prop) → Prop} (h : ∀ ds S Q, wr ds S Q → ds.length = n) : ∀ ds S Q, wgCons (wgN i) wr ds S Q → ds.length = n + 1 := fun ds S Q z => by
  cases ds with
  | nil => exact z.elim
  | cons d r => rw [List.length_cons, h r _ _ z]
def wAsg (we : WE) (wg : WG) : WS := fun D S => we S fun d S' => d.isO = false ∧ wg d S' D.nx
theorem s_asg {tg : Expr} {g : TG} {wg : WG} {is : List Nat} (he : PE X e (lE X.K c we)) (hg : PG X tg g) (L : LG X.K c g wg is) (hs : swapsWithSole [tg] e pos.line X.env = pure false := by rfl) (hw : swappedStores [tg] e X.env = pure none := by rfl)
    (h1 : (assignEach [tg] X.env).map (·.2) = [assign tg X.env] := by rfl) : PS X (.Assign [tg] e pos) (lS X.K c (wAsg we wg)) := ps_imp (ps_asg he hg hs hw h1) fun D σ H h => by
  obtain ⟨S, Dd, r, h, p⟩ := h
  refine ⟨S, _, r, h, fun d S1 h1 H1 v r1 k1 p1 => ?_⟩
  exact L.run v d S1 σ H1 _ _ r1 (p1.pure h1.1) h1.2 fun S2 σ2 h2 r2 k2 _ _ => p.nx _ h2 _ _ r2 (k1.trans k2)
end
end VL
set_option Elab.async false
set_option linter.all false
set_option maxRecDepth 100000
set_option maxHeartbeats 1000000
namespace VL
open PySem PySem.Spec PyProof.Rows
theorem pick_back {α : Type} (xs : List α) : ∀ k, k ≤ xs.length → (List.range k).filterMap (fun m => xs[xs.length - 1 - m]?) = (xs.drop (xs.length - k)).reverse
  | 0, _ => by simp
  | k + 1, h => by
    have hlt : xs.length - (k + 1) < xs.length := by omega
    rw [List.range_succ, List.filterMap_append, pick_back xs k (by omega), List.drop_eq_getElem_cons hlt, List.reverse_cons, show xs.length - (k + 1) + 1 = xs.length - k by omega]
    congr 1
    have e : xs.length - 1 - k = xs.length - (k + 1) := by omega
    rw [List.filterMap_cons, e, List.getElem?_eq_getElem hlt]
    rfl
theorem filterMap_same {α β : Type} {f g : α → Option β} : ∀ {l : List α}, (∀ x ∈ l, f x = g x) → l.filterMap f = l.filterMap g
  | [], _ => rfl
  | x :: r, h => by
    rw [List.filterMap_cons, List.filterMap_cons, h x (by simp), filterMap_same fun y hy => h y (by simp [hy])]
/-- how many items of n are walked down: all, or all but the first -/
def downN (b : Bool) (n : Nat) : Nat := if b then n - 1 else n
def downHi (b : Bool) : Option Int := if b then some 0 else none
theorem adjust_down (b : Bool) (n : Nat) : Builtin.Slice.sliceAdjust none (downHi b) (-1) (n : Int) = ((n : Int) - 1, if b then min 0 ((n : Int) - 1) else -1) := by
  cases b <;> rfl
theorem places_down (b : Bool) (n : Nat) : Builtin.Slice.slicePlaces ((n : Int) - 1) (if b then min 0 ((n : Int) - 1) else -1) (-1) = downN b n := by
  have e : (- (-1 : Int)) = 1 := by decide
  cases b
  · show Builtin.Slice.slicePlaces ((n : Int) - 1) (-1) (-1) = n
    unfold Builtin.Slice.slicePlaces
    rw [if_neg (by decide), e]
    simp only [Int.ediv_one]
    split <;> omega
  · show Builtin.Slice.slicePlaces ((n : Int) - 1) (min 0 ((n : Int) - 1)) (-1) = n - 1
    unfold Builtin.Slice.slicePlaces
    rw [if_neg (by decide), e]
    simp only [Int.ediv_one]
    split <;> omega
section
variable {prog : Program} {w : World} {A : Around} {E : Value → Shared → Prop} {s : Shared}
theorem applied_down {sl : Addr} {vu vs : Value} {b : Bool} {n : Nat} {Q : Int × Int × Nat → Shared → Prop} (hs : s.heap.IsSliceOf sl .none vu vs) (pu : IsPart vu (downHi b)) (ps : IsPart vs (some (-1))) (h : Q ((n : Int) - 1, -1, downN b n) s) :
    wpAny (model prog w) A (Builtin.Slice.sliceApplied (.ref sl) (pure (n : Int))) Q E s := by
  obtain ⟨os, g1, g2, g3⟩ := id hs
  unfold Builtin.Slice.sliceApplied Builtin.Slice.sliceFields
  refine wpAny_bind (wpAny_bind (wpAny_field g1 g3 (x := .none) rfl (wpAny_bind (wpAny_field g1 g3 (x := vu) rfl (wpAny_bind (wpAny_field g1 g3 (x := vs) rfl (wpAny_pure ?_)))))))
  refine wpAny_bind (HT.slicePart_ ps ?_)
  show wpAny (model prog w) A (if ((-1 : Int) == 0) = true then _ else _) Q E s
  rw [if_neg (show ¬ ((-1 : Int) == 0) = true by decide)]
  refine wpAny_bind (HT.slicePart_ .none (wpAny_bind (HT.slicePart_ pu (wpAny_bind (wpAny_pure ?_)))))
  show wpAny (model prog w) A (match Builtin.Slice.sliceAdjust none (downHi b) (-1) (n : Int) with | (lo, hi) => pure (lo, (-1 : Int), Builtin.Slice.slicePlaces lo hi (-1))) Q E s
  rw [adjust_down]
  show wpAny (model prog w) A (pure ((n : Int) - 1, (-1 : Int), Builtin.Slice.slicePlaces ((n : Int) - 1) (if b then min 0 ((n : Int) - 1) else -1) (-1))) Q E s
  rw [places_down]
  exact wpAny_pure h
theorem item_down {t sl : Addr} {items : Array Value} {vu vs : Value} {b : Bool} {Q : Value → Shared → Prop} (ht : IsTup s.heap t items) (hs : s.heap.IsSliceOf sl .none vu vs) (pu : IsPart vu (downHi b)) (ps : IsPart vs (some (-1)))
    (h : Q (.ref s.heap.objs.size) { s with heap := s.heap.push { cls := .type "tuple", data := .seq ((items.toList.drop (items.size - downN b items.size)).reverse).toArray } }) (hsz : items.size ≤ sizeLine) :
    wpAny (model prog w) A (getItem (.ref t) (.ref sl)) Q E s := by
  have hle : downN b items.size ≤ items.size := by cases b <;> simp [downN]
  have hfit : sizeOk (.seq ((items.toList.drop (items.size - downN b items.size)).reverse).toArray) := by
    show ((items.toList.drop (items.size - downN b items.size)).reverse).toArray.size ≤ sizeLine
    rw [List.size_toArray, List.length_reverse, List.length_drop, Array.length_toList]
    omega
  obtain ⟨os, g1, g2, g3⟩ := id hs
  have ty : s.TypeIs (.ref sl) "slice" := ⟨os, g1, g2⟩
  unfold getItem
  refine wpAny_holding ?_
  refine wpAny_bind (wpAny_sequenceKey ht.typeIs (by decide) (wpAny_bind (wpAny_callSpecial?_slot (name := Str.ofString "__getitem__") ht.typeIs slot_tuple_getitem (wpAny_call_entry slot_tuple_getitem ht.typeIs entry_tuple_getitem ?_ (args_tuple_getitem _ _)))))
  show wpAny (model prog w) A.in1 (Builtin.Tuple.tupleItemsOf (.ref t) >>= _) _ _ s
  refine wpAny_bind (tupleItemsOf_ ht (wpAny_bind (wpAny_typeOf ty ?_)))
  rw [if_pos (show (Value.type "slice" == Value.type "slice") = true by decide)]
  refine wpAny_bind (applied_down hs pu ps ?_)
  have hno : ¬ ((((items.size : Int) - 1) == 0 && (-1 : Int) == 1 && downN b items.size == items.size) = true) := by
    rw [show ((-1 : Int) == 1) = false by decide]
    simp
  show wpAny (model prog w) A.in1 (if (((items.size : Int) - 1) == 0 && (-1 : Int) == 1 && downN b items.size == items.size) = true then _ else _) _ _ s
  rw [if_neg hno]
  have pk : ((List.range (downN b items.size)).filterMap fun (m : Nat) => items[(((items.size : Int) - 1) + (m : Int) * (-1)).toNat]?).toArray = ((items.toList.drop (items.size - downN b items.size)).reverse).toArray := by
    congr 1
    have := pick_back items.toList (downN b items.size) (by rw [Array.length_toList]; exact hle)
    rw [Array.length_toList] at this
    rw [← this]
    refine filterMap_same fun m hm => ?_
    have hm' := List.mem_range.mp hm
    rw [show (((items.size : Int) - 1) + (m : Int) * (-1)).toNat = items.size - 1 - m by omega, Array.getElem?_toList]
  rw [pk]
  exact wpAny_bind (m := Builtin.Tuple.tupleExact _) (wpAny_newObj_type (wpAny_bind (wpAny_pure (wpAny_pure ⟨_, rfl, wpAny_pure h⟩))) hfit)
end
end VL
namespace VL
open PySem PySem.Spec PyProof.Rows L2
section
variable {X : Cx} {c : Cq} {pos p p2 apos : Pos} {e a b : Expr} {we wa wb : WE}
/-- the items from the end -/
def cutR {α : Type} (b : Bool) (xs : List α) : List α := (xs.drop (xs.length - downN b xs.length)).reverse
theorem cutR_length {α : Type} (b : Bool) (xs : List α) : (cutR b xs).length ≤ xs.length := by
  unfold cutR
  rw [List.length_reverse, List.length_drop]
  omega
theorem vals_rev {xs : List V} {us : List Value} (h : Vals xs us) : Vals xs.reverse us.reverse := by
  induction h with
  | nil => exact .nil
  | cons r t ih =>
    rw [List.reverse_cons, List.reverse_cons]
    exact ih.append (.cons r .nil)
theorem vals_cutR {b : Bool} {xs : List V} {us : List Value} (h : Vals xs us) : Vals (cutR b xs) (cutR b us) := by
  unfold cutR
  rw [h.length]
  exact vals_rev (h.drop _)
/-- t[::-1], t[:0:-1] of a tuple, by values -/
def tDown (K : PySem.W.Frag) (b : Bool) (te : TE) : TE := fun σ H Q => te σ H fun x H1 => ∃ a xs, x = .ref a ∧ SqT K H1 a xs ∧ ∀ p, H1 p = none → Q (.ref p) (upd H1 p (.tup (cutR b xs)))
theorem pe_down {hi : Option Expr} {st : Expr} {te : TE} {bb : Bool} (ops : Value → Value → List Value) (hsub : ∀ v u, subscripted (.Slice none hi (some st) p2) false v u = operate (ops v u) (getItem v u)) (he : PE X e te) (hu : PO X hi (fun _ H Q => Q (downHi bb) H)) (hst : PO X (some st) (fun _ H Q => Q (some (-1)) H)) : PE X (.Subscript e (.Slice none hi (some st) p2) pos) (tDown X.K bb te) := by
  refine ⟨fun pins s σ H Q I h => ?_⟩
  refine Subscript_ (thn (he.run pins s σ H _ I h) fun v s1 ⟨x, H1, I1, r1, a, xs, ex, hx, q1⟩ => ?_)
  subst ex
  cases r1
  refine wpAny_Slice ?_
  rw [evalPart_none]
  refine wpAny_pure (thn (hu.run pins s1 σ H1 (fun o H' => o = downHi bb ∧ H' = H1) I1 ⟨rfl, rfl⟩) fun vu s3 ⟨u, H3, I3, pu, eu, eH3⟩ => thn (hst.run pins s3 σ H3 (fun o H' => o = some (-1) ∧ H' = H3) I3 ⟨rfl, rfl⟩) fun vs s4 ⟨u', H4, I4, ps, eu', eH4⟩ => ?_)
  subst eu eu' eH4 eH3
  have I5 : L2.Inv X pins σ H4 { s4 with heap := s4.heap.push { cls := .type "slice", data := .fields #[.none, vu, vs] } } := I4.kept (t' := s4.toks) fun b ob q => Heap.get?_push_of_some _ q
  obtain ⟨its, r, ht, hz⟩ := I5.tuple hx
  have hlen : its.toArray.size = xs.length := by rw [List.size_toArray]; exact r.length.symm
  show wpAny (model X.prog X.w) X.A (subscriptTail e (.Slice none hi (some st) p2) (.ref a) (.ref s4.heap.objs.size)) (EP X pins σ Q) X.xe { s4 with heap := s4.heap.push { cls := .type "slice", data := .fields #[.none, vu, vs] } }
  refine tail_any (ops := ops (.ref a) (.ref s4.heap.objs.size)) ht.typeIs slot_tuple_getitem.lookup ?_ (hsub _ _)
  refine item_down ht (Heap.IsSliceOf.new ..) pu ps ?_ (by rw [hlen]; exact hz)
  refine ⟨.ref _, _, I5.laid (o := .tup (cutR bb xs)) (fun b ob q => Heap.get?_push_of_some _ q) (Nat.le_refl _) ?_, rfl, q1 _ (I5.hok.fresh (Nat.le_refl _))⟩
  refine ⟨Nat.le_trans (cutR_length bb xs) hz, cutR bb its, vals_cutR r, ?_⟩
  have : ((its.toArray.toList.drop (its.toArray.size - downN bb its.toArray.size)).reverse) = cutR bb its := by
    unfold cutR
    rw [List.size_toArray]
  rw [this]
  exact IsTup.new _ _
theorem po_m1 {j : Nat} {q1 q2 : Pos} : PO X (some (.UnaryOp .USub (.Constant (.int 1) j q1) q2)) (fun _ H Q => Q (some (-1)) H) := po_imp (po_some (pe_un un_neg pe_int)) fun σ H Q h => ⟨1, rfl, -1, rfl, h⟩
theorem po_0 {j : Nat} {q1 : Pos} : PO X (some (.Constant (.int 0) j q1)) (fun _ H Q => Q (downHi true) H) := po_imp (po_some pe_int) fun σ H Q h => ⟨0, rfl, h⟩
theorem po_n : PO X none (fun _ H Q => Q (downHi false) H) := po_imp po_none fun σ H Q h => h
def wDown (b : Bool) (we : WE) : WE := fun S Q => we S fun d S' => match d with
  | .t ds => Q (.t (cutR b ds)) S'
  | _ => False
theorem rpa_cutR {K : PySem.W.Frag} {A : Addr → Prop} {H : Hp} {bb : Bool} {vs : List V} {ds : List Da} (h : RpA K A H vs ds) : RpA K A H (cutR bb vs) (cutR bb ds) := by
  unfold cutR
  rw [h.length]
  exact (h.drop _).reverse
theorem ldown {K : PySem.W.Frag} {bb : Bool} : ∀ σ H Q, lE K c (wDown bb we) σ H Q → tDown K bb (lE K c we) σ H Q := fun σ H Q h => by
  obtain ⟨S, Qd, r, h, p⟩ := h
  refine ⟨S, _, r, h, fun d S1 h1 H1 v r1 k1 p1 => ?_⟩
  cases d <;> try exact h1.elim
  obtain ⟨w, vs, rfl, g1, g2⟩ := tup_ok p1
  refine ⟨w, vs, rfl, g1, fun q nq => ?_⟩
  obtain ⟨r2, k2, nA⟩ := r1.alloc (o := .tup (cutR bb vs)) nq
  exact p _ _ h1 _ _ r2 (k1.trans k2) (.inl (.t (.inl (.inl upd_same)) ((rpa_cutR g2).kp (kA k2))))
theorem v_rev0 {j k : Nat} {q1 q2 q3 : Pos} (he : PE X e (lE X.K c we)) : PE X (.Subscript e (.Slice none (some (.Constant (.int 0) k q3)) (some (.UnaryOp .USub (.Constant (.int 1) j q1) q2)) p2) pos) (lE X.K c (wDown true we)) := pe_imp (pe_down (fun v u => [v, u]) (fun _ _ => by with_unfolding_all rfl) he po_0 po_m1) ldown
end
end VL
set_option Elab.async false
set_option linter.all false
set_option maxRecDepth 100000
set_option maxHeartbeats 1000000
namespace VL
open PySem PySem.Spec PyProof.Rows L2
theorem forGo_of {wg : WG} {wb : WS} {D : Dn} (I : List Da → Sx → Prop) (step : ∀ d ds S, I (d :: ds) S → ∀ R : Sx → Prop, (∀ S', I ds S' → R S') → wg d S fun S2 => wb { D with nx := R, ct := R, bk := D.nx } S2) (stop : ∀ S, I [] S → D.nx S) :
    ∀ ds S, I ds S → forGo wg wb D ds S
  | [], S, h => stop S h
  | d :: ds, S, h => step d ds S h _ fun S' h' => forGo_of I step stop ds S' h'
theorem lcGo_of {wg : WG} {wt : WT} {we : WE} {vs : List Nat} {Q : List Da → Sx → Prop} (I : List Da → List Da → Sx → Prop)
    (step : ∀ d ds acc S, I (d :: ds) acc S → ∀ R : List Da → Sx → Prop, (∀ acc' S', I ds acc' S' → R acc' S') → wg d (S.wipe vs) fun S2 => wt S2 fun b S3 => if b = true then we S3 fun y S4 => y.isO = false ∧ acc.length < sizeLine ∧ R (acc ++ [y]) (S.back S4 vs) else R acc (S.back S3 vs))
    (stop : ∀ acc S, I [] acc S → Q acc S) : ∀ ds acc S, I ds acc S → lcGo wg wt we vs Q ds acc S
  | [], acc, S, h => stop acc S h
  | d :: ds, acc, S, h => step d ds acc S h _ fun acc' S' h' => lcGo_of I step stop ds acc' S' h'
/-- the same but for the slots vs -/
structure Agr (S S4 : Sx) (vs : List Nat) : Prop where
  M : S4.M = S.M
  len : S4.ρ.length = S.ρ.length
  get : ∀ j, j ∉ vs → S4.ρ[j]? = S.ρ[j]?
theorem wipeR_out (ρ : List Slx) {j : Nat} : ∀ {vs : List Nat}, j ∉ vs → (wipeR ρ vs)[j]? = ρ[j]?
  | [], _ => rfl
  | v :: vs, h => by
    rw [List.mem_cons, not_or] at h
    unfold wipeR
    rw [List.getElem?_set_ne (Ne.symm h.1), wipeR_out ρ h.2]
theorem backR_out (ρ0 ρ : List Slx) {j : Nat} : ∀ {vs : List Nat}, j ∉ vs → (backR ρ0 ρ vs)[j]? = ρ[j]?
  | [], _ => rfl
  | v :: vs, h => by
    rw [List.mem_cons, not_or] at h
    unfold backR
    rw [List.getElem?_set_ne (Ne.symm h.1), backR_out ρ0 ρ h.2]
theorem backR_in (ρ0 ρ : List Slx) {j : Nat} : ∀ {vs : List Nat}, j ∈ vs → j < ρ.length → (backR ρ0 ρ vs)[j]? = some (kept ρ0 j)
  | [], h, _ => by simp at h
  | v :: vs, h, hl => by
    unfold backR
    by_cases e : v = j
    · subst e
      rw [List.getElem?_set_self (by rw [backR_length]; exact hl)]
    · rw [List.getElem?_set_ne e]
      exact backR_in ρ0 ρ ((List.mem_cons.mp h).resolve_left (fun z => e z.symm)) hl
theorem Agr.wipe {S : Sx} {vs : List Nat} : Agr S (S.wipe vs) vs := ⟨rfl, wipeR_length _ _, fun j h => wipeR_out _ h⟩
theorem Agr.set {S S4 : Sx} {vs : List Nat} {i : Nat} {x : Slx} (a : Agr S S4 vs) (h : i ∈ vs) : Agr S (S4.set i x) vs :=
  ⟨a.M, by simp [Sx.set, a.len], fun j hj => by
    show (S4.ρ.set i x)[j]? = _
    rw [List.getElem?_set_ne (fun e => hj (by rw [← e]; exact h)), a.get j hj]⟩
theorem kept_norm (ρ : List Slx) (vs : List Nat) {j : Nat} (hj : j ∈ vs) (hl : j < ρ.length) : kept (backR ρ ρ vs) j = kept ρ j := by
  unfold kept
  rw [backR_in ρ ρ hj hl]
  unfold kept
  cases ρ[j]? with
  | none => rfl
  | some s => cases s <;> rfl
theorem Agr.back {S S4 : Sx} {vs : List Nat} (a : Agr (S.norm vs) S4 vs) : (S.norm vs).back S4 vs = S.norm vs := by
  have e1 : backR (S.norm vs).ρ S4.ρ vs = (S.norm vs).ρ := by
    refine List.ext_getElem? fun j => ?_
    by_cases hj : j ∈ vs
    · by_cases hl : j < S4.ρ.length
      · have hl' : j < S.ρ.length := by
          have := a.len
          rw [show (S.norm vs).ρ.length = S.ρ.length from backR_length _ _ _] at this
          omega
        have e : kept (S.norm vs).ρ j = kept S.ρ j := kept_norm S.ρ vs hj hl'
        rw [backR_in _ _ hj hl, e]
        exact (backR_in _ _ hj hl').symm
      · have h2 := a.len
        rw [List.getElem?_eq_none (by rw [backR_length]; omega), List.getElem?_eq_none (by omega)]
    · rw [backR_out _ _ hj, a.get j hj]
  show Sx.mk (backR (S.norm vs).ρ S4.ρ vs) S4.M = S.norm vs
  rw [e1, a.M]
/-- a comprehension whose turns change nothing -/
theorem lc_pure {wg : WG} {wt : WT} {we : WE} {vs : List Nat} {Q : List Da → Sx → Prop} {S : Sx} {ds : List Da} (f : Da → Option Da)
    (h : ∀ d ∈ ds, ∀ (R1 : Da → Sx → Prop) (R2 : Sx → Prop), (∀ S4, Agr (S.norm vs) S4 vs → match f d with | some y => R1 y S4 | none => R2 S4) → wg d ((S.norm vs).wipe vs) fun S2 => wt S2 fun b S3 => if b = true then we S3 R1 else R2 S3)
    (hO : ∀ d ∈ ds, ∀ y, f d = some y → y.isO = false) (hz : ds.length ≤ sizeLine) (q : Q (ds.filterMap f) (S.norm vs)) : lcGo wg wt we vs Q ds [] (S.norm vs) := by
  refine lcGo_of (fun rest acc S' => S' = S.norm vs ∧ ∃ done, ds = done ++ rest ∧ acc = done.filterMap f) (fun d rest acc S' ⟨e, done, e1, e2⟩ R hR => ?_) (fun acc S' ⟨e, done, e1, e2⟩ => ?_) ds [] (S.norm vs) ⟨rfl, [], rfl, rfl⟩
  · subst e
    have hd : d ∈ ds := by rw [e1]; simp
    refine h d hd _ _ fun S4 hb => ?_
    have la : acc.length ≤ done.length := by rw [e2]; exact List.length_filterMap_le f done
    have ld : done.length < ds.length := by rw [e1]; simp
    cases e : f d with
    | none => exact hR _ _ ⟨hb.back, done ++ [d], by simp [e1], by simp [e2, e]⟩
    | some y => exact ⟨hO d hd y e, by omega, hR _ _ ⟨hb.back, done ++ [d], by simp [e1], by simp [e2, e]⟩⟩
  · subst e
    rw [List.append_nil] at e1
    rw [e2, ← e1]
    exact q
theorem lc_map {wg : WG} {we : WE} {vs : List Nat} {Q : List Da → Sx → Prop} {S : Sx} {ds : List Da} (g : Da → Da)
    (h : ∀ d ∈ ds, ∀ (R1 : Da → Sx → Prop), (∀ S4, Agr (S.norm vs) S4 vs → R1 (g d) S4) → wg d ((S.norm vs).wipe vs) fun S2 => we S2 R1)
    (hO : ∀ d ∈ ds, (g d).isO = false) (hz : ds.length ≤ sizeLine) (q : Q (ds.map g) (S.norm vs)) : lcGo wg wYes we vs Q ds [] (S.norm vs) := by
  refine lc_pure (fun d => some (g d)) (fun d hd R1 R2 hR => ?_) (fun d hd y e => by cases e; exact hO d hd) hz ?_
  · exact h d hd R1 hR
  · rw [show ds.filterMap (fun d => some (g d)) = ds.map g from by rw [← List.filterMap_eq_map]; rfl]
    exact q
end VL
set_option Elab.async false
set_option linter.all false
set_option maxRecDepth 100000
set_option maxHeartbeats 1000000
namespace VL
open PySem PySem.Spec PyProof.Rows L2
structure Pd (d : Da) (n : Nat) : Prop where
  pl : d.pl = true
  dp : d.py.depth ≤ n
theorem pls_of : ∀ {ds : List Da} {n : Nat}, (∀ d ∈ ds, Pd d n) → pls ds = true ∧ PyData.depthAll (pys ds) ≤ n
  | [], n, _ => ⟨rfl, Nat.zero_le _⟩
  | d :: ds, n, h => by
    obtain ⟨h1, h2⟩ := pls_of (ds := ds) (n := n) fun x hx => h x (List.mem_cons_of_mem _ hx)
    have h0 := h d (List.mem_cons_self ..)
    refine ⟨by rw [pls, h0.pl, h1]; rfl, ?_⟩
    rw [pys, PyData.depthAll]
    exact Nat.max_le.mpr ⟨h0.dp, h2⟩
theorem Pd.t {ds : List Da} {n : Nat} (h : ∀ d ∈ ds, Pd d n) : Pd (.t ds) (n + 1) := ⟨by rw [Da.pl]; exact (pls_of h).1, by rw [Da.py, PyData.depth]; exact Nat.succ_le_succ (pls_of h).2⟩
theorem Pd.l {ds : List Da} {n : Nat} (h : ∀ d ∈ ds, Pd d n) : Pd (.l ds) (n + 1) := ⟨by rw [Da.pl]; exact (pls_of h).1, by rw [Da.py, PyData.depth]; exact Nat.succ_le_succ (pls_of h).2⟩
theorem Pd.i {k : Int} {n : Nat} : Pd (.i k) n := ⟨rfl, Nat.zero_le _⟩
theorem Pd.n {n : Nat} : Pd .n n := ⟨rfl, Nat.zero_le _⟩
theorem Pd.b {z : Bool} {n : Nat} : Pd (.b z) n := ⟨rfl, Nat.zero_le _⟩
theorem Pd.s {z : Str} {n : Nat} (h : PyData.strOk z = true) : Pd (.s z) n := ⟨h, Nat.zero_le _⟩
theorem Pd.eqb {d : Da} {n : Nat} (h : Pd d n) (hn : n ≤ 64) : d.eqb = true := by
  unfold Da.eqb
  rw [h.pl, decide_eq_true (Nat.le_trans h.dp hn)]
  rfl
theorem eqv_self {d : Da} (h : d.eqb = true) : PyData.eqv d.py d.py = true := SeqAt.eqv_refl _ (canLay_py d (eqb_shaped h).2)
theorem rdNe_self {d : Da} {S : Sx} {Q : Da → Sx → Prop} (h : d.eqb = true) (q : Q (.b false) S) : rdNe d d S Q := .inr ⟨h, h, by rw [eqv_self h]; exact q⟩
end VL
set_option Elab.async false
set_option linter.all false
set_option maxRecDepth 100000
set_option maxHeartbeats 1000000
namespace VL
open PySem PySem.Spec PyProof.Rows L2
def spLaw (K : PySem.W.Frag) : Sp := fun vs H Q _ => ∃ (a : Addr) (ns : List Int), vs = [.ref a] ∧ SqL K H a (ns.map V.int) ∧ ns.length ≤ 63 ∧ ∀ H', Q (.bl true) H'
def Scr (d : Da) (ns : List Int) : Prop := d = .l (ns.map .i) ∨ d = .sc ns
def dc_law : DC := fun ds M Q _ => ∃ (d : Da) (ns : List Int), ds = [d] ∧ Scr d ns ∧ ns.length ≤ 63 ∧ ∀ M', Q (.b true) M'
section
variable {P : Program} {w : World} {K : PySem.W.Frag} {mg : Str → Option Value} {base : Heap}
theorem law_sp {vs : List V} {H : Hp} {Q : V → Hp → Prop} {E E' : XK} (h : spLaw K vs H Q E) : spOf K dc_law vs H Q E' := by
  obtain ⟨a, ns, rfl, hS, hl, q⟩ := h
  have go : ∀ d, Rp K (fun a => (fun _ : Addr => False) a ∨ wM (fun _ => none) a) H (.ref a) d → Scr d ns → spOf K dc_law [.ref a] H Q E' := fun d rp hd => by
    refine ⟨fun _ => False, fun _ => none, [d], fun d _ => d = .b true, fun _ _ _ => False, .cons rp .nil, fun _ _ h => (by cases h), fun _ h => h.elim, ⟨d, ns, rfl, hd, hl, fun _ => rfl⟩, fun d M' e H' v _ _ hv => ?_, fun _ _ _ h => h.elim⟩
    subst e
    cases hv
    exact q _
  rcases hS with (h | ⟨o, h⟩) | h
  · refine go _ (.l h (fun z => ?_) (rpa_ofInts ns)) (.inl rfl)
    rcases z with z | z
    · exact z
    · exact z rfl
  · exact go _ (.sc (.inl ⟨o, h⟩)) (.inr rfl)
  · exact go _ (.sc (.inr (.inr h))) (.inr rfl)
theorem law_of {k : Nat} {f : Addr} {fd : FuncData} {ps : List Str} (F : FnOk P w K mg base (L2.CX P w) k f fd ps (spOf K dc_law)) : FnOk P w K mg base CX0 k f fd ps (spLaw K) :=
  have G := FnOk.c0 F
  ⟨fun vs H Q E h => G.len vs H Q E (law_sp h), fun A outer s H args us vs Q E hr e0 hb hv h => G.run A outer s H args us vs Q E hr e0 hb hv (law_sp h)⟩
end
end VL
set_option Elab.async false
set_option linter.all false
set_option maxRecDepth 100000
set_option maxHeartbeats 1000000
namespace VL
open PySem PySem.Spec PyProof.Rows L2
structure Kq (K : PySem.W.Frag) (A A' : Addr → Prop) (H H' : Hp) : Prop where
  kp : ∀ a o, ¬ A a → H a = some o → H' a = some o ∧ ¬ A' a
  tp : ∀ a vs, SqT K H a vs → SqT K H' a vs
  sc : ∀ a ns, Scl K H a ns → Scl K H' a ns
section
variable {K : PySem.W.Frag} {A A' : Addr → Prop} {H H' : Hp}
mutual
theorem Rp.kq (k : Kq K A A' H H') : ∀ {v : V} {d : Da}, Rp K A H v d → Rp K A' H' v d
  | _, _, .n => .n
  | _, _, .b x => .b x
  | _, _, .i x => .i x
  | _, _, .s x => .s x
  | _, _, .r x => .r x
  | _, _, .ty x => .ty x
  | _, _, .sc h => .sc (k.sc _ _ h)
  | _, _, .t h a => .t (k.tp _ _ h) (RpA.kq k a)
  | _, _, .l h n a => .l (k.kp _ _ n h).1 (k.kp _ _ n h).2 (RpA.kq k a)
  | _, _, .dk h n a => .dk (k.kp _ _ n h).1 (k.kp _ _ n h).2 (RpK.kq k a)
  | _, _, .ins h n a => .ins (k.kp _ _ n h).1 (k.kp _ _ n h).2 (RpF.kq k a)
theorem RpA.kq (k : Kq K A A' H H') : ∀ {vs : List V} {ds : List Da}, RpA K A H vs ds → RpA K A' H' vs ds
  | _, _, .nil => .nil
  | _, _, .cons h a => .cons (Rp.kq k h) (RpA.kq k a)
theorem RpK.kq (k : Kq K A A' H H') : ∀ {vs : List (Key × V)} {ds : List (Key × Da)}, RpK K A H vs ds → RpK K A' H' vs ds
  | _, _, .nil => .nil
  | _, _, .cons h a => .cons (Rp.kq k h) (RpK.kq k a)
theorem RpF.kq (k : Kq K A A' H H') : ∀ {vs : List (Str × V)} {ds : List (Str × Da)}, RpF K A H vs ds → RpF K A' H' vs ds
  | _, _, .nil => .nil
  | _, _, .cons h a => .cons (Rp.kq k h) (RpF.kq k a)
end
theorem RpN.kq (k : Kq K A A' H H') {kas : List (NestedKey × Addr × V)} {kds : List (Da × Da)} (h : RpN K A H kas kds) : RpN K A' H' kas kds := by
  induction h with
  | nil => exact .nil
  | cons hk hb hv _ ih => exact .cons hk (Rp.kq k hb) (Rp.kq k hv) ih
theorem MOk.kq {a : Addr} {m : MO} (k : Kq K A A' H H') (hx : ∀ o, H a = some o → H' a = some o) (h : MOk K A H a m) : MOk K A' H' a m := by
  cases m with
  | lst ds => obtain ⟨vs, e, r⟩ := h; exact ⟨vs, hx _ e, r.kq k⟩
  | dk _ ds => obtain ⟨vs, e, r⟩ := h; exact ⟨vs, hx _ e, r.kq k⟩
  | ins C ds => obtain ⟨dx, vs, e, r⟩ := h; exact ⟨dx, vs, hx _ e, r.kq k⟩
  | dn P w lk ds => obtain ⟨vs, e, r⟩ := h; exact ⟨vs, hx _ e, r.kq k⟩
  | rg lo hi => exact hx _ h
/-- off goes the lock at p -/
theorem kq_unlock {p : Addr} {od : Obj} {kvs : List (Key × V)} (hA : A p) (h : H p = some (.frz od (.dK kvs))) (sub : ∀ b, A' b → A b) : Kq K A A' H (upd H p (.dK kvs)) := by
  have tupNe : ∀ (a : Addr) (vs : List V), Rd H a (.tup vs) → Rd (upd H p (.dK kvs)) a (.tup vs) := fun a vs hu => by
    have : a ≠ p := fun e => by
      subst e
      rcases hu with hu | ⟨o, hu⟩ <;> (rw [h] at hu; cases hu)
    rcases hu with hu | ⟨o, hu⟩
    · exact .inl (by rw [upd_ne this]; exact hu)
    · exact .inr ⟨o, by rw [upd_ne this]; exact hu⟩
  refine ⟨fun a o n e => ?_, fun a vs q => ?_, fun a ns q => ?_⟩
  · have : a ≠ p := fun z => n (by rw [z]; exact hA)
    exact ⟨by rw [upd_ne this]; exact e, fun z => n (sub a z)⟩
  · rcases q with q | q
    · exact .inl (tupNe a _ q)
    · exact .inr q
  · rcases q with ⟨o, q⟩ | q
    · have : a ≠ p := fun e => by
        subst e
        rw [h] at q
        cases q
      exact .inl ⟨o, by rw [upd_ne this]; exact q⟩
    · exact .inr q
end
theorem upd_comm {H : Hp} {a b : Addr} {x y : HO} (h : a ≠ b) : upd (upd H a x) b y = upd (upd H b y) a x := by
  funext z
  by_cases e : z = a
  · subst e
    rw [upd_ne h, upd_same, upd_same]
  · by_cases e2 : z = b
    · subst e2
      rw [upd_same, upd_ne e, upd_same]
    · rw [upd_ne e2, upd_ne e, upd_ne e, upd_ne e2]
section
variable {K : PySem.W.Frag} {c : Cq} {S S' : Sx} {σ σ' : L2.St} {H H' : Hp} {p : Addr} {od : Obj} {kds : List (Key × Da)}
theorem wM_upd {M : Mx} {m m' : MO} (e : M p = some m) (b : Addr) : wM (VL.updM M p m') b ↔ wM M b := by
  show VL.updM M p m' b ≠ none ↔ M b ≠ none
  by_cases q : b = p
  · subst q
    rw [updM_same, e]
    exact ⟨fun _ z => (by cases z), fun _ z => (by cases z)⟩
  · rw [updM_ne q]
theorem W_upd {m m' : MO} (e : S.M p = some m) (b : Addr) : Sx.W ⟨S.ρ, VL.updM S.M p m'⟩ b ↔ S.W b := or_congr Iff.rfl (wM_upd e b)
/-- on goes the lock -/
theorem Rel.lock (r : Rel K c S σ H) (e : S.M p = some (.dk none kds)) : ∃ kvs, H p = some (.dK kvs) ∧ ∀ od, Rel K c ⟨S.ρ, VL.updM S.M p (.dk (some od) kds)⟩ σ (upd H p (.frz od (.dK kvs))) ∧ Kp S.W (Sx.W ⟨S.ρ, VL.updM S.M p (.dk (some od) kds)⟩) H (upd H p (.frz od (.dK kvs))) := by
  obtain ⟨kvs, h, rk⟩ := r.mem p _ e
  exact ⟨kvs, h, fun od => r.updM e h trivial fun A k => ⟨kvs, upd_same, rk.kp k⟩⟩
/-- off goes the lock -/
theorem Rel.unlock {S1 : Sx} {H1 : Hp} {kvs : List (Key × V)} (r0 : Rel K c S σ H) (h0 : H p = some (.dK kvs)) (k1 : Kp S.W S1.W H H1) (h1 : H1 p = some (.frz od (.dK kvs))) (k2 : Kp S1.W S'.W H1 H') (r : Rel K c S' σ' H') (e : S'.M p = some (.dk (some od) kds)) :
    H' p = some (.frz od (.dK kvs)) ∧ Rel K c ⟨S'.ρ, VL.updM S'.M p (.dk none kds)⟩ σ' (upd H' p (.dK kvs)) ∧ Kp S.W (Sx.W ⟨S'.ρ, VL.updM S'.M p (.dk none kds)⟩) H (upd H' p (.dK kvs)) ∧ Kq K (S'.A c) (Sx.A ⟨S'.ρ, VL.updM S'.M p (.dk none kds)⟩ c) H' (upd H' p (.dK kvs)) := by
  have h' : H' p = some (.frz od (.dK kvs)) := k2.keep p _ h1 (.inr id)
  have eW : ∀ b, Sx.W ⟨S'.ρ, VL.updM S'.M p (.dk none kds)⟩ b ↔ S'.W b := W_upd e
  have hA : S'.A c p := .inr (.inr (by rw [e]; exact fun z => by cases z))
  have kq : Kq K (S'.A c) (Sx.A ⟨S'.ρ, VL.updM S'.M p (.dk none kds)⟩ c) H' (upd H' p (.dK kvs)) := kq_unlock hA h' fun b z => z.imp id (eW b).mp
  have k12 := k1.trans k2
  refine ⟨h', ⟨r.len, r.cn, fun i d q => ?_, fun i a ds q => ?_, r.inj, fun i a ds q => ?_, fun a m q => ?_, fun a z => ?_, ⟨fun b o eb z => ?_, fun b z => r.kp.mono b ((eW b).mp z)⟩⟩, ⟨fun b o eb z => ?_, fun b z => k12.mono b ((eW b).mp z)⟩, kq⟩
  · obtain ⟨v, g1, g2⟩ := r.val i d q
    exact ⟨v, g1, g2.kq kq⟩
  · obtain ⟨g1, vs, g2, g3⟩ := r.own i a ds q
    have : a ≠ p := fun z => by
      subst z
      rw [g2] at h'
      cases h'
    exact ⟨g1, vs, by rw [upd_ne this]; exact g2, g3.kq kq⟩
  · have : a ≠ p := fun z => by
      subst z
      have := r.sep i a ds q
      rw [e] at this
      cases this
    show VL.updM S'.M p (.dk none kds) a = none
    rw [updM_ne this]
    exact r.sep i a ds q
  · by_cases z : a = p
    · subst z
      have q' : VL.updM S'.M a (.dk none kds) a = some m := q
      rw [updM_same] at q'
      cases q'
      obtain ⟨kvs', g1, g2⟩ := r.mem a _ e
      have g1' : H' a = some (.frz od (.dK kvs')) := g1
      rw [h'] at g1'
      cases g1'
      exact ⟨kvs, upd_same, g2.kq kq⟩
    · have q' : VL.updM S'.M p (.dk none kds) a = some m := q
      rw [updM_ne z] at q'
      exact (r.mem a m q').kq kq fun o g => by rw [upd_ne z]; exact g
  · obtain ⟨g1, g2⟩ := r.a0 a z
    refine ⟨?_, fun w => g2 ((eW a).mp w)⟩
    by_cases y : a = p
    · subst y
      rw [upd_same]
      exact fun w => by cases w
    · rw [upd_ne y]
      exact g1
  · have g := r.kp.keep b o eb z
    by_cases y : b = p
    · subst y
      have := r0.kp.keep b o eb z
      rw [h0] at this
      rw [← this, upd_same]
    · rw [upd_ne y]
      exact g
  · by_cases y : b = p
    · subst y
      rw [h0] at eb
      rw [← eb, upd_same]
    · rw [upd_ne y]
      exact k12.keep b o eb z
end
def wLkL (wl : WA) : WA := fun S Q => ∃ p kds, S.M p = some (.dk none kds) ∧ ∀ od, wl ⟨S.ρ, VL.updM S.M p (.dk (some od) kds)⟩ fun ds S' => S'.M p = some (.dk (some od) kds) ∧ Q ds ⟨S'.ρ, VL.updM S'.M p (.dk none kds)⟩
def wLkE (we : WE) : WE := fun S Q => ∃ p kds, S.M p = some (.dk none kds) ∧ ∀ od, we ⟨S.ρ, VL.updM S.M p (.dk (some od) kds)⟩ fun d S' => d.isO = false ∧ S'.M p = some (.dk (some od) kds) ∧ Q d ⟨S'.ρ, VL.updM S'.M p (.dk none kds)⟩
def wLkS (ws : WS) : WS := fun D S => ∃ p kds, S.M p = some (.dk none kds) ∧ ∀ od,
  let off := fun S' : Sx => Sx.mk S'.ρ (VL.updM S'.M p (.dk none kds))
  ws { nx := fun S' => S'.M p = some (.dk (some od) kds) ∧ D.nx (off S'), rt := fun d S' => S'.M p = some (.dk (some od) kds) ∧ D.rt d (off S'), bk := fun S' => S'.M p = some (.dk (some od) kds) ∧ D.bk (off S'), ct := fun S' => S'.M p = some (.dk (some od) kds) ∧ D.ct (off S') } ⟨S.ρ, VL.updM S.M p (.dk (some od) kds)⟩
section
variable {X : Cx} {c : Cq}
theorem v_lkL {e : Expr} {wl : WA} (h : PE X e (lL X.K c wl)) : PE X e (lL X.K c (wLkL wl)) := pe_imp (pe_lock h) fun σ H Q h => by
  obtain ⟨S, Qd, r, ⟨p, kds, e, h⟩, pst⟩ := h
  obtain ⟨kvs, h0, lk⟩ := r.lock e
  refine ⟨p, _, h0, trivial, fun od => ?_⟩
  obtain ⟨r1, k1⟩ := lk od
  refine ⟨_, _, r1, h od, fun ds S' q H' a vs r' k' na ra hz => ?_⟩
  obtain ⟨e', q⟩ := q
  obtain ⟨h', r2, k2, kq⟩ := r.unlock h0 k1 upd_same k' r' e'
  have ne : a ≠ p := fun z => by subst z; rw [na] at h'; cases h'
  refine ⟨by rw [upd_ne (Ne.symm ne)]; exact h', ?_⟩
  rw [upd_comm ne]
  exact pst ds _ q _ a vs r2 k2 (by rw [upd_ne ne]; exact na) (ra.kq kq) hz
theorem s_lk {st : Stmt} {ws : WS} (h : PS X st (lS X.K c ws)) : PS X st (lS X.K c (wLkS ws)) := ps_imp (ps_lock h) fun D σ H h => by
  obtain ⟨S, Dd, r, ⟨p, kds, e, h⟩, pst⟩ := h
  obtain ⟨kvs, h0, lk⟩ := r.lock e
  refine ⟨p, _, h0, trivial, fun od => ?_⟩
  obtain ⟨r1, k1⟩ := lk od
  refine ⟨_, _, r1, h od, ⟨fun S' q σ' H' r' k' => ?_, fun d S' q σ' H' v r' k' rv => ?_, fun S' q σ' H' r' k' => ?_, fun S' q σ' H' r' k' => ?_⟩⟩
  · obtain ⟨h', r2, k2, kq⟩ := r.unlock h0 k1 upd_same k' r' q.1
    exact ⟨h', pst.nx _ q.2 _ _ r2 k2⟩
  · obtain ⟨h', r2, k2, kq⟩ := r.unlock h0 k1 upd_same k' r' q.1
    exact ⟨h', pst.rt _ _ q.2 _ _ _ r2 k2 (rv.kq kq)⟩
  · obtain ⟨h', r2, k2, kq⟩ := r.unlock h0 k1 upd_same k' r' q.1
    exact ⟨h', pst.bk _ q.2 _ _ r2 k2⟩
  · obtain ⟨h', r2, k2, kq⟩ := r.unlock h0 k1 upd_same k' r' q.1
    exact ⟨h', pst.ct _ q.2 _ _ r2 k2⟩
end
end VL
set_option Elab.async false
set_option linter.all false
set_option maxRecDepth 100000
set_option maxHeartbeats 1000000
namespace VL
open PySem PySem.Spec PyProof.Rows L2
def Da.key : Da → Option Key
  | .i k => some (.inl k)
  | .s z => some (.inr z)
  | _ => none
def keyD (kd : Key × Da) : Da := match kd.1 with
  | .inl i => .i i
  | .inr z => .s z
def valD (kds : List (Key × Da)) (k : Key) : Option Da := (kds.find? fun kd => decide (kd.1 = k)).map (·.2)
def putD (kds : List (Key × Da)) (k : Key) (d : Da) : List (Key × Da) :=
  if (kds.any fun kd => decide (kd.1 = k)) = true then kds.map (fun kd => if kd.1 = k then (kd.1, d) else kd) else kds ++ [(k, d)]
section
variable {K : PySem.W.Frag} {A : Addr → Prop} {H : Hp} {σ : L2.St} {v : V} {d : Da} {k : Key}
theorem key_ok (h : d.key = some k) (r : RpS K A σ H v d) : v = kV k := by
  cases d with
  | i x => cases h; exact rs_i r
  | s x => cases h; exact rs_s r
  | _ => cases h
theorem rs_r {p : Addr} (r : RpS K A σ H v (.r p)) : v = .ref p := by
  rcases r with r | ⟨j, e, _⟩
  · cases r; rfl
  · cases e
theorem rpk_len' : ∀ {kvs : List (Key × V)} {kds : List (Key × Da)}, RpK K A H kvs kds → kvs.length = kds.length
  | _, _, .nil => rfl
  | _, _, .cons _ a => by rw [List.length_cons, List.length_cons, rpk_len' a]
theorem rpk_val : ∀ {kvs : List (Key × V)} {kds : List (Key × Da)} (k : Key), RpK K A H kvs kds → (valD kds k = none ∧ valV kvs k = none) ∨ ∃ d v, valD kds k = some d ∧ valV kvs k = some v ∧ Rp K A H v d
  | _, _, k, .nil => .inl ⟨rfl, rfl⟩
  | _, _, k, .cons (k := j) (v := v) (d := d) h a => by
    by_cases e : j = k
    · refine .inr ⟨d, v, ?_, ?_, h⟩
      · unfold valD
        rw [List.find?_cons_of_pos (by simpa using e)]
        rfl
      · unfold valV
        rw [List.find?_cons_of_pos (by simpa using e)]
        rfl
    · have e1 : ∀ {vs : List (Key × V)}, valV ((j, v) :: vs) k = valV vs k := by
        intro vs
        unfold valV
        rw [List.find?_cons_of_neg (by simpa using e)]
      have e2 : ∀ {vs : List (Key × Da)}, valD ((j, d) :: vs) k = valD vs k := by
        intro vs
        unfold valD
        rw [List.find?_cons_of_neg (by simpa using e)]
      rw [e1, e2]
      exact rpk_val k a
theorem rpk_any : ∀ {kvs : List (Key × V)} {kds : List (Key × Da)}, RpK K A H kvs kds → (kvs.any fun kv => decide (kv.1 = k)) = kds.any fun kd => decide (kd.1 = k)
  | _, _, .nil => rfl
  | _, _, .cons h a => by rw [List.any_cons, List.any_cons, rpk_any a]
theorem rpk_map (hd : Rp K A H v d) : ∀ {kvs : List (Key × V)} {kds : List (Key × Da)}, RpK K A H kvs kds → RpK K A H (kvs.map fun kv => if kv.1 = k then (kv.1, v) else kv) (kds.map fun kd => if kd.1 = k then (kd.1, d) else kd)
  | _, _, .nil => .nil
  | _, _, .cons (k := j) h a => by
    rw [List.map_cons, List.map_cons]
    by_cases e : j = k
    · rw [if_pos e, if_pos e]
      exact .cons hd (rpk_map hd a)
    · rw [if_neg e, if_neg e]
      exact .cons h (rpk_map hd a)
theorem rpk_snoc (hd : Rp K A H v d) : ∀ {kvs : List (Key × V)} {kds : List (Key × Da)}, RpK K A H kvs kds → RpK K A H (kvs ++ [(k, v)]) (kds ++ [(k, d)])
  | _, _, .nil => .cons hd .nil
  | _, _, .cons h a => .cons h (rpk_snoc hd a)
theorem rpk_put {kvs : List (Key × V)} {kds : List (Key × Da)} (a : RpK K A H kvs kds) (hd : Rp K A H v d) : RpK K A H (putK kvs k v) (putD kds k d) := by
  unfold putK putD
  rw [rpk_any a]
  split
  · exact rpk_map hd a
  · exact rpk_snoc hd a
theorem rpk_get : ∀ {kvs : List (Key × V)} {kds : List (Key × Da)} {i : Nat} {d : Da}, RpK K A H kvs kds → (kds.map keyD)[i]? = some d → ∃ k v, kvs[i]? = some (k, v) ∧ Rp K A H (kV k) d
  | _, _, _, _, .nil, h => by simp at h
  | _, _, 0, _, .cons (k := j) (v := v) h0 a, h => by
    refine ⟨j, v, rfl, ?_⟩
    have := Option.some.inj h
    rw [← this]
    cases j
    · exact .i _
    · exact .s _
  | _, _, i + 1, _, .cons h0 a, h => rpk_get (i := i) a h
end
section
variable {K : PySem.W.Frag} {c : Cq} {S S' : Sx} {σ σ' : L2.St} {H H' : Hp} {p : Addr} {lk : Option Obj} {kds : List (Key × Da)}
theorem dk_ok (r : Rel K c S σ H) (e : S.M p = some (.dk lk kds)) : ∃ kvs, Rd H p (.dK kvs) ∧ RpK K (S.A c) H kvs kds := by
  obtain ⟨kvs, h, rk⟩ := r.mem p _ e
  refine ⟨kvs, ?_, rk⟩
  cases lk with
  | none => exact .inl h
  | some o => exact .inr ⟨o, h⟩
theorem m_none (r : Rel K c S σ H) (n : H p = none) : S.M p = none := by
  cases e : S.M p with
  | none => rfl
  | some m =>
    have := r.mem p m e
    cases m with
    | lst ds => obtain ⟨vs, e, _⟩ := this; rw [n] at e; cases e
    | dk lk ds => obtain ⟨vs, e, _⟩ := this; rw [n] at e; cases e
    | ins C ds => obtain ⟨dx, vs, e, _⟩ := this; rw [n] at e; cases e
    | dn P w lk ds => obtain ⟨vs, e, _⟩ := this; rw [n] at e; cases e
    | rg lo hi => have e : H p = some (.rng lo hi) := this; rw [n] at e; cases e
/-- a new shared object -/
theorem Rel.newM (r : Rel K c S σ H) {o : HO} {m : MO} (n : H p = none) (new : ∀ A, Kp (S.A c) A H (upd H p o) → MOk K A (upd H p o) p m) :
    Rel K c ⟨S.ρ, VL.updM S.M p m⟩ σ (upd H p o) ∧ Kp S.W (Sx.W ⟨S.ρ, VL.updM S.M p m⟩) H (upd H p o) := by
  have sm : Same H (upd H p o) := same_upd n
  have k : Kp S.W (Sx.W ⟨S.ρ, VL.updM S.M p m⟩) H (upd H p o) := ⟨fun b u e _ => sm b u e, fun b z => by
    rcases z with z | z
    · exact .inl (.inl z)
    · by_cases q : b = p
      · exact .inr (by rw [q]; exact n)
      · refine .inl (.inr fun w => z ?_)
        show VL.updM S.M p m b = none
        rw [updM_ne q]
        exact w⟩
  refine ⟨r.next k r.len rfl (fun i d e => ?_) (fun i q ds e => ?_) r.inj (fun i q ds e => ?_) (fun a u e => ?_), k⟩
  · obtain ⟨v, g1, g2⟩ := r.val i d e
    exact ⟨v, g1, g2.kp (kA k)⟩
  · obtain ⟨g1, vs, g2, g3⟩ := r.own i q ds e
    exact ⟨g1, vs, sm _ _ g2, g3.kp (kA k)⟩
  · obtain ⟨_, vs, g2, _⟩ := r.own i q ds e
    have : q ≠ p := ne_of_none g2 n
    show VL.updM S.M p m q = none
    rw [updM_ne this]
    exact r.sep i q ds e
  · by_cases q : a = p
    · subst q
      have e' : VL.updM S.M a m a = some u := e
      rw [updM_same] at e'
      cases e'
      exact new _ (kA k)
    · have e' : VL.updM S.M p m a = some u := e
      rw [updM_ne q] at e'
      exact (r.mem a u e').kp (kA k) (sm a)
end
def rdDget : RD := fun x y S Q => ∃ p lk kds k d, x = .r p ∧ S.M p = some (.dk lk kds) ∧ y.key = some k ∧ valD kds k = some d ∧ Q d S
def wDnew : WE := fun S Q => ∀ q, S.M q = none → Q (.r q) ⟨S.ρ, updM S.M q (.dk none [])⟩
def wPutD (wv wd wk : WE) : WS := fun D S => wv S fun v S1 => wd S1 fun x S2 => wk S2 fun y S3 => v.isO = false ∧ ∃ p kds k, x = .r p ∧ S3.M p = some (.dk none kds) ∧ y.key = some k ∧ kds.length < sizeLine ∧ D.nx ⟨S3.ρ, updM S3.M p (.dk none (putD kds k v))⟩
def wKeys (we : WE) : WI := fun S Q => we S fun d S' => ∃ p od kds, d = .r p ∧ S'.M p = some (.dk (some od) kds) ∧ Q (kds.map keyD) S'
section
variable {K : PySem.W.Frag} {c : Cq}
theorem lDget : OpL K c (fun x y H Q => ∃ a v, x = .ref a ∧ DGet H a y (some v) ∧ Q v H) rdDget := fun σ H S x y dx dy Qd Q r rx ry h p => by
  obtain ⟨a, lk, kds, k, d, rfl, e, hk, hv, q⟩ := h
  obtain ⟨kvs, h1, h2⟩ := dk_ok r e
  rcases rpk_val k h2 with ⟨z, _⟩ | ⟨d', v, g1, g2, g3⟩
  · rw [hv] at z; cases z
  · rw [hv] at g1
    cases g1
    exact ⟨a, v, rs_r rx, .inl ⟨kvs, k, h1, key_ok hk ry, g2.symm⟩, p _ _ q _ _ r .refl (.inl g3)⟩
end
section
variable {X : Cx} {c : Cq} {pos pos' p apos : Pos} {e a b o i value tg : Expr} {es rest : List Expr} {we wa wb wv wd wk : WE}
theorem v_dget (hu : X.A.units + 1 < cLine) (ha : PE X a (lE X.K c wa)) (hb : PE X b (lE X.K c wb)) (hs : NoSl b) : PE X (.Subscript a b pos) (lE X.K c (wOp rdDget wa wb)) := pe_imp (pe_dget hu ha hb hs) fun σ H Q h => lop lDget σ H Q h
theorem v_dnew : PE X (.Dict [] [] pos) (lE X.K c wDnew) := pe_imp pe_dnewK fun σ H Q h => by
  obtain ⟨S, Qd, r, h, p⟩ := h
  intro q nq
  obtain ⟨r2, k2⟩ := r.newM (o := .dK []) (m := .dk none []) nq fun A k => ⟨[], upd_same, .nil⟩
  exact p _ _ (h q (m_none r nq)) _ _ r2 k2 (.inl (.r q))
theorem s_putD (hu : X.A.units + 1 < cLine) (hv : PE X value (lE X.K c wv)) (ho : PE X o (lE X.K c wd)) (hi : PE X i (lE X.K c wk)) (hs : swapsWith value (some (.Subscript o i pos')) pos.line X.env = pure false := by rfl) :
    PS X (.Assign [.Subscript o i pos'] value pos) (lS X.K c (wPutD wv wd wk)) := ps_imp (ps_dput hu ho hi hv hs) fun D σ H h => by
  obtain ⟨S, Dd, r, h, pst⟩ := h
  refine ⟨S, _, r, h, fun dv S1 h1 H1 v r1 k1 p1 => ⟨S1, _, r1, h1, fun dx S2 h2 H2 x r2 k2 p2 => ⟨S2, _, r2, h2, fun dy S3 h3 H3 y r3 k3 p3 => ?_⟩⟩⟩
  obtain ⟨vO, q, kds, k, rfl, e, hk, hz, h4⟩ := h3
  obtain ⟨kvs, g1, g2⟩ := r3.mem q _ e
  have p1' : Rp X.K (S3.A c) H3 v dv := (p1.pure vO).kp (kA (k2.trans k3))
  obtain ⟨r4, k4⟩ := r3.updM (m' := .dk none (putD kds k dv)) (o' := .dK (putK kvs k v)) e g1 trivial fun A kk => ⟨_, upd_same, rpk_put (g2.kp kk) (p1'.kp kk)⟩
  exact ⟨q, _, rs_r (p2.kp (kA k3)), .inl ⟨kvs, k, g1, key_ok hk p3, by rw [rpk_len' g2]; exact hz, rfl⟩, pst.nx _ h4 _ _ r4 (((k1.trans k2).trans k3).trans k4)⟩
theorem i_keys (he : PE X e (lE X.K c we)) : PI X tg e (lWk X.K c (wKeys we)) := pi_imp (pi_keys he) fun σ H R h => by
  obtain ⟨S, Qd, r, h, p⟩ := h
  refine ⟨S, _, r, h, fun d S1 h1 H1 v r1 k1 p1 => ?_⟩
  obtain ⟨q, od, kds, rfl, eM, h2⟩ := h1
  obtain ⟨kvs, g1, g2⟩ := r1.mem q _ eM
  have g1' : H1 q = some (.frz od (.dK kvs)) := g1
  refine ⟨q, od, rs_r p1, .inl ⟨kvs, g1', p _ _ h2 _ _ r1 k1 fun H2 W2 k i => ?_⟩⟩
  have e2 : H2 q = some (.frz od (.dK kvs)) := k.keep _ _ g1' (.inr id)
  refine ⟨fun d hd => ?_, fun hl => ⟨e2, by rw [rpk_len' g2]; simpa using hl⟩⟩
  obtain ⟨kk, vv', hv, rv⟩ := rpk_get g2 hd
  refine ⟨⟨e2, (List.getElem?_eq_some_iff.mp hv).1⟩, fun x H3 hy => ?_⟩
  obtain ⟨rfl, k', v', hy, rfl⟩ := hy
  rw [hv] at hy
  cases hy
  exact ⟨Same.refl _, rv.kp k.or⟩
end
end VL
set_option Elab.async false
set_option linter.all false
set_option maxRecDepth 100000
set_option maxHeartbeats 1000000
namespace VL
open PySem PySem.Spec PyProof.Rows L2
def rMulS : R2 := fun x y H Q => ∃ (z : Str) (n : Int), x = .str z ∧ y = .int n ∧ MulOk z n ∧ Q (.str (Txt.mul z n)) H
theorem op_mulS {X : Cx} : OpR X (binaryOp .Mult) rMulS := by
  intro pins s σ H x y v u Q I rx ry h
  obtain ⟨z, n, rfl, rfl, hk, q⟩ := h
  obtain ⟨t, rfl⟩ := rx
  obtain ⟨t', rfl⟩ := ry
  exact SB.mul hk fun t' tk => ⟨.str (Txt.mul z n), H, I.tok _, ⟨_, rfl⟩, q⟩
def rMulA : R2 := fun x y H Q => rI CMul (fun i j => .int (i * j)) x y H Q ∨ rMulS x y H Q
theorem op_mulA {X : Cx} : OpR X (binaryOp .Mult) rMulA := op_mul.or op_mulS
def rdMul : RD := fun x y S Q => match x, y with
  | .i a, .i b => CMul a b ∧ Q (.i (a * b)) S
  | .s z, .i n => MulOk z n ∧ Q (.s (Txt.mul z n)) S
  | _, _ => False
theorem lMul {K : PySem.W.Frag} {c : Cq} : OpL K c rMulA rdMul := fun σ H S x y dx dy Qd Q r rx ry h p => by
  cases dx <;> cases dy <;> try exact h.elim
  · exact .inl ⟨_, _, rs_i rx, rs_i ry, h.1, p _ _ h.2 _ _ r .refl (.inl (.i _))⟩
  · exact .inr ⟨_, _, rs_s rx, rs_i ry, h.1, p _ _ h.2 _ _ r .refl (.inl (.s _))⟩
theorem foldl_app : ∀ (l : List (Array Nat)) (b : Array Nat), (l.foldl (· ++ ·) b).toList = b.toList ++ (l.map Array.toList).flatten
  | [], b => by simp
  | a :: l, b => by
    rw [List.foldl_cons, foldl_app l, Array.toList_append, List.map_cons, List.flatten_cons, List.append_assoc]
section
variable {X : Cx} {c : Cq}
def wDeadS : WS := fun _ _ => False
theorem s_dead {st : Stmt} : PS X st (lS X.K c wDeadS) := ⟨fun pins s σ H D I h => by obtain ⟨_, _, _, h, _⟩ := h; exact h.elim⟩
end
section
variable {X : Cx} {c : Cq} {tg e : Expr} {we : WE}
def chsD (z : Str) : List Da := z.cps.toList.map fun ch => Da.s ⟨#[ch]⟩
def wStrI (we : WE) : WI := fun S Q => we S fun d S' => match d with
  | .s z => Q (chsD z) S'
  | _ => False
theorem i_str (he : PE X e (lE X.K c we)) : PI X tg e (lWk X.K c (wStrI we)) := pi_imp (pi_str he) fun σ H R h => by
  obtain ⟨S, Qd, r, h, p⟩ := h
  refine ⟨S, _, r, h, fun d S1 h1 H1 v r1 k1 p1 => ?_⟩
  cases d <;> try exact h1.elim
  rename_i z
  refine ⟨z, rs_s p1, p _ _ h1 _ _ r1 k1 fun H2 W2 k i => ⟨fun d hd => ?_, fun hl => ?_⟩⟩
  · unfold chsD at hd
    rw [List.getElem?_map, Array.getElem?_toList] at hd
    cases e : z.cps[i]? with
    | none => rw [e] at hd; cases hd
    | some ch =>
      rw [e] at hd
      cases hd
      refine ⟨(Array.getElem?_eq_some_iff.mp e).1, fun x H3 hy => ?_⟩
      obtain ⟨rfl, ch', hc, rfl⟩ := hy
      rw [e] at hc
      cases hc
      exact ⟨Same.refl _, .s _⟩
  · show z.cps.size ≤ i
    unfold chsD at hl
    rw [List.length_map, Array.length_toList] at hl
    exact hl
end
end VL
namespace VL
open PySem PySem.Spec PyProof.Rows L2
theorem fn_no {P : Program} {w : World} {K : PySem.W.Frag} {mg : Str → Option Value} {base : Heap} {k : Nat} {f : Addr} {fd : FuncData} {ps : List Str} {dc : DC} (no : ∀ ds M Q X, dc ds M Q X → False) : FnOk P w K mg base (L2.CX P w) k f fd ps (spOf K dc) :=
  ⟨fun vs H Q E h => by obtain ⟨_, _, _, _, _, _, _, _, hd, _⟩ := h; exact (no _ _ _ _ hd).elim, fun A outer s H args us vs Q E hr e0 hb hv h => by obtain ⟨_, _, _, _, _, _, _, _, hd, _⟩ := h; exact (no _ _ _ _ hd).elim⟩
end VL
set_option Elab.async false
set_option linter.all false
set_option maxRecDepth 100000
set_option maxHeartbeats 1000000
namespace VL
open PySem PySem.Spec PyProof.Rows L2
def abc : Str := Str.ofString "abcdefghijklmnopqrstuvwxyz"
theorem abc_list : abc.cps.toList = (List.range 26).map (97 + ·) := by decide +kernel
theorem abc_at {k : Nat} (h : k < 26) : atI abc.cps.toList (k : Int) = some (97 + k) := by
  rw [abc_list, atI_nat (v := 97 + k) (by simp [h])]
theorem sz_le {n : Nat} (h : n ≤ 1000) : n ≤ sizeLine := by rw [sizeLine_eq]; omega
theorem mul_of {z : Str} {n : Nat} (hl : z.cps.size ≤ 1) (hn : n < 1000) : MulOk z (n : Int) ∧ (Txt.mul z (n : Int)).cps.toList = (List.replicate n z.cps.toList).flatten := by
  have e0 : Str.length z = z.cps.size := rfl
  refine ⟨⟨?_, fun h1 h2 => ?_, fun h1 h2 => ?_⟩, ?_⟩
  · rw [decide_eq_false (by omega), decide_eq_false (by omega)]
    rfl
  · rw [e0]
    intro g
    have h3 : (2 ^ 63 - 1) / (n : Int) < 1 := by omega
    have h4 : (2 ^ 63 - 1 : Int) < 1 * (n : Int) := (Int.ediv_lt_iff_lt_mul (by omega)).mp h3
    omega
  · show decide (Str.length z * n > sizeLine) = false
    rw [e0]
    refine decide_eq_false ?_
    have : z.cps.size * n ≤ 1 * n := Nat.mul_le_mul_right n hl
    rw [sizeLine_eq]
    omega
  · unfold Txt.mul
    by_cases h1 : (n : Int) < 1
    · have : n = 0 := by omega
      subst this
      rfl
    · rw [if_neg h1]
      by_cases h2 : ((n : Int) == 1 || Str.length z == 0) = true
      · rw [if_pos h2, e0] at *
        rw [Bool.or_eq_true] at h2
        rcases h2 with h2 | h2
        · have : n = 1 := by
            have := eq_of_beq h2
            omega
          subst this
          simp
        · have : z.cps.toList = [] := by
            have h3 : z.cps.size = 0 := eq_of_beq h2
            rw [← List.length_eq_zero_iff, Array.length_toList]
            exact h3
          rw [this]
          simp
      · rw [if_neg h2]
        show (List.foldl (· ++ ·) #[] (List.replicate n z.cps)).toList = _
        rw [foldl_app]
        simp
def wl (b : Bool) (st : Nat) (fl lg : List Nat) (k : Nat) : List Nat :=
  if b then [97 + (st + k) % 26] ++ fl ++ (List.replicate k lg).flatten else fl ++ (List.replicate k lg).flatten ++ [97 + (st + k) % 26]
theorem wl_ne {b : Bool} {st i j : Nat} {fl lg : List Nat} (hi : i < j) (hj : j < 26) : wl b st fl lg i ≠ wl b st fl lg j := by
  intro e
  have : (st + i) % 26 = (st + j) % 26 := by
    unfold wl at e
    cases b with
    | true =>
      simp only [if_true, List.cons_append, List.nil_append] at e
      have := (List.cons.inj e).1
      omega
    | false =>
      simp only [Bool.false_eq_true, if_false] at e
      have := congrArg List.getLast? e
      rw [List.getLast?_concat, List.getLast?_concat] at this
      have := Option.some.inj this
      omega
  omega
/-- a word of the text's own -/
structure Wd (z : Str) : Prop where
  lo : 1 ≤ z.cps.toList.length
  hi : z.cps.toList.length ≤ 12
  ch : ∀ c ∈ z.cps.toList, 97 ≤ c ∧ c ≤ 122
theorem wl_wd {b : Bool} {st k : Nat} {fl lg : List Nat} (hf : fl.length ≤ 3) (hg : lg.length ≤ 1) (hk : k ≤ 6) (cf : ∀ c ∈ fl, 97 ≤ c ∧ c ≤ 122) (cg : ∀ c ∈ lg, 97 ≤ c ∧ c ≤ 122) {z : Str} (e : z.cps.toList = wl b st fl lg k) : Wd z := by
  have hl : (wl b st fl lg k).length = 1 + fl.length + k * lg.length := by
    unfold wl
    cases b <;> simp <;> omega
  have : k * lg.length ≤ 6 * 1 := Nat.mul_le_mul hk hg
  refine ⟨by rw [e, hl]; omega, by rw [e, hl]; omega, fun c hc => ?_⟩
  rw [e] at hc
  have cr : c ∈ (List.replicate k lg).flatten → 97 ≤ c ∧ c ≤ 122 := fun h => by
    obtain ⟨l, h1, h2⟩ := List.mem_flatten.mp h
    rw [List.eq_of_mem_replicate h1] at h2
    exact cg c h2
  have co : c = 97 + (st + k) % 26 → 97 ≤ c ∧ c ≤ 122 := fun h => by omega
  unfold wl at hc
  cases b with
  | true =>
    simp only [if_true, List.append_assoc, List.mem_append, List.mem_singleton] at hc
    rcases hc with h | h | h
    · exact co h
    · exact cf c h
    · exact cr h
  | false =>
    simp only [Bool.false_eq_true, if_false, List.append_assoc, List.mem_append, List.mem_singleton] at hc
    rcases hc with h | h | h
    · exact cf c h
    · exact cr h
    · exact co h
/-- words by their places -/
structure Wds (b : Bool) (st : Nat) (fl lg : List Nat) (ws : List Str) : Prop where
  at_ : ∀ j (h : j < ws.length), ws[j].cps.toList = wl b st fl lg j
theorem Wds.snoc {b : Bool} {st : Nat} {fl lg : List Nat} {ws : List Str} {z : Str} (h : Wds b st fl lg ws) (e : z.cps.toList = wl b st fl lg ws.length) : Wds b st fl lg (ws ++ [z]) := ⟨fun j hj => by
  rw [List.length_append, List.length_singleton] at hj
  by_cases q : j < ws.length
  · rw [List.getElem_append_left q]
    exact h.at_ j q
  · have : j = ws.length := by omega
    subst this
    rw [List.getElem_concat_length rfl]
    exact e⟩
theorem Wds.nodup {b : Bool} {st : Nat} {fl lg : List Nat} {ws : List Str} (h : Wds b st fl lg ws) (hl : ws.length ≤ 26) : ws.Nodup := by
  rw [List.nodup_iff_pairwise_ne, List.pairwise_iff_getElem]
  intro i j hi hj hij e
  have := congrArg (fun z : Str => z.cps.toList) e
  simp only [h.at_ i hi, h.at_ j hj] at this
  exact wl_ne hij (by omega) this
theorem Wds.wd {b : Bool} {st : Nat} {fl lg : List Nat} {ws : List Str} (h : Wds b st fl lg ws) (hl : ws.length ≤ 7) (hf : fl.length ≤ 3) (hg : lg.length ≤ 1) (cf : ∀ c ∈ fl, 97 ≤ c ∧ c ≤ 122) (cg : ∀ c ∈ lg, 97 ≤ c ∧ c ≤ 122) : ∀ z ∈ ws, Wd z := fun z hz => by
  obtain ⟨j, hj, rfl⟩ := List.getElem_of_mem hz
  exact wl_wd hf hg (by omega) cf cg (h.at_ j hj)
end VL
set_option Elab.async false
set_option linter.all false
set_option maxRecDepth 100000
set_option maxHeartbeats 1000000
namespace VL
open PySem PySem.Spec PyProof.Rows L2
theorem rngD_length {lo : Int} {n : Nat} : (rngD lo n).length = n := by simp [rngD]
theorem rngD_drop {lo : Int} {n k : Nat} (h : k < n) : (rngD lo n).drop k = .i (lo + (k : Int)) :: (rngD lo n).drop (k + 1) := by
  rw [List.drop_eq_getElem_cons (by rw [rngD_length]; exact h)]
  congr 1
  simp [rngD]
theorem forGo_rng {wg : WG} {wb : WS} {D : Dn} {lo : Int} {n : Nat} (I : Nat → Sx → Prop) (step : ∀ k S, k < n → I k S → ∀ R : Sx → Prop, (∀ S', I (k + 1) S' → R S') → wg (.i (lo + (k : Int))) S fun S2 => wb { D with nx := R, ct := R, bk := D.nx } S2)
    (stop : ∀ S, I n S → D.nx S) (S : Sx) (h0 : I 0 S) : forGo wg wb D (rngD lo n) S := by
  refine forGo_of (fun rest S => ∃ k, k ≤ n ∧ rest = (rngD lo n).drop k ∧ I k S) (fun d ds S h R hR => ?_) (fun S h => ?_) _ _ ⟨0, Nat.zero_le _, rfl, h0⟩
  · obtain ⟨k, hk, e, hI⟩ := h
    by_cases hlt : k < n
    · rw [rngD_drop hlt] at e
      cases e
      exact step k S hlt hI R fun S' h' => hR S' ⟨k + 1, hlt, rfl, h'⟩
    · have : k = n := by omega
      subst this
      rw [List.drop_eq_nil_of_le (by rw [rngD_length]; exact Nat.le_refl _)] at e
      cases e
  · obtain ⟨k, hk, e, hI⟩ := h
    by_cases hlt : k < n
    · rw [rngD_drop hlt] at e
      cases e
    · have : k = n := by omega
      subst this
      exact stop S hI
theorem forGo_rng0 {wg : WG} {wb : WS} {D : Dn} {n : Nat} (I : Nat → Sx → Prop) (step : ∀ k S, k < n → I k S → ∀ R : Sx → Prop, (∀ S', I (k + 1) S' → R S') → wg (.i (k : Int)) S fun S2 => wb { D with nx := R, ct := R, bk := D.nx } S2)
    (stop : ∀ S, I n S → D.nx S) (S : Sx) (h0 : I 0 S) : forGo wg wb D (rngD 0 n) S := forGo_rng I (fun k S hk hI R hR => by rw [Int.zero_add]; exact step k S hk hI R hR) stop S h0
theorem lcGo_rng0 {wg : WG} {wt : WT} {we : WE} {vs : List Nat} {Q : List Da → Sx → Prop} {n : Nat} (I : Nat → List Da → Sx → Prop)
    (step : ∀ k acc S, k < n → I k acc S → ∀ R : List Da → Sx → Prop, (∀ acc' S', I (k + 1) acc' S' → R acc' S') → wg (.i (k : Int)) (S.wipe vs) fun S2 => wt S2 fun b S3 => if b = true then we S3 fun y S4 => y.isO = false ∧ acc.length < sizeLine ∧ R (acc ++ [y]) (S.back S4 vs) else R acc (S.back S3 vs))
    (stop : ∀ acc S, I n acc S → Q acc S) (acc : List Da) (S : Sx) (h0 : I 0 acc S) : lcGo wg wt we vs Q (rngD 0 n) acc S := by
  refine lcGo_of (fun rest acc S => ∃ k, k ≤ n ∧ rest = (rngD 0 n).drop k ∧ I k acc S) (fun d ds acc S h R hR => ?_) (fun acc S h => ?_) _ _ _ ⟨0, Nat.zero_le _, rfl, h0⟩
  · obtain ⟨k, hk, e, hI⟩ := h
    by_cases hlt : k < n
    · rw [rngD_drop hlt, Int.zero_add] at e
      cases e
      exact step k acc S hlt hI R fun a' S' h' => hR a' S' ⟨k + 1, hlt, rfl, h'⟩
    · have : k = n := by omega
      subst this
      rw [List.drop_eq_nil_of_le (by rw [rngD_length]; exact Nat.le_refl _)] at e
      cases e
  · obtain ⟨k, hk, e, hI⟩ := h
    by_cases hlt : k < n
    · rw [rngD_drop hlt] at e
      cases e
    · have : k = n := by omega
      subst this
      exact stop acc S hI
theorem fmod_nat {a : Nat} {b : Nat} (hb : 0 < b) : Int.fmod (a : Int) (b : Int) = ((a % b : Nat) : Int) := by
  rw [Int.fmod_eq_emod_of_nonneg _ (by omega)]
  exact (Int.natCast_emod a b).symm
/-- the letter (st + k) % 26 -/
theorem abc_mod {st k : Nat} : atI abc.cps.toList (Int.fmod ((st : Int) + (k : Int)) 26) = some (97 + (st + k) % 26) := by
  have : Int.fmod ((st : Int) + (k : Int)) 26 = (((st + k) % 26 : Nat) : Int) := by
    rw [← Int.natCast_add]
    exact fmod_nat (by decide)
  rw [this]
  exact abc_at (Nat.mod_lt _ (by decide))
theorem rep1 {n c : Nat} : ((List.replicate n [c]).flatten).length = n ∧ ∀ x ∈ (List.replicate n [c]).flatten, x = c := by
  refine ⟨by simp, fun x hx => ?_⟩
  obtain ⟨l, h1, h2⟩ := List.mem_flatten.mp hx
  rw [List.eq_of_mem_replicate h1] at h2
  exact List.mem_singleton.mp h2
theorem str_len (z : Str) : Str.length z = z.cps.toList.length := (Array.length_toList (xs := z.cps)).symm
theorem str_app (a b : Str) : (a ++ b).cps.toList = a.cps.toList ++ b.cps.toList := Array.toList_append
end VL
set_option Elab.async false
set_option linter.all false
set_option maxRecDepth 100000
set_option maxHeartbeats 1000000
namespace VL
open PySem PySem.Spec PyProof.Rows L2
def shD (sh : List (Str × Str)) : List (Key × Da) := sh.map fun x => (Sum.inr x.1, Da.s x.2)
structure Shp (sh : List (Str × Str)) : Prop where
  lo : 2 ≤ sh.length
  hi : sh.length ≤ 1000
  nd : (sh.map (·.1)).Nodup
  wd : ∀ x ∈ sh, Wd x.1
  z0 : ∀ j (h : j < sh.length), j < 2 → sh[j].2 = Str.empty
  ar : ∀ x ∈ sh, x.2.cps.toList.length ≤ 3
theorem keys_shD (sh : List (Str × Str)) : (shD sh).map keyD = (sh.map (·.1)).map Da.s := by
  unfold shD
  rw [List.map_map, List.map_map]
  rfl
theorem valD_shD : ∀ {sh : List (Str × Str)} {z v : Str}, (sh.map (·.1)).Nodup → (z, v) ∈ sh → valD (shD sh) (.inr z) = some (.s v)
  | [], _, _, _, h => by simp at h
  | x :: sh, z, v, nd, h => by
    rw [List.map_cons, List.nodup_cons] at nd
    by_cases e : x.1 = z
    · have : x = (z, v) := by
        rcases List.mem_cons.mp h with h | h
        · exact h.symm
        · exact absurd (List.mem_map.mpr ⟨(z, v), h, e.symm⟩) nd.1
      subst this
      unfold valD shD
      rw [List.map_cons, List.find?_cons_of_pos (by simp)]
      rfl
    · have h' : (z, v) ∈ sh := by
        rcases List.mem_cons.mp h with h | h
        · rw [← h] at e; exact absurd rfl e
        · exact h
      have ih := valD_shD nd.2 h'
      unfold valD shD at ih ⊢
      rw [List.map_cons, List.find?_cons_of_neg (by simpa using e)]
      exact ih
/-- a form over sh, with letters of lt, of this height at most -/
inductive Fo (sh : List (Str × Str)) (lt : Str) : Nat → Da → Prop
  | lt {n c : Nat} : c ∈ lt.cps.toList → Fo sh lt n (.s ⟨#[c]⟩)
  | nd {n : Nat} {z v : Str} {fs : List Da} : (z, v) ∈ sh → fs.length = v.cps.toList.length → (∀ f ∈ fs, Fo sh lt n f) → Fo sh lt (n + 1) (.t (.s z :: fs))
theorem Fo.nO {sh : List (Str × Str)} {lt : Str} {n : Nat} {f : Da} (h : Fo sh lt n f) : f.isO = false := by cases h <;> rfl
theorem empty_str : Str.ofString "" = ⟨#[]⟩ := by decide +kernel
theorem str_pos {z : Str} (h : z ≠ Str.ofString "") : 1 ≤ z.cps.toList.length := by
  refine Nat.pos_of_ne_zero fun e => h ?_
  rw [empty_str]
  cases z with
  | mk c =>
    have : c.toList = [] := List.length_eq_zero_iff.mp e
    rw [show c = #[] from Array.toList_inj.mp (by rw [this])]
theorem at_s {ws : List Str} {r : Nat} (h : r < ws.length) : atI (ws.map Da.s) (r : Int) = some (.s ws[r]) := by
  rw [atI_nat (v := Da.s ws[r]) (by simp [h])]
theorem putD_shD {sh : List (Str × Str)} {z v : Str} (h : z ∉ sh.map (·.1)) : putD (shD sh) (.inr z) (.s v) = shD (sh ++ [(z, v)]) := by
  unfold putD
  rw [if_neg]
  · unfold shD
    rw [List.map_append]
    rfl
  · intro e
    obtain ⟨x, h1, h2⟩ := List.any_eq_true.mp e
    unfold shD at h1
    obtain ⟨y, h3, rfl⟩ := List.mem_map.mp h1
    have : y.1 = z := by simpa using h2
    exact h (List.mem_map.mpr ⟨y, h3, this⟩)
theorem putD_length {kds : List (Key × Da)} {k : Key} {d : Da} : (putD kds k d).length ≤ kds.length + 1 := by
  unfold putD
  split
  · rw [List.length_map]; omega
  · simp
/-- a tape at p, the shapes at q, all older things as they were -/
structure Stk (p q : Addr) (M : Mx) (sh : List (Str × Str)) (M' : Mx) : Prop where
  tp : ∃ ts : List Int, M' p = some (.lst (ts.map .i)) ∧ ts.length ≤ 1000
  dk : M' q = some (.dk none (shD sh))
  out : ∀ b m, b ≠ p → M b = some m → M' b = some m
  ne : q ≠ p
  nq : M q = none
theorem Stk.put {p q : Addr} {M M' : Mx} {sh : List (Str × Str)} {z v : Str} (s : Stk p q M sh M') (h : z ∉ sh.map (·.1)) : Stk p q M (sh ++ [(z, v)]) (updM M' q (.dk none (putD (shD sh) (.inr z) (.s v)))) := by
  refine ⟨?_, by rw [updM_same, putD_shD h], fun b m hb e => ?_, s.ne, s.nq⟩
  · obtain ⟨ts, h1, h2⟩ := s.tp
    exact ⟨ts, by rw [updM_ne (Ne.symm s.ne)]; exact h1, h2⟩
  · have : b ≠ q := fun z => by rw [z, s.nq] at e; cases e
    rw [updM_ne this]
    exact s.out b m hb e
theorem Stk.take {p q : Addr} {M M' M2 : Mx} {sh : List (Str × Str)} (s : Stk p q M sh M') (tp : ∃ ts : List Int, M2 p = some (.lst (ts.map .i)) ∧ ts.length ≤ 1000) (out : ∀ b, b ≠ p → M2 b = M' b) : Stk p q M sh M2 :=
  ⟨tp, by rw [out q s.ne]; exact s.dk, fun b m hb e => by rw [out b hb]; exact s.out b m hb e, s.ne, s.nq⟩
theorem Stk.other {p q q2 : Addr} {M M' : Mx} {sh : List (Str × Str)} {m : MO} (s : Stk p q M sh M') (h1 : q2 ≠ p) (h2 : q2 ≠ q) (h3 : M q2 = none) : Stk p q M sh (updM M' q2 m) := by
  refine ⟨?_, by rw [updM_ne (Ne.symm h2)]; exact s.dk, fun b n hb e => ?_, s.ne, s.nq⟩
  · obtain ⟨ts, g1, g2⟩ := s.tp
    exact ⟨ts, by rw [updM_ne (Ne.symm h1)]; exact g1, g2⟩
  · have : b ≠ q2 := fun z => by rw [z, h3] at e; cases e
    rw [updM_ne this]
    exact s.out b n hb e
/-- the keys of a stock out of its seven words -/
def ksOf (ws : List Str) (nb k : Nat) : List Str := ws.take nb ++ (ws.drop 4).take k
theorem ks_nodup {ws : List Str} {nb k : Nat} (h : ws.Nodup) (hb : nb ≤ 4) : (ksOf ws nb k).Nodup := by
  have : (ksOf ws nb k).Sublist ws := by
    have e := List.take_append_drop 4 ws
    have s := List.Sublist.append (l₁ := ws.take nb) (l₂ := ws.take 4) (r₁ := (ws.drop 4).take k) (r₂ := ws.drop 4) (by
      rw [show ws.take nb = (ws.take 4).take nb by rw [List.take_take, Nat.min_eq_left hb]]
      exact List.take_sublist _ _) (List.take_sublist _ _)
    rw [e] at s
    exact s
  exact this.nodup h
theorem ks_succ {ws : List Str} {nb k : Nat} (h : 4 + k < ws.length) : ksOf ws nb (k + 1) = ksOf ws nb k ++ [ws[4 + k]] := by
  unfold ksOf
  rw [List.take_succ, List.getElem?_drop, List.getElem?_eq_getElem h, List.append_assoc]
  rfl
theorem ks_base {ws : List Str} {k : Nat} (h : k < ws.length) : ksOf ws (k + 1) 0 = ksOf ws k 0 ++ [ws[k]] := by
  unfold ksOf
  rw [List.take_zero, List.append_nil, List.append_nil, List.take_succ, List.getElem?_eq_getElem h]
  rfl
theorem not_in {xs : List Str} {z : Str} (h : (xs ++ [z]).Nodup) : z ∉ xs := fun e => by
  rw [List.nodup_append] at h
  exact h.2.2 z e z (by simp) rfl
theorem ks_len {ws : List Str} {nb k : Nat} : (ksOf ws nb k).length ≤ nb + k := by
  unfold ksOf
  rw [List.length_append, List.length_take, List.length_take]
  omega
theorem shD_len (sh : List (Str × Str)) : (shD sh).length = sh.length := List.length_map _
theorem empty_eq : Str.ofString "" = Str.empty := by decide +kernel
theorem ln_s (l : List Str) : (l.map Da.s).length = l.length := List.length_map _
end VL
set_option Elab.async false
set_option linter.all false
set_option maxRecDepth 100000
set_option maxHeartbeats 1000000
namespace VL
open PySem PySem.Spec PyProof.Rows L2
mutual
def Da.sz : Da → Nat
  | .t ds => 1 + szs ds
  | _ => 1
def szs : List Da → Nat
  | [] => 0
  | d :: ds => d.sz + szs ds
end
theorem sz_pos (d : Da) : 1 ≤ d.sz := by cases d <;> simp [Da.sz] <;> omega
theorem szs_app : ∀ (a b : List Da), szs (a ++ b) = szs a + szs b
  | [], b => by simp [szs]
  | d :: a, b => by
    rw [List.cons_append, szs, szs, szs_app a b]
    omega
theorem szs_len : ∀ (a : List Da), a.length ≤ szs a
  | [] => by simp
  | d :: a => by
    have := szs_len a
    have := sz_pos d
    rw [List.length_cons, szs]
    omega
theorem szs_rev (a : List Da) : szs a.reverse = szs a := by
  induction a with
  | nil => rfl
  | cons d a ih =>
    rw [List.reverse_cons, szs_app, ih, szs, szs, szs]
    omega
/-- a form; lb: letters may stand in it -/
inductive Fk (lb : Bool) : Da → Prop
  | lt {c : Nat} : lb = true → 65 ≤ c → c ≤ 90 → Fk lb (.s ⟨#[c]⟩)
  | nd {z : Str} {fs : List Da} : Wd z → fs.length ≤ 3 → (∀ f ∈ fs, Fk lb f) → Fk lb (.t (.s z :: fs))
theorem occ_small {c : Nat} (h : 97 ≤ c ∧ c ≤ 122) : (!(Builtin.Str.occurrences (Str.ofString "abcdefghijklmnopqrstuvwxyz") ⟨#[c]⟩ 0 (Str.ofString "abcdefghijklmnopqrstuvwxyz").length 1).isEmpty) = true := by
  have : ∀ k : Fin 26, (!(Builtin.Str.occurrences (Str.ofString "abcdefghijklmnopqrstuvwxyz") ⟨#[97 + k.val]⟩ 0 (Str.ofString "abcdefghijklmnopqrstuvwxyz").length 1).isEmpty) = true := by decide +kernel
  have h2 := this ⟨c - 97, by omega⟩
  rwa [show 97 + (c - 97) = c by omega] at h2
theorem occ_cap {c : Nat} (h : 65 ≤ c ∧ c ≤ 90) : (!(Builtin.Str.occurrences (Str.ofString "ABCDEFGHIJKLMNOPQRSTUVWXYZ") ⟨#[c]⟩ 0 (Str.ofString "ABCDEFGHIJKLMNOPQRSTUVWXYZ").length 1).isEmpty) = true := by
  have : ∀ k : Fin 26, (!(Builtin.Str.occurrences (Str.ofString "ABCDEFGHIJKLMNOPQRSTUVWXYZ") ⟨#[65 + k.val]⟩ 0 (Str.ofString "ABCDEFGHIJKLMNOPQRSTUVWXYZ").length 1).isEmpty) = true := by decide +kernel
  have h2 := this ⟨c - 65, by omega⟩
  rwa [show 65 + (c - 65) = c by omega] at h2
theorem cut_tail {a : Da} {fs : List Da} : cutD (a :: fs) (some 1) none = fs := by
  unfold cutD
  simp [HT.sIx]
theorem bools_true {α : Type} : ∀ (l : List α), bools (l.map fun _ => Da.b true) = some (l.map fun _ => true)
  | [] => rfl
  | a :: l => by
    have ih := bools_true l
    rw [List.map_cons, List.map_cons]
    simp [bools, ih]
theorem szs_concat {a : List Da} {x : Da} : szs (a ++ [x]) = szs a + x.sz := by
  rw [szs_app, szs, szs]
  omega
theorem bools_false {α : Type} : ∀ (l : List α), bools (l.map fun _ => Da.b false) = some (l.map fun _ => false)
  | [] => rfl
  | a :: l => by
    have ih := bools_false l
    rw [List.map_cons, List.map_cons]
    simp [bools, ih]
/-- a place of a rule: what it binds, what it is given -/
def optD' : Option Da → Da
  | none => .n
  | some d => d
def plD (x : Option Da × Da) : Da := .t [optD' x.1, x.2]
end VL
set_option Elab.async false
set_option linter.all false
set_option maxRecDepth 100000
set_option maxHeartbeats 1000000
namespace VL
open PySem PySem.Spec PyProof.Rows L2
mutual
inductive Pt where
  | nm (n : Bool) (z : Str)
  | nd (n : Bool) (z : Str) (bs : Bk)
inductive Bk where
  | nil
  | cons (x : Option Str) (xn : Bool) (q : Pt) (r : Bk)
end
def optS : Option Str → Da
  | none => .n
  | some z => .s z
def noteD (κ : Da) (b : Bool) : Da := if b then κ else .n
def colon : Str := Str.ofString ":"
mutual
def Pt.core (κ : Da) : Pt → Da
  | .nm _ z => .s z
  | .nd _ z bs => .t (.s z :: Bk.das κ bs)
def Pt.da (κ : Da) : Pt → Da
  | .nm n z => if n then .t [.s colon, .s z, κ] else .s z
  | .nd n z bs => if n then .t [.s colon, .t (.s z :: Bk.das κ bs), κ] else .t (.s z :: Bk.das κ bs)
def Bk.das (κ : Da) : Bk → List Da
  | .nil => []
  | .cons x xn q r => .t [optS x, noteD κ xn, Pt.da κ q] :: Bk.das κ r
end
def Pt.noted : Pt → Bool
  | .nm n _ => n
  | .nd n _ _ => n
theorem Pt.da_eq (κ : Da) : ∀ q : Pt, q.da κ = if q.noted then .t [.s colon, q.core κ, κ] else q.core κ
  | .nm n z => by cases n <;> simp [Pt.da, Pt.core, Pt.noted]
  | .nd n z bs => by cases n <;> simp [Pt.da, Pt.core, Pt.noted]
mutual
/-- names and signs are words; a place that binds no name has no note for it -/
def Pt.ok : Pt → Prop
  | .nm _ z => Wd z
  | .nd _ z bs => Wd z ∧ Bk.ok bs
def Bk.ok : Bk → Prop
  | .nil => True
  | .cons x xn q r => (∀ z, x = some z → Wd z) ∧ (x = none → xn = false) ∧ Pt.ok q ∧ Bk.ok r
end
mutual
def Pt.strip : Pt → Pt
  | .nm _ z => .nm false z
  | .nd _ z bs => .nd false z (Bk.strip bs)
def Bk.strip : Bk → Bk
  | .nil => .nil
  | .cons x _ q r => .cons x false (Pt.strip q) (Bk.strip r)
end
mutual
def Pt.count : Pt → Nat
  | .nm _ _ => 1
  | .nd _ _ bs => 1 + Bk.count bs
def Bk.count : Bk → Nat
  | .nil => 0
  | .cons _ _ q r => Pt.count q + Bk.count r
end
def Bk.len : Bk → Nat
  | .nil => 0
  | .cons _ _ _ r => Bk.len r + 1
def Bk.app : Bk → Bk → Bk
  | .nil, b => b
  | .cons x xn q r, b => .cons x xn q (Bk.app r b)
theorem das_app (κ : Da) : ∀ a b : Bk, (Bk.app a b).das κ = a.das κ ++ b.das κ
  | .nil, b => by simp [Bk.app, Bk.das]
  | .cons x xn q r, b => by simp [Bk.app, Bk.das, das_app κ r b]
theorem ok_app : ∀ a b : Bk, Bk.ok (Bk.app a b) ↔ a.ok ∧ b.ok
  | .nil, b => by simp [Bk.app, Bk.ok]
  | .cons x xn q r, b => by simp [Bk.app, Bk.ok, ok_app r b, and_assoc]
theorem count_app : ∀ a b : Bk, Bk.count (Bk.app a b) = a.count + b.count
  | .nil, b => by simp [Bk.app, Bk.count]
  | .cons x xn q r, b => by simp [Bk.app, Bk.count, count_app r b, Nat.add_assoc]
theorem len_app : ∀ a b : Bk, Bk.len (Bk.app a b) = a.len + b.len
  | .nil, b => by simp [Bk.app, Bk.len]
  | .cons x xn q r, b => by simp only [Bk.app, Bk.len, len_app r b]; omega
theorem das_len (κ : Da) : ∀ b : Bk, (b.das κ).length = b.len
  | .nil => by simp [Bk.len, Bk.das]
  | .cons x xn q r => by simp [Bk.len, Bk.das, das_len κ r]
theorem strip_app : ∀ a b : Bk, Bk.strip (Bk.app a b) = Bk.app a.strip b.strip
  | .nil, b => by simp [Bk.app, Bk.strip]
  | .cons x xn q r, b => by simp [Bk.app, Bk.strip, strip_app r b]
theorem optS_O (x : Option Str) : (optS x).isO = false := by cases x <;> rfl
theorem Pt.coreO (κ : Da) (q : Pt) : (q.core κ).isO = false := by cases q <;> simp [Pt.core] <;> rfl
theorem Pt.daO (κ : Da) (q : Pt) : (q.da κ).isO = false := by
  rw [Pt.da_eq]
  split
  · rfl
  · exact q.coreO κ
/-- how great a part is, at most -/
def bnd : Nat → Nat
  | 0 => 1
  | d + 1 => 1 + 3 * bnd d
theorem bnd_pos : ∀ d, 1 ≤ bnd d
  | 0 => Nat.le_refl _
  | d + 1 => by rw [bnd]; omega
/-- a rule's row -/
structure Rl where
  z : Str
  pls : List (Da × Da)
  f : Da
def pl2 (x : Da × Da) : Da := .t [x.1, x.2]
def Rl.da (r : Rl) : Da := .t [.s r.z, .t [.t (r.pls.map pl2), r.f]]
def Bd (d : Da) : Prop := d = .n ∨ (∃ z, d = .s z) ∨ ∃ es, d = .t es
structure Rl.ok (r : Rl) : Prop where
  wd : Wd r.z
  ar : r.pls.length ≤ 3
  bd : ∀ x ∈ r.pls, Bd x.1
mutual
def Pt.ht : Pt → Nat
  | .nm _ _ => 0
  | .nd _ _ bs => Bk.ht bs + 1
def Bk.ht : Bk → Nat
  | .nil => 0
  | .cons _ _ q r => max (Pt.ht q) (Bk.ht r)
end
theorem ht_app : ∀ a b : Bk, Bk.ht (Bk.app a b) = max a.ht b.ht
  | .nil, b => by simp [Bk.app, Bk.ht]
  | .cons x xn q r, b => by simp only [Bk.app, Bk.ht, ht_app r b]; omega
def Pt.setn (n : Bool) : Pt → Pt
  | .nm _ z => .nm n z
  | .nd _ z bs => .nd n z bs
theorem setn_strip (n : Bool) (q : Pt) : (q.setn n).strip = q.strip := by cases q <;> simp [Pt.setn, Pt.strip]
theorem setn_ok (n : Bool) (q : Pt) : (q.setn n).ok ↔ q.ok := by cases q <;> simp [Pt.setn, Pt.ok]
theorem setn_core (n : Bool) (κ : Da) (q : Pt) : (q.setn n).core κ = q.core κ := by cases q <;> simp [Pt.setn, Pt.core]
theorem setn_noted (n : Bool) (q : Pt) : (q.setn n).noted = n := by cases q <;> simp [Pt.setn, Pt.noted]
theorem setn_da1 (κ : Da) (q : Pt) : (q.setn true).da κ = .t [.s colon, q.core κ, κ] := by rw [Pt.da_eq, setn_noted, setn_core]; simp
theorem setn_da0 (κ : Da) (q : Pt) : (q.setn false).da κ = q.core κ := by rw [Pt.da_eq, setn_noted, setn_core]; simp
mutual
theorem strip_count : ∀ q : Pt, q.strip.count = q.count
  | .nm n z => by simp [Pt.strip, Pt.count]
  | .nd n z bs => by simp [Pt.strip, Pt.count, strip_bcount bs]
theorem strip_bcount : ∀ b : Bk, b.strip.count = b.count
  | .nil => by simp [Bk.strip, Bk.count]
  | .cons x xn q r => by simp [Bk.strip, Bk.count, strip_count q, strip_bcount r]
end
theorem strip_blen : ∀ b : Bk, b.strip.len = b.len
  | .nil => by simp [Bk.strip]
  | .cons x xn q r => by simp [Bk.strip, Bk.len, strip_blen r]
theorem len_count : ∀ b : Bk, b.len ≤ b.count
  | .nil => by simp [Bk.len]
  | .cons x xn q r => by
    have := len_count r
    have : 1 ≤ q.count := by cases q <;> simp [Pt.count] <;> omega
    simp only [Bk.len, Bk.count]
    omega
theorem app_assoc : ∀ a b c : Bk, Bk.app (Bk.app a b) c = Bk.app a (Bk.app b c)
  | .nil, b, c => by simp [Bk.app]
  | .cons x xn q r, b, c => by simp [Bk.app, app_assoc r b c]
theorem app_nil : ∀ a : Bk, Bk.app a .nil = a
  | .nil => by simp [Bk.app]
  | .cons x xn q r => by simp [Bk.app, app_nil r]
theorem noteO {κ : Da} (h : κ.isO = false) (b : Bool) : (noteD κ b).isO = false := by cases b <;> first | exact h | rfl
theorem wd_ok {z : Str} (h : Wd z) : PyData.strOk z = true := by
  unfold PyData.strOk
  rw [Array.all_eq_true']
  intro c hc
  have := h.ch c (Array.mem_toList_iff.mpr hc)
  exact decide_eq_true (by omega)
theorem colon_list : colon.cps.toList = [58] := by decide +kernel
theorem wd_colon {z : Str} (h : Wd z) : z ≠ colon := fun e => by
  have := h.ch 58 (by rw [e, colon_list]; simp)
  omega
theorem pd_s1 {z : Str} (h : PyData.strOk z = true) : (Da.t [.s z]).eqb = true := (Pd.t (n := 0) fun d hd => by rw [List.mem_singleton.mp hd]; exact .s h).eqb (by decide)
theorem eqv_s1 {a b : Str} : PyData.eqv (Da.t [.s a]).py (Da.t [.s b]).py = decide (a = b) := by
  simp only [Da.py, pys, PyData.eqv, PyData.eqvAll, Bool.and_true]
  exact Bool.beq_eq_decide_eq a b
theorem cut_head {a : Da} {fs : List Da} : cutD (a :: fs) none (some 1) = [a] := by
  unfold cutD
  simp [HT.sIx]
end VL
set_option Elab.async false
set_option linter.all false
set_option maxRecDepth 100000
set_option maxHeartbeats 1000000
namespace VL
open PySem PySem.Spec PyProof.Rows L2
def ixD (k : Nat) : Da := .i (k : Int)
def pathD (p : List Nat) : Da := .t (p.map ixD)
def onD : Option Nat → Da
  | none => .n
  | some k => ixD k
abbrev Spot := List Nat × Option Nat
def spD (s : Spot) : Da := .t [pathD s.1, onD s.2]
def spF (s : Spot × Bool) : Da := .t [spD s.1, .b s.2]
structure Rw where
  path : List Nat
  q : Pt
  x : Option Str
  xn : Bool
def rwD (κ : Da) (r : Rw) : Da := .t [pathD r.path, r.q.core κ, noteD κ r.q.noted, optS r.x, noteD κ r.xn]
def nameSp (r : Rw) : List (Spot × Bool) := match r.x with
  | none => []
  | some _ => [((r.path.dropLast, r.path.getLast?), r.xn)]
def rowSp (r : Rw) : List (Spot × Bool) := nameSp r ++ [((r.path, none), r.q.noted)]
mutual
def Pt.rows (path : List Nat) (x : Option Str) (xn : Bool) : Pt → List Rw
  | .nm n z => [⟨path, .nm n z, x, xn⟩]
  | .nd n z bs => ⟨path, .nd n z bs, x, xn⟩ :: Bk.rows path 0 bs
def Bk.rows (path : List Nat) (i : Nat) : Bk → List Rw
  | .nil => []
  | .cons x xn q r => Pt.rows (path ++ [i]) x xn q ++ Bk.rows path (i + 1) r
end
def ofName (x : Option Str) (s : Spot × Bool) : List (Spot × Bool) := match x with
  | none => []
  | some _ => [s]
mutual
def Pt.sps (path : List Nat) : Pt → List (Spot × Bool)
  | .nm n _ => [((path, none), n)]
  | .nd n _ bs => ((path, none), n) :: Bk.sps path 0 bs
def Bk.sps (path : List Nat) (i : Nat) : Bk → List (Spot × Bool)
  | .nil => []
  | .cons x xn q r => ofName x ((path, some i), xn) ++ Pt.sps (path ++ [i]) q ++ Bk.sps path (i + 1) r
end
theorem nameSp_at {path : List Nat} {i : Nat} {q : Pt} {x : Option Str} {xn : Bool} : nameSp ⟨path ++ [i], q, x, xn⟩ = ofName x ((path, some i), xn) := by
  unfold nameSp ofName
  cases x
  · rfl
  · show [(((path ++ [i]).dropLast, (path ++ [i]).getLast?), xn)] = _
    rw [List.dropLast_concat, List.getLast?_concat]
mutual
theorem rows_sps : ∀ (q : Pt) (path : List Nat) (x : Option Str) (xn : Bool), (q.rows path x xn).flatMap rowSp = nameSp ⟨path, q, x, xn⟩ ++ q.sps path
  | .nm n z, path, x, xn => by simp [Pt.rows, Pt.sps, rowSp, Pt.noted]
  | .nd n z bs, path, x, xn => by
    rw [Pt.rows, Pt.sps, List.flatMap_cons, brows_sps bs path 0]
    simp [rowSp, Pt.noted]
theorem brows_sps : ∀ (b : Bk) (path : List Nat) (i : Nat), (b.rows path i).flatMap rowSp = b.sps path i
  | .nil, path, i => by simp [Bk.rows, Bk.sps]
  | .cons x xn q r, path, i => by
    rw [Bk.rows, Bk.sps, List.flatMap_append, rows_sps q, brows_sps r, nameSp_at]
end
mutual
theorem rows_len : ∀ (q : Pt) (path : List Nat) (x : Option Str) (xn : Bool), (q.rows path x xn).length = q.count
  | .nm n z, path, x, xn => by simp [Pt.rows, Pt.count]
  | .nd n z bs, path, x, xn => by
    rw [Pt.rows, Pt.count, List.length_cons, brows_len bs path 0]
    omega
theorem brows_len : ∀ (b : Bk) (path : List Nat) (i : Nat), (b.rows path i).length = b.count
  | .nil, path, i => by simp [Bk.rows, Bk.count]
  | .cons x xn q r, path, i => by
    rw [Bk.rows, Bk.count, List.length_append, rows_len q, brows_len r]
end
theorem cut_init {xs : List Da} {a : Da} : cutD (xs ++ [a]) none (some (-1)) = xs := by
  unfold cutD
  have h1 : HT.sIx (xs ++ [a]).length 0 none = 0 := rfl
  have h2 : HT.sIx (xs ++ [a]).length (xs ++ [a]).length (some (-1)) = xs.length := by
    show (if (-1 : Int) < 0 then ((-1 : Int) + ((xs ++ [a]).length : Int)).toNat else min (-1 : Int).toNat (xs ++ [a]).length) = _
    rw [if_pos (by decide), List.length_append, List.length_singleton]
    omega
  rw [h1, h2]
  simp
theorem at_last {xs : List Da} {a : Da} (h : xs.length < 2 ^ 60) : atI (xs ++ [a]) (-1) = some a := by
  unfold atI
  have : ixN (xs ++ [a]).length (-1) = some xs.length := by
    unfold ixN
    rw [List.length_append, List.length_singleton, if_neg (by decide), if_pos (by omega)]
    congr 1
    omega
  rw [this]
  simp
theorem rowSp_len (r : Rw) : (rowSp r).length ≤ 2 := by
  unfold rowSp nameSp
  cases r.x <;> simp
theorem rowsSp_len : ∀ l : List Rw, (l.flatMap rowSp).length ≤ 2 * l.length
  | [] => by simp
  | r :: l => by
    have := rowsSp_len l
    have := rowSp_len r
    rw [List.flatMap_cons, List.length_append, List.length_cons]
    omega
theorem fk_t {κ : Da} (h : Fk false κ) : ∃ es, κ = .t es := by
  cases h with
  | lt h _ _ => cases h
  | nd _ _ _ => exact ⟨_, rfl⟩
theorem sps_app : ∀ (a b : Bk) (path : List Nat) (i : Nat), Bk.sps path i (Bk.app a b) = Bk.sps path i a ++ Bk.sps path (i + a.len) b
  | .nil, b, path, i => by simp [Bk.app, Bk.sps, Bk.len]
  | .cons x xn q r, b, path, i => by
    simp only [Bk.app, Bk.sps, Bk.len]
    rw [sps_app r b path (i + 1), show i + 1 + r.len = i + (r.len + 1) by omega]
    simp only [List.append_assoc]
theorem das_at {κ : Da} {b : Bk} {x : Da} {ys : List Da} : (b.das κ ++ x :: ys)[b.len]? = some x := by
  rw [← das_len κ b, List.getElem?_append_right (Nat.le_refl _)]
  simp
mutual
theorem sps_len : ∀ (q : Pt) (path : List Nat), (q.sps path).length + 1 ≤ 2 * q.count
  | .nm n z, path => by simp [Pt.sps, Pt.count]
  | .nd n z bs, path => by
    have := bsps_len bs path 0
    rw [Pt.sps, Pt.count, List.length_cons]
    omega
theorem bsps_len : ∀ (b : Bk) (path : List Nat) (i : Nat), (b.sps path i).length ≤ 2 * b.count
  | .nil, path, i => by simp [Bk.sps, Bk.count]
  | .cons x xn q r, path, i => by
    have h1 := sps_len q (path ++ [i])
    have h2 := bsps_len r path (i + 1)
    have h3 : (ofName x ((path, some i), xn)).length ≤ 1 := by cases x <;> simp [ofName]
    have h4 : 1 ≤ q.count := by cases q <;> simp [Pt.count] <;> omega
    rw [Bk.sps, Bk.count, List.length_append, List.length_append]
    omega
end
end VL
set_option Elab.async false
set_option linter.all false
set_option maxRecDepth 100000
set_option maxHeartbeats 1000000
namespace VL
open PySem PySem.Spec PyProof.Rows L2
theorem meets_enum1 {v : Value} {o : Obj} {H : Heap → Prop} (B : Begins v o H) :
    Meets (Builtin.«enumerate.__new__» ⟨[.type "enumerate", v], []⟩) (fun _ R s => H s.heap ∧
      R (.ok (.ret (.ref (s.heap.push o).objs.size))) { s with heap := (s.heap.push o).push { cls := .type "enumerate", data := .fields #[.none, .bool false, .ref s.heap.objs.size, rawInt 0, .none, .none] } }) :=
  .of_wp fun prog w A R s h => by
    obtain ⟨hp, g, d, tk, os⟩ := s; obtain ⟨h1, h⟩ := h
    have hsub := sub_enumerate
    have q1 : ∀ {A' : Around} {E : Value → Shared → Prop} {Q : Value → Shared → Prop}, Q (.ref hp.objs.size) ⟨hp.push o, g, d, tk, os⟩ → wpAny (model prog w) A' (pyIter v) Q E ⟨hp, g, d, tk, os⟩ :=
      fun q => B.iter prog w _ _ ⟨hp, g, d, tk, os⟩ _ h1 q
    wp_walk using q1
    refine wpAny_stack_any fun st => wpAny_pure ?_
    split
    · rename_i c _ _ _ _ _
      cases (c == Value.type "enumerate")
      · wp_walk using q1
        exact ⟨_, rfl, h⟩
      · wp_walk using q1
        exact ⟨_, rfl, h⟩
    · wp_walk using q1
      exact ⟨_, rfl, h⟩
section
variable {prog : Program} {w : World} {A : Around} {E : Value → Shared → Prop} {s : Shared}
theorem enum_begins1 {v : Value} {o : Obj} {H : Heap → Prop} {Q : Value → Shared → Prop} (B : Begins v o H) (h1 : H s.heap)
    (h : ∀ h', IsEnum h' (s.heap.objs.size + 1) s.heap.objs.size 0 .none → h'.get? s.heap.objs.size = some o → h'.objs.size = s.heap.objs.size + 2 →
      (∀ b o, s.heap.get? b = some o → h'.get? b = some o) → Q (.ref (s.heap.objs.size + 1)) { s with heap := h' }) :
    wpAny (model prog w) A (call (.type "enumerate") [v]) Q E s := by
  refine callType_new F.called_enumerate (by decide) (F.typeCall_enumerate_1 _) (F.newCall_enumerate_1 _) (fun obj => F.args_object_init_2 obj _) F.entry_enumerate_new
    (meets_enum1 B) ⟨h1, ?_⟩
  have hz : (s.heap.push o).objs.size = s.heap.objs.size + 1 := Heap.size_push ..
  show _ ∧ _
  rw [hz]
  have he : IsEnum ((s.heap.push o).push { cls := .type "enumerate", data := .fields #[.none, .bool false, .ref s.heap.objs.size, rawInt 0, .none, .none] }) (s.heap.objs.size + 1) s.heap.objs.size 0 .none := by
    have := Heap.get?_push_size (s.heap.push o) (o := { cls := .type "enumerate", data := .fields #[.none, .bool false, .ref s.heap.objs.size, rawInt 0, .none, .none] }) rfl
    rw [hz] at this; exact this
  refine ⟨⟨_, he, rfl⟩, h _ he (Heap.get?_push_of_some _ (Heap.get?_push_size _ B.free)) (by rw [Heap.size_push, hz]) fun b o x => Heap.get?_push_of_some _ (Heap.get?_push_of_some _ x)⟩
end
section
variable {prog : Program} {w : World} {A : Around} {E : Value → Shared → Prop} {s : Shared}
theorem next_enumT_end {e it t : Addr} {i : Nat} {c : Int} {items : Array Value} {old : Value} {Q : Option Value → Shared → Prop} (hh : A.handled = none)
    (he : IsEnum s.heap e it c old) (hit : s.heap.IsTupleIter it t i) (ht : s.heap.IsTuple t items) (hx : items[i]? = none)
    (hQ : ∀ h', Heap.ExtBut it s.heap h' → Q none { s with heap := h' }) : wpAny (model prog w) A (pyNext (.ref e)) Q E s := by
  have hT : s.TypeIs (.ref e) "enumerate" := ⟨_, he, rfl⟩
  unfold pyNext
  refine wpAny_bind (wpAny_attempt (wpAny_callSpecial?_slot (name := Str.ofString "__next__") hT F.slot_enumerate_next
    (wpAny_call_entry F.slot_enumerate_next hT F.entry_enumerate_next ?_ (F.args_enumerate_next_1 _))))
  show wpAny _ _ (field (.ref e) 2 >>= _) _ _ _
  refine wpAny_bind (wpAny_field he rfl (x := .ref it) rfl ?_)
  refine wpAny_bind (wpAny_nextOf_tuple_end (A := A.in1) (show A.in1.handled = none from hh) hit ht hx fun h' x he' hx' => ?_)
  obtain ⟨o, ho, hc⟩ := hx'
  refine wpAny_bind (wpAny_isInstance (T := "StopIteration") (b := true) ⟨o, ho, hc⟩ isSubtype_stop ?_)
  exact wpAny_pure (hQ _ he')
end
/-- the tuple at a, each item in a new pair -/
def IteT (K : PySem.W.Frag) (a : Addr) : It :=
  ⟨fun i H => ∃ (xs : List V) (x : V), SqT K H a xs ∧ xs[i]? = some x, fun i H v H' => ∃ T x, v = .ref T ∧ H T = none ∧ H' = upd H T (.tup [.int (i : Nat), x]) ∧ ∀ xs, SqT K H a xs → xs[i]? = some x, fun i H => ∃ xs : List V, SqT K H a xs ∧ xs.length ≤ i⟩
theorem turn_enumT {P : Program} {w : World} {K : PySem.W.Frag} {elts : List Expr} {kk : Nat} {tpos : Pos} (a e it : Addr) (items : Array Value) (hai : a ≠ it) (hae : a ≠ e) :
    Turn P w K (.Tuple elts kk tpos) (IteT K a) [e, it] e (fun i h => (∃ old, IsEnum h e it ((i : Nat) : Int) old) ∧ h.IsTupleIter it a i ∧ e ≠ it) where
  mem := by simp
  obj := fun i h st b hb => by
    obtain ⟨⟨old, he⟩, ⟨o, ho, hc, hd⟩, _⟩ := st
    have e' : b = e ∨ b = it := by simpa using hb
    rcases e' with z | z
    · rw [z]; exact ⟨_, he, fun v q => nomatch q⟩
    · rw [z]; exact ⟨o, ho, fun v q => by rw [hd] at q; cases q⟩
  keep := fun i h h' st k => let ⟨⟨old, he⟩, hi, hne⟩ := st; ⟨⟨old, k e (by simp) _ he⟩, hi.at fun o q => k it (by simp) o q, hne⟩
  item := by
    intro X hP hw hK hc i pins s σ H E I hf st hg
    subst hP hw hK
    obtain ⟨⟨old, he⟩, hit, hne⟩ := st
    obtain ⟨xs, x, hq, hx⟩ := hg
    obtain ⟨its, rv, p, hz⟩ := I.tuple hq
    obtain ⟨u, hu, ru⟩ := rv.get hx
    have hel : e < s.heap.objs.size := Heap.lt_size he
    have hil : it < s.heap.objs.size := by obtain ⟨_, q, _⟩ := hit; exact Heap.lt_size q
    have hp : s.heap.IsTuple a its.toArray := p
    have hlt : i < its.toArray.size := by
      rw [List.size_toArray]
      exact (List.getElem?_eq_some_iff.mp hu).1
    refine wpAny_pyNext_enum_itemD (Draws.tuple (A := X.A.in1) (show X.A.in1.handled = none from I.ok.hd hc) it a hai its.toArray) he ⟨hit, hp⟩ hlt hne (by simp [hne, Ne.symm hae]) fun x' h' tk hx' ho hit' hT hsz hk => ?_
    have ex' : x' = u := by
      have h1 : its.toArray[i]? = some x' := hx'
      have h2 : its.toArray[i]? = some u := by simpa using hu
      rw [h1] at h2
      exact Option.some.inj h2
    subst ex'
    refine ⟨_, rfl, wpAny_letOwnedTupleGo_enum (s := { s with heap := h', toks := tk + 1 }) ho fun h'' he' sb => ?_⟩
    have hT2 : h''.get? s.heap.objs.size = some { cls := .type "tuple", data := .seq #[.int i tk, x'] } := (sb.2 _ (Nat.ne_of_gt hel)).trans hT
    have new : ObjOk X.prog X.w (upd H s.heap.objs.size (.tup [.int (i : Nat), x])) h'' s.heap.objs.size (.tup [.int (i : Nat), x]) :=
      ⟨by show 2 ≤ sizeLine; decide, [.int i tk, x'], .cons ⟨_, rfl⟩ (.cons ru .nil), ⟨_, hT2, rfl, _, rfl⟩⟩
    have I1 : L2.Inv X pins σ (upd H s.heap.objs.size (.tup [.int (i : Nat), x])) { s with heap := h'', toks := tk + 1 } :=
      I.turnedNew (ch := [e, it]) (fun b ob hb q => (sb.2 b (fun z => hb (by simp [z]))).trans (hk b ob (fun z => hb (by simp [z])) (fun z => hb (by simp [z])) q)) hf (Nat.le_refl _) new
    refine ⟨.ref s.heap.objs.size, _, I1, rfl, ⟨_, x, rfl, I.hok.fresh (Nat.le_refl _), rfl, fun ys hy => by rw [I.tuple_inj hy hq]; exact hx⟩, ⟨⟨x', ?_⟩, hit'.1.at fun o q => (sb.2 it (Ne.symm hne)).trans q, hne⟩, fun b hb => ?_⟩
    · have e1 : ((i + 1 : Nat) : Int) = (i : Int) + 1 := by omega
      rw [e1]; exact he'
    · have hb' : b < s.heap.objs.size := by
        have e' : b = e ∨ b = it := by simpa using hb
        rcases e' with z | z
        · rw [z]; exact hel
        · rw [z]; exact hil
      rw [upd_ne (Nat.ne_of_lt hb')]
      exact (hf b hb).1
  done := by
    intro X hP hw hK hc i pins s σ H E I hf st hg
    subst hP hw hK
    obtain ⟨⟨old, he⟩, hit, hne⟩ := st
    obtain ⟨xs, hq, hx⟩ := hg
    obtain ⟨its, rv, p, hz⟩ := I.tuple hq
    obtain ⟨f0, f1, f2, f3, f4, f5⟩ := hf it (by simp)
    have hl := rv.length
    have hp : s.heap.IsTuple a its.toArray := p
    exact next_enumT_end (I.ok.hd hc) he hit hp (by simp; omega) fun h' eb => ⟨rfl, I.turned (t' := s.toks) (fun b o hb q => eb b o hb q) f0 f1 f3 f4 f5⟩
  self := fun A i s Q E st h => let ⟨⟨_, he⟩, _⟩ := st; wpAny_pyIter_enum he h
end VL
namespace VL
open PySem PySem.Spec PyProof.Rows L2
def iEnumT (K : PySem.W.Frag) (ta : TA) : TI := fun σ H R => ta σ H fun vs H1 => ∃ a xs, vs = [.ref a] ∧ SqT K H1 a xs ∧ R (IteT K a) H1
theorem pi_enumT {X : Cx} {e : Expr} {ta : TA} {p pos tpos : Pos} {elts : List Expr} {kk : Nat} (hg : Gl X "enumerate") (hm : X.mg "enumerate" = none) (ha : PA X [e] ta) (hs : starEach [e] X.env = [(false, eval e X.env)] := by rfl) :
    PI X (.Tuple elts kk tpos) (.Call (.Name "enumerate" p) [e] [] pos) (iEnumT X.K ta) := by
  refine ⟨fun pins s σ H R I h => ?_⟩
  refine Call_ (ld_blt I hg hm boot_enumerate (PyProof.Rows.callWith_type1 (thn (ha.run pos pins s σ H _ I h) fun us s1 ⟨vs, H1, I1, r1, q1⟩ => ?_) hs rfl))
  obtain ⟨a, xs, ex, hq, q⟩ := q1
  subst ex
  cases r1 with
  | cons r rr =>
    cases rr
    cases r
    obtain ⟨its, rv, p', hz⟩ := I1.tuple hq
    have hp : s1.heap.IsTuple a its.toArray := p'
    have hal : a < s1.heap.objs.size := by obtain ⟨_, q, _⟩ := hp; exact Heap.lt_size q
    refine enum_begins1 (begins_tuple a its.toArray) hp fun h' he hit hsz hk => wpAny_pyIter_enum he ?_
    have I2 : L2.Inv X pins σ H1 { s1 with heap := h' } := I1.kept (t' := s1.toks) hk
    refine ⟨s1.heap.objs.size + 1, [s1.heap.objs.size + 1, s1.heap.objs.size], _, _, H1, rfl, I2, turn_enumT a (s1.heap.objs.size + 1) s1.heap.objs.size its.toArray (Nat.ne_of_lt hal) (Nat.ne_of_lt (Nat.lt_succ_of_lt hal)), ⟨⟨.none, he⟩, ⟨_, hit, rfl, rfl⟩, Nat.succ_ne_self _⟩, fun b hb => ?_, q⟩
    have e' : b = s1.heap.objs.size + 1 ∨ b = s1.heap.objs.size := by simpa using hb
    have hle : s1.heap.objs.size ≤ b := by
      rcases e' with z | z
      · rw [z]; exact Nat.le_add_right _ _
      · rw [z]; exact Nat.le_refl _
    exact I1.fpOk hle (I1.hok.fresh hle)
def enumD : Nat → List Da → List Da
  | _, [] => []
  | k, d :: ds => .t [.i (k : Int), d] :: enumD (k + 1) ds
theorem enumD_len : ∀ (k : Nat) (ds : List Da), (enumD k ds).length = ds.length
  | _, [] => rfl
  | k, d :: ds => by rw [enumD, List.length_cons, List.length_cons, enumD_len]
theorem enumD_get : ∀ (k : Nat) (ds : List Da) (i : Nat), (enumD k ds)[i]? = (ds[i]?).map fun d => .t [.i ((k + i : Nat) : Int), d]
  | _, [], i => by simp [enumD]
  | k, d :: ds, 0 => by simp [enumD]
  | k, d :: ds, i + 1 => by
    rw [enumD, List.getElem?_cons_succ, List.getElem?_cons_succ, enumD_get (k + 1) ds i, show k + 1 + i = k + (i + 1) by omega]
def wEnumT (we : WE) : WI := fun S Q => we S fun d S' => match d with
  | .t ds => Q (enumD 0 ds) S'
  | _ => False
section
variable {X : Cx} {c : Cq} {e : Expr} {we : WE} {p pos tpos : Pos} {elts : List Expr} {kk : Nat}
theorem i_enum (hg : Gl X "enumerate") (hm : X.mg "enumerate" = none) (he : PE X e (lE X.K c we)) (hs0 : starEach [e] X.env = (false, eval e X.env) :: starEach [] X.env := by rfl) (hs : starEach [e] X.env = [(false, eval e X.env)] := by rfl) :
    PI X (.Tuple elts kk tpos) (.Call (.Name "enumerate" p) [e] [] pos) (lWk X.K c (wEnumT we)) := pi_imp (pi_enumT hg hm (pa_cons he pa_nil hs0) hs) fun σ H R h => by
  obtain ⟨S, Qd, r, h, pst⟩ := h
  refine ⟨S, _, r, h, fun d S1 h1 H1 v r1 k1 p1 => ?_⟩
  cases d <;> try exact h1.elim
  rename_i ds
  obtain ⟨q, vs, rfl, g1, g2⟩ := tup_ok p1
  refine ⟨q, vs, rfl, g1, pst _ _ h1 _ _ r1 k1 fun H2 W2 k i => ?_⟩
  have e2 := sqt_kp k g1
  refine ⟨fun d hd => ?_, fun hl => ⟨vs, e2, by rw [g2.length, ← enumD_len 0 ds]; exact hl⟩⟩
  rw [enumD_get, Nat.zero_add] at hd
  cases ed : ds[i]? with
  | none => rw [ed] at hd; cases hd
  | some d' =>
    rw [ed] at hd
    cases hd
    obtain ⟨v, hv, rv⟩ := g2.get ed
    refine ⟨⟨vs, v, e2, hv⟩, fun x H3 hy => ?_⟩
    obtain ⟨T, x', rfl, nT, rfl, hx⟩ := hy
    have := hx vs e2
    rw [hv] at this
    cases this
    refine ⟨same_upd nT, .t (.inl (.inl upd_same)) (.cons (.i _) (.cons ((rv.kp k.or).kp (.same (same_upd nT))) .nil))⟩
end
end VL
namespace VL
open PySem PySem.Spec PyProof.Rows L2
theorem pick_rev (its : List Value) : slicePick its.toArray none none (some (-1)) = its.reverse.toArray := by
  have hb : sliceBounds none none (some (-1)) its.toArray.size = ((its.length : Int) - 1, -1, -1) := by
    rw [List.size_toArray]
    rfl
  unfold slicePick
  rw [hb]
  congr 1
  have hr : sliceRange ((its.length : Int) - 1) (-1) (-1) = (List.range its.length).map fun (k : Nat) => ((its.length : Int) - 1 + (-1) * (k : Int)).toNat := by
    unfold sliceRange
    have : (if (-1 : Int) > 0 then (if (its.length : Int) - 1 < -1 then (-1 - ((its.length : Int) - 1) + -1 - 1) / -1 else 0) else (if (its.length : Int) - 1 > -1 then ((its.length : Int) - 1 - -1 - -1 - 1) / (- -1) else 0)) = (its.length : Int) := by
      rw [if_neg (by decide), show (- (-1 : Int)) = 1 by decide, Int.ediv_one]
      split <;> omega
    simp only [this, Int.toNat_natCast]
  rw [hr, List.filterMap_map]
  have := pick_back its its.length (Nat.le_refl _)
  rw [Nat.sub_self, List.drop_zero] at this
  rw [← this]
  refine filterMap_same fun m hm => ?_
  have hm' := List.mem_range.mp hm
  show its.toArray[((its.length : Int) - 1 + (-1) * (m : Int)).toNat]? = _
  rw [show ((its.length : Int) - 1 + (-1) * (m : Int)).toNat = its.length - 1 - m by omega]
  simp
section
variable {X : Cx} {c : Cq} {pos p2 : Pos} {e : Expr} {we : WE}
def tRevL (K : PySem.W.Frag) (te : TE) : TE := fun σ H Q => te σ H fun x H1 => ∃ a xs, x = .ref a ∧ SqL K H1 a xs ∧ ∀ p, H1 p = none → Q (.ref p) (upd H1 p (.lst xs.reverse))
theorem pe_revL {st : Expr} {te : TE} (ops : Value → Value → List Value) (hsub : ∀ v u, subscripted (.Slice none none (some st) p2) false v u = operate (ops v u) (getItem v u)) (he : PE X e te) (hst : PO X (some st) (fun _ H Q => Q (some (-1)) H)) : PE X (.Subscript e (.Slice none none (some st) p2) pos) (tRevL X.K te) := by
  refine ⟨fun pins s σ H Q I h => ?_⟩
  refine Subscript_ (thn (he.run pins s σ H _ I h) fun v s1 ⟨x, H1, I1, r1, a, xs, ex, hx, q1⟩ => ?_)
  subst ex
  cases r1
  refine wpAny_Slice ?_
  rw [evalPart_none]
  refine wpAny_pure (thn ((po_n (X := X)).run pins s1 σ H1 (fun o H' => o = downHi false ∧ H' = H1) I1 ⟨rfl, rfl⟩) fun vu s3 ⟨u, H3, I3, pu, eu, eH3⟩ => thn (hst.run pins s3 σ H3 (fun o H' => o = some (-1) ∧ H' = H3) I3 ⟨rfl, rfl⟩) fun vs s4 ⟨u', H4, I4, ps, eu', eH4⟩ => ?_)
  subst eu eu' eH4 eH3
  have I5 : L2.Inv X pins σ H4 { s4 with heap := s4.heap.push { cls := .type "slice", data := .fields #[.none, vu, vs] } } := I4.kept (t' := s4.toks) fun b ob q => Heap.get?_push_of_some _ q
  obtain ⟨its, r, ht, hz⟩ := I5.list hx
  have hlen : its.length = xs.length := r.length.symm
  show wpAny (model X.prog X.w) X.A (subscriptTail e (.Slice none none (some st) p2) (.ref a) (.ref s4.heap.objs.size)) (EP X pins σ Q) X.xe { s4 with heap := s4.heap.push { cls := .type "slice", data := .fields #[.none, vu, vs] } }
  refine tail_any (ops := ops (.ref a) (.ref s4.heap.objs.size)) ht.isList.typeIs slot_list_getitem.lookup ?_ (hsub _ _)
  refine wpAny_getItem_list_slice ht.isList (Heap.IsSliceOf.new ..) .none pu ps (by decide) ?_ (by rw [List.size_toArray, hlen]; exact hz)
  show EP X pins σ Q _ _
  rw [show slicePick its.toArray none (downHi false) (some (-1)) = its.reverse.toArray from pick_rev its]
  refine ⟨.ref _, _, I5.laid (o := .lst xs.reverse) (fun b ob q => Heap.get?_push_of_some _ q) (Nat.le_refl _) ?_, rfl, q1 _ (I5.hok.fresh (Nat.le_refl _))⟩
  exact ⟨by rw [List.length_reverse]; exact hz, _, 0, vals_rev r, Heap.get?_push_size _ rfl⟩
def wRevL (we : WE) : WE := fun S Q => we S fun d S' => ∃ ds, S'.lst d = some ds ∧ Q (.l ds.reverse) S'
theorem v_revl {j : Nat} {q1 q2 : Pos} (he : PE X e (lE X.K c we)) : PE X (.Subscript e (.Slice none none (some (.UnaryOp .USub (.Constant (.int 1) j q1) q2)) p2) pos) (lE X.K c (wRevL we)) := pe_imp (pe_revL (fun v u => [v, u]) (fun _ _ => by with_unfolding_all rfl) he po_m1) fun σ H Q h => by
  obtain ⟨S, Qd, r, h, p⟩ := h
  refine ⟨S, _, r, h, fun d S1 h1 H1 v r1 k1 p1 => ?_⟩
  obtain ⟨ds, h2, h3⟩ := h1
  obtain ⟨w, vs, rfl, g1, g2⟩ := lst_ok r1 p1 h2
  refine ⟨w, vs, rfl, SqL.of g1, fun q nq => ?_⟩
  obtain ⟨r2, k2, nA⟩ := r1.alloc (o := .lst vs.reverse) nq
  exact p _ _ h3 _ _ r2 (k1.trans k2) (.inl (.l upd_same nA (g2.reverse.kp (kA k2))))
end
end VL
set_option Elab.async false
set_option linter.all false
set_option maxRecDepth 100000
set_option maxHeartbeats 1000000
namespace VL
open PySem PySem.Spec PyProof.Rows L2
def tdD (κ : Da) (r : Rw) : Da := .t [pathD r.path, r.q.da κ, optS r.x, noteD κ r.xn]
def Bk.kids (path : List Nat) (i : Nat) : Bk → List Rw
  | .nil => []
  | .cons x xn q r => ⟨path ++ [i], q, x, xn⟩ :: Bk.kids path (i + 1) r
def rwRows (r : Rw) : List Rw := r.q.rows r.path r.x r.xn
theorem kids_rows : ∀ (b : Bk) (path : List Nat) (i : Nat), (b.kids path i).flatMap rwRows = b.rows path i
  | .nil, path, i => by simp [Bk.kids, Bk.rows]
  | .cons x xn q r, path, i => by
    simp only [Bk.kids, Bk.rows, List.flatMap_cons, kids_rows r path (i + 1), rwRows]
def kidG (path : List Nat) : Da → Da
  | .t [.i k, .t [a, b, c]] => .t [.t (path.map ixD ++ [.i k]), c, a, b]
  | d => d
theorem kids_das (κ : Da) : ∀ (b : Bk) (path : List Nat) (i : Nat), (enumD i (b.das κ)).map (kidG path) = (b.kids path i).map (tdD κ)
  | .nil, path, i => by simp [Bk.kids, Bk.das, enumD]
  | .cons x xn q r, path, i => by
    simp only [Bk.kids, Bk.das, enumD, List.map_cons, kids_das κ r path (i + 1)]
    congr 1
    show Da.t [.t (path.map ixD ++ [.i (i : Int)]), q.da κ, optS x, noteD κ xn] = Da.t [pathD (path ++ [i]), q.da κ, optS x, noteD κ xn]
    unfold pathD
    rw [List.map_append]
    rfl
theorem enum_mem (κ : Da) : ∀ (b : Bk) (i : Nat) (d : Da), d ∈ enumD i (b.das κ) → ∃ (k : Nat) (x : Option Str) (xn : Bool) (q : Pt), d = .t [.i (k : Int), .t [optS x, noteD κ xn, q.da κ]]
  | .nil, i, d, h => by simp [Bk.das, enumD] at h
  | .cons x xn q r, i, d, h => by
    simp only [Bk.das, enumD] at h
    rcases List.mem_cons.mp h with h | h
    · exact ⟨i, x, xn, q, h⟩
    · exact enum_mem κ r (i + 1) d h
def cnt (l : List Rw) : Nat := (l.map fun r => r.q.count).sum
theorem cnt_app (a b : List Rw) : cnt (a ++ b) = cnt a + cnt b := by simp [cnt]
theorem cnt_rev (a : List Rw) : cnt a.reverse = cnt a := by simp [cnt, List.sum_reverse]
theorem count_pos (q : Pt) : 1 ≤ q.count := by cases q <;> simp [Pt.count] <;> omega
theorem cnt_len : ∀ a : List Rw, a.length ≤ cnt a
  | [] => by simp
  | r :: a => by
    have := cnt_len a
    have := count_pos r.q
    simp only [cnt, List.map_cons, List.sum_cons, List.length_cons] at *
    omega
theorem kids_cnt : ∀ (b : Bk) (path : List Nat) (i : Nat), cnt (b.kids path i) = b.count
  | .nil, path, i => by simp [Bk.kids, Bk.count, cnt]
  | .cons x xn q r, path, i => by
    have := kids_cnt r path (i + 1)
    simp only [cnt, Bk.kids, Bk.count, List.map_cons, List.sum_cons] at *
    omega
theorem kids_ok : ∀ (b : Bk) (path : List Nat) (i : Nat), b.ok → ∀ r ∈ b.kids path i, r.q.ok ∧ r.path.length = path.length + 1 ∧ r.q.count ≤ b.count
  | .nil, path, i, _, r, h => by simp [Bk.kids] at h
  | .cons x xn q b, path, i, hb, r, h => by
    simp only [Bk.kids] at h
    simp only [Bk.ok] at hb
    simp only [Bk.count]
    rcases List.mem_cons.mp h with h | h
    · subst h
      exact ⟨hb.2.2.1, by simp, Nat.le_add_right _ _⟩
    · obtain ⟨h1, h2, h3⟩ := kids_ok b path (i + 1) hb.2.2.2 r h
      exact ⟨h1, h2, by omega⟩
end VL
set_option Elab.async false
set_option linter.all false
set_option maxRecDepth 100000
set_option maxHeartbeats 1000000
namespace VL
open PySem PySem.Spec PyProof.Rows L2
def rdInR : RD := fun x y S Q => ∃ ds, S.lst y = some ds ∧ x.eqb = true ∧ (Da.l ds).eqb = true ∧ Q (.b ((pys ds).any fun z => PyData.eqv z x.py)) S
section
variable {K : PySem.W.Frag} {c : Cq}
theorem lInR : OpL K c (rInD K) rdInR := fun σ H S x y dx dy Qd Q r rx ry h p => by
  obtain ⟨ds, hl, h1, h2, h⟩ := h
  obtain ⟨q, vs, rfl, g1, g2⟩ := lst_ok r ry hl
  have hp := (eqb_shaped h2).2
  have hs := (eqb_shaped h2).1
  rw [Da.py] at hs
  exact ⟨_, _, (rx.pure (eqb_no h1)).dp (eqb_shaped h1).2, .lst (SqL.of g1) (RpA.dp (by simpa [Da.pl] using hp) g2), (eqb_shaped h1).1, hs, p _ _ h _ _ r .refl (.inl (.b _))⟩
end
end VL
namespace VL
open PySem PySem.Spec PyProof.Rows L2
theorem hu65 {k : Nat} {A : Around} (hr : Room k A) : A.units + 65 < cLine := by have := hr.un; omega
end VL
set_option Elab.async false
set_option linter.all false
set_option maxRecDepth 100000
set_option maxHeartbeats 1000000
namespace VL
open PySem PySem.Spec PyProof.Rows L2
structure Own (K : PySem.W.Frag) (C : Addr) (m : Str) (f : Addr) : Prop where
  at_ : PySem.W.findIn K (.ref C) m = some (some (.ref f))
  fn : PySem.W.isFn K (.ref f) = true
/-- the object's own method, by values -/
def tOwn2 (C : Addr) (sp : Sp) (E : L2.St → XK) : L2.St → R2 := fun σ x y H Q => ∃ a dx fs, x = .ref a ∧ H a = some (.ins C dx fs) ∧ sp [x, y] H Q (E σ)
def tOpS (r : L2.St → R2) (ta tb : TE) : TE := fun σ H Q => ta σ H fun x H1 => tb σ H1 fun y H2 => r σ x y H2 Q
section
variable {X : Cx} {CX : CXT} {k : Nat} {C f : Addr} {fd : FuncData} {ps : List Str} {sp : Sp} {E : L2.St → XK} {pos : Pos} {e a b : Expr} {ta tb tv : TE} {r : L2.St → R2}
theorem ins_at {pins : List (Addr × Obj)} {σ : L2.St} {H : Hp} {s : Shared} {a dx : Addr} {fs : List (Str × V)} (I : Inv X pins σ H s) (ea : H a = some (.ins C dx fs)) : ∃ ox od, PySem.W.InstAt s.heap a ox C od := by
  obtain ⟨mA, O, _⟩ := ins_get I.hok ea
  obtain ⟨od, J, _⟩ := O.look
  exact ⟨_, od, J⟩
theorem run_in1 {pins : List (Addr × Obj)} {σ : L2.St} {H : Hp} {s : Shared} {Q : VK} {us : List Value} {vs : List V} (F : FnOk X.prog X.w X.K X.mg X.base CX k f fd ps sp) (hr : Room (k + 1) X.A) (hb : Binds X.K fd ps []) (hx : PassesAt CX X σ (E σ))
    (I : Inv X pins σ H s) (r : Vals vs us) (h : sp vs H Q (E σ)) : wpAny (model X.prog X.w) X.A.in1 (call (.ref f) us) (EP X pins σ Q) X.xe s := by
  have hl : us.length = ps.length := by rw [← r.length]; exact F.len _ _ _ _ h
  have hb2 := hb s us I.kIn (by simpa using hl)
  rw [List.append_nil] at hb2
  refine wpAny_call (codeAny_mono (F.run X.A.in1 X.stack s H ⟨us, []⟩ us vs Q (E σ) hr.in1 I.env0.in1 hb2 r h) fun r s' hq => ?_)
  cases r with
  | error e => exact hx pins H s e s' I hq
  | ok fl =>
    cases fl with
    | ret u => exact I.after hq
    | next => exact False.elim hq
    | brk => exact False.elim hq
    | cont => exact False.elim hq
/-- o[i], o's own __getitem__ -/
theorem pe_ownIx (o : Own X.K C "__getitem__" f) (hf : PySem.W.fnIn X.K f = true) (F : FnOk X.prog X.w X.K X.mg X.base CX k f fd ps sp) (hr : Room (k + 1) X.A) (hb : Binds X.K fd ps []) (hx : ∀ σ, PassesAt CX X σ (E σ)) (ha : PE X a ta) (hi : PE X b tb)
    (hsl : ∀ x i, subscripted b true x i = runValue (.builtin "lifetime.subscript" ⟨[x, i], []⟩) := by intro _ _; with_unfolding_all rfl) :
    PE X (.Subscript a b pos) (tOpS (tOwn2 C sp E) ta tb) := by
  refine ⟨fun pins s σ H Q I h => ?_⟩
  refine Subscript_ (thn (ha.run pins s σ H _ I h) fun u s1 ⟨x, H1, I1, rx, q⟩ => thn (hi.run pins s1 σ H1 _ I1 q) fun v s2 ⟨y, H2, I2, ry, q2⟩ => ?_)
  obtain ⟨p, dx, fs, rfl, ep, q3⟩ := q2
  obtain rfl : u = Value.ref p := rx
  obtain ⟨ox, od, J⟩ := ins_at I2 ep
  obtain ⟨m, hF⟩ := I2.fr
  exact PySem.W.sub_K hF I2.ok.mod.kin J o.at_ hf o.fn (run_in1 (vs := [.ref p, y]) F hr hb (hx σ) I2 (.cons rfl (.cons ry .nil)) q3) (hsl _ _)
/-- o[i] = v, o's own __setitem__ -/
def tPutO (C : Addr) (sp : Sp) (E : L2.St → XK) (tv to ti : TE) : TS := fun D σ H => tv σ H fun v H1 => to σ H1 fun x H2 => ti σ H2 fun y H3 => ∃ a dx fs, x = .ref a ∧ H3 a = some (.ins C dx fs) ∧ sp [x, y, v] H3 (fun _ H4 => D.nx σ H4) (E σ)
theorem own_setItem {pins : List (Addr × Obj)} {σ : L2.St} {H : Hp} {s : Shared} {p dx : Addr} {fs : List (Str × V)} {iv u : Value} {y v : V} {Q : Hp → Prop} (o : Own X.K C "__setitem__" f) (hq : PySem.W.noSeq X.K C = true) (F : FnOk X.prog X.w X.K X.mg X.base CX k f fd ps sp) (hr : Room k X.A) (hb : Binds X.K fd ps []) (hx : ∀ σ, PassesAt CX X σ (E σ))
    (I : Inv X pins σ H s) (ep : H p = some (.ins C dx fs)) (ry : RelV y iv) (rv : RelV v u) (q : sp [.ref p, y, v] H (fun _ H4 => Q H4) (E σ)) :
    wpAny (model X.prog X.w) X.A (setItem (.ref p) iv u) (fun _ s' => ∃ H', Inv X pins σ H' s' ∧ Q H') X.xe s := by
  obtain ⟨ox, od, J⟩ := ins_at I ep
  unfold setItem sequenceKey
  refine wpAny_holding (wpAny_bind (wpAny_bind (J.type.here ?_)))
  refine wpAny_bind ((PySem.W.anyM_none I.kIn hq).here ?_)
  rw [if_pos (show (!false) = true from rfl)]
  refine wpAny_pure (wpAny_bind (PySem.W.special_fn I.kIn J o.at_ (beq_iff_eq.mp o.fn) (thn (run_fnSD (Q := fun _ H4 => Q H4) (dvs := []) (ds := []) (us := [.ref p, iv, u]) (vs := [.ref p, y, v]) F hr hb .nil (hx σ) I (.cons rfl (.cons ry (.cons rv .nil))) q) fun r s1 ⟨z, H1, I1, rz, q2⟩ => ?_)))
  exact wpAny_pure ⟨H1, I1, q2⟩
theorem ps_ownPut {o i value : Expr} {pos' : Pos} {to ti : TE} (ow : Own X.K C "__setitem__" f) (hq : PySem.W.noSeq X.K C = true) (F : FnOk X.prog X.w X.K X.mg X.base CX k f fd ps sp) (hr : Room k X.A) (hb : Binds X.K fd ps []) (hx : ∀ σ, PassesAt CX X σ (E σ))
    (hv : PE X value tv) (ho : PE X o to) (hi : PE X i ti) (hs : swapsWith value (some (.Subscript o i pos')) pos.line X.env = pure false := by rfl)
    (hsw : swapsWithSole [.Subscript o i pos'] value pos.line X.env = pure false := by rfl) (hw : swappedStores [.Subscript o i pos'] value X.env = pure none := by rfl)
    (h1 : (assignEach [.Subscript o i pos'] X.env).map (·.2) = [assign (.Subscript o i pos') X.env] := by rfl)
    (ha : ∀ v, assign (.Subscript o i pos') X.env v = (do
      let ov ← holding [v] (eval o X.env)
      let iv ← holding [v, ov] (eval i X.env)
      standAt pos'
      holding [v, ov, iv] (setItem ov iv v)
      release [v, ov, iv] []) := by intro _; rfl) : PS X (.Assign [.Subscript o i pos'] value pos) (tPutO C sp E tv to ti) := by
  refine ps_imp (ps_asg hv (g := fun v σ H R => to σ H fun x H2 => ti σ H2 fun y H3 => ∃ a dx fs, x = .ref a ∧ H3 a = some (.ins C dx fs) ∧ sp [x, y, v] H3 (fun _ H4 => R σ H4) (E σ)) ⟨fun pins s σ H v u Q I r h => ?_⟩ hsw hw h1) fun D σ H h => h
  rw [ha]
  refine wpAny_bind (wpAny_holding (thn (ho.run pins s σ H _ I h) fun ov s1 ⟨x, H1, I1, r1, q1⟩ => ?_))
  refine wpAny_bind (wpAny_holding (thn (hi.run pins s1 σ H1 _ I1 q1) fun iv s2 ⟨y, H2, I2, r2, p, dx, fs, ex, ep, q2⟩ => ?_))
  subst ex
  obtain rfl : ov = Value.ref p := r1
  refine wpAny_bind (wpAny_standAt (wpAny_bind (wpAny_holding (thn (own_setItem ow hq F hr hb hx I2 ep r2 r q2) fun _ s3 ⟨H3, I3, q3⟩ => ?_))))
  exact wpAny_release ⟨σ, H3, I3, q3⟩
end
end VL
set_option Elab.async false
set_option linter.all false
set_option maxRecDepth 100000
set_option maxHeartbeats 1000000
namespace VL
open PySem PySem.Spec PyProof.Rows L2
def isIns (S : Sx) (C : Addr) (d : Da) (gs : List (Str × Da)) : Prop := match d with
  | .r a => S.M a = some (.ins C gs)
  | .ins C' gs' => C' = C ∧ gs' = gs
  | _ => False
def putG (f : Str) (v : Da) : List (Str × Da) → List (Str × Da)
  | [] => [(f, v)]
  | (g, x) :: r => if g = f then (g, v) :: r else (g, x) :: putG f v r
section
variable {K : PySem.W.Frag} {c : Cq} {S S' : Sx} {σ : L2.St} {H H' : Hp} {A : Addr → Prop} {v : V} {d : Da} {C : Addr} {gs : List (Str × Da)} {fs : List (Str × V)} {f : Str}
theorem rpf_some : ∀ {fs : List (Str × V)} {gs : List (Str × Da)} {d : Da}, RpF K A H fs gs → gs.lookup f = some d → ∃ v, fs.lookup f = some v ∧ Rp K A H v d
  | _, _, _, .nil, h => by simp at h
  | _, _, d, .cons (k := k) h r, e => by
    rw [List.lookup_cons] at e ⊢
    cases q : (f == k) with
    | true => rw [q] at e; cases e; exact ⟨_, rfl, h⟩
    | false => rw [q] at e; exact rpf_some r e
theorem rpf_none : ∀ {fs : List (Str × V)} {gs : List (Str × Da)}, RpF K A H fs gs → gs.lookup f = none → fs.lookup f = none
  | _, _, .nil, _ => rfl
  | _, _, .cons (k := k) h r, e => by
    rw [List.lookup_cons] at e ⊢
    cases q : (f == k) with
    | true => rw [q] at e; cases e
    | false => rw [q] at e; exact rpf_none r e
theorem rpf_len : ∀ {fs : List (Str × V)} {gs : List (Str × Da)}, RpF K A H fs gs → fs.length = gs.length
  | _, _, .nil => rfl
  | _, _, .cons h r => by rw [List.length_cons, List.length_cons, rpf_len r]
theorem rpf_put (hd : Rp K A H v d) : ∀ {fs : List (Str × V)} {gs : List (Str × Da)}, RpF K A H fs gs → RpF K A H (putF f v fs) (putG f d gs)
  | _, _, .nil => .cons hd .nil
  | _, _, .cons (k := k) h r => by
    unfold putF putG
    by_cases q : k = f
    · rw [if_pos q, if_pos q]; exact .cons hd r
    · rw [if_neg q, if_neg q]; exact .cons h (rpf_put hd r)
theorem ins_ok (r : Rel K c S σ H) (h : RpS K (S.A c) σ H v d) (e : isIns S C d gs) : ∃ a dx fs, v = .ref a ∧ H a = some (.ins C dx fs) ∧ RpF K (S.A c) H fs gs := by
  cases d <;> try exact e.elim
  case ins C' gs' =>
    obtain ⟨rfl, rfl⟩ := e
    cases h.pure rfl with
    | ins h1 h2 h3 => exact ⟨_, _, _, rfl, h1, h3⟩
  case r a =>
    rw [rs_r h]
    obtain ⟨dx, fs, h1, h2⟩ := r.mem a _ e
    exact ⟨_, dx, fs, rfl, h1, h2⟩
theorem ins_pure (e : isIns S C d gs) : d.isO = false := by cases d <;> first | rfl | exact e.elim
end
section
variable {X : Cx} {c : Cq} {C : Addr} {f : Str} {e o value : Expr} {pos pos' apos p : Pos} {we wv wo : WE}
/-- e.f -/
def wFld (C : Addr) (f : Str) (we : WE) : WE := fun S Q => we S fun d S' => ∃ gs v, isIns S' C d gs ∧ gs.lookup f = some v ∧ Q v S'
theorem v_fld (cl : Cls X.K C) (na : NoAttr X.K C f) (he : PE X e (lE X.K c we)) (hb : attributeBase e f X.env (eval e X.env) = eval e X.env := by rfl) : PE X (.Attribute e f pos) (lE X.K c (wFld C f we)) := pe_imp (pe_fld he hb) fun σ H Q h => by
  obtain ⟨S, Qd, r, h, p⟩ := h
  refine ⟨S, _, r, h, fun d S1 h1 H1 v r1 k1 p1 => ?_⟩
  obtain ⟨gs, y, hi, hl, q⟩ := h1
  obtain ⟨a, dx, fs, rfl, ha, hf⟩ := ins_ok r1 p1 hi
  obtain ⟨u, hu, ru⟩ := rpf_some hf hl
  exact ⟨a, C, dx, fs, u, rfl, ha, cl, na, hu, p _ _ q _ _ r1 k1 (.inl ru)⟩
/-- o.f = v -/
def wPutF (C : Addr) (f : Str) (wv wo : WE) : WS := fun D S => wv S fun v S1 => wo S1 fun x S2 => v.isO = false ∧ ∃ a gs, x = .r a ∧ S2.M a = some (.ins C gs) ∧ gs.length < 1000 ∧ D.nx ⟨S2.ρ, updM S2.M a (.ins C (putG f v gs))⟩
theorem s_fld (cl : Cls X.K C) (na : NoAttr X.K C f) (hv : PE X value (lE X.K c wv)) (ho : PE X o (lE X.K c wo)) (hs : swapsWith value (some (.Attribute o f pos')) pos.line X.env = pure false := by rfl) :
    PS X (.Assign [.Attribute o f pos'] value pos) (lS X.K c (wPutF C f wv wo)) := ps_imp (ps_fld ho hv hs) fun D σ H h => by
  obtain ⟨S, Dd, r, h, p⟩ := h
  refine ⟨S, _, r, h, fun d S1 h1 H1 v r1 k1 p1 => ⟨S1, _, r1, h1, fun x S2 h2 H2 u r2 k2 p2 => ?_⟩⟩
  obtain ⟨dO, a, gs, rfl, ha, hl, q⟩ := h2
  have eu := rs_r p2
  subst eu
  obtain ⟨dx, fs, h1', h2'⟩ := r2.mem a _ ha
  obtain ⟨r3, k3⟩ := r2.updM (m' := .ins C (putG f d gs)) (o' := .ins C dx (putF f v fs)) ha h1' trivial fun A k => ⟨dx, _, upd_same, rpf_put ((p1.pure dO).kp (kA k2) |>.kp k) (h2'.kp k)⟩
  exact ⟨a, C, dx, fs, rfl, h1', cl, na, by rw [rpf_len h2']; exact hl, p.nx _ q _ _ r3 ((k1.trans k2).trans k3)⟩
variable {k : Nat} {fa : Addr} {fd : FuncData} {ps : List Str} {dc : DC} {dvs : List V} {dvs' : List Value} {dd : List Da} {x m : Str} {es : List Expr} {wl : WA} {Xs : Value → Option (List (Str × Da)) → Sx → Prop} {W : WX}
def wMeth (C : Addr) (m : Str) (dc : DC) (dd : List Da) (Xs : Value → Option (List (Str × Da)) → Sx → Prop) (we : WE) (wa : WA) : WE := fun S Q => we S fun x S1 => ∃ gs, isIns S1 C x gs ∧ gs.lookup m = none ∧
  wa S1 fun vs S2 => dc (x :: (vs ++ dd)) S2.M (fun d M' => Q d ⟨S2.ρ, M'⟩) fun cls ofs M' => Xs cls ofs ⟨S2.ρ, M'⟩
def tMethS (C : Addr) (m : Str) (sp : Sp) (dvs : List V) (E : L2.St → XK) (ta : TE) (t : TA) : TE := fun σ H Q => ta σ H fun x H1 => ∃ a dx fs, x = .ref a ∧ H1 a = some (.ins C dx fs) ∧ fs.lookup m = none ∧ t σ H1 fun vs H2 => sp (x :: (vs ++ dvs)) H2 Q (E σ)
theorem pe_methSX {CX : CXT} {sp : Sp} {E : L2.St → XK} {ta : TE} {t : TA} {pl : Sem Bool} (he : PE X o ta) (cl : Cls X.K C) (hm : Meth X.K C m fa) (F : FnOk X.prog X.w X.K X.mg X.base CX k fa fd ps sp) (hr : Room k X.A) (hb : Binds X.K fd ps dvs') (hd : Vals dvs dvs') (hx : ∀ σ, PassesAt CX X σ (E σ)) (ha : PA X (e :: es) t)
    (hst : starEach (e :: es) X.env = (false, eval e X.env) :: starEach es X.env := by rfl) (hpl : (backTo pos (starEach es X.env)).any (·.1) = false := by rfl)
    (ht : eval (.Call (.Attribute o m apos) (e :: es) [] pos) X.env = (do
      let ov ← eval o X.env
      standAt apos.atName
      let (f, first) ← holding [ov] (getMethod ov m pl)
      callWith pos f first (backTo pos (starEach (e :: es) X.env)) (backToKw pos (keywordEach [] X.env))) := by rfl) :
    PE X (.Call (.Attribute o m apos) (e :: es) [] pos) (tMethS C m sp dvs E ta t) := by
  refine ⟨fun pins s σ H Q I h => ?_⟩
  refine PySem.W.methodCall_KW (pl := pl) (thn (he.run pins s σ H _ I h) fun u s1 ⟨x, H1, I1, rx, a, dx, fs, ex, ea, l, q⟩ => ?_) ht
  subst ex
  obtain rfl : u = Value.ref a := rx
  refine getmeth_ok I1 ea cl hm l ?_
  refine PySem.W.callWith_K (first := [.ref a]) (h₀ := X.base) I.ok.mod.kin hm.kp (thn (ha.run pos pins s1 σ H1 _ I1 q) fun us s2 ⟨vs, H2, I2, r, q2⟩ => ⟨I2.kIn, ?_⟩) hst hpl
  exact run_fnSD (us := .ref a :: us) (vs := .ref a :: vs) F hr hb hd (hx σ) I2 (.cons rfl r) q2
theorem lmeth {K : PySem.W.Frag} (hdd : ∀ A H, RpA K A H dvs dd) (hX : XOk K c Xs W) {we : WE} {wl : WA} : ∀ σ H Q, lE K c (wMeth C m dc dd Xs we wl) σ H Q → tMethS C m (spOf K dc) dvs (fun σ cls d H' => W cls d σ H') (lE K c we) (lA K c wl) σ H Q := fun σ H Q h => by
  obtain ⟨S, Qd, r, h, p⟩ := h
  refine ⟨S, _, r, h, fun x S1 h1 H1 v r1 k1 p1 => ?_⟩
  obtain ⟨gs, hi, hl, h1⟩ := h1
  obtain ⟨a, dx, fs, rfl, ha, hf⟩ := ins_ok r1 p1 hi
  exact ⟨a, dx, fs, rfl, ha, rpf_none hf hl, S1, _, r1, h1, fun ds S2 h2 H2 vs r2 k2 p2 => sp_call r2 (.cons ((p1.pure (ins_pure hi)).kp (kA k2)) (p2.append (hdd _ _))) h2 (p.at (k1.trans k2)) hX⟩
theorem v_methD {pl : Sem Bool} (F : FnOk X.prog X.w X.K X.mg X.base (L2.CX X.prog X.w) k fa fd ps (spOf X.K dc)) (hr : Room k X.A) (cl : Cls X.K C) (hm : Meth X.K C m fa) (hb : Binds X.K fd ps dvs') (hd : Vals dvs dvs') (hdd : ∀ A H, RpA X.K A H dvs dd)
    (tk : Takes X W) (hX : XOk X.K c Xs W) (he : PE X o (lE X.K c we)) (ha : PA X (e :: es) (lA X.K c wl)) (hst : starEach (e :: es) X.env = (false, eval e X.env) :: starEach es X.env := by rfl) (hpl : (backTo pos (starEach es X.env)).any (·.1) = false := by rfl)
    (ht : eval (.Call (.Attribute o m apos) (e :: es) [] pos) X.env = (do
      let ov ← eval o X.env
      standAt apos.atName
      let (f, first) ← holding [ov] (getMethod ov m pl)
      callWith pos f first (backTo pos (starEach (e :: es) X.env)) (backToKw pos (keywordEach [] X.env))) := by rfl) :
    PE X (.Call (.Attribute o m apos) (e :: es) [] pos) (lE X.K c (wMeth C m dc dd Xs we wl)) := pe_imp (pe_methSX he cl hm F hr hb hd (fun σ => passAt tk σ) ha hst hpl ht) (lmeth hdd hX)
theorem v_meth {pl : Sem Bool} (F : FnOk X.prog X.w X.K X.mg X.base (L2.CX X.prog X.w) k fa fd ps (spOf X.K dc)) (hr : Room k X.A) (cl : Cls X.K C) (hm : Meth X.K C m fa) (hb : Binds X.K fd ps [])
    (tk : Takes X W) (hX : XOk X.K c Xs W) (he : PE X o (lE X.K c we)) (ha : PA X (e :: es) (lA X.K c wl)) (hst : starEach (e :: es) X.env = (false, eval e X.env) :: starEach es X.env := by rfl) (hpl : (backTo pos (starEach es X.env)).any (·.1) = false := by rfl)
    (ht : eval (.Call (.Attribute o m apos) (e :: es) [] pos) X.env = (do
      let ov ← eval o X.env
      standAt apos.atName
      let (f, first) ← holding [ov] (getMethod ov m pl)
      callWith pos f first (backTo pos (starEach (e :: es) X.env)) (backToKw pos (keywordEach [] X.env))) := by rfl) :
    PE X (.Call (.Attribute o m apos) (e :: es) [] pos) (lE X.K c (wMeth C m dc [] Xs we wl)) := v_methD F hr cl hm hb .nil (fun _ _ => .nil) tk hX he ha hst hpl ht
def wMake (C : Addr) (dc : DC) (dd : List Da) (Xs : Value → Option (List (Str × Da)) → Sx → Prop) (wa : WA) : WE := fun S Q => wa S fun vs S1 => ∀ x, S1.M x = none →
  dc (.r x :: (vs ++ dd)) (updM S1.M x (.ins C [])) (fun d M' => d = .n ∧ Q (.r x) ⟨S1.ρ, M'⟩) fun cls ofs M' => Xs cls ofs ⟨S1.ρ, M'⟩
def tMakeS (C : Addr) (sp : Sp) (dvs : List V) (E : L2.St → XK) (t : TA) : TE := fun σ H Q => t σ H fun vs H1 => ∀ x dx, H1 x = none → H1 dx = none → dx ≠ x → sp (.ref x :: (vs ++ dvs)) (upd (upd H1 dx (.own x)) x (.ins C dx [])) (fun v H2 => v = .non ∧ Q (.ref x) H2) (E σ)
theorem run_makeS {CX : CXT} {sp : Sp} {E : XK} {pins : List (Addr × Obj)} {σ : L2.St} {H : Hp} {s : Shared} {Q : VK} {us : List Value} {vs : List V} (M : Mk X.K C fa) (F : FnOk X.prog X.w X.K X.mg X.base CX k fa fd ps sp) (hr : Room (k + 1) X.A) (hb : Binds X.K fd ps dvs') (hd : Vals dvs dvs')
    (hx : PassesAt CX X σ E) (I : Inv X pins σ H s) (r : Vals vs us)
    (h : ∀ x dx, H x = none → H dx = none → dx ≠ x → sp (.ref x :: (vs ++ dvs)) (upd (upd H dx (.own x)) x (.ins C dx [])) (fun v H2 => v = .non ∧ Q (.ref x) H2) E) :
    wpAny (model X.prog X.w) X.A (call (.ref C) us) (EP X pins σ Q) X.xe s := by
  have hq := h (s.heap.objs.size + 1) s.heap.objs.size (I.hok.fresh (Nat.le_succ _)) (I.hok.fresh (Nat.le_refl _)) (Nat.ne_of_lt (Nat.lt_succ_self _))
  have I2 := Inv.made (C := C) I
  have r2 : Vals (V.ref (s.heap.objs.size + 1) :: (vs ++ dvs)) (Value.ref (s.heap.objs.size + 1) :: (us ++ dvs')) := .cons rfl (r.append hd)
  have hl : (Value.ref (s.heap.objs.size + 1) :: us ++ dvs').length = ps.length := by
    have e := r2.length
    rw [F.len _ _ _ _ hq] at e
    exact e.symm
  refine wpAny_call (make_map (f := fa) I.kIn M.makes M.init (beq_iff_eq.mp M.fn) (codeAny_mono (F.run _ X.stack _ _ ⟨Value.ref (s.heap.objs.size + 1) :: us, []⟩ (Value.ref (s.heap.objs.size + 1) :: (us ++ dvs')) _ _ E (hr.make C us [])
    (I2.env0.make C us []) (hb _ (Value.ref (s.heap.objs.size + 1) :: us) I2.kIn hl) r2 hq) fun r s' hq' => ?_))
  cases r with
  | error e => exact hx pins _ _ e s' I2 hq'
  | ok fl =>
    cases fl with
    | ret u =>
      obtain ⟨v, H', I3, rv, ev, q3⟩ := I2.after hq'
      subst ev
      exact ⟨rv, ⟨V.ref (s.heap.objs.size + 1), H', I3, rfl, q3⟩⟩
    | next => exact False.elim hq'
    | brk => exact False.elim hq'
    | cont => exact False.elim hq'
theorem make_ok {K : PySem.W.Frag} {S1 : Sx} {σ : L2.St} {H1 : Hp} {vs : List V} {ds : List Da} {Q : VK} {Qd : Da → Sx → Prop} (hdd : ∀ A H, RpA K A H dvs dd) (hX : XOk K c Xs W) (r1 : Rel K c S1 σ H1) (p1 : RpA K (S1.A c) H1 vs ds) (p : Pst K c S1 σ H1 Qd Q)
    (h2 : ∀ x, S1.M x = none → dc (.r x :: (ds ++ dd)) (updM S1.M x (.ins C [])) (fun d M' => d = .n ∧ Qd (.r x) ⟨S1.ρ, M'⟩) fun cls ofs M' => Xs cls ofs ⟨S1.ρ, M'⟩) (x dx : Addr) (nx : H1 x = none) (ndx : H1 dx = none) (ne : dx ≠ x) :
    spOf K dc (.ref x :: (vs ++ dvs)) (upd (upd H1 dx (.own x)) x (.ins C dx [])) (fun v H2 => v = .non ∧ Q (.ref x) H2) (fun cls d H' => W cls d σ H') := by
  have r2 := r1.new (o := .own x) ndx
  have k2 : Kp S1.W S1.W H1 (upd H1 dx (.own x)) := .same (same_upd ndx)
  have nx2 : upd H1 dx (.own x) x = none := by rw [upd_ne (Ne.symm ne)]; exact nx
  obtain ⟨r3, k3⟩ := r2.newM (m := .ins C []) (o := .ins C dx []) nx2 fun A k => ⟨dx, [], upd_same, .nil⟩
  refine sp_call (Qd := fun d S' => d = .n ∧ Qd (.r x) S') r3 (.cons (.r x) ((p1.kp (kA (k2.trans k3))).append (hdd _ _))) (h2 x (m_none r1 nx)) (fun d S' h H' v r4 k4 p4 => ?_) hX
  obtain ⟨rfl, h⟩ := h
  exact ⟨rs_n p4, p _ _ h _ _ r4 ((k2.trans k3).trans k4) (.inl (.r x))⟩
theorem v_makeD (F : FnOk X.prog X.w X.K X.mg X.base (L2.CX X.prog X.w) k fa fd ps (spOf X.K dc)) (hr : Room (k + 1) X.A) (M : Mk X.K C fa) (hg : Gl X x) (hm : X.mg x = some (.ref C)) (hb : Binds X.K fd ps dvs') (hd : Vals dvs dvs') (hdd : ∀ A H, RpA X.K A H dvs dd)
    (tk : Takes X W) (hX : XOk X.K c Xs W) (ha : PA X (e :: es) (lA X.K c wl)) (hdb : (x == ("__debug__" : Str)) = false := by decide) (he : starEach (e :: es) X.env = (false, eval e X.env) :: starEach es X.env := by rfl) (hpl : (backTo pos (starEach es X.env)).any (·.1) = false := by rfl) :
    PE X (.Call (.Name x p) (e :: es) [] pos) (lE X.K c (wMake C dc dd Xs wl)) := by
  refine pe_imp (t := tMakeS C (spOf X.K dc) dvs (fun σ cls d H' => W cls d σ H') (lA X.K c wl)) ⟨fun pins s σ H Q I h => ?_⟩ fun σ H Q h => ?_
  · refine wpAny_Call_Name_kw (ld_glob I hg hm ?_ hdb)
    refine PySem.W.callWith_K (h₀ := X.base) I.ok.mod.kin M.kp (thn (ha.run pos pins s σ H _ I h) fun us s1 ⟨vs, H1, I1, r, q⟩ => ⟨I1.kIn, ?_⟩) he hpl
    exact run_makeS M F hr hb hd (passAt tk σ) I1 r q
  · obtain ⟨S, Qd, r, h, p⟩ := h
    exact ⟨S, _, r, h, fun ds S1 h1 H1 vs r1 k1 p1 x dx nx ndx ne => make_ok hdd hX r1 p1 (p.at k1) h1 x dx nx ndx ne⟩
theorem v_make (F : FnOk X.prog X.w X.K X.mg X.base (L2.CX X.prog X.w) k fa fd ps (spOf X.K dc)) (hr : Room (k + 1) X.A) (M : Mk X.K C fa) (hg : Gl X x) (hm : X.mg x = some (.ref C)) (hb : Binds X.K fd ps [])
    (tk : Takes X W) (hX : XOk X.K c Xs W) (ha : PA X (e :: es) (lA X.K c wl)) (hdb : (x == ("__debug__" : Str)) = false := by decide) (he : starEach (e :: es) X.env = (false, eval e X.env) :: starEach es X.env := by rfl) (hpl : (backTo pos (starEach es X.env)).any (·.1) = false := by rfl) :
    PE X (.Call (.Name x p) (e :: es) [] pos) (lE X.K c (wMake C dc [] Xs wl)) := v_makeD F hr M hg hm hb .nil (fun _ _ => .nil) tk hX ha hdb he hpl
end
end VL
set_option Elab.async false
set_option linter.all false
set_option maxRecDepth 100000
set_option maxHeartbeats 1000000
namespace VL
open PySem PySem.Spec PyProof.Rows L2
abbrev DXs := Value → Option (List (Str × Da)) → Sx → Prop
def rdOwn (C : Addr) (dc : DC) (Xs : DXs) : RD := fun x y S Q => ∃ gs, isIns S C x gs ∧ y.isO = false ∧ dc [x, y] S.M (fun d M' => Q d ⟨S.ρ, M'⟩) fun cls ofs M' => Xs cls ofs ⟨S.ρ, M'⟩
def OpLS (K : PySem.W.Frag) (c : Cq) (r : L2.St → R2) (rd : RD) : Prop := ∀ σ H S x y dx dy Qd Q, Rel K c S σ H → RpS K (S.A c) σ H x dx → RpS K (S.A c) σ H y dy → rd dx dy S Qd → Pst K c S σ H Qd Q → r σ x y H Q
section
variable {X : Cx} {c : Cq} {k : Nat} {C f : Addr} {fd : FuncData} {ps : List Str} {dc : DC} {Xs : DXs} {W : WX} {pos pos' p apos : Pos} {e a b o i value : Expr} {es : List Expr} {wa wb wv wo wi : WE} {rd : RD} {r : L2.St → R2}
theorem lopS {K : PySem.W.Frag} (L : OpLS K c r rd) : ∀ σ H Q, lE K c (wOp rd wa wb) σ H Q → tOpS r (lE K c wa) (lE K c wb) σ H Q := fun σ H Q h => by
  obtain ⟨S, Qd, rr, h, p⟩ := h
  refine ⟨S, _, rr, h, fun x S1 h1 H1 v1 r1 k1 p1 => ⟨S1, _, r1, h1, fun y S2 h2 H2 v2 r2 k2 p2 => ?_⟩⟩
  exact L σ H2 S2 v1 v2 x y Qd Q r2 (p1.kp (kA k2)) p2 h2 (p.at (k1.trans k2))
theorem lOwn (hX : XOk X.K c Xs W) : OpLS X.K c (tOwn2 C (spOf X.K dc) (fun σ cls d H' => W cls d σ H')) (rdOwn C dc Xs) := fun σ H S x y dx dy Qd Q r rx ry h p => by
  obtain ⟨gs, hi, yO, h⟩ := h
  obtain ⟨a, ddx, fs, rfl, ha, hf⟩ := ins_ok r rx hi
  exact ⟨a, ddx, fs, rfl, ha, sp_call r (.cons (rx.pure (ins_pure hi)) (.cons (ry.pure yO) .nil)) h p hX⟩
/-- o[i], o's own __getitem__ -/
theorem v_ownIx (o : Own X.K C "__getitem__" f) (hf : PySem.W.fnIn X.K f = true) (F : FnOk X.prog X.w X.K X.mg X.base (L2.CX X.prog X.w) k f fd ps (spOf X.K dc)) (hr : Room (k + 1) X.A) (hb : Binds X.K fd ps []) (tk : Takes X W) (hX : XOk X.K c Xs W) (ha : PE X a (lE X.K c wa)) (hi : PE X b (lE X.K c wb))
    (hsl : ∀ x i, subscripted b true x i = runValue (.builtin "lifetime.subscript" ⟨[x, i], []⟩) := by intro _ _; with_unfolding_all rfl) :
    PE X (.Subscript a b pos) (lE X.K c (wOp (rdOwn C dc Xs) wa wb)) := pe_imp (pe_ownIx o hf F hr hb (fun σ => passAt tk σ) ha hi hsl) (lopS (lOwn hX))
/-- o[i] = v, o's own __setitem__ -/
def wPutO (C : Addr) (dc : DC) (Xs : DXs) (wv wo wi : WE) : WS := fun D S => wv S fun v S1 => wo S1 fun x S2 => wi S2 fun y S3 => v.isO = false ∧ y.isO = false ∧ ∃ gs, isIns S3 C x gs ∧ dc [x, y, v] S3.M (fun _ M' => D.nx ⟨S3.ρ, M'⟩) fun cls ofs M' => Xs cls ofs ⟨S3.ρ, M'⟩
theorem s_ownPut (ow : Own X.K C "__setitem__" f) (hq : PySem.W.noSeq X.K C = true) (F : FnOk X.prog X.w X.K X.mg X.base (L2.CX X.prog X.w) k f fd ps (spOf X.K dc)) (hr : Room k X.A) (hb : Binds X.K fd ps []) (tk : Takes X W) (hX : XOk X.K c Xs W)
    (hv : PE X value (lE X.K c wv)) (ho : PE X o (lE X.K c wo)) (hi : PE X i (lE X.K c wi)) (hs : swapsWith value (some (.Subscript o i pos')) pos.line X.env = pure false := by rfl)
    (hsw : swapsWithSole [.Subscript o i pos'] value pos.line X.env = pure false := by rfl) (hw : swappedStores [.Subscript o i pos'] value X.env = pure none := by rfl)
    (h1 : (assignEach [.Subscript o i pos'] X.env).map (·.2) = [assign (.Subscript o i pos') X.env] := by rfl)
    (ha : ∀ v, assign (.Subscript o i pos') X.env v = (do
      let ov ← holding [v] (eval o X.env)
      let iv ← holding [v, ov] (eval i X.env)
      standAt pos'
      holding [v, ov, iv] (setItem ov iv v)
      release [v, ov, iv] []) := by intro _; rfl) : PS X (.Assign [.Subscript o i pos'] value pos) (lS X.K c (wPutO C dc Xs wv wo wi)) :=
  ps_imp (ps_ownPut ow hq F hr hb (fun σ => passAt tk σ) hv ho hi hs hsw hw h1 ha) fun D σ H h => by
    obtain ⟨S, Dd, r, h, p⟩ := h
    refine ⟨S, _, r, h, fun v S1 h1 H1 vv r1 k1 p1 => ⟨S1, _, r1, h1, fun x S2 h2 H2 vx r2 k2 p2 => ⟨S2, _, r2, h2, fun y S3 h3 H3 vy r3 k3 p3 => ?_⟩⟩⟩
    obtain ⟨vO, yO, gs, hi, h4⟩ := h3
    have p2' := p2.kp (kA (c := c) k3)
    have p1' := (p1.kp (kA (c := c) (k2.trans k3))).pure vO
    obtain ⟨a, dx, fs, rfl, ha, hf⟩ := ins_ok r3 p2' hi
    refine ⟨a, dx, fs, rfl, ha, sp_call (Qd := fun _ S' => Dd.nx S') r3 (.cons (p2'.pure (ins_pure hi)) (.cons (p3.pure yO) (.cons p1' .nil))) h4 (fun d S' h' H' u r' k' p' => ?_) ?_⟩
    · exact p.nx _ h' _ _ r' (((k1.trans k2).trans k3).trans k')
    · exact hX
end
def Sx.dk (S : Sx) : Da → Option (List (Key × Da))
  | .dk kds => some kds
  | .r p => match S.M p with
    | some (.dk _ kds) => some kds
    | _ => none
  | _ => none
def Sx.dku (S : Sx) : Da → Option (List (Key × Da))
  | .dk kds => some kds
  | .r p => match S.M p with
    | some (.dk none kds) => some kds
    | _ => none
  | _ => none
section
variable {K : PySem.W.Frag} {c : Cq} {S S' : Sx} {σ : L2.St} {H H' : Hp} {A : Addr → Prop} {v : V} {d : Da} {kds : List (Key × Da)}
theorem dku_ok (r : Rel K c S σ H) (h : RpS K (S.A c) σ H v d) (e : S.dku d = some kds) : ∃ a kvs, v = .ref a ∧ H a = some (.dK kvs) ∧ RpK K (S.A c) H kvs kds := by
  cases d <;> try cases e
  case dk =>
    cases h.pure rfl with
    | dk h1 _ h3 => exact ⟨_, _, rfl, h1, h3⟩
  case r p =>
    rw [rs_r h]
    simp only [Sx.dku] at e
    split at e
    · rename_i kds' q
      cases e
      obtain ⟨kvs, h1, h2⟩ := r.mem p _ q
      exact ⟨p, kvs, rfl, h1, h2⟩
    · cases e
theorem dkv_ok (r : Rel K c S σ H) (h : RpS K (S.A c) σ H v d) (e : S.dk d = some kds) : ∃ a kvs, v = .ref a ∧ Rd H a (.dK kvs) ∧ RpK K (S.A c) H kvs kds := by
  cases d <;> try cases e
  case dk =>
    cases h.pure rfl with
    | dk h1 _ h3 => exact ⟨_, _, rfl, .inl h1, h3⟩
  case r p =>
    rw [rs_r h]
    simp only [Sx.dk] at e
    split at e
    · rename_i lk kds' q
      cases e
      obtain ⟨kvs, h1, h2⟩ := dk_ok r q
      exact ⟨p, kvs, rfl, h1, h2⟩
    · cases e
def rdDgetV : RD := fun x y S Q => ∃ kds k d, S.dk x = some kds ∧ y.key = some k ∧ valD kds k = some d ∧ Q d S
def rdDinV (neg : Bool) : RD := fun y x S Q => ∃ kds k, S.dk x = some kds ∧ y.key = some k ∧ Q (.b (if neg then !(valD kds k).isSome else (valD kds k).isSome)) S
theorem lDgetV : OpL K c (fun x y H Q => ∃ a v, x = .ref a ∧ DGet H a y (some v) ∧ Q v H) rdDgetV := fun σ H S x y dx dy Qd Q r rx ry h p => by
  obtain ⟨kds, k, d, e, hk, hv, q⟩ := h
  obtain ⟨a, kvs, rfl, h1, h2⟩ := dkv_ok r rx e
  rcases rpk_val k h2 with ⟨z, _⟩ | ⟨d', v, g1, g2, g3⟩
  · rw [hv] at z; cases z
  · rw [hv] at g1
    cases g1
    exact ⟨a, v, rfl, .inl ⟨kvs, k, h1, key_ok hk ry, g2.symm⟩, p _ _ q _ _ r .refl (.inl g3)⟩
theorem val_same {kvs : List (Key × V)} {k : Key} (h2 : RpK K A H kvs kds) : (valV kvs k).isSome = (valD kds k).isSome := by
  rcases rpk_val k h2 with ⟨z1, z2⟩ | ⟨d', v, g1, g2, g3⟩
  · rw [z1, z2]; rfl
  · rw [g1, g2]; rfl
theorem lDinV : OpL K c (fun y x H Q => ∃ a o, x = .ref a ∧ DGet H a y o ∧ Q (.bl o.isSome) H) (rdDinV false) := fun σ H S y x dy dx Qd Q r ry rx h p => by
  obtain ⟨kds, k, e, hk, q⟩ := h
  obtain ⟨a, kvs, rfl, h1, h2⟩ := dkv_ok r rx e
  refine ⟨a, valV kvs k, rfl, .inl ⟨kvs, k, h1, key_ok hk ry, rfl⟩, ?_⟩
  rw [val_same h2]
  exact p _ _ q _ _ r .refl (.inl (.b _))
theorem lDninV : OpL K c (fun y x H Q => ∃ a o, x = .ref a ∧ DGet H a y o ∧ Q (.bl (!o.isSome)) H) (rdDinV true) := fun σ H S y x dy dx Qd Q r ry rx h p => by
  obtain ⟨kds, k, e, hk, q⟩ := h
  obtain ⟨a, kvs, rfl, h1, h2⟩ := dkv_ok r rx e
  refine ⟨a, valV kvs k, rfl, .inl ⟨kvs, k, h1, key_ok hk ry, rfl⟩, ?_⟩
  rw [val_same h2]
  exact p _ _ q _ _ r .refl (.inl (.b _))
end
section
variable {X : Cx} {c : Cq} {pos pos' p apos : Pos} {e a b o i value tg : Expr} {es rest : List Expr} {we wa wb wv wd wk : WE}
theorem v_dgetV (hu : X.A.units + 1 < cLine) (ha : PE X a (lE X.K c wa)) (hb : PE X b (lE X.K c wb)) (hs : NoSl b) : PE X (.Subscript a b pos) (lE X.K c (wOp rdDgetV wa wb)) := pe_imp (pe_dget hu ha hb hs) fun σ H Q h => lop lDgetV σ H Q h
/-- d.get(k) and d.get(k, x) -/
def wDget1 (wd wk : WE) : WE := fun S Q => wd S fun x S1 => (∃ kds, S1.dk x = some kds) ∧ wk S1 fun y S2 => ∃ kds k, S2.dk x = some kds ∧ y.key = some k ∧ Q ((valD kds k).getD .n) S2
def wDget2 (wd wk wz : WE) : WE := fun S Q => wd S fun x S1 => (∃ kds, S1.dk x = some kds) ∧ wk S1 fun y S2 => wz S2 fun z S3 => ∃ kds k, S3.dk x = some kds ∧ y.key = some k ∧ z.isO = false ∧ Q ((valD kds k).getD z) S3
theorem v_dget1 (hu : X.A.units + 1 < cLine) (ho : PE X o (lE X.K c wd)) (he : PE X e (lE X.K c wk)) (m : M1 X o "get" apos e pos) : PE X (.Call (.Attribute o "get" apos) [e] [] pos) (lE X.K c (wDget1 wd wk)) := pe_imp (pe_dget1 hu ho he m) fun σ H Q h => by
  obtain ⟨S, Qd, r, h, p⟩ := h
  refine ⟨S, _, r, h, fun x S1 h1 H1 v r1 k1 p1 => ?_⟩
  obtain ⟨⟨kds, e⟩, h1⟩ := h1
  obtain ⟨a, kvs, rfl, hd, _⟩ := dkv_ok r1 p1 e
  refine ⟨a, rfl, .inl ⟨kvs, hd⟩, S1, _, r1, h1, fun y S2 h2 H2 u r2 k2 p2 => ?_⟩
  obtain ⟨kds2, k, e2, hk, q⟩ := h2
  obtain ⟨a2, kvs2, ea, hd2, rk⟩ := dkv_ok r2 (p1.kp (kA k2)) e2
  cases ea
  refine ⟨valV kvs2 k, .inl ⟨kvs2, k, hd2, key_ok hk p2, rfl⟩, p _ _ q _ _ r2 (k1.trans k2) (.inl ?_)⟩
  rcases rpk_val k rk with ⟨z1, z2⟩ | ⟨d', v, g1, g2, g3⟩
  · rw [z1, z2]; exact .n
  · rw [g1, g2]; exact g3
theorem v_dget2 (hu : X.A.units + 1 < cLine) {f : Expr} {wz : WE} (ho : PE X o (lE X.K c wd)) (he : PE X e (lE X.K c wk)) (hf : PE X f (lE X.K c wz)) (m : M2 X o "get" apos e f pos) : PE X (.Call (.Attribute o "get" apos) [e, f] [] pos) (lE X.K c (wDget2 wd wk wz)) := pe_imp (pe_dget2 hu ho he hf m) fun σ H Q h => by
  obtain ⟨S, Qd, r, h, p⟩ := h
  refine ⟨S, _, r, h, fun x S1 h1 H1 v r1 k1 p1 => ?_⟩
  obtain ⟨⟨kds, e⟩, h1⟩ := h1
  obtain ⟨a, kvs, rfl, hd, _⟩ := dkv_ok r1 p1 e
  refine ⟨a, rfl, .inl ⟨kvs, hd⟩, S1, _, r1, h1, fun y S2 h2 H2 u r2 k2 p2 => ⟨S2, _, r2, h2, fun z S3 h3 H3 t r3 k3 p3 => ?_⟩⟩
  obtain ⟨kds2, k, e2, hk, zO, q⟩ := h3
  obtain ⟨a2, kvs2, ea, hd2, rk⟩ := dkv_ok r3 (p1.kp (kA (k2.trans k3))) e2
  cases ea
  refine ⟨valV kvs2 k, .inl ⟨kvs2, k, hd2, key_ok hk p2, rfl⟩, p _ _ q _ _ r3 ((k1.trans k2).trans k3) (.inl ?_)⟩
  rcases rpk_val k rk with ⟨z1, z2⟩ | ⟨d', v, g1, g2, g3⟩
  · rw [z1, z2]; exact p3.pure zO
  · rw [g1, g2]; exact g3
/-- dict(d): a copy -/
def rDcopy : List V → Hp → VK → Prop := fun xs H Q => ∃ a kvs, xs = [.ref a] ∧ Rd H a (.dK kvs) ∧ ∀ p, H p = none → Q (.ref p) (upd H p (.dK kvs))
theorem call_dcopy : CallR X (.type "dict") rDcopy := by
  intro pins s σ H us vs Q I rv h
  obtain ⟨a, kvs, rfl, hd, q⟩ := h
  cases rv with
  | cons r1 r2 =>
    cases r2
    cases r1
    exact d_copyOf I hd fun p s' np I' => ⟨.ref p, _, I', rfl, q p np⟩
def rdDcopy : RU := fun d S Q => ∃ kds, S.dk d = some kds ∧ ∀ q, S.M q = none → Q (.r q) ⟨S.ρ, updM S.M q (.dk none kds)⟩
theorem lDcopy {K : PySem.W.Frag} : Un1 K c rDcopy rdDcopy := fun σ H S x d Qd Q r rx h p => by
  obtain ⟨kds, e, q⟩ := h
  obtain ⟨a, kvs, rfl, hd, rk⟩ := dkv_ok r rx e
  refine ⟨a, kvs, rfl, hd, fun b nb => ?_⟩
  obtain ⟨r2, k2⟩ := r.newM (o := .dK kvs) (m := .dk none kds) nb fun A k => ⟨kvs, upd_same, rk.kp k⟩
  exact p _ _ (q b (m_none r nb)) _ _ r2 k2 (.inl (.r b))
def rdLenD : RU := fun d S Q => ∃ kds, S.dku d = some kds ∧ Q (.i kds.length) S
theorem lLenD {K : PySem.W.Frag} : Un1 K c (rLenA K) rdLenD := fun σ H S x d Qd Q r rx h p => by
  obtain ⟨kds, e, q⟩ := h
  obtain ⟨a, kvs, rfl, hd, rk⟩ := dku_ok r rx e
  exact .inr ⟨_, _, rfl, hd, by rw [rpk_len rk]; exact p _ _ q _ _ r .refl (.inl (.i _))⟩
def dcGo (wg : WG) (wt : WT) (wk wv : WE) (vs : List Nat) (Q : List (Key × Da) → Sx → Prop) : List Da → List (Key × Da) → Sx → Prop
  | [], acc, S => Q acc S
  | d :: ds, acc, S => wg d (S.wipe vs) fun S2 => wt S2 fun b S3 => if b = true then wk S3 fun y S4 => wv S4 fun z S5 => ∃ k, y.key = some k ∧ z.isO = false ∧ acc.length < sizeLine ∧ dcGo wg wt wk wv vs Q ds (putD acc k z) (S.back S5 vs) else dcGo wg wt wk wv vs Q ds acc (S.back S3 vs)
def wDc (wi : WI) (wg : WG) (wt : WT) (wk wv : WE) (vs : List Nat) : WE := fun S Q => wi S fun ds S1 => dcGo wg wt wk wv vs (fun acc S2 => ∀ q, S2.M q = none → Q (.r q) ⟨S2.ρ, updM S2.M q (.dk none acc)⟩) ds [] (S1.norm vs)
theorem ldc {K : PySem.W.Frag} {wi : WI} {g : TG} {wg : WG} {tt : TT} {wt : WT} {tk tv : TE} {wk wv : WE} {is vs : List Nat} (L : ∀ c' : Cq, c'.n = c.n → LG K c' g wg is) (hv : ∀ i ∈ is, i ∈ vs) (ht : ∀ c' : Cq, c'.n = c.n → ∀ σ H Q, lT K c' wt σ H Q → tt σ H Q)
    (hk : ∀ c' : Cq, c'.n = c.n → ∀ σ H Q, lE K c' wk σ H Q → tk σ H Q) (he : ∀ c' : Cq, c'.n = c.n → ∀ σ H Q, lE K c' wv σ H Q → tv σ H Q) : ∀ σ H Q, lE K c (wDc wi wg wt wk wv vs) σ H Q → tDc (lWk K c wi) g tt tk tv vs σ H Q := fun σ H Q h => by
  obtain ⟨S, Qd, r, h, p⟩ := h
  refine ⟨S, _, r, h, fun ds S1 h1 H1 J r1 k1 ok D nD => ?_⟩
  have nk := r1.nk nD
  have nA : ¬ c.A0 D := fun z => (r1.a0 D z).1 nD
  obtain ⟨r1', _⟩ := r1.plus (o := .dK []) nD
  have sm1 : Same H1 (upd H1 D (.dK [])) := same_upd nD
  let Qe : List (Key × Da) → Sx → Prop := fun acc S2 => ∀ q, S2.M q = none → Qd (.r q) ⟨S2.ρ, updM S2.M q (.dk none acc)⟩
  refine ⟨fun i m H2 => m = ds.length - i ∧ i ≤ ds.length ∧ ∃ S2 acc vacc, Rel K (c.plus D) S2 σ H2 ∧ Kp S1.W S2.W H1 H2 ∧ H2 D = some (.dK vacc) ∧ RpK K (S2.A (c.plus D)) H2 vacc acc ∧ acc.length ≤ sizeLine ∧ dcGo wg wt wk wv vs Qe (ds.drop i) acc S2,
    ⟨ds.length, by simp, Nat.zero_le _, S1.norm vs, [], [], (r1'.back r1' .refl rfl fun _ _ => rfl).1, (Kp.same sm1).trans (r1'.back r1' .refl rfl fun _ _ => rfl).2, upd_same, .nil, Nat.zero_le _, by simpa using h1⟩, ?_⟩
  rintro i m H2 ⟨rfl, hi, S2, acc, vacc, r2, k2, eD, ra, hz, h2⟩
  obtain ⟨go, stop⟩ := ok H2 (fun a => S2.W a ∨ a = D) ⟨k2.keep, fun b z => z.elim (k2.mono b) fun q => .inr (by rw [q]; exact nD)⟩ i
  by_cases hlt : i < ds.length
  · refine .inr ⟨(go ds[i] (List.getElem?_eq_getElem hlt)).1, fun H' => ∃ S2 acc vacc, Rel K (c.plus D) S2 σ H' ∧ Kp S1.W S2.W H1 H' ∧ H' D = some (.dK vacc) ∧ RpK K (S2.A (c.plus D)) H' vacc acc ∧ acc.length ≤ sizeLine ∧ dcGo wg wt wk wv vs Qe (ds.drop (i + 1)) acc S2,
      fun H' q => ⟨ds.length - (i + 1), by omega, rfl, hlt, q⟩, fun x H3 hy => ?_⟩
    obtain ⟨sm, rx⟩ := (go ds[i] (List.getElem?_eq_getElem hlt)).2 x H3 hy
    rw [List.drop_eq_getElem_cons hlt] at h2
    have r3 := r2.same sm
    have k3 : Kp S2.W S2.W H2 H3 := .same sm
    obtain ⟨rw3, kw3⟩ := r3.wipe vs
    have rx' : Rp K ((S2.wipe vs).A (c.plus D)) H3 x ds[i] := rx.kp ⟨fun b u e _ => e, fun b z => by
      rcases z with (z | z) | z
      · exact .inl (.inl z)
      · exact .inl (.inr (.inr z))
      · exact (kw3.mono b z).imp (fun q => .inr (.inl q)) id⟩
    refine (L (c.plus D) rfl).run x ds[i] _ _ H3 _ _ rw3 rx' h2 fun S4 σ4 h4 r4 k4 s4 l4 => ?_
    have l4' : σ4.length = σ.length := by rw [l4, wipe_length]
    have s4' : ∀ j, j ∉ vs → σ4[j]? = σ[j]? := fun j hj => by
      rw [s4 j (fun z => hj (hv j z)), wipe_get hj]
    refine ⟨wipe_eq l4' s4', ht (c.plus D) rfl _ _ _ ⟨S4, _, r4, h4, fun b S5 h5 H5 r5 k5 => ?_⟩⟩
    have k25 : Kp S2.W S5.W H2 H5 := ((k3.trans kw3).trans k4).trans k5
    have D5 : H5 D = some (.dK vacc) := k25.keep D _ eD (.inl (r2.a0 D (.inr rfl)).2)
    refine ite_of h5 (fun h6 => hk (c.plus D) rfl _ _ _ ⟨S5, _, r5, h6, fun y S6 h7 H6 v r6 k6 py => he (c.plus D) rfl _ _ _ ⟨S6, _, r6, h7, fun z S7 h8 H7 u r7 k7 pz => ?_⟩⟩) fun h6 => ?_
    · obtain ⟨kk, hkk, zO, hz2, h9⟩ := h8
      have k27 := (k25.trans k6).trans k7
      have D7 : H7 D = some (.dK vacc) := k27.keep D _ eD (.inl (r2.a0 D (.inr rfl)).2)
      obtain ⟨rb, kb⟩ := r2.back r7 k27 l4' s4'
      have kab := kA (c := c.plus D) (k27.trans kb)
      have ra7 := ra.kp kab
      refine ⟨vacc, kk, key_ok hkk py, D7, by rw [rpk_len' ra]; exact hz2, S2.back S7 vs, putD acc kk z, putK vacc kk u, rb.upD D7 trivial nk, ?_, upd_same, ?_, Nat.le_trans putD_length hz2, h9⟩
      · refine ⟨fun b u eb z => ?_, (k2.trans (k27.trans kb)).mono⟩
        rw [upd_ne (ne_of_none eb nD)]
        exact (k2.trans (k27.trans kb)).keep b u eb z
      · refine (rpk_put ra7 ((pz.pure zO).kp (kA kb))).kp ⟨fun b u eb z => ?_, fun b z => .inl z⟩
        have : b ≠ D := fun q => by
          subst q
          rcases z with z | z
          · exact z (.inl (.inr rfl))
          · rw [D7] at eb
            cases eb
            exact z trivial
        rw [upd_ne this]
        exact eb
    · obtain ⟨rb, kb⟩ := r2.back r5 k25 l4' s4'
      exact ⟨S2.back S5 vs, acc, vacc, rb, k2.trans (k25.trans kb), D5, ra.kp (kA (k25.trans kb)), hz, h6⟩
  · have e : i = ds.length := by omega
    subst e
    rw [List.drop_length] at h2
    obtain ⟨rm, km⟩ := r2.minus eD trivial nA nk
    have h2' : Qe acc S2 := h2
    obtain ⟨r5, k5⟩ := rm.newM (o := .dK vacc) (m := .dk none acc) offH_same fun A k => ⟨vacc, upd_same, (ra.kp km).kp k⟩
    rw [upd_offH eD] at r5 k5
    refine .inl ⟨stop (Nat.le_refl _), p (.r D) _ (h2' D (m_none rm offH_same)) _ _ r5 ?_ (.inl (.r D))⟩
    refine (k1.trans ⟨fun b u eb z => ?_, fun b z => k2.mono b z⟩ : Kp S.W S2.W H (offH H2 D)).trans k5
    rw [offH_ne (ne_of_none eb nD)]
    exact k2.keep b u eb z
theorem v_dc {kx vx tg iter : Expr} {ifs : List Expr} {scope : Scope} {own : List (Str × Nat)} {wi : WI} {wt : WT} {g : TG} {wg : WG} {is : List Nat} (hc : X.calm = true) (hN : X.N.Nodup) (hi : PI X tg iter (lWk X.K c wi)) (ok : BlkOk X.N X.env.scope scope own)
    (L : ∀ c' : Cq, c'.n = c.n → LG X.K c' g wg is) (hg : ∀ (s : Shared) (H : Hp) (C : Addr) (cl : List (Str × Addr)) (fp : List Addr), PG (X.blk s H scope (compEnvC scope cl C X.env) fp) tg g)
    (ht : ∀ (s : Shared) (H : Hp) (C : Addr) (cl : List (Str × Addr)) (fp : List Addr) (c' : Cq), c'.n = c.n → PTs (X.blk s H scope (compEnvC scope cl C X.env) fp) ifs (lT X.K c' wt))
    (hk : ∀ (s : Shared) (H : Hp) (C : Addr) (cl : List (Str × Addr)) (fp : List Addr) (c' : Cq), c'.n = c.n → PE (X.blk s H scope (compEnvC scope cl C X.env) fp) kx (lE X.K c' wk))
    (he : ∀ (s : Shared) (H : Hp) (C : Addr) (cl : List (Str × Addr)) (fp : List Addr) (c' : Cq), c'.n = c.n → PE (X.blk s H scope (compEnvC scope cl C X.env) fp) vx (lE X.K c' wv))
    (hv : ∀ i ∈ is, i ∈ own.map (·.2)) (hs : ∀ x, foldedSetIterable iter X.env x = pure x := by intro _; rfl) : PE X (.DictComp kx vx [⟨tg, iter, ifs, 0⟩] scope pos) (lE X.K c (wDc wi wg wt wk wv (own.map (·.2)))) :=
  pe_imp (pe_dc (tt := fun σ H Q => ∃ c' : Cq, c'.n = c.n ∧ lT X.K c' wt σ H Q) (tk := fun σ H Q => ∃ c' : Cq, c'.n = c.n ∧ lE X.K c' wk σ H Q) (tv := fun σ H Q => ∃ c' : Cq, c'.n = c.n ∧ lE X.K c' wv σ H Q) hc hN hi ok hg
    (fun s H C cl fp => ⟨fun pins s' σ H' Q I ⟨c', hc', h⟩ => (ht s H C cl fp c' hc').run pins s' σ H' Q I h⟩)
    (fun s H C cl fp => ⟨fun pins s' σ H' Q I ⟨c', hc', h⟩ => (hk s H C cl fp c' hc').run pins s' σ H' Q I h⟩)
    (fun s H C cl fp => ⟨fun pins s' σ H' Q I ⟨c', hc', h⟩ => (he s H C cl fp c' hc').run pins s' σ H' Q I h⟩) hs)
    (ldc L hv (fun c' e _ _ _ h => ⟨c', e, h⟩) (fun c' e _ _ _ h => ⟨c', e, h⟩) (fun c' e _ _ _ h => ⟨c', e, h⟩))
/-- for k, v in d.items() -/
def pairD (kd : Key × Da) : Da := .t [keyD kd, kd.2]
def wItems (we : WE) : WI := fun S Q => we S fun d S' => ∃ p od kds, d = .r p ∧ S'.M p = some (.dk (some od) kds) ∧ Q (kds.map pairD) S'
end
end VL
set_option Elab.async false
set_option linter.all false
set_option maxRecDepth 100000
set_option maxHeartbeats 1000000
namespace VL
open PySem PySem.Spec PyProof.Rows L2
section
variable {X : Cx} {c : Cq} {tg e : Expr} {apos cpos : Pos} {we : WE}
theorem v_lkE {e : Expr} (h : PE X e (lE X.K c we)) : PE X e (lE X.K c (wLkE we)) := pe_imp (pe_lock h) fun σ H Q h => by
  obtain ⟨S, Qd, r, ⟨p, kds, e, h⟩, pst⟩ := h
  obtain ⟨kvs, h0, lk⟩ := r.lock e
  refine ⟨p, _, h0, trivial, fun od => ?_⟩
  obtain ⟨r1, k1⟩ := lk od
  refine ⟨_, _, r1, h od, fun d S' q H' v r' k' rv => ?_⟩
  obtain ⟨dO, e', q⟩ := q
  obtain ⟨h', r2, k2, kq⟩ := r.unlock h0 k1 upd_same k' r' e'
  exact ⟨h', pst d _ q _ v r2 k2 (.inl ((rv.pure dO).kq kq))⟩
theorem rpk_getP {K : PySem.W.Frag} {A : Addr → Prop} {H : Hp} : ∀ {kvs : List (Key × V)} {kds : List (Key × Da)} {i : Nat} {d : Da}, RpK K A H kvs kds → (kds.map pairD)[i]? = some d → ∃ k v dk dv, kvs[i]? = some (k, v) ∧ d = .t [dk, dv] ∧ Rp K A H (kV k) dk ∧ Rp K A H v dv
  | _, _, _, _, .nil, h => by simp at h
  | _, _, 0, _, .cons (k := j) (v := v) (d := d) h0 a, h => by
    refine ⟨j, v, keyD (j, d), d, rfl, (Option.some.inj h).symm, ?_, h0⟩
    cases j
    · exact .i _
    · exact .s _
  | _, _, i + 1, _, .cons h0 a, h => rpk_getP (i := i) a h
theorem i_items {elts : List Expr} {kk : Nat} {tpos : Pos} (he : PE X e (lE X.K c we)) (hbase : attributeBase e "items" X.env (eval e X.env) = eval e X.env := by rfl) (hline : (apos.endLine == cpos.line) = true := by rfl) :
    PI X (.Tuple elts kk tpos) (.Call (.Attribute e "items" apos) [] [] cpos) (lWk X.K c (wItems we)) := pi_imp (pi_items he hbase hline) fun σ H R h => by
  obtain ⟨S, Qd, r, h, p⟩ := h
  refine ⟨S, _, r, h, fun d S1 h1 H1 v r1 k1 p1 => ?_⟩
  obtain ⟨q, od, kds, rfl, eM, h2⟩ := h1
  obtain ⟨kvs, g1, g2⟩ := r1.mem q _ eM
  have g1' : H1 q = some (.frz od (.dK kvs)) := g1
  refine ⟨q, od, kvs, rs_r p1, g1', p _ _ h2 _ _ r1 k1 fun H2 W2 k i => ?_⟩
  have e2 : H2 q = some (.frz od (.dK kvs)) := k.keep _ _ g1' (.inr id)
  refine ⟨fun d hd => ?_, fun hl => ⟨e2, by rw [rpk_len' g2]; simpa using hl⟩⟩
  obtain ⟨kk, vv, dk, dv, hv, rfl, rk, rv⟩ := rpk_getP g2 hd
  refine ⟨⟨e2, (List.getElem?_eq_some_iff.mp hv).1⟩, fun x H3 hy => ?_⟩
  obtain ⟨T, k', v', hy, rfl, nT, rfl⟩ := hy
  rw [hv] at hy
  cases hy
  exact ⟨same_upd nT, .t (.inl (.inl upd_same)) (.cons ((rk.kp k.or).kp (.same (same_upd nT))) (.cons ((rv.kp k.or).kp (.same (same_upd nT))) .nil))⟩
end
def dropM (M : Mx) (ps : List Addr) : Mx := fun b => if b ∈ ps then none else M b
inductive Fz (M : Mx) (ps : List Addr) : Da → Da → Prop
  | same (d : Da) : Fz M ps d d
  | dk {p : Addr} {kds : List (Key × Da)} : M p = some (.dk none kds) → p ∈ ps → Fz M ps (.r p) (.dk kds)
inductive FzF (M : Mx) (ps : List Addr) : List (Str × Da) → List (Str × Da) → Prop
  | nil : FzF M ps [] []
  | cons {k : Str} {d d' : Da} {r r' : List (Str × Da)} : Fz M ps d d' → FzF M ps r r' → FzF M ps ((k, d) :: r) ((k, d') :: r')
section
variable {K : PySem.W.Frag} {c : Cq} {S : Sx} {σ : L2.St} {H : Hp}
theorem dropM_in {M : Mx} {ps : List Addr} {b : Addr} (h : b ∈ ps) : dropM M ps b = none := if_pos h
theorem dropM_out {M : Mx} {ps : List Addr} {b : Addr} (h : b ∉ ps) : dropM M ps b = M b := if_neg h
theorem Rel.drop (r : Rel K c S σ H) (ps : List Addr) : Rel K c ⟨S.ρ, dropM S.M ps⟩ σ H ∧ Kp S.W (Sx.W ⟨S.ρ, dropM S.M ps⟩) H H ∧ ∀ p ∈ ps, S.M p ≠ none → ¬ Sx.A ⟨S.ρ, dropM S.M ps⟩ c p := by
  have sub : ∀ b, Sx.W ⟨S.ρ, dropM S.M ps⟩ b → S.W b := fun b z => by
    rcases z with z | z
    · exact .inl z
    · refine .inr fun q => z ?_
      by_cases h : b ∈ ps
      · exact dropM_in h
      · show dropM S.M ps b = none
        rw [dropM_out h]; exact q
  have k : Kp S.W (Sx.W ⟨S.ρ, dropM S.M ps⟩) H H := Kp.refl.sub sub
  have mem : ∀ a m, dropM S.M ps a = some m → S.M a = some m := fun a m e => by
    by_cases h : a ∈ ps
    · rw [dropM_in h] at e; cases e
    · rw [dropM_out h] at e; exact e
  refine ⟨r.next k r.len rfl (fun i d e => ?_) (fun i p ds e => ?_) r.inj (fun i p ds e => ?_) (fun a m e => ?_), k, fun p hp hm z => ?_⟩
  · obtain ⟨v, h1, h2⟩ := r.val i d e
    exact ⟨v, h1, h2.kp (kA k)⟩
  · obtain ⟨h1, vs, h2, h3⟩ := r.own i p ds e
    exact ⟨h1, vs, h2, h3.kp (kA k)⟩
  · have := r.sep i p ds e
    by_cases h : p ∈ ps
    · exact dropM_in h
    · show dropM S.M ps p = none
      rw [dropM_out h]; exact this
  · exact (r.mem a m (mem a m e)).kp (kA k) fun _ z => z
  · rcases z with z | ⟨i, ds, z⟩ | z
    · exact (r.a0 p z).2 (.inr hm)
    · exact hm (r.sep i p ds z)
    · exact z (dropM_in hp)
theorem fz_rp {ps : List Addr} (r : Rel K c S σ H) {v : V} {d d' : Da} (h : Rp K (S.A c) H v d) (f : Fz S.M ps d d') : Rp K (Sx.A ⟨S.ρ, dropM S.M ps⟩ c) H v d' := by
  obtain ⟨r2, k, na⟩ := r.drop ps
  cases f with
  | same d => exact h.kp (kA k)
  | dk e hp =>
    cases h
    obtain ⟨kvs, h1, h2⟩ := r.mem _ _ e
    exact .dk h1 (na _ hp (by rw [e]; exact fun z => by cases z)) (h2.kp (kA k))
theorem fz_rpf {ps : List Addr} (r : Rel K c S σ H) : ∀ {fs : List (Str × V)} {gs gs' : List (Str × Da)}, RpF K (S.A c) H fs gs → FzF S.M ps gs gs' → RpF K (Sx.A ⟨S.ρ, dropM S.M ps⟩ c) H fs gs'
  | _, _, _, .nil, .nil => .nil
  | _, _, _, .cons h a, .cons f g => .cons (fz_rp r h f) (fz_rpf r a g)
end
/-- a new instance, that never changes again, with its dicts -/
def wFrz (we : WE) : WE := fun S Q => we S fun d S' => ∃ x C gs gs' ps, d = .r x ∧ S'.M x = some (.ins C gs) ∧ FzF S'.M (x :: ps) gs gs' ∧ Q (.ins C gs') ⟨S'.ρ, dropM S'.M (x :: ps)⟩
section
variable {X : Cx} {c : Cq} {e : Expr} {we : WE}
theorem vFrz (h : PE X e (lE X.K c we)) : PE X e (lE X.K c (wFrz we)) := pe_imp h fun σ H Q h => by
  obtain ⟨S, Qd, r, h, p⟩ := h
  refine ⟨S, _, r, h, fun d S1 h1 H1 v r1 k1 p1 => ?_⟩
  obtain ⟨x, C, gs, gs', ps, rfl, eM, f, q⟩ := h1
  obtain ⟨dx, fs, g1, g2⟩ := r1.mem x _ eM
  obtain ⟨r2, k2, na⟩ := r1.drop (x :: ps)
  have := rs_r p1
  subst this
  exact p _ _ q _ _ r2 (k1.trans k2) (.inl (.ins g1 (na x (by simp) (by rw [eM]; exact fun z => by cases z)) (fz_rpf r1 g2 f)))
end
end VL
set_option Elab.async false
set_option linter.all false
set_option maxRecDepth 100000
set_option maxHeartbeats 1000000
namespace VL
open PySem PySem.Spec PyProof.Rows L2 LamX NdefX
structure FunS (P : Program) (K : PySem.W.Frag) (mg : Str → Option Value) (C : Addr) (qual : Str) (st : Stmt) (c cc f : Addr) (fd : FuncData) : Prop where
  ex : ∃ oc od kV doc pm an ct osl, fd = PySem.W.ksFn "__init__" qual (defArgs st) (defBody st) (defScope st) .none kV doc pm an (.ref c) ct cc ∧ K.lookup f = some ⟨oc, od, .func fd, osl⟩
  cd : PySem.W.codeIn K (.ref c) qual = true
  code : ∃ ccl cdd vs ccs file tf, K.lookup c = some ⟨ccl, cdd, .fields vs, ccs⟩ ∧ vs[2]? = some (.str file tf) ∧ ((P.main.file : Str) == file) = true
  cell : ∃ cl cld csl, K.lookup cc = some ⟨cl, cld, .cell (some (.ref C)), csl⟩
  cls : ∃ cdD, PySem.W.clsIn K C = some cdD
  sub : PySem.W.mroIn K C (.ref C) = some true
  sup : mg "super" = none
  top : (P.main.scope.names.lookup ("super" : Str)).isSome = false
  opq : PySem.W.nsIn K PySem.cStatics "thirdparty.any" = some none
  ini : PySem.W.ks_superIn K C C "__init__" = some (some (.builtin "ValueError.__init__"))
  ve : PySem.W.subIn K (.ref C) (.type "ValueError") = some true
  oex : OexC K C
section
variable {P : Program} {w : World} {K : PySem.W.Frag} {mg : Str → Option Value} {base : Heap} {CX : CXT} {k : Nat} {f C cc c : Addr} {qual : Str} {st : Stmt} {fd : FuncData} {N ps : List Str} {sp : Sp} {e0 : Expr} {rest : List Stmt} {p0 p1 p2 p3 p4 : Pos} {ar : Arg}
abbrev nfS (st : Stmt) (qual : Str) (cc c : Addr) : NF := ⟨"__init__", qual, defArgs st, defBody st, defScope st, [("__class__", cc)], c⟩
/-- a method wrapper of ValueError.__init__ called -/
theorem call_mw {X : Cx} {pins : List (Addr × Obj)} {σ : L2.St} {H : Hp} {s : Shared} {a u : Addr} {us : List Value} {Q : Value → Shared → Prop} (T : OexC X.K C) (I : Inv X pins σ H s) (e : H a = some (exo a C none)) (hu : s.heap.get? u = some (PySem.W.kxs_mw "ValueError.__init__" a))
    (hl : us.length ≤ sizeLine) (h : ∀ s', Inv X pins σ H s' → Q .none s') : wpAny (model X.prog X.w) X.A (call (.ref u) us) Q X.xe s := by
  obtain ⟨nm, q, N, bs, bm, sn, sub, ab, col, dd, k0, k1, k2, k3, k5, hC, hbm⟩ := T.cls
  obtain ⟨t1, ho⟩ := exo_at I.hok e
  obtain ⟨hp, g, d, t, os⟩ := s
  refine wpAny_call (codeAny_of_tree ?_)
  show wpAny _ X.A.in1 (callAny (.ref u) ⟨us, []⟩) _ _ _
  simp only [callAny]
  refine wpAny_bind (wpAny_load hu ?_)
  simp only [PySem.W.kxs_mw, show (Value.type "method-wrapper" == Value.type "method" || Value.type "method-wrapper" == Value.type "builtin_function_or_method" || Value.type "method-wrapper" == Value.type "method-wrapper") = true by decide, if_true]
  refine PySem.W.KFB.if_so (by decide) ?_
  refine wpAny_bind (PySem.W.check_bound_init PySem.F.excBase_ValueError.toExcCallFacts (I.kIn _ _ hC) ho rfl ?_)
  refine wpAny_bind (wpAny_pure (wpAny_pure ?_))
  refine ⟨plainId_quiet PySem.F.excBase_ValueError.init.plain _, codeAny_builtin PySem.F.excBase_ValueError.initEntry ?_⟩
  rw [Around.under_plainId PySem.F.excBase_ValueError.init.plain _]
  refine PySem.W.exc_init_tree (cls := .ref C) (t0 := t1) (dv := none) (c2 := .none) (c3 := .none) (b4 := .bool false) ho hl fun h' kk hx _ => ?_
  have J := I.write (t' := t) (x := a) (e := a) (o := exo a C none) (by rw [e]; exact True.intro) (.inl rfl) kk ⟨_, hx⟩ (exo_ok hx)
  have eu : upd H a (exo a C none) = H := by
    funext b
    by_cases hb : b = a
    · rw [hb, upd_same, e]
    · rw [upd_ne hb]
  rw [eu] at J
  exact h _ J
theorem fn_super (F : FunS P K mg C qual st c cc f fd) (S : NScope N ps ["__class__"] (defScope st)) (hst : defBody st = .Expr (.Call (.Attribute (.Call (.Name "super" p0) [] [] p1) "__init__" p2) [e0] [] p3) p4 :: rest)
    (hpar : ((defArgs st).posonlyargs ++ (defArgs st).args).head? = some ar) (har : N[0]? = some ar.arg) (hloc : (defScope st).names.lookup ar.arg = some .local)
    (hks : (defScope st).names.lookup ("super" : Str) = some .globalImplicit) (hkc : (defScope st).names.lookup ("__class__" : Str) = some .free)
    {pl : Addr → Sem Bool} (hev : ∀ L, eval (.Call (.Attribute (.Call (.Name "super" p0) [] [] p1) "__init__" p2) [e0] [] p3) (envF (nfS st qual cc c) f L) = (do
      let ov ← attributeBase (.Call (.Name "super" p0) [] [] p1) "__init__" (envF (nfS st qual cc c) f L) (eval (.Call (.Name "super" p0) [] [] p1) (envF (nfS st qual cc c) f L))
      standAt p2.atName
      let (g, first) ← holding [ov] (getMethod ov "__init__" (pl L))
      callWith p3 g first (backTo p3 (starEach [e0] (envF (nfS st qual cc c) f L))) []))
    (hse : ∀ L, starEach [e0] (envF (nfS st qual cc c) f L) = (false, eval e0 (envF (nfS st qual cc c) f L)) :: starEach [] (envF (nfS st qual cc c) f L)) (hpl : ∀ L, (backTo p3 (starEach [] (envF (nfS st qual cc c) f L))).any (·.1) = false) (hsw : ∀ L, swapsWith (.Call (.Attribute (.Call (.Name "super" p0) [] [] p1) "__init__" p2) [e0] [] p3) none p4.line (envF (nfS st qual cc c) f L) = pure false)
    (len : ∀ vs H Q E, sp vs H Q E → vs.length = ps.length)
    (hbody : ∀ (A : Around) (outer : List Env) (s : Shared) (H : Hp) (vs : List V) (Q : VK) (E : XK), Room k (A.deeper (envF (nfS st qual cc c) f s.heap.objs.size)) → sp vs H Q E → ∃ a r, vs = .ref a :: r ∧ H a = some (exo a C none) ∧
      ∃ ta t, PA (ncx CX P w K mg base N (nfS st qual cc c) f A outer s H E) [e0] ta ∧ PSs (ncx CX P w K mg base N (nfS st qual cc c) f A outer s H E) rest t ∧
        ta (startF N vs [none]) H fun us H1 => H1 a = some (exo a C none) ∧ us.length ≤ 1000 ∧ t { nx := fun _ H' => Q .non H', rt := Q } (startF N vs [none]) H1) :
    FnOk P w K mg base CX (k + 1) f fd ps sp := by
  obtain ⟨oc, od, kV, doc, pm, an, ct, osl, rfl, lk⟩ := F.ex
  obtain ⟨ccl, cdd, vs0, ccs, file, tf, hcode, hvs, hfile⟩ := F.code
  obtain ⟨ccl2, cld, csl, hcell⟩ := F.cell
  obtain ⟨cdD, hD⟩ := F.cls
  refine ⟨len, fun A outer s H args us vs Q E hr e0' hb r hsp => ?_⟩
  have hl := len _ _ _ _ hsp
  have KX : K.In s.heap := e0'.mod.kin.keeps fun b o e => (e0'.bs b o e).1
  have lim : s.heap.NoLimit := e0'.mod.nolimit.keeps fun b o e => (e0'.bs b o e).1
  have hbase : ∀ b o, K.lookup b = some o → s.heap.get? b = some o ∧ H b = none := fun b o e => e0'.bs b o (e0'.mod.kin b o e)
  have CA : CellsAt (nfS st qual cc c).cl ["__class__"] [none] s.heap H := by
    have one : ∀ y c', ([("__class__", cc)] : List (Str × Addr)).lookup y = some c' → c' = cc ∧ y = "__class__" := fun y c' e => by
      rw [List.lookup_cons] at e
      cases q : (y == "__class__") with
      | true => rw [q] at e; cases e; exact ⟨rfl, eq_of_beq q⟩
      | false => rw [q] at e; cases e
    refine ⟨rfl, fun y c' e => ?_, fun x y c' e1 e2 => ?_, fun i y e => ?_⟩
    · obtain ⟨rfl, rfl⟩ := one y c' e
      exact ⟨(hbase _ _ hcell).2, _, _, (hbase _ _ hcell).1, rfl⟩
    · rw [(one x c' e1).2, (one y c' e2).2]
    · cases i with
      | zero =>
        have : y = "__class__" := by simpa using e.symm
        subst this
        exact ⟨cc, rfl, fun v hv => by simp at hv⟩
      | succ i => simp at e
  refine PySem.ks_codeAny_call_defAt (fd := PySem.W.ksFn "__init__" qual (defArgs st) (defBody st) (defScope st) .none kV doc pm an (.ref c) ct cc) (body := defBody st) hr.depth (KX _ _ lk) rfl lim (PySem.W.codeRec_of KX F.cd) rfl hb S.nocell (fun ⟨n, _⟩ hy => S.par n (List.of_mem_zip hy).1) (fun h₁ hns kp => ?_) S.co S.gen S.kind
  show PySem.wpAt _ (A.deeper (envF (nfS st qual cc c) f s.heap.objs.size)) (.func (defBody st) (envF (nfS st qual cc c) f s.heap.objs.size)) (execs (defBody st) (envF (nfS st qual cc c) f s.heap.objs.size)) _ _ _
  obtain ⟨a, rr, rfl, ha, ta, t, hta, ht, hq⟩ := hbody A outer s H vs Q E (hr.deeper _) hsp
  have I : Inv (ncx CX P w K mg base N (nfS st qual cc c) f A outer s H E) [] (startF N (.ref a :: rr) [none]) H { s with heap := h₁, toks := s.toks + (ps.zip us).length } := inv_startN S hr.hd e0' hl r CA hns kp
  -- the parameter
  obtain ⟨m, hm1, hm2⟩ := I.loc
  obtain ⟨ua, hua, look⟩ := hm2 0 ar.arg (.ref a) har (by unfold startF; rfl) (.inl hloc)
  have hua : ua = .ref a := hua
  subst hua
  have hma : m ar.arg = some (.ref a) := by
    rcases look with ⟨_, e⟩ | ⟨z, _⟩
    · exact e
    · have z : (defScope st).names.lookup ar.arg = some .cell ∨ (defScope st).names.lookup ar.arg = some .free := z
      rw [hloc] at z
      rcases z with z | z <;> cases z
  obtain ⟨t1, hoe⟩ := exo_at I.hok ha
  have X1 := I.kIn
  obtain ⟨oD, hD1, hD2⟩ : ∃ oD, h₁.get? C = some oD ∧ oD.data = .cls cdD := by
    unfold PySem.W.clsIn at hD
    split at hD
    · rename_i c d cd' sl ho
      cases hD
      exact ⟨_, X1 _ _ ho, rfl⟩
    · cases hD
  have naC : a ≠ C := fun z => by
    have h1 : h₁.get? a = some oD := by rw [z]; exact hD1
    rw [show h₁.get? a = _ from hoe] at h1
    cases h1
    cases hD2
  have run : PySem.wpAt (model P w) (A.deeper (envF (nfS st qual cc c) f s.heap.objs.size)) (.func (defBody st) (envF (nfS st qual cc c) f s.heap.objs.size)) (execs (defBody st) (envF (nfS st qual cc c) f s.heap.objs.size)) (SP (ncx CX P w K mg base N (nfS st qual cc c) f A outer s H E) [] { nx := fun _ H' => Q .non H', rt := Q }) (ncx CX P w K mg base N (nfS st qual cc c) f A outer s H E).xe { s with heap := h₁, toks := s.toks + (ps.zip us).length } := by
    have X := ncx CX P w K mg base N (nfS st qual cc c) f A outer s H E
    rw [hst]
    refine PySem.ks_wpAt_execs_cons (PySem.ks_wpAt_Expr_any (PySem.ks_wpAt_MethodCall (PySem.ks_wpAt_super_base hks hkc (by decide) rfl (X1 _ _ lk) rfl hpar rfl (X1 _ _ hcode) rfl hvs hfile F.top ?_) (hev _)) (by unfold interactive; simp [S.kind]) (hsw _))
    obtain ⟨mb, hb1, hb2⟩ := I.mod.blt
    refine PySem.W.ks_loadName_global S.kind hks (Calls.loadGlobal_builtin (I.mod.glob.keeps I.bk) F.sup (hb1.keeps I.bk) ((hb2 _ (by decide)).trans PyProof.Rows.Boot.«super») ⟨rfl, ?_⟩)
    refine wpAny_loadName_free S.kind hkc rfl ⟨_, X1 _ _ hcell, rfl⟩ ?_
    refine wpAny_loadName_local S.kind hloc hm1 hma ?_
    refine PySem.ks_wpAny_isType_cls hD1 hD2 ⟨rfl, ?_⟩
    refine PySem.ks_wpAny_call_super hD1 hD2 hoe rfl (fun c e => by cases e) (PySem.W.looks_mroIn X1 F.sub) (fun h' e kk => ?_)
    have I2 := I.kept (t' := s.toks + (ps.zip us).length) kk
    have X2 := I2.kIn
    have hmro : PySem.W.Looks (model P w) h' (mroOf (.ref C)) cdD.mro := fun A Q E s k q => wpAny_bind ((PySem.W.looks_clsIn X2 hD) A _ E s k (wpAny_pure q))
    have hal : PySem.W.alongIn K "__init__" ((cdD.mro.dropWhile (· != .ref C)).drop 1) = some (some (.builtin "ValueError.__init__")) := by
      have z := F.ini
      unfold PySem.W.ks_superIn at z
      rw [hD] at z
      exact z
    have Ia : PySem.W.InstAt h' a _ C none := ⟨kk _ _ hoe, rfl, rfl, trivial⟩
    refine PySem.W.kxs_getMethod PySem.W.kxs_ValueError e (PySem.W.looks_opaque X2 F.opq) hmro rfl X2 hal (Ia.type.andThen (PySem.W.looks_subIn X2 F.ve)) naC (by decide) ?_
    have I3 := I2.kept (h' := h'.push (PySem.W.kxs_mw "ValueError.__init__" a)) (t' := s.toks + (ps.zip us).length + 1) fun b o q => Heap.get?_push_of_some _ q
    have hu3 : (h'.push (PySem.W.kxs_mw "ValueError.__init__" a)).get? h'.objs.size = some (PySem.W.kxs_mw "ValueError.__init__" a) := Heap.get?_push_size _ rfl
    have I4 := I3.pinned (fp := [h'.objs.size]) (fun b hb => by
      rw [List.mem_singleton.mp hb]
      exact I2.fpOk (Nat.le_refl _) (I2.hok.fresh (Nat.le_refl _))) (fun b hb => by
      rw [List.mem_singleton.mp hb]
      exact ⟨_, hu3, fun v z => by cases z⟩)
    have hta2 := hta.run p3 _ _ _ H _ I4 hq
    have hse2 : starEach [e0] (ncx CX P w K mg base N (nfS st qual cc c) f A outer s H E).env = _ := hse s.heap.objs.size
    rw [hse2] at hta2
    rw [hse s.heap.objs.size]
    refine PySem.W.kxs_callWith (i := "ValueError.__init__") (x := a) (by show (false || (backTo p3 (starEach [] (envF (nfS st qual cc c) f s.heap.objs.size))).any (·.1)) = false; rw [hpl]; rfl) (Calls.evalArgs_plain ?_)
    refine thn hta2 fun us2 s2 hAP => ?_
    obtain ⟨vs2, H2, I5, rv2, ha2, hl2, hq2⟩ := hAP
    have hu5 : s2.heap.get? h'.objs.size = some (PySem.W.kxs_mw "ValueError.__init__" a) := (I5.pin (h'.objs.size, PySem.W.kxs_mw "ValueError.__init__" a) (List.mem_append_right _ (List.mem_append_right _ (mem_pinsAt (by simp) hu3)))).1
    refine ⟨hu5, ?_⟩
    show wpAny (model (ncx CX P w K mg base N (nfS st qual cc c) f A outer s H E).prog _) (ncx CX P w K mg base N (nfS st qual cc c) f A outer s H E).A (call (.ref h'.objs.size) us2) _ _ _
    refine call_mw F.oex I5 ha2 hu5 (by rw [← rv2.length, sizeLine_eq]; omega) fun s3 I6 => ?_
    show PySem.wpAt _ _ _ _ _ _ _
    exact PySem.wpAt_of_wpAny (ht.run [] s3 _ H2 _ (I6.unpinned) hq2)
  refine PySem.ks_wpAt_mono run (fun fl s' hs => ?_) fun e s' hs => hs
  have fin : ∀ {σ' : L2.St} {H' : Hp} {v : V} {u : Value}, Inv (ncx CX P w K mg base N (nfS st qual cc c) f A outer s H E) [] σ' H' s' → L2.RelV v u → Q v H' → CE outer P w H s Q u s' :=
    fun {σ' H' v u} J rv q => ⟨v, H', J.os, J.bare, J.base, J.hok, rv, q⟩
  cases fl with
  | ret u =>
    obtain ⟨v, σ', H', J, rv, q⟩ := hs
    exact fin J rv q
  | next =>
    obtain ⟨σ', H', J, q⟩ := hs
    exact fin (v := V.non) (u := Value.none) J rfl q
  | brk =>
    obtain ⟨_, _, _, q⟩ := hs
    exact False.elim q
  | cont =>
    obtain ⟨_, _, _, q⟩ := hs
    exact False.elim q
end
end VL
set_option Elab.async false
set_option linter.all false
set_option maxRecDepth 100000
set_option maxHeartbeats 1000000
namespace VL
open PySem PySem.Spec PyProof.Rows L2
def spErr (C : Addr) (fld : Str) : Sp := fun vs H Q _ => ∃ (a : Addr) (z : Str), vs = [.ref a, .str z] ∧ z.length ≤ 1000 ∧ H a = some (exo a C none) ∧
  ∀ dx, H dx = none → dx ≠ a → Q .non (upd (upd H dx (exd dx [(fld, .str z)])) a (exo a C (some dx)))
def wRaiseF (C : Addr) (fld : Str) (Xs : DXs) (we : WE) : WS := fun _ S => we S fun d S1 => ∃ z : Str, d = .s z ∧ z.length ≤ 1000 ∧ Xs (.ref C) (some [(fld, .s z)]) S1
section
variable {X : Cx} {c : Cq} {pos p p2 apos : Pos} {e : Expr} {we : WE} {x fld : Str} {Xs : DXs} {W : WX} {C fI : Addr} {k : Nat} {fd : FuncData} {ps : List Str}
theorem takes_no {X : Cx} : Takes X (fun _ _ _ _ => False) := fun _ _ ⟨_, _, _, _, _, _, _, _, _, _, _, _, _, _, _, _, w⟩ => w.elim
theorem s_raiseF (hc : X.calm = true) (tk : Takes X W) (hX : XOk X.K c Xs W) (T : OexC X.K C) (iC : PySem.W.findIn X.K (.ref C) "__init__" = some (some (.ref fI))) (tI : PySem.W.typeIn X.K (.ref fI) = some (.type "function"))
    (F1 : FnOk X.prog X.w X.K X.mg X.base (L2.CX X.prog X.w) k fI fd ps (spErr C fld)) (hr : Room (k + 1) X.A) (hb : Binds X.K fd ps []) (hg : Gl X x) (hm : X.mg x = some (.ref C)) (he : PE X e (lE X.K c we))
    (hdb : (x == ("__debug__" : Str)) = false := by decide) (hst : starEach [e] X.env = (false, eval e X.env) :: starEach [] X.env := by rfl) (hpl : (backTo pos (starEach [] X.env)).any (·.1) = false := by rfl) :
    PS X (.Raise (some (.Call (.Name x p) [e] [] pos)) none apos) (lS X.K c (wRaiseF C fld Xs we)) :=
  ps_imp (ps_raise hc tk (pmk_oex T iC tI F1 hr hb .nil (passes_call takes_no fun _ _ _ _ h => h) hg hm (pa_cons he pa_nil hst) hdb hst hpl)) fun D σ H h => by
    obtain ⟨S, Dd, r, h, pst⟩ := h
    refine ⟨S, _, r, h, fun d S1 h1 H1 v r1 k1 p1 => ?_⟩
    obtain ⟨z, rfl, hz, hx⟩ := h1
    rw [rs_s p1]
    show [V.str z].length ≤ 1000 ∧ _
    refine ⟨by show 1 ≤ 1000; decide, fun a na => ⟨a, z, rfl, hz, upd_same, fun dx nd ne => ⟨rfl, dx, [(fld, .str z)], upd_same, ?_, ?_, ?_⟩⟩⟩
    · rw [upd_ne ne, upd_same]
    · have : upd H1 a (exo a C none) dx = none := nd
      rw [upd_ne ne] at this
      exact this
    · have nd' : H1 dx = none := by
        have : upd H1 a (exo a C none) dx = none := nd
        rw [upd_ne ne] at this
        exact this
      have e1 : upd (del (upd (upd (upd H1 a (exo a C none)) dx (exd dx [(fld, .str z)])) a (exo a C (some dx))) a) dx (.xd [(fld, .str z)]) = upd H1 dx (.xd [(fld, .str z)]) := by
        funext b
        by_cases hb : b = dx
        · subst hb; rw [upd_same, upd_same]
        · rw [upd_ne hb, upd_ne hb]
          by_cases hc : b = a
          · subst hc; rw [del_same, na]
          · rw [del_ne hc, upd_ne hc, upd_ne hb, upd_ne hc]
      rw [e1]
      have r2 := r1.new (o := .xd [(fld, .str z)]) nd'
      exact hX _ _ _ hx _ _ _ r2 ⟨dx, _, rfl, upd_same, .cons (.s z) .nil⟩
end
section
variable {K : PySem.W.Frag} {c : Cq} {S S' : Sx} {σ σ' : L2.St} {H H' : Hp}
/-- the catch begins a count of its own -/
def Cq.at (c : Cq) (S : Sx) (H : Hp) : Cq := ⟨c.A0, S.W, H, c.n⟩
end
end VL
set_option Elab.async false
set_option linter.all false
set_option maxRecDepth 100000
set_option maxHeartbeats 1000000
namespace VL
open PySem PySem.Spec PyProof.Rows L2 LamX NdefX
structure Dfn (K : PySem.W.Frag) (mg : Str → Option Value) (x : Str) (st : Stmt) (ps : List Str) (f : Addr) (fd : FuncData) : Prop where
  F : Fun K x x st f fd
  b : Binds K fd ps []
  g : mg x = some (.ref f)
structure Mtd (K : PySem.W.Frag) (C : Addr) (x qual : Str) (st : Stmt) (ps : List Str) (f : Addr) (fd : FuncData) : Prop where
  F : Fun K x qual st f fd
  b : Binds K fd ps []
  m : Meth K C x f
  ff : PySem.W.fnIn K f = true
theorem Mtd.own {K : PySem.W.Frag} {C : Addr} {x qual : Str} {st : Stmt} {ps : List Str} {f : Addr} {fd : FuncData} (m : Mtd K C x qual st ps f fd) : Own K C x f := ⟨m.m.at_, m.m.fn⟩
/-- with defaults, that are all written over here -/
structure MtdD (K : PySem.W.Frag) (C : Addr) (x qual : Str) (st : Stmt) (ps : List Str) (dvs : List V) (f : Addr) (fd : FuncData) : Prop where
  F : L2.FunD K x qual (defArgs st) (defBody st) (defScope st) dvs [] f fd
  b : Binds K fd ps []
structure ClsX (K : PySem.W.Frag) (mg : Str → Option Value) (x : Str) (C : Addr) : Prop where
  cl : Cls K C
  g : mg x = some (.ref C)
  nq : PySem.W.noSeq K C = true
structure ErrC (K : PySem.W.Frag) (mg : Str → Option Value) (x : Str) (C : Addr) : Prop where
  g : mg x = some (.ref C)
  kp : PySem.W.keepIn K (.ref C) = true
  ex : PySem.W.excIn K C [.type "ValueError", .type "Exception", .type "BaseException", .type "object"] "ValueError.__new__" = true
  sb : PySem.W.subIn K (.ref C) (.type "BaseException") = some true
  ty : PySem.W.typeIn K (.ref C) = some (.type "type")
  hd : PySem.W.hasDictIn K C = true
  ec : ExcC K C
structure ErrN (K : PySem.W.Frag) (mg : Str → Option Value) (x : Str) (C : Addr) : Prop where
  g : mg x = some (.ref C)
structure ErrI (P : Program) (K : PySem.W.Frag) (mg : Str → Option Value) (x fld : Str) (st : Stmt) (C i c cc : Addr) (fi : FuncData) : Prop where
  g : mg x = some (.ref C)
  ec : ExcC K C
  oex : OexC K C
  iC : PySem.W.findIn K (.ref C) "__init__" = some (some (.ref i))
  tI : PySem.W.typeIn K (.ref i) = some (.type "function")
  ib : Binds K fi ["self", fld] []
  xf : XfC K C
  n : PySem.W.findIn K (.ref C) fld = some none
  s : FunS P K mg C (x ++ ".__init__") st c cc i fi
section
variable {P : Program} {w : World} {K : PySem.W.Frag} {mg : Str → Option Value} {base : Heap}
theorem okDD {x qual : Str} {st : Stmt} {f : Addr} {fd : FuncData} {N ps : List Str} {k : Nat} {dc : DC} {dvs : List V} {kws : List (Str × V)} (F : L2.FunD K x qual (defArgs st) (defBody st) (defScope st) dvs kws f fd) (S : FnScope N ps (defScope st)) (hl : ∀ ds M Q X, dc ds M Q X → ds.length = ps.length)
    (hbody : ∀ (cdv : Value) (A : Around) (outer : List Env) (s : Shared) (H : Hp) (E : XK) (c : Cq) (ds : List Da) (M : Mx) (Qd : Da → Mx → Prop) (Xd : DX), c.n = N.length → Room k (A.deeper (envOfC qual (defScope st) s.heap.objs.size f cdv)) → dc ds M Qd Xd →
      XOk K c (fun cls ofs S' => Xd cls ofs S'.M) (fun cls d _ H' => E cls d H') →
      ∃ wb : WS, PSs (cxOf (L2.CX P w) P w K mg base N qual (defScope st) f cdv A outer s H E) (defBody st) (lS K c wb) ∧ wb { nx := fun S' => Qd .n S'.M, rt := fun d S' => Qd d S'.M } ⟨startD N.length ds, M⟩) :
    FnOk P w K mg base (L2.CX P w) (k + 1) f fd ps (spOf K dc) := by
  refine F.ok S (fun vs H Q E h => ?_) (fun cdv A outer s H vs Q E hr h => ?_)
  · obtain ⟨A0, M, ds, Qd, Xd, rp, _, _, hd, _⟩ := h
    rw [rp.length]
    exact hl _ _ _ _ hd
  obtain ⟨A0, M, ds, Qd, Xd, rp, mem, a0, hd, hQ, hE⟩ := h
  have hpl : ps.length ≤ N.length := by have := congrArg List.length S.pre; rw [List.length_take] at this; omega
  let c : Cq := ⟨A0, wM M, H, N.length⟩
  have done : ∀ {S' : Sx} {σ' : L2.St} {H' : Hp}, Rel K c S' σ' H' → Kp (wM M) (wM S'.M) H H' ∧ Mem K A0 S'.M H' ∧ ∀ b, (A0 b ∨ wM S'.M b) → S'.A c b := fun r => by
    refine ⟨r.kp.sub fun b z => .inr z, r.memM fun b z => .inl z, fun b z => z.imp id .inr⟩
  obtain ⟨wb, h1, h2⟩ := hbody cdv A outer s H E c ds M Qd Xd rfl hr hd fun cls ofs S' hx σ' H' d r hd' => by
    obtain ⟨k1, m1, s1⟩ := done r
    refine hE cls ofs S'.M hx H' d k1 m1 ?_
    cases ofs with
    | none => exact hd'
    | some gs =>
      obtain ⟨a, fs, e1, e2, e3⟩ := hd'
      exact ⟨a, fs, e1, e2, e3.kp ⟨fun _ _ z _ => z, fun b z => .inl (s1 b z)⟩⟩
  refine ⟨lS K c wb, h1, _, _, start_rel (c := c) rfl (by rw [rp.length, hl _ _ _ _ hd]; exact hpl) rp mem a0 rfl rfl, h2, ⟨fun S' hq σ' H' r _ => ?_, fun d S' hq σ' H' v r _ rv => ?_, fun _ h => h.elim, fun _ h => h.elim⟩⟩
  · obtain ⟨k1, m1, s1⟩ := done r
    exact hQ _ _ hq _ _ k1 m1 .n
  · obtain ⟨k1, m1, s1⟩ := done r
    exact hQ _ _ hq _ _ k1 m1 (rv.anti s1)
theorem app_len {a b : Str} {n m : Nat} (ha : a.length ≤ n) (hb : b.length ≤ m) : (a ++ b).length ≤ n + m := by
  have e : (a ++ b).length = a.length + b.length := by
    obtain ⟨x⟩ := a
    obtain ⟨y⟩ := b
    show (x ++ y).size = x.size + y.size
    exact Array.size_append
  omega
end
end VL
set_option Elab.async false
set_option linter.all false
set_option maxRecDepth 100000
set_option maxHeartbeats 1000000
namespace VL
open PySem PySem.Spec PyProof.Rows L2
structure ShpS (sh : List (Str × Str)) : Prop where
  shp : Shp sh
  hi : sh.length ≤ 7
  l10 : ∀ x ∈ sh, x.1.cps.toList.length ≤ 10
  mks : ∀ x ∈ sh, ∀ c ∈ x.2.cps.toList, c = 43 ∨ c = 45
/-- what lies under what: bases, each under an earlier one -/
structure Und (sh un : List (Str × Str)) : Prop where
  nd : (un.map (·.1)).Nodup
  hi : un.length ≤ 7
  up : ∀ x ∈ un, ∃ i j : Nat, i < j ∧ sh[j]? = some (x.1, Str.empty) ∧ sh[i]? = some (x.2, Str.empty)
theorem nodup_inj {α : Type} : ∀ {l : List α} {i j : Nat} {x : α}, l.Nodup → l[i]? = some x → l[j]? = some x → i = j
  | [], _, _, _, _, h, _ => by simp at h
  | a :: l, 0, 0, _, _, _, _ => rfl
  | a :: l, 0, j + 1, x, nd, h1, h2 => by
    simp at h1 h2
    exact absurd (h1 ▸ List.mem_of_getElem? h2) (List.nodup_cons.mp nd).1
  | a :: l, i + 1, 0, x, nd, h1, h2 => by
    simp at h1 h2
    exact absurd (h2 ▸ List.mem_of_getElem? h1) (List.nodup_cons.mp nd).1
  | a :: l, i + 1, j + 1, x, nd, h1, h2 => by
    simp at h1 h2
    rw [nodup_inj (List.nodup_cons.mp nd).2 h1 h2]
theorem bases_snoc {sh : List (Str × Str)} {ws : List Str} {n : Nat} {x : Str × Str} (h : ∀ j, j < n → ∃ z, ws[j]? = some z ∧ sh[j]? = some (z, Str.empty)) (hl : n ≤ sh.length) : ∀ j, j < n → ∃ z, ws[j]? = some z ∧ (sh ++ [x])[j]? = some (z, Str.empty) := fun j hj => by
  obtain ⟨z, h1, h2⟩ := h j hj
  exact ⟨z, h1, by rw [List.getElem?_append_left (by omega)]; exact h2⟩
theorem base_get {sh : List (Str × Str)} {ws : List Str} {nb j : Nat} (h1 : sh.map (·.1) = ksOf ws nb 0) (h2 : ∀ x ∈ sh, x.2 = Str.empty) (hj : j < nb) (hw : j < ws.length) : sh[j]? = some (ws[j], Str.empty) := by
  have e : (sh.map (·.1))[j]? = some ws[j] := by
    rw [h1]
    unfold ksOf
    rw [List.take_zero, List.append_nil, List.getElem?_take_of_lt hj, List.getElem?_eq_getElem hw]
  rw [List.getElem?_map] at e
  cases q : sh[j]? with
  | none => rw [q] at e; cases e
  | some x =>
    rw [q] at e
    have e2 := h2 x (List.mem_of_getElem? q)
    obtain ⟨a, b⟩ := x
    cases e
    rw [show b = Str.empty from e2]; rfl
theorem Wds.l10 {b : Bool} {st : Nat} {fl lg : List Nat} {ws : List Str} (h : Wds b st fl lg ws) (hl : ws.length ≤ 7) (hf : fl.length ≤ 3) (hg : lg.length ≤ 1) : ∀ z ∈ ws, z.cps.toList.length ≤ 10 := fun z hz => by
  obtain ⟨j, hj, e⟩ := List.mem_iff_getElem.mp hz
  have e2 := h.at_ j hj
  rw [e] at e2
  have hl2 : (wl b st fl lg j).length = 1 + fl.length + j * lg.length := by
    unfold wl
    cases b <;> simp <;> omega
  have : j * lg.length ≤ 6 * 1 := Nat.mul_le_mul (by omega) hg
  rw [e2, hl2]
  omega
mutual
def Da.subs : Da → List Da
  | .t (h :: fs) => .t (h :: fs) :: subsL fs
  | d => [d]
def subsL : List Da → List Da
  | [] => []
  | d :: ds => d.subs ++ subsL ds
end
theorem subsL_app : ∀ (a b : List Da), subsL (a ++ b) = subsL a ++ subsL b
  | [], b => by simp [subsL]
  | d :: a, b => by simp [subsL, subsL_app a b]
end VL
set_option Elab.async false
set_option linter.all false
set_option maxRecDepth 100000
set_option maxHeartbeats 1000000
namespace VL
open PySem PySem.Spec PyProof.Rows L2
theorem dcGo_of {wg : WG} {wt : WT} {wk wv : WE} {vs : List Nat} {Q : List (Key × Da) → Sx → Prop} (I : List Da → List (Key × Da) → Sx → Prop)
    (step : ∀ d ds acc S, I (d :: ds) acc S → ∀ R : List (Key × Da) → Sx → Prop, (∀ acc' S', I ds acc' S' → R acc' S') → wg d (S.wipe vs) fun S2 => wt S2 fun b S3 => if b = true then wk S3 fun y S4 => wv S4 fun z S5 => ∃ k, y.key = some k ∧ z.isO = false ∧ acc.length < sizeLine ∧ R (putD acc k z) (S.back S5 vs) else R acc (S.back S3 vs))
    (stop : ∀ acc S, I [] acc S → Q acc S) : ∀ ds acc S, I ds acc S → dcGo wg wt wk wv vs Q ds acc S
  | [], acc, S, h => stop acc S h
  | d :: ds, acc, S, h => step d ds acc S h _ fun acc' S' h' => dcGo_of I step stop ds acc' S' h'
/-- keys that differ: the pairs in order -/
theorem dc_map {wg : WG} {wk wv : WE} {vs : List Nat} {Q : List (Key × Da) → Sx → Prop} {S : Sx} {ds : List Da} (f : Da → Key) (g : Da → Da)
    (h : ∀ d ∈ ds, ∀ (R1 : Da → Da → Sx → Prop), (∀ y S4, y.key = some (f d) → Agr (S.norm vs) S4 vs → R1 y (g d) S4) → wg d ((S.norm vs).wipe vs) fun S2 => wk S2 fun y S3 => wv S3 fun z S4 => R1 y z S4)
    (nd : (ds.map f).Nodup) (hO : ∀ d ∈ ds, (g d).isO = false) (hz : ds.length ≤ sizeLine) (q : Q (ds.map fun d => (f d, g d)) (S.norm vs)) : dcGo wg wYes wk wv vs Q ds [] (S.norm vs) := by
  refine dcGo_of (fun rest acc S' => S' = S.norm vs ∧ ∃ done, ds = done ++ rest ∧ acc = done.map fun d => (f d, g d)) (fun d rest acc S' ⟨e, done, e1, e2⟩ R hR => ?_) (fun acc S' ⟨e, done, e1, e2⟩ => ?_) ds [] (S.norm vs) ⟨rfl, [], rfl, rfl⟩
  · subst e
    have hd : d ∈ ds := by rw [e1]; simp
    refine h d hd _ fun y S4 ky hb => ⟨_, ky, hO d hd, ?_, hR _ _ ⟨hb.back, done ++ [d], by simp [e1], ?_⟩⟩
    · have ld : done.length < ds.length := by rw [e1]; simp
      have la : acc.length = done.length := by rw [e2]; simp
      omega
    · have nin : f d ∉ done.map f := fun hx => by
        rw [e1, List.map_append, List.map_cons] at nd
        exact (List.nodup_append.mp nd).2.2 _ hx _ (by simp) rfl
      have : putD acc (f d) (g d) = acc ++ [(f d, g d)] := by
        unfold putD
        rw [if_neg]
        rw [e2]
        intro hx
        simp only [List.any_eq_true, decide_eq_true_eq] at hx
        obtain ⟨p, hp, ep⟩ := hx
        obtain ⟨d', hd', rfl⟩ := List.mem_map.mp hp
        exact nin (List.mem_map.mpr ⟨d', hd', ep⟩)
      rw [this, e2]
      simp
  · subst e
    rw [List.append_nil] at e1
    rw [e2, ← e1]
    exact q
theorem inD_s : ∀ (z : Str) (l : List Str), inD (.s z) (l.map Da.s) = decide (z ∈ l) := fun z l => by
  unfold inD inV
  induction l with
  | nil => simp
  | cons a l ih =>
    simp only [List.map_cons, List.any_cons] at ih ⊢
    rw [ih]
    have : eqV (Da.s a).va (Da.s z).va = decide (z = a) := by
      show eqV (V.str a) (V.str z) = _
      unfold eqV
      by_cases h : z = a
      · subst h; simp
      · simp [h, Ne.symm h]
    rw [this]
    simp
def upS (un : List (Str × Str)) (z : Str) : Option Str := (un.find? fun x => decide (x.1 = z)).map (·.2)
def chn (un : List (Str × Str)) : Nat → Str → List Str
  | 0, z => [z]
  | n + 1, z => z :: (match upS un z with
    | none => []
    | some a => chn un n a)
theorem valD_up : ∀ (un : List (Str × Str)) (z : Str), valD (shD un) (.inr z) = (upS un z).map Da.s := fun un z => by
  unfold valD upS shD
  induction un with
  | nil => rfl
  | cons x un ih =>
    simp only [List.map_cons, List.find?_cons]
    by_cases h : x.1 = z
    · subst h; simp
    · have : ¬ (Sum.inr x.1 : Key) = Sum.inr z := fun e => h (Sum.inr.inj e)
      simp only [h, this, decide_false]
      exact ih
theorem upS_mem {un : List (Str × Str)} {z a : Str} (h : upS un z = some a) : (z, a) ∈ un := by
  unfold upS at h
  cases e : un.find? (fun x => decide (x.1 = z)) with
  | none => rw [e] at h; cases h
  | some x =>
    rw [e] at h
    have h1 := List.find?_some e
    have h2 := List.mem_of_find?_eq_some e
    cases h
    have : x.1 = z := of_decide_eq_true h1
    rw [← this]
    exact h2
/-- the place of what is reached sinks -/
theorem upS_lt {sh un : List (Str × Str)} (s : Shp sh) (u : Und sh un) {z a : Str} {j : Nat} {v : Str} (hz : sh[j]? = some (z, v)) (h : upS un z = some a) : ∃ i, i < j ∧ sh[i]? = some (a, Str.empty) := by
  obtain ⟨i, j', hij, h1, h2⟩ := u.up _ (upS_mem h)
  have e : j' = j := nodup_inj (l := sh.map (·.1)) s.nd (by rw [List.getElem?_map, h1]; rfl) (by rw [List.getElem?_map, hz]; rfl)
  exact ⟨i, by omega, h2⟩
/-- enough steps are enough -/
theorem chn_more {sh un : List (Str × Str)} (s : Shp sh) (u : Und sh un) (j : Nat) : ∀ {z v : Str} {n m : Nat}, sh[j]? = some (z, v) → j ≤ n → j ≤ m → chn un n z = chn un m z := by
  induction j using Nat.strongRecOn with
  | _ j ih =>
    intro z v n m h hn hm
    cases e : upS un z with
    | none =>
      cases n <;> cases m <;> simp [chn, e]
    | some a =>
      obtain ⟨i, hi, ha⟩ := upS_lt s u h e
      obtain ⟨n', rfl⟩ : ∃ n', n = n' + 1 := ⟨n - 1, by omega⟩
      obtain ⟨m', rfl⟩ : ∃ m', m = m' + 1 := ⟨m - 1, by omega⟩
      have := ih i hi ha (show i ≤ n' by omega) (show i ≤ m' by omega)
      simp only [chn, e, this]
def chD (sh un : List (Str × Str)) : List (Key × Da) := sh.map fun x => (Sum.inr x.1, Da.t ((chn un 7 x.1).map Da.s))
def stD (C : Addr) (sh un : List (Str × Str)) : Da := .ins C [("shapes", .dk (shD sh)), ("under", .dk (shD un)), ("chains", .dk (chD sh un))]
theorem at_end {xs : List Str} {y : Str} (h : xs.length < 1000) : atI ((xs ++ [y]).map Da.s) (-1) = some (.s y) := by
  rw [List.map_append]
  exact at_last (by rw [List.length_map]; omega)
theorem occ_pm {c : Nat} (h : c = 43 ∨ c = 45) : (!(Builtin.Str.occurrences (Str.ofString "+-") ⟨#[c]⟩ 0 (Str.ofString "+-").length 1).isEmpty) = true := by
  rcases h with rfl | rfl <;> decide +kernel
def okF (sh : List (Str × Str)) : Da → Bool
  | .t (.s z :: fs) => sh.any fun x => decide (x.1 = z) && decide (x.2.cps.toList.length = fs.length)
  | _ => true
def fitB (sh : List (Str × Str)) (d : Da) : Bool := d.subs.all (okF sh)
theorem upS_some {sh : List (Str × Str)} (nd : (sh.map (·.1)).Nodup) {z v : Str} (h : (z, v) ∈ sh) : upS sh z = some v := by
  have := valD_shD nd h
  rw [valD_up] at this
  cases e : upS sh z with
  | none => rw [e] at this; cases this
  | some a => rw [e] at this; cases this; rfl
theorem okF_eq {sh : List (Str × Str)} (nd : (sh.map (·.1)).Nodup) (z : Str) (fs : List Da) : okF sh (.t (.s z :: fs)) = match upS sh z with
    | some v => decide (v.cps.toList.length = fs.length)
    | none => false := by
  unfold okF
  cases e : upS sh z with
  | none =>
    show (sh.any fun x => decide (x.1 = z) && decide (x.2.cps.toList.length = fs.length)) = false
    rw [List.any_eq_false]
    intro x hx
    have : x.1 ≠ z := fun q => by
      have := upS_some nd (z := z) (v := x.2) (by rw [← q]; exact hx)
      rw [e] at this
      cases this
    simp [this]
  | some v =>
    have hm := upS_mem e
    show (sh.any fun x => decide (x.1 = z) && decide (x.2.cps.toList.length = fs.length)) = decide (v.cps.toList.length = fs.length)
    by_cases h : v.cps.toList.length = fs.length
    · rw [decide_eq_true h, List.any_eq_true]
      exact ⟨_, hm, by simp [h]⟩
    · rw [decide_eq_false h, List.any_eq_false]
      intro x hx
      by_cases q : x.1 = z
      · have := upS_some nd (z := z) (v := x.2) (by rw [← q]; exact hx)
        rw [e] at this
        cases this
        rw [decide_eq_false h, Bool.and_false]
        exact Bool.false_ne_true
      · simp [q]
mutual
theorem fo_fit {sh : List (Str × Str)} {lt : Str} : ∀ {n : Nat} {f : Da}, Fo sh lt n f → fitB sh f = true
  | _, _, .lt _ => by simp [fitB, Da.subs, okF]
  | _, _, .nd (z := z) (v := v) (fs := fs) hz hl h => by
    unfold fitB
    rw [Da.subs, List.all_cons]
    have h1 : okF sh (.t (.s z :: fs)) = true := by
      unfold okF
      rw [List.any_eq_true]
      exact ⟨_, hz, by simp [hl]⟩
    rw [h1, Bool.true_and]
    exact fos_fit h
theorem fos_fit {sh : List (Str × Str)} {lt : Str} : ∀ {n : Nat} {fs : List Da}, (∀ f ∈ fs, Fo sh lt n f) → (subsL fs).all (okF sh) = true
  | _, [], _ => by simp [subsL]
  | _, f :: fs, h => by
    rw [subsL, List.all_append, show f.subs.all (okF sh) = true from fo_fit (h f (by simp)), fos_fit fun g hg => h g (by simp [hg])]
    rfl
end
end VL
set_option Elab.async false
set_option linter.all false
set_option maxRecDepth 100000
set_option maxHeartbeats 1000000
namespace VL
open PySem PySem.Spec PyProof.Rows L2
section
variable {X : Cx} {c : Cq} {pos : Pos} {a b : Expr} {wa wb : WE}
theorem vt_dinV (hu : X.A.units + 1 < cLine) (hm : behindInMarks .In b = false) (ha : PE X a (lE X.K c wa)) (hb : PE X b (lE X.K c wb)) : PT X (.Compare a [.In] [b] pos) (lT X.K c (wB (wOp (rdDinV false) wa wb))) := pt_imp (pt_cmp (pc_din hu ha hb) hm) (lTest fun σ H Q h => lop lDinV σ H Q h)
theorem vt_dninV (hu : X.A.units + 1 < cLine) (hm : behindInMarks .NotIn b = false) (ha : PE X a (lE X.K c wa)) (hb : PE X b (lE X.K c wb)) : PT X (.Compare a [.NotIn] [b] pos) (lT X.K c (wB (wOp (rdDinV true) wa wb))) := pt_imp (pt_cmp (pc_dnotin hu ha hb) hm) (lTest fun σ H Q h => lop lDninV σ H Q h)
end
end VL
set_option Elab.async false
set_option linter.all false
set_option maxRecDepth 100000
set_option maxHeartbeats 1000000
namespace VL
open PySem PySem.Spec PyProof.Rows L2
def bz : Nat → Nat
  | 0 => 1
  | n + 1 => 2 + 3 * bz n
theorem szs_le {n : Nat} : ∀ {fs : List Da}, (∀ f ∈ fs, f.sz ≤ n) → szs fs ≤ fs.length * n
  | [], _ => by simp [szs]
  | f :: fs, h => by
    have h1 := h f (by simp)
    have h2 := szs_le (fs := fs) (n := n) fun g hg => h g (by simp [hg])
    rw [szs, List.length_cons, Nat.add_mul]
    omega
theorem fo_sz {sh : List (Str × Str)} {lt : Str} (hs : Shp sh) : ∀ {n : Nat} {f : Da}, Fo sh lt n f → f.sz ≤ bz n := by
  intro n f h
  induction h with
  | @lt n c hc =>
    have : 1 ≤ bz n := by cases n <;> simp [bz] <;> omega
    simpa [Da.sz] using this
  | @nd n z v fs hz hl _ ih =>
    have h1 := szs_le ih
    have h2 : fs.length ≤ 3 := by rw [hl]; exact hs.ar _ hz
    have h3 : fs.length * bz n ≤ 3 * bz n := Nat.mul_le_mul_right _ h2
    simp only [Da.sz, szs, bz]
    omega
theorem fo_fkl {sh : List (Str × Str)} {lt : Str} (hs : Shp sh) (hc : ∀ c ∈ lt.cps.toList, 65 ≤ c ∧ c ≤ 90) : ∀ {n : Nat} {f : Da}, Fo sh lt n f → Fk true f := by
  intro n f h
  induction h with
  | @lt n c h => exact .lt rfl (hc c h).1 (hc c h).2
  | @nd n z v fs hz hl _ ih => exact .nd (hs.wd _ hz) (by rw [hl]; exact hs.ar _ hz) ih
theorem fo_pd {sh : List (Str × Str)} {lt : Str} (hs : Shp sh) (hc : ∀ c ∈ lt.cps.toList, 65 ≤ c ∧ c ≤ 90) : ∀ {n : Nat} {f : Da}, Fo sh lt n f → Pd f n := by
  intro n f h
  induction h with
  | @lt n c h =>
    refine .s ?_
    unfold PyData.strOk
    rw [Array.all_eq_true']
    intro x hx
    have : x = c := by simpa using hx
    subst this
    have := hc x h
    exact decide_eq_true (by omega)
  | @nd n z v fs hz hl _ ih =>
    refine .t fun d hd => ?_
    rcases List.mem_cons.mp hd with rfl | hd
    · exact .s (wd_ok (hs.wd _ hz))
    · exact ih d hd
end VL
set_option Elab.async false
set_option linter.all false
set_option maxRecDepth 100000
set_option maxHeartbeats 1000000
namespace VL
open PySem PySem.Spec PyProof.Rows L2
section
variable {K : PySem.W.Frag} {c : Cq}
theorem valD_mem {ls : List (Key × Da)} {k : Key} {d : Da} (h : valD ls k = some d) : ∃ k', (k', d) ∈ ls := by
  unfold valD at h
  cases f : ls.find? (fun kd => decide (kd.1 = k)) with
  | none => rw [f] at h; cases h
  | some kd =>
    rw [f] at h
    cases h
    exact ⟨kd.1, List.mem_of_find?_eq_some f⟩
end
end VL
set_option Elab.async false
set_option linter.all false
set_option maxRecDepth 100000
set_option maxHeartbeats 1000000
set_option Elab.async false
set_option linter.all false
set_option maxRecDepth 100000
set_option maxHeartbeats 1000000
namespace VL
open PySem PySem.Spec PyProof.Rows L2 RT StX
section
variable {X : Cx} {c : Cq} {pos p : Pos} {e tg : Expr} {es : List Expr} {we : WE} {wl wr : WA}
def wRevI (we : WE) : WI := fun S Q => we S fun d S' => match d with
  | .l ds => Q ds.reverse S'
  | .t ds => Q ds.reverse S'
  | _ => False
theorem it_rlist {K : PySem.W.Frag} {q : Addr} {vs : List V} {ds : List Da} {W A : Addr → Prop} {H : Hp} (hq : H q = some (.lst vs)) (nW : ¬ (c.A0 q ∨ W q)) (ha : RpA K (fun a => c.A0 a ∨ W a) H vs ds) : ItOk K c (Itv K q vs.length) ds.reverse W H := fun H2 W2 k i => by
  have e2 : H2 q = some (.lst vs) := k.keep _ _ hq (.inl fun z => nW (.inr z))
  have hl := ha.length
  refine ⟨fun d hd => ?_, fun h => by show vs.length ≤ i; rw [List.length_reverse] at h; omega⟩
  have lt : i < ds.length := by
    have := (List.getElem?_eq_some_iff.mp hd).1
    rwa [List.length_reverse] at this
  rw [List.getElem?_reverse lt] at hd
  obtain ⟨v, hv, rv⟩ := ha.get hd
  rw [← hl] at hv
  refine ⟨⟨by omega, vs, v, SqL.of e2, hv⟩, fun x H3 hy => ?_⟩
  obtain ⟨rfl, hy⟩ := hy
  have := hy vs (SqL.of e2)
  rw [hv] at this
  cases this
  exact ⟨Same.refl _, rv.kp k.or⟩
theorem it_rtup {K : PySem.W.Frag} {q : Addr} {vs : List V} {ds : List Da} {W A : Addr → Prop} {H : Hp} (hq : SqT K H q vs) (ha : RpA K (fun a => c.A0 a ∨ W a) H vs ds) : ItOk K c (ItvT K q vs.length) ds.reverse W H := fun H2 W2 k i => by
  have e2 := sqt_kp k hq
  have hl := ha.length
  refine ⟨fun d hd => ?_, fun h => by show vs.length ≤ i; rw [List.length_reverse] at h; omega⟩
  have lt : i < ds.length := by
    have := (List.getElem?_eq_some_iff.mp hd).1
    rwa [List.length_reverse] at this
  rw [List.getElem?_reverse lt] at hd
  obtain ⟨v, hv, rv⟩ := ha.get hd
  rw [← hl] at hv
  refine ⟨⟨by omega, vs, v, e2, hv⟩, fun x H3 hy => ?_⟩
  obtain ⟨rfl, hy⟩ := hy
  have := hy vs e2
  rw [hv] at this
  cases this
  exact ⟨Same.refl _, rv.kp k.or⟩
theorem i_rev (hg : Gl X "reversed") (hm : X.mg "reversed" = none) (he : PE X e (lE X.K c we)) (hs : starEach [e] X.env = (false, eval e X.env) :: starEach [] X.env := by rfl) : PI X tg (.Call (.Name "reversed" p) [e] [] pos) (lWk X.K c (wRevI we)) :=
  pi_imp (pi_revA hg hm he hs) fun σ H R h => by
  obtain ⟨S, Qd, r, h, p⟩ := h
  refine ⟨S, _, r, h, fun d S1 h1 H1 v r1 k1 p1 => ?_⟩
  cases d <;> try exact h1.elim
  · obtain ⟨q, vs, rfl, g1, g2⟩ := tup_ok p1
    exact ⟨q, vs, rfl, .inr ⟨g1, p _ _ h1 _ _ r1 k1 (it_rtup (A := fun _ => False) g1 g2)⟩⟩
  · cases p1.pure rfl with
    | l g1 g2 g3 => exact ⟨_, _, rfl, .inl ⟨SqL.of g1, p _ _ h1 _ _ r1 k1 (it_rlist (A := fun _ => False) g1 g2 g3)⟩⟩
theorem dk_r {S : Sx} {p : Addr} {lk : Option Obj} {kds : List (Key × Da)} (h : S.M p = some (.dk lk kds)) : S.dk (.r p) = some kds := by
  show (match S.M p with | some (.dk _ kds) => some kds | _ => none) = _
  rw [h]
theorem dku_r {S : Sx} {p : Addr} {kds : List (Key × Da)} (h : S.M p = some (.dk none kds)) : S.dku (.r p) = some kds := by
  show (match S.M p with | some (.dk none kds) => some kds | _ => none) = _
  rw [h]
def wStar (we : WE) (wr : WA) : WA := fun S Q => we S fun d S1 => ∃ ds, d.isO = false ∧ S1.sq d = some ds ∧ (∀ x ∈ ds, x.isO = false) ∧ wr S1 fun es S2 => Q (ds ++ es) S2
theorem v_star (he : PE X e (lE X.K c we)) (hr : PA X es (lA X.K c wr)) (hs : starEach (.Starred e p :: es) X.env = (true, eval e X.env) :: starEach es X.env := by rfl) : PA X (.Starred e p :: es) (lA X.K c (wStar we wr)) := pa_imp (pa_star he hr hs) fun σ H Q h => by
  obtain ⟨S, Qd, r, h, p⟩ := h
  refine ⟨S, _, r, h, fun d S1 h1 H1 v r1 k1 p1 => ?_⟩
  obtain ⟨ds, dO, e1, hO, h2⟩ := h1
  obtain ⟨w, vs, rfl, g1, g2⟩ := sq_ok r1 p1 e1
  exact ⟨w, vs, rfl, g1.elim .inr .inl, S1, _, r1, h2, fun es S2 h3 H2 us r2 k2 p2 => p _ _ h3 _ _ r2 (k1.trans k2) ((g2.kp (kA k2)).append p2)⟩
end
end VL
set_option Elab.async false
set_option linter.all false
set_option maxRecDepth 100000
set_option maxHeartbeats 1000000
set_option Elab.async false
set_option linter.all false
set_option maxRecDepth 100000
set_option maxHeartbeats 1000000
set_option Elab.async false
set_option linter.all false
set_option maxRecDepth 100000
set_option maxHeartbeats 1000000
namespace VL
open PySem PySem.Spec PyProof.Rows L2
def lstAt (S : Sx) (d : Da) (p : Addr) (all : List Da) : Prop := match d with
  | .o i => S.ρ[i]? = some (.own p all)
  | .r q => q = p ∧ S.M p = some (.lst all)
  | _ => False
def lcGoR (ck : Sx → Prop) (wg : WG) (wt : WT) (we : WE) (vs : List Nat) (Q : List Da → Sx → Prop) : List Da → List Da → Sx → Prop
  | [], acc, S => ck S ∧ Q acc S
  | d :: ds, acc, S => ck S ∧ wg d (S.wipe vs) fun S2 => wt S2 fun b S3 => if b = true then we S3 fun y S4 => y.isO = false ∧ acc.length < sizeLine ∧ lcGoR ck wg wt we vs Q ds (acc ++ [y]) (S.back S4 vs) else lcGoR ck wg wt we vs Q ds acc (S.back S3 vs)
theorem lcGoR_ck {ck : Sx → Prop} {wg : WG} {wt : WT} {we : WE} {vs : List Nat} {Q : List Da → Sx → Prop} {ds acc : List Da} {S : Sx} (h : lcGoR ck wg wt we vs Q ds acc S) : ck S := by
  cases ds with
  | nil => exact h.1
  | cons d ds => exact h.1
def wLcR (w0 : WE) (wg : WG) (wt : WT) (we : WE) (vs : List Nat) : WA := fun S Q => w0 S fun d S1 => ∃ p all, lstAt S1 d p all ∧ lcGoR (fun S => lstAt S d p all) wg wt we vs Q all [] (S1.norm vs)
section
variable {K : PySem.W.Frag} {c : Cq}
theorem at_ok {S : Sx} {σ : L2.St} {H : Hp} {d : Da} {p : Addr} {all : List Da} (r : Rel K c S σ H) (h : lstAt S d p all) : ∃ vs, H p = some (.lst vs) ∧ RpA K (S.A c) H vs all := by
  cases d with
  | o i =>
    obtain ⟨_, vs, h1, h2⟩ := r.own _ _ _ h
    exact ⟨vs, h1, h2⟩
  | r q => exact r.mem p _ h.2
  | _ => exact h.elim
theorem at_v {S : Sx} {σ : L2.St} {H : Hp} {v : V} {d : Da} {p : Addr} {all : List Da} (r : Rel K c S σ H) (rv : RpS K (S.A c) σ H v d) (h : lstAt S d p all) : v = .ref p := by
  cases d with
  | o i =>
    obtain ⟨h1, _⟩ := r.own _ _ _ h
    rcases rv with rv | ⟨j, e, h2⟩
    · cases rv
    · cases e
      rw [h1] at h2
      cases h2
      rfl
  | r q =>
    obtain ⟨rfl, _⟩ := h
    exact rs_r rv
  | _ => exact h.elim
theorem llcR {w0 : WE} {g : TG} {wg : WG} {wt : WT} {we : WE} {tt : TT} {te : TE} {is vs : List Nat} (L : ∀ c' : Cq, c'.n = c.n → LG K c' g wg is) (hv : ∀ i ∈ is, i ∈ vs) (ht : ∀ c' : Cq, c'.n = c.n → ∀ σ H Q, lT K c' wt σ H Q → tt σ H Q)
    (he : ∀ c' : Cq, c'.n = c.n → ∀ σ H Q, lE K c' we σ H Q → te σ H Q) : ∀ σ H Q, lL K c (wLcR w0 wg wt we vs) σ H Q → tLc (fun σ H R => lE K c w0 σ H fun x H1 => ∃ a, x = .ref a ∧ (((∃ xs, SqL K H1 a xs) ∧ R (Itl K a) H1) ∨ ((∃ xs, SqT K H1 a xs) ∧ R (Itt K a) H1))) g tt te vs σ H Q := fun σ H Q h => by
  obtain ⟨S, Qd, r, h, p⟩ := h
  refine ⟨S, _, r, h, fun d0 S1 h1 H1 v1 r1 k1 p1 => ?_⟩
  obtain ⟨q0, ds, ha, h1⟩ := h1
  obtain ⟨vs1, g1, _⟩ := at_ok r1 ha
  refine ⟨q0, at_v r1 p1 ha, .inl ⟨⟨vs1, SqL.of g1⟩, fun D nD => ?_⟩⟩
  have nk := r1.nk nD
  have nA : ¬ c.A0 D := fun z => (r1.a0 D z).1 nD
  obtain ⟨r1', _⟩ := r1.plus (o := .lst []) nD
  have sm1 : Same H1 (upd H1 D (.lst [])) := same_upd nD
  refine ⟨fun i m H2 => m = ds.length - i ∧ i ≤ ds.length ∧ ∃ S2 acc vacc, Rel K (c.plus D) S2 σ H2 ∧ Kp S1.W S2.W H1 H2 ∧ H2 D = some (.lst vacc) ∧ RpA K (S2.A (c.plus D)) H2 vacc acc ∧ acc.length ≤ sizeLine ∧ lcGoR (fun S => lstAt S d0 q0 ds) wg wt we vs Qd (ds.drop i) acc S2,
    ⟨ds.length, by simp, Nat.zero_le _, S1.norm vs, [], [], (r1'.back r1' .refl rfl fun _ _ => rfl).1, (Kp.same sm1).trans (r1'.back r1' .refl rfl fun _ _ => rfl).2, upd_same, .nil, Nat.zero_le _, by simpa using h1⟩, ?_⟩
  rintro i m H2 ⟨rfl, hi, S2, acc, vacc, r2, k2, eD, ra, hz, h2⟩
  obtain ⟨vs2, g2, ga⟩ := at_ok r2 (lcGoR_ck h2)
  by_cases hlt : i < ds.length
  · obtain ⟨v', hv', rv⟩ := ga.get (List.getElem?_eq_getElem hlt)
    refine .inr ⟨⟨vs2, v', SqL.of g2, hv'⟩, fun H' => ∃ S2 acc vacc, Rel K (c.plus D) S2 σ H' ∧ Kp S1.W S2.W H1 H' ∧ H' D = some (.lst vacc) ∧ RpA K (S2.A (c.plus D)) H' vacc acc ∧ acc.length ≤ sizeLine ∧ lcGoR (fun S => lstAt S d0 q0 ds) wg wt we vs Qd (ds.drop (i + 1)) acc S2,
      fun H' q => ⟨ds.length - (i + 1), by omega, rfl, hlt, q⟩, fun x H3 hy => ?_⟩
    obtain ⟨rfl, hy⟩ := hy
    have := hy vs2 (SqL.of g2)
    rw [hv'] at this
    cases this
    rw [List.drop_eq_getElem_cons hlt] at h2
    have h2 := h2.2
    obtain ⟨rw3, kw3⟩ := r2.wipe vs
    have rx' : Rp K ((S2.wipe vs).A (c.plus D)) H3 v' ds[i] := rv.kp (kA kw3)
    refine (L (c.plus D) rfl).run v' ds[i] _ _ H3 _ _ rw3 rx' h2 fun S4 σ4 h4 r4 k4 s4 l4 => ?_
    have l4' : σ4.length = σ.length := by rw [l4, wipe_length]
    have s4' : ∀ j, j ∉ vs → σ4[j]? = σ[j]? := fun j hj => by
      rw [s4 j (fun z => hj (hv j z)), wipe_get hj]
    refine ⟨wipe_eq l4' s4', ht (c.plus D) rfl _ _ _ ⟨S4, _, r4, h4, fun b S5 h5 H5 r5 k5 => ?_⟩⟩
    have k25 : Kp S2.W S5.W H3 H5 := (kw3.trans k4).trans k5
    have D5 : H5 D = some (.lst vacc) := k25.keep D _ eD (.inl (r2.a0 D (.inr rfl)).2)
    refine ite_of h5 (fun h6 => he (c.plus D) rfl _ _ _ ⟨S5, _, r5, h6, fun y S6 h7 H6 v r6 k6 py => ?_⟩) fun h6 => ?_
    · obtain ⟨py0, hz2, h8⟩ := h7
      have k26 := k25.trans k6
      have D6 : H6 D = some (.lst vacc) := k26.keep D _ eD (.inl (r2.a0 D (.inr rfl)).2)
      obtain ⟨rb, kb⟩ := r2.back r6 k26 l4' s4'
      have kab := kA (c := c.plus D) (k26.trans kb)
      have ra6 := ra.kp kab
      refine ⟨vacc, D6, by rw [ra.length]; exact hz2, S2.back S6 vs, acc ++ [y], vacc ++ [v], rb.upD D6 trivial nk, ?_, upd_same, ?_, by rw [List.length_append]; exact hz2, h8⟩
      · refine ⟨fun b u eb z => ?_, (k2.trans (k26.trans kb)).mono⟩
        rw [upd_ne (ne_of_none eb nD)]
        exact (k2.trans (k26.trans kb)).keep b u eb z
      · refine (ra6.snoc ((py.pure py0).kp (kA kb))).kp ⟨fun b u eb z => ?_, fun b z => .inl z⟩
        have : b ≠ D := fun q => by
          subst q
          rcases z with z | z
          · exact z (.inl (.inr rfl))
          · rw [D6] at eb
            cases eb
            exact z trivial
        rw [upd_ne this]
        exact eb
    · obtain ⟨rb, kb⟩ := r2.back r5 k25 l4' s4'
      exact ⟨S2.back S5 vs, acc, vacc, rb, k2.trans (k25.trans kb), D5, ra.kp (kA (k25.trans kb)), hz, h6⟩
  · have e : i = ds.length := by omega
    subst e
    rw [List.drop_length] at h2
    obtain ⟨rm, km⟩ := r2.minus eD trivial nA nk
    have q := p acc S2 h2.2 (offH H2 D) D vacc rm ?_ offH_same (ra.kp km) hz
    · rw [upd_offH eD] at q
      exact .inl ⟨⟨vs2, SqL.of g2, by rw [ga.length]; exact Nat.le_refl _⟩, q⟩
    · refine k1.trans ⟨fun b u eb z => ?_, fun b z => k2.mono b z⟩
      rw [offH_ne (ne_of_none eb nD)]
      exact k2.keep b u eb z
end
section
variable {X : Cx} {c : Cq} {pos : Pos} {tg : Expr} {w0 we : WE} {wt : WT}
theorem v_lcR {elt tg iter : Expr} {ifs : List Expr} {scope : Scope} {own : List (Str × Nat)} {g : TG} {wg : WG} {is : List Nat} (hc : X.calm = true) (hN : X.N.Nodup) (hi : PE X iter (lE X.K c w0)) (ok : BlkOk X.N X.env.scope scope own)
    (L : ∀ c' : Cq, c'.n = c.n → LG X.K c' g wg is) (hg : ∀ (s : Shared) (H : Hp) (C : Addr) (cl : List (Str × Addr)) (fp : List Addr), PG (X.blk s H scope (compEnvC scope cl C X.env) fp) tg g)
    (ht : ∀ (s : Shared) (H : Hp) (C : Addr) (cl : List (Str × Addr)) (fp : List Addr) (c' : Cq), c'.n = c.n → PTs (X.blk s H scope (compEnvC scope cl C X.env) fp) ifs (lT X.K c' wt))
    (he : ∀ (s : Shared) (H : Hp) (C : Addr) (cl : List (Str × Addr)) (fp : List Addr) (c' : Cq), c'.n = c.n → PE (X.blk s H scope (compEnvC scope cl C X.env) fp) elt (lE X.K c' we))
    (hv : ∀ i ∈ is, i ∈ own.map (·.2)) (hs : ∀ x, foldedSetIterable iter X.env x = pure x := by intro _; rfl) : PE X (.ListComp elt [⟨tg, iter, ifs, 0⟩] scope pos) (lL X.K c (wLcR w0 wg wt we (own.map (·.2)))) :=
  pe_imp (pe_lc (tt := fun σ H Q => ∃ c' : Cq, c'.n = c.n ∧ lT X.K c' wt σ H Q) (te := fun σ H Q => ∃ c' : Cq, c'.n = c.n ∧ lE X.K c' we σ H Q) hc hN (pi_lt hi) ok hg
    (fun s H C cl fp => ⟨fun pins s' σ H' Q I ⟨c', hc', h⟩ => (ht s H C cl fp c' hc').run pins s' σ H' Q I h⟩)
    (fun s H C cl fp => ⟨fun pins s' σ H' Q I ⟨c', hc', h⟩ => (he s H C cl fp c' hc').run pins s' σ H' Q I h⟩) hs)
    (llcR L hv (fun c' e _ _ _ h => ⟨c', e, h⟩) (fun c' e _ _ _ h => ⟨c', e, h⟩))
end
end VL
set_option Elab.async false
set_option linter.all false
set_option maxRecDepth 100000
set_option maxHeartbeats 1000000
namespace VL
open PySem PySem.Spec PyProof.Rows L2
theorem via_tail {P : Prop} {TOk : Sx → Prop} (cont : Sx → Prop) (main : (∀ S, TOk S → cont S) → P) (tail : ∀ S, TOk S → cont S) : P := main tail
theorem lcR_map {ck : Sx → Prop} {wg : WG} {we : WE} {vs : List Nat} {Q : List Da → Sx → Prop} {S : Sx} {ds : List Da} (g : Da → Da) (hc : ck (S.norm vs))
    (h : ∀ d ∈ ds, ∀ (R1 : Da → Sx → Prop), (∀ S4, Agr (S.norm vs) S4 vs → R1 (g d) S4) → wg d ((S.norm vs).wipe vs) fun S2 => we S2 R1)
    (hO : ∀ d ∈ ds, (g d).isO = false) (hz : ds.length ≤ sizeLine) (q : Q (ds.map g) (S.norm vs)) : lcGoR ck wg wYes we vs Q ds [] (S.norm vs) := by
  have go : ∀ (rest done : List Da), ds = done ++ rest → lcGoR ck wg wYes we vs Q rest (done.map g) (S.norm vs) := by
    intro rest
    induction rest with
    | nil =>
      intro done e
      rw [List.append_nil] at e
      subst e
      exact ⟨hc, q⟩
    | cons d rest ih =>
      intro done e
      have hd : d ∈ ds := by rw [e]; simp
      have le := congrArg List.length e
      rw [List.length_append, List.length_cons] at le
      refine ⟨hc, h d hd _ fun S4 hb => ⟨hO d hd, by rw [List.length_map]; omega, ?_⟩⟩
      rw [hb.back, show done.map g ++ [g d] = (done ++ [d]).map g by simp]
      exact ih (done ++ [d]) (by rw [e]; simp)
  exact go ds [] rfl
theorem valD_snoc {l : List (Key × Da)} {k k' : Key} {d : Da} : valD (l ++ [(k', d)]) k = (valD l k).or (if k' = k then some d else none) := by
  unfold valD
  rw [List.find?_append]
  cases e : l.find? (fun kd => decide (kd.1 = k)) with
  | some x => rfl
  | none =>
    by_cases h : k' = k
    · subst h; simp
    · simp [h]
theorem valD_some_iff {kds : List (Key × Da)} {k : Key} : (valD kds k).isSome = kds.any fun kd => decide (kd.1 = k) := by
  unfold valD
  rw [Option.isSome_map, List.isSome_find?]
end VL
set_option Elab.async false
set_option linter.all false
set_option maxRecDepth 100000
set_option maxHeartbeats 1000000
namespace VL
open PySem PySem.Spec PyProof.Rows L2
structure KB0 (K : PySem.W.Frag) (fd : FuncData) (ps ks : List Str) (dvs : List V) (ds : List Value) : Prop where
  r : Vals dvs ds
  to : ∀ (s : Shared) (us : List Value), K.In s.heap → us.length = ks.length → BindsTo s fd ⟨[], ks.zip us⟩ (ps.zip (us ++ ds))
  len : ps.length = ks.length + ds.length
section
variable {X : Cx} {CX : CXT} {k : Nat} {f : Addr} {fd : FuncData} {ps ks : List Str} {sp : Sp} {E : L2.St → XK} {x : Str} {p pos kpos : Pos} {e : Expr} {kws : List Keyword} {tk : TA} {dvs : List V} {ds : List Value} {nm : Option Str}
theorem run_k0 {pins : List (Addr × Obj)} {σ : L2.St} {H : Hp} {s : Shared} {Q : VK} {us : List Value} {vs : List V} (F : FnOk X.prog X.w X.K X.mg X.base CX k f fd ps sp) (hr : Room k X.A) (hb : KB0 X.K fd ps ks dvs ds) (hx : PassesAt CX X σ (E σ))
    (I : Inv X pins σ H s) (r : Vals vs us) (h : sp (vs ++ dvs) H Q (E σ)) : wpAny (model X.prog X.w) X.A (call (.ref f) [] (ks.zip us)) (EP X pins σ Q) X.xe s := by
  have hl := F.len _ _ _ _ h
  rw [List.length_append, hb.len, hb.r.length, r.length] at hl
  have hb2 := hb.to s us I.kIn (by omega)
  refine wpAny_call (codeAny_mono (F.run X.A X.stack s H ⟨[], ks.zip us⟩ (us ++ ds) (vs ++ dvs) Q (E σ) hr I.env0 hb2 (r.append hb.r) h) fun r s' hq => ?_)
  cases r with
  | error e => exact hx pins H s e s' I hq
  | ok fl =>
    cases fl with
    | ret u => exact I.after hq
    | next => exact False.elim hq
    | brk => exact False.elim hq
    | cont => exact False.elim hq
theorem pe_k0 (F : FnOk X.prog X.w X.K X.mg X.base CX k f fd ps sp) (hr : Room k X.A) (hg : Gl X x) (hm : X.mg x = some (.ref f)) (hk : PySem.W.keepIn X.K (.ref f) = true) (hb : KB0 X.K fd ps ks dvs ds) (hx : ∀ σ, PassesAt CX X σ (E σ))
    (hkw : PK X kws tk) (hall : (backToKw pos (keywordEach kws X.env)).all (·.1.isSome) = true := by rfl) (hks : (backToKw pos (keywordEach kws X.env)).filterMap (·.1) = ks := by rfl)
    (hdb : (x == ("__debug__" : Str)) = false := by decide)
    (hpl : ((backTo pos (starEach [] X.env)).any (·.1) || (backToKw pos (keywordEach kws X.env)).any (·.1.isNone)) = false := by rfl) :
    PE X (.Call (.Name x p) [] kws pos) (fun σ H Q => tk σ H fun zs H2 => sp (zs ++ dvs) H2 Q (E σ)) := by
  refine ⟨fun pins s σ H Q I h => ?_⟩
  refine wpAny_Call_Name_kw (ld_glob I hg hm ?_ hdb)
  refine PySem.W.callWith_KW0 (h₀ := X.base) I.ok.mod.kin hk hall ?_ hpl
  refine thn (hkw.run pos pins s σ H _ I h) fun ws s2 ⟨zs, H2, I2, rz, q2⟩ => ⟨I2.kIn, ?_⟩
  rw [hks]
  exact run_k0 F hr hb (hx σ) I2 rz q2
end
section
variable {X : Cx} {c : Cq} {e : Expr} {kws : List Keyword} {we : WE} {wr wl : WA} {nm : Option Str} {kpos pos p : Pos}
theorem pk_imp {t t' : TA} (h : PK X kws t) (i : ∀ σ H Q, t' σ H Q → t σ H Q) : PK X kws t' := ⟨fun pos pins s σ H Q I hq => h.run pos pins s σ H Q I (i σ H Q hq)⟩
theorem v_knil : PK X [] (lA X.K c wNil) := pk_imp pk_nil fun σ H Q h => by
  obtain ⟨S, Qd, r, h, p⟩ := h
  exact p _ _ h _ _ r .refl .nil
theorem v_kcons (he : PE X e (lE X.K c we)) (hr : PK X kws (lA X.K c wr)) : PK X (⟨nm, e, kpos⟩ :: kws) (lA X.K c (wCons we wr)) := pk_imp (pk_cons he hr) fun σ H Q h => by
  obtain ⟨S, Qd, r, h, p⟩ := h
  refine ⟨S, _, r, h, fun d S1 h1 H1 v r1 k1 p1 => ⟨S1, _, r1, h1.2, fun ds S2 h2 H2 vs r2 k2 p2 => ?_⟩⟩
  exact p _ _ h2 _ _ r2 (k1.trans k2) (.cons ((p1.pure h1.1).kp (kA k2)) p2)
end
structure DfnK (K : PySem.W.Frag) (mg : Str → Option Value) (x : Str) (st : Stmt) (ps : List Str) (f : Addr) (fd : FuncData) : Prop where
  F : L2.FunD K x x (defArgs st) (defBody st) (defScope st) [] [] f fd
  b : KB0 K fd ps ps [] []
  g : mg x = some (.ref f)
section
variable {X : Cx} {c : Cq} {k : Nat} {f : Addr} {fd : FuncData} {ps ks : List Str} {dc : DC} {x : Str} {p pos : Pos} {kws : List Keyword} {wl : WA} {Xs : Value → Option (List (Str × Da)) → Sx → Prop} {W : WX}
theorem v_callKw (F : FnOk X.prog X.w X.K X.mg X.base (L2.CX X.prog X.w) k f fd ps (spOf X.K dc)) (hr : Room k X.A) (hg : Gl X x) (hm : X.mg x = some (.ref f)) (hk : PySem.W.keepIn X.K (.ref f) = true) (hb : KB0 X.K fd ps ks [] [])
    (tk : Takes X W) (hX : XOk X.K c Xs W) (hkw : PK X kws (lA X.K c wl)) (hall : (backToKw pos (keywordEach kws X.env)).all (·.1.isSome) = true := by rfl) (hks : (backToKw pos (keywordEach kws X.env)).filterMap (·.1) = ks := by rfl)
    (hdb : (x == ("__debug__" : Str)) = false := by decide) (hpl : ((backTo pos (starEach [] X.env)).any (·.1) || (backToKw pos (keywordEach kws X.env)).any (·.1.isNone)) = false := by rfl) :
    PE X (.Call (.Name x p) [] kws pos) (lE X.K c (wCall dc [] Xs wl)) := pe_imp (pe_k0 F hr hg hm hk hb (fun σ => passAt tk σ) hkw hall hks hdb hpl) fun σ H Q h => by
  obtain ⟨S, Qd, r, h, p⟩ := h
  exact ⟨S, _, r, h, fun ds S1 h1 H1 vs r1 k1 p1 => sp_call r1 (p1.append .nil) h1 (p.at k1) hX⟩
end
end VL
set_option Elab.async false
set_option linter.all false
set_option maxRecDepth 100000
set_option maxHeartbeats 1000000
set_option Elab.async false
set_option linter.all false
set_option maxRecDepth 100000
set_option maxHeartbeats 1000000
namespace VL
open PySem PySem.Spec PyProof.Rows L2
def rdCount : RD := fun d y S Q => match y with
  | .i k => ∃ ns : List Int, S.lst d = some (ns.map .i) ∧ Q (.i ((ns.count k : Nat) : Int)) S
  | _ => False
theorem lCount {K : PySem.W.Frag} {c : Cq} : MetL K c (rCntI K) rdCount := fun σ H S x y d i Qd Q r rx ry h p => by
  cases i <;> try exact h.elim
  rename_i k
  obtain ⟨ns, e, q⟩ := h
  obtain ⟨w, vs, rfl, g1, g2⟩ := lst_ok r rx e
  have ev := rpa_ints g2
  subst ev
  have ey := rs_i ry
  subst ey
  exact ⟨w, ns, k, rfl, rfl, SqL.of g1, p _ _ q _ _ r .refl (.inl (.i _))⟩
end VL
set_option Elab.async false
set_option linter.all false
set_option maxRecDepth 100000
set_option maxHeartbeats 1000000
set_option Elab.async false
set_option linter.all false
set_option maxRecDepth 100000
set_option maxHeartbeats 1000000
namespace VL
open PySem PySem.Spec PyProof.Rows L2
def rdNotInR : RD := fun x y S Q => ∃ ds, S.lst y = some ds ∧ x.eqb = true ∧ (Da.l ds).eqb = true ∧ Q (.b (!(pys ds).any fun z => PyData.eqv z x.py)) S
theorem lNotInR {K : PySem.W.Frag} {c : Cq} : OpL K c (rNotInD K) rdNotInR := fun σ H S x y dx dy Qd Q r rx ry h p => by
  obtain ⟨ds, hl, h1, h2, h⟩ := h
  obtain ⟨q, vs, rfl, g1, g2⟩ := lst_ok r ry hl
  have hp := (eqb_shaped h2).2
  have hs := (eqb_shaped h2).1
  rw [Da.py] at hs
  exact ⟨_, _, (rx.pure (eqb_no h1)).dp (eqb_shaped h1).2, .lst (SqL.of g1) (RpA.dp (by simpa [Da.pl] using hp) g2), (eqb_shaped h1).1, hs, p _ _ h _ _ r .refl (.inl (.b _))⟩
end VL
set_option Elab.async false
set_option linter.all false
set_option maxRecDepth 100000
set_option maxHeartbeats 1000000
set_option Elab.async false
set_option linter.all false
set_option maxRecDepth 100000
set_option maxHeartbeats 1000000
namespace VL
open PySem PySem.Spec PyProof.Rows L2
section
variable {X : Cx} {c : Cq} {pos pos' : Pos} {e value o i : Expr} {we wa wb wv wd wk : WE}
def wEi (wa wb : WE) : WE := fun S Q => wa S Q ∨ wb S Q
theorem vEi (ha : PE X e (lE X.K c wa)) (hb : PE X e (lE X.K c wb)) : PE X e (lE X.K c (wEi wa wb)) := ⟨fun pins s σ H Q I h => by
  obtain ⟨S, Qd, r, h, p⟩ := h
  rcases h with h | h
  · exact ha.run pins s σ H Q I ⟨S, Qd, r, h, p⟩
  · exact hb.run pins s σ H Q I ⟨S, Qd, r, h, p⟩⟩
end
end VL
set_option Elab.async false
set_option linter.all false
set_option maxRecDepth 100000
set_option maxHeartbeats 1000000
namespace VL
open PySem PySem.Spec PyProof.Rows L2
section
variable {X : Cx} {pins : List (Addr × Obj)} {σ : L2.St} {H : Hp} {s : Shared} {A : Addr → Prop}
mutual
theorem nest_is (I : Inv X pins σ H s) : ∀ {v : V} {d : Da} {u : Value}, Rp X.K A H v d → d.nkB = true → RelV v u → NestedIs s.heap d.nk u
  | _, _, u, .n, _, r => by cases (show u = Value.none from r); exact .none
  | _, _, u, .b x, _, r => by cases (show u = Value.bool x from r); rw [Da.nk]; exact .bool rfl
  | _, _, u, .i k, _, r => by obtain ⟨t, e⟩ := (show ∃ t, u = Value.int k t from r); subst e; rw [Da.nk]; exact .int k t
  | _, _, u, .s z, _, r => by obtain ⟨t, e⟩ := (show ∃ t, u = Value.str z t from r); subst e; rw [Da.nk]; exact .text z t
  | _, _, _, .r a, h, _ => by cases h
  | _, _, _, .ty _, h, _ => by cases h
  | _, _, _, .sc _, h, _ => by cases h
  | _, _, u, .t (a := a) (ds := ds) hq ha, h, r => by
    cases (show u = Value.ref a from r)
    obtain ⟨its, rv, ht, hz⟩ := I.tuple hq
    obtain ⟨o, h1, h2, n, h3⟩ := ht
    rw [Da.nkB] at h
    rw [Da.nk]
    exact .tup h1 h2 h3 (by simpa using nest_all I ha h rv)
  | _, _, _, .l _ _ _, h, _ => by cases h
  | _, _, _, .dk _ _ _, h, _ => by cases h
  | _, _, _, .ins _ _ _, h, _ => by cases h
theorem nest_all (I : Inv X pins σ H s) : ∀ {vs : List V} {ds : List Da} {us : List Value}, RpA X.K A H vs ds → nkBs ds = true → Vals vs us → NestedAll s.heap (nks ds) us
  | _, _, _, .nil, _, .nil => .nil
  | _, _, _, .cons (d := d) (ds := ds) h a, hB, .cons r rr => by
    rw [nkBs, Bool.and_eq_true] at hB
    rw [nks]
    exact .cons (nest_is I h hB.1 r) (nest_all I a hB.2 rr)
end
end
/-- at b stands the key k -/
def NkOk (X : Cx) (H : Hp) (b : Addr) (k : NestedKey) : Prop := ∀ pins σ s, Inv X pins σ H s → (nestedKind X.prog X.w).is s.heap k b
theorem key8_parts {d : Da} (h : d.key8 = true) : d.nkB = true ∧ d.nk.depth ≤ 8 := by
  unfold Da.key8 at h
  rw [Bool.and_eq_true, Bool.and_eq_true] at h
  exact ⟨h.2.1, of_decide_eq_true h.2.2⟩
theorem nk_ok {X : Cx} {A : Addr → Prop} {H : Hp} {b : Addr} {d : Da} (r : Rp X.K A H (.ref b) d) (h : d.key8 = true) : NkOk X H b d.nk := fun pins σ s I =>
  ⟨nest_is I r (key8_parts h).1 (show RelV (.ref b) (.ref b) from rfl), (key8_parts h).2⟩
abbrev R3 (p : NestedKey × Addr × V) (q : NestedKey × Addr × Value) : Prop := p.1 = q.1 ∧ p.2.1 = q.2.1 ∧ RelV p.2.2 q.2.2
def valK (kas : List (NestedKey × Addr × V)) (k : NestedKey) : Option V := (kas.find? fun p => decide (p.1 = k)).map (·.2.2)
def putKN (kas : List (NestedKey × Addr × V)) (k : NestedKey) (b : Addr) (v : V) : List (NestedKey × Addr × V) :=
  if (valK kas k).isSome = true then kas.map (fun p => if p.1 = k then (p.1, p.2.1, v) else p) else kas ++ [(k, b, v)]
theorem valK_pos {p : NestedKey × Addr × V} {r : List (NestedKey × Addr × V)} {k : NestedKey} (e : p.1 = k) : valK (p :: r) k = some p.2.2 := by simp [valK, List.find?_cons, e]
theorem valK_neg {p : NestedKey × Addr × V} {r : List (NestedKey × Addr × V)} {k : NestedKey} (e : ¬ p.1 = k) : valK (p :: r) k = valK r k := by simp [valK, List.find?_cons, e]
theorem p3_val {kas : List (NestedKey × Addr × V)} {xs : List (NestedKey × Addr × Value)} (r : Paired R3 kas xs) (k : NestedKey) : RelO (valK kas k) ((atKey xs k).map (·.2)) := by
  induction r with
  | nil => exact True.intro
  | @cons p q ps qs h t ih =>
    obtain ⟨h1, _, h2⟩ := h
    by_cases e : p.1 = k
    · have e' : q.1 = k := h1.symm.trans e
      have b : atKey (q :: qs) k = some q.2 := by simp [atKey, List.find?_cons, e']
      rw [valK_pos e, b]; exact h2
    · have e' : ¬ q.1 = k := fun z => e (h1.trans z)
      have b : atKey (q :: qs) k = atKey qs k := by simp [atKey, List.find?_cons, e']
      rw [valK_neg e, b]; exact ih
theorem p3_repl {kas : List (NestedKey × Addr × V)} {xs : List (NestedKey × Addr × Value)} (r : Paired R3 kas xs) (k : NestedKey) {y : V} {u : Value} (ry : RelV y u) :
    Paired R3 (kas.map fun p => if p.1 = k then (p.1, p.2.1, y) else p) (xs.map (putAt k u)) := by
  induction r with
  | nil => exact .nil
  | @cons p q ps qs h t ih =>
    rw [List.map_cons, List.map_cons]
    refine .cons ?_ ih
    obtain ⟨h1, h2, h3⟩ := h
    unfold putAt
    by_cases e : p.1 = k
    · rw [if_pos e, if_pos (h1.symm.trans e)]; exact ⟨h1, h2, ry⟩
    · rw [if_neg e, if_neg (fun z => e (h1.trans z))]; exact ⟨h1, h2, h3⟩
theorem p3_put {kas : List (NestedKey × Addr × V)} {xs : List (NestedKey × Addr × Value)} (r : Paired R3 kas xs) (k : NestedKey) {b : Addr} {y : V} {u : Value} (ry : RelV y u) : Paired R3 (putKN kas k b y) (storedH xs k b u) := by
  have e : (valK kas k).isSome = (atKey xs k).isSome := by
    rw [(p3_val r k).isSome_eq, Option.isSome_map]
  unfold putKN storedH
  rw [e]
  by_cases q : (atKey xs k).isSome = true
  · rw [if_pos q, if_pos q]; exact p3_repl r k ry
  · rw [if_neg q, if_neg q]; exact Paired.snoc r ⟨rfl, rfl, ry⟩
theorem putKN_le (kas : List (NestedKey × Addr × V)) (k : NestedKey) (b : Addr) (v : V) : (putKN kas k b v).length ≤ kas.length + 1 := by
  unfold putKN
  split
  · rw [List.length_map]; omega
  · rw [List.length_append]; exact Nat.le_refl _
section
variable {X : Cx} {pins : List (Addr × Obj)} {σ : L2.St} {H : Hp} {s : Shared} {a b : Addr} {kas : List (NestedKey × Addr × V)} {k : NestedKey} {lk : Option Obj} {A : Around} {E : Value → Shared → Prop}
theorem dn_raw (I : Inv X pins σ H s) (e : H a = some (dnO X.prog X.w a lk kas)) : rawN X.prog X.w a kas s.heap := by
  have h := I.hok a _ e
  cases lk with
  | none => exact (show ObjOk X.prog X.w H s.heap a (.ext _) from h).1
  | some o => exact (show ObjOk X.prog X.w H s.heap a (.frz o (.ext _)) from h).2.1
theorem dn_at (I : Inv X pins σ H s) (e : H a = some (dnO X.prog X.w a lk kas)) (hk : ∀ p ∈ kas, NkOk X H p.2.1 p.1) :
    kas.length ≤ sizeLine ∧ (a == sysModules) = false ∧ ∃ xs, Paired R3 kas xs ∧ s.heap.DictOfH (nestedKind X.prog X.w) a xs := by
  obtain ⟨z, y, xs, r, o, es, ep, h1, h2, h3, h4, h5⟩ := dn_raw I e
  refine ⟨z, y, xs, r, o, es, ep, h1, h2, h3, h4, fun x hx => ?_, h5⟩
  have all : ∀ {l : List (NestedKey × Addr × V)} {m : List (NestedKey × Addr × Value)}, Paired R3 l m → (∀ p ∈ l, NkOk X H p.2.1 p.1) → ∀ x ∈ m, (nestedKind X.prog X.w).is s.heap x.1 x.2.1 := by
    intro l m q
    induction q with
    | nil => intro _ x hx; exact nomatch hx
    | @cons p q ps qs hq t ih =>
      intro hp x hx
      rcases List.mem_cons.mp hx with e | hx
      · subst e
        have := hp p (by simp) pins σ s I
        rw [← hq.1, ← hq.2.1]
        exact this
      · exact ih (fun p hp' => hp p (by simp [hp'])) x hx
  exact all r hk x hx
theorem ext_new {P : Program} {w : World} {H' : Hp} {h' : Heap} {kas : List (NestedKey × Addr × V)} (r : rawN P w a kas h') : ObjOk P w H' h' a (dnO P w a none kas) := by
  refine ⟨r, ?_, fun h1 h2 q k => ?_⟩
  · obtain ⟨_, _, _, _, o, _, _, h, _⟩ := r
    exact ⟨o, h⟩
  · obtain ⟨z, y, xs, r, o, es, ep, h, c⟩ := q
    exact ⟨z, y, xs, r, o, es, ep, k _ h, c⟩
theorem n_get {v : V} {Q : Value → Shared → Prop} (hu : A.units + 9 < cLine) (I : Inv X pins σ H s) (e : H a = some (dnO X.prog X.w a lk kas)) (hk : ∀ p ∈ kas, NkOk X H p.2.1 p.1) (kb : NkOk X H b k) (l : valK kas k = some v) (h : ∀ w' s', Inv X pins σ H s' → RelV v w' → Q w' s') :
    wpAny (model X.prog X.w) A (getItem (.ref a) (.ref b)) Q E s := by
  obtain ⟨z, hd, xs, rel, dd⟩ := dn_at I e hk
  obtain ⟨w', hw, rw'⟩ := RelO.some_of (v := v) (o := (atKey xs k).map (·.2)) (by rw [← l]; exact p3_val rel k)
  obtain ⟨p, hp, hp2⟩ := Option.map_eq_some_iff.mp hw
  refine wpAny_getItem_heap (knd := nestedKind X.prog X.w) (show A.units + 1 + 8 < cLine by omega) (kb pins σ s I) dd hp ?_
  rw [hp2]
  exact h w' _ (I.tok _) rw'
theorem n_in {Q : Value → Shared → Prop} (hu : A.units + 9 < cLine) (I : Inv X pins σ H s) (e : H a = some (dnO X.prog X.w a lk kas)) (hk : ∀ p ∈ kas, NkOk X H p.2.1 p.1) (kb : NkOk X H b k) (h : ∀ s', Inv X pins σ H s' → Q (.bool (valK kas k).isSome) s') :
    wpAny (model X.prog X.w) A (compareOp .In (.ref b) (.ref a)) Q E s := by
  obtain ⟨z, hd, xs, rel, dd⟩ := dn_at I e hk
  refine wpAny_in_heap (knd := nestedKind X.prog X.w) (show A.units + 1 + 8 < cLine by omega) (kb pins σ s I) hd dd ?_
  have q := (p3_val rel k).isSome_eq
  rw [Option.isSome_map] at q
  rw [← q]
  exact h _ (I.tok _)
theorem n_notIn {Q : Value → Shared → Prop} (hu : A.units + 9 < cLine) (I : Inv X pins σ H s) (e : H a = some (dnO X.prog X.w a lk kas)) (hk : ∀ p ∈ kas, NkOk X H p.2.1 p.1) (kb : NkOk X H b k) (h : ∀ s', Inv X pins σ H s' → Q (.bool (!(valK kas k).isSome)) s') :
    wpAny (model X.prog X.w) A (compareOp .NotIn (.ref b) (.ref a)) Q E s := by
  obtain ⟨z, hd, xs, rel, dd⟩ := dn_at I e hk
  refine notIn_keyed (knd := nestedKind X.prog X.w) (k := k) (show A.units + 1 + 8 < cLine by omega) (kb pins σ s I) hd ⟨xs, dd, rfl⟩ ?_
  rw [valueAt_pairsH, ← (p3_val rel k).isSome_eq]
  exact h _ (I.tok _)
theorem n_put {v : V} {r : Value} {Q : Unit → Shared → Prop} (hu : A.units + 9 < cLine) (I : Inv X pins σ H s) (e : H a = some (dnO X.prog X.w a none kas)) (hk : ∀ p ∈ kas, NkOk X H p.2.1 p.1) (kb : NkOk X H b k) (hz : kas.length < sizeLine) (rv : RelV v r)
    (h : ∀ s', Inv X pins σ (upd H a (dnO X.prog X.w a none (putKN kas k b v))) s' → Q () s') : wpAny (model X.prog X.w) A (setItem (.ref a) (.ref b) r) Q E s := by
  obtain ⟨z, hd, xs, rel, dd⟩ := dn_at I e hk
  have hz' : xs.length ≤ sizeLine := by rw [← Paired.length rel]; exact z
  have hl : (putKN kas k b v).length ≤ sizeLine := by have := putKN_le kas k b v; omega
  refine wpAny_setItem_heap (knd := nestedKind X.prog X.w) (hsz := hz') (show A.units + 1 + 8 < cLine by omega) (kb pins σ s I) dd fun h' dd' hs => h _ ?_
  obtain ⟨q, es, ep, hq, h2, h3, h4, _, h5⟩ := dd'
  exact d_write I (by rw [e]; exact True.intro) hs ⟨q, hq⟩ (ext_new ⟨hl, hd, _, p3_put rel k rv, q, es, ep, hq, h2, h3, h4, h5⟩)
theorem dn_typeIs (I : Inv X pins σ H s) (e : H a = some (dnO X.prog X.w a lk kas)) : s.TypeIs (.ref a) "dict" ∧ ∀ b, Value.ref a = .ref b → ∃ ob, s.heap.get? b = some ob ∧ ob.dict = none := by
  obtain ⟨z, y, xs, r, o, es, ep, h1, h2, h3, h4, h5⟩ := dn_raw I e
  exact ⟨⟨o, h1, h2.1⟩, fun b q => by cases q; exact ⟨o, h1, h2.2.1⟩⟩
end
end VL
set_option Elab.async false
set_option linter.all false
set_option maxRecDepth 100000
set_option maxHeartbeats 1000000
namespace VL
open PySem PySem.Spec PyProof.Rows L2
section
variable {X : Cx} {o i e f value : Expr} {pos pos' apos cpos : Pos} {td ty tv tx : TE}
/-- the dict at a, its entries -/
structure DnAt (X : Cx) (H : Hp) (a : Addr) (lk : Option Obj) (kas : List (NestedKey × Addr × V)) : Prop where
  e : H a = some (dnO X.prog X.w a lk kas)
  k : ∀ p ∈ kas, NkOk X H p.2.1 p.1
def tNget (X : Cx) (td ty : TE) : TE := fun σ H Q => td σ H fun x H1 => ty σ H1 fun y H2 => ∃ a lk kas b k v, x = .ref a ∧ DnAt X H2 a lk kas ∧ y = .ref b ∧ NkOk X H2 b k ∧ valK kas k = some v ∧ Q v H2
def tNin (X : Cx) (neg : Bool) (ty td : TE) : TE := fun σ H Q => ty σ H fun y H1 => td σ H1 fun x H2 => ∃ a lk kas b k, x = .ref a ∧ DnAt X H2 a lk kas ∧ y = .ref b ∧ NkOk X H2 b k ∧ Q (.bl (if neg then !(valK kas k).isSome else (valK kas k).isSome)) H2
def sNput (X : Cx) (td ty tv : TE) : TS := fun D σ H => tv σ H fun v H1 => td σ H1 fun x H2 => ty σ H2 fun y H3 => ∃ a kas b k, x = .ref a ∧ DnAt X H3 a none kas ∧ y = .ref b ∧ NkOk X H3 b k ∧ kas.length < sizeLine ∧ D.nx σ (upd H3 a (dnO X.prog X.w a none (putKN kas k b v)))
def tDNewN (X : Cx) : TE := fun _ H Q => ∀ p, H p = none → Q (.ref p) (upd H p (dnO X.prog X.w p none []))
theorem pe_nget (hu : X.A.units + 9 < cLine) (ho : PE X o td) (hi : PE X i ty) (hs : NoSl i) : PE X (.Subscript o i pos) (tNget X td ty) := by
  refine ⟨fun pins s σ H Q I h => ?_⟩
  refine subD_of PySem.F.slot_dict_getitem.lookup hs (thn (ho.run pins s σ H _ I h) fun u s1 ⟨x, H1, I1, rx, q1⟩ => thn (hi.run pins s1 σ H1 _ I1 q1) fun iv s2 ⟨y, H2, I2, ry, a, lk, kas, b, k, v, ex, g, ey, kb, l, q2⟩ => ?_)
  subst ex
  subst ey
  obtain rfl : u = Value.ref a := rx
  obtain rfl : iv = Value.ref b := ry
  exact ⟨(dn_typeIs I2 g.e).1, n_get hu I2 g.e g.k kb l fun w' s3 I3 rw' => ⟨v, H2, I3, rw', q2⟩⟩
theorem pc_nin (hu : X.A.units + 9 < cLine) (hi : PE X i ty) (ho : PE X o td) : PC X .In i o (tNin X false ty td) := by
  refine ⟨fun pins s σ H Q I h => ?_⟩
  refine thn (hi.run pins s σ H _ I h) fun iv s1 ⟨y, H1, I1, ry, q1⟩ => thn (ho.run pins s1 σ H1 _ I1 q1) fun u s2 ⟨x, H2, I2, rx, a, lk, kas, b, k, ex, g, ey, kb, q2⟩ => ?_
  subst ex
  subst ey
  obtain rfl : u = Value.ref a := rx
  obtain rfl : iv = Value.ref b := ry
  exact n_in hu I2 g.e g.k kb fun s3 I3 => ⟨.bl _, H2, I3, rfl, q2⟩
theorem pc_nnin (hu : X.A.units + 9 < cLine) (hi : PE X i ty) (ho : PE X o td) : PC X .NotIn i o (tNin X true ty td) := by
  refine ⟨fun pins s σ H Q I h => ?_⟩
  refine thn (hi.run pins s σ H _ I h) fun iv s1 ⟨y, H1, I1, ry, q1⟩ => thn (ho.run pins s1 σ H1 _ I1 q1) fun u s2 ⟨x, H2, I2, rx, a, lk, kas, b, k, ex, g, ey, kb, q2⟩ => ?_
  subst ex
  subst ey
  obtain rfl : u = Value.ref a := rx
  obtain rfl : iv = Value.ref b := ry
  exact n_notIn hu I2 g.e g.k kb fun s3 I3 => ⟨.bl _, H2, I3, rfl, q2⟩
theorem ps_nput (hu : X.A.units + 9 < cLine) (ho : PE X o td) (hi : PE X i ty) (hv : PE X value tv) (hs : swapsWith value (some (.Subscript o i pos')) pos.line X.env = pure false) :
    PS X (.Assign [.Subscript o i pos'] value pos) (sNput X td ty tv) := by
  refine ⟨fun pins s σ H D I h => ?_⟩
  refine wpAny_Assign_Subscript (thn (hv.run pins s σ H _ I h) fun r s1 ⟨v, H1, I1, rv, q1⟩ => thn (ho.run pins s1 σ H1 _ I1 q1) fun u s2 ⟨x, H2, I2, rx, q2⟩ => thn (hi.run pins s2 σ H2 _ I2 q2) fun iv s3 ⟨y, H3, I3, ry, a, kas, b, k, ex, g, ey, kb, hz, q3⟩ => ?_) hs
  subst ex
  subst ey
  obtain rfl : u = Value.ref a := rx
  obtain rfl : iv = Value.ref b := ry
  exact n_put hu I3 g.e g.k kb hz rv fun s4 I4 => ⟨σ, _, I4, q3⟩
theorem dn_empty (P : Program) (w : World) (h : Heap) (hb : sysModules < h.objs.size) : rawN P w h.objs.size [] (h.push { cls := .type "dict", data := .dict #[] }) :=
  ⟨Nat.zero_le _, beq_eq_false_iff_ne.mpr (Ne.symm (Nat.ne_of_lt hb)), [], .nil, _, #[], 0, Heap.get?_push_size _ rfl, ⟨rfl, rfl, rfl⟩, rfl, rfl, List.nodup_nil⟩
theorem pe_dnewN : PE X (.Dict [] [] pos) (tDNewN X) := ⟨fun pins s σ H Q I h =>
  wpAny_Dict_empty ⟨.ref s.heap.objs.size, _, I.laid (a := s.heap.objs.size) (o := dnO X.prog X.w s.heap.objs.size none []) (t' := s.toks) (fun _ _ q => Heap.get?_push_of_some _ q) (Nat.le_refl _) (ext_new (dn_empty _ _ s.heap I.big)), rfl, h _ (I.hok.fresh (Nat.le_refl _))⟩⟩
end
def valN (kds : List (Da × Da)) (k : Da) : Option Da := (kds.find? fun kd => decide (kd.1.nk = k.nk)).map (·.2)
def putN (kds : List (Da × Da)) (k d : Da) : List (Da × Da) :=
  if (valN kds k).isSome = true then kds.map (fun kd => if kd.1.nk = k.nk then (kd.1, d) else kd) else kds ++ [(k, d)]
section
variable {K : PySem.W.Frag} {A : Addr → Prop} {H : Hp} {kas : List (NestedKey × Addr × V)} {kds : List (Da × Da)} {b : Addr} {v : V} {k d : Da}
theorem rpn_len (h : RpN K A H kas kds) : kas.length = kds.length := by
  induction h with
  | nil => rfl
  | cons _ _ _ _ ih => rw [List.length_cons, List.length_cons, ih]
theorem rpn_val (h : RpN K A H kas kds) (k : Da) : (valN kds k = none ∧ valK kas k.nk = none) ∨ ∃ d v, valN kds k = some d ∧ valK kas k.nk = some v ∧ Rp K A H v d := by
  induction h with
  | nil => exact .inl ⟨rfl, rfl⟩
  | @cons b v dk dv kas kds hk hb hv t ih =>
    by_cases e : dk.nk = k.nk
    · refine .inr ⟨dv, v, ?_, ?_, hv⟩
      · unfold valN
        rw [List.find?_cons_of_pos (by simpa using e)]
        rfl
      · exact valK_pos (p := (dk.nk, b, v)) e
    · have e1 : valN ((dk, dv) :: kds) k = valN kds k := by
        unfold valN
        rw [List.find?_cons_of_neg (by simpa using e)]
      rw [e1, valK_neg (p := (dk.nk, b, v)) e]
      exact ih
theorem rpn_map (hd : Rp K A H v d) (h : RpN K A H kas kds) : RpN K A H (kas.map fun p => if p.1 = k.nk then (p.1, p.2.1, v) else p) (kds.map fun kd => if kd.1.nk = k.nk then (kd.1, d) else kd) := by
  induction h with
  | nil => exact .nil
  | @cons b' v' dk dv kas kds hk hb hv t ih =>
    rw [List.map_cons, List.map_cons]
    by_cases e : dk.nk = k.nk
    · rw [if_pos e, if_pos e]
      exact .cons hk hb hd ih
    · rw [if_neg e, if_neg e]
      exact .cons hk hb hv ih
theorem rpn_snoc (hk : k.key8 = true) (hb : Rp K A H (.ref b) k) (hd : Rp K A H v d) (h : RpN K A H kas kds) : RpN K A H (kas ++ [(k.nk, b, v)]) (kds ++ [(k, d)]) := by
  induction h with
  | nil => exact .cons hk hb hd .nil
  | cons h1 h2 h3 _ ih => exact .cons h1 h2 h3 ih
theorem rpn_put (h : RpN K A H kas kds) (hk : k.key8 = true) (hb : Rp K A H (.ref b) k) (hd : Rp K A H v d) : RpN K A H (putKN kas k.nk b v) (putN kds k d) := by
  unfold putKN putN
  have e : (valK kas k.nk).isSome = (valN kds k).isSome := by
    rcases rpn_val h k with ⟨z1, z2⟩ | ⟨_, _, z1, z2, _⟩ <;> rw [z1, z2] <;> rfl
  rw [e]
  split
  · exact rpn_map hd h
  · exact rpn_snoc hk hb hd h
end
theorem rpn_ok {X : Cx} {A : Addr → Prop} {H : Hp} {kas : List (NestedKey × Addr × V)} {kds : List (Da × Da)} (h : RpN X.K A H kas kds) : ∀ p ∈ kas, NkOk X H p.2.1 p.1 := by
  induction h with
  | nil => intro p hp; exact nomatch hp
  | cons hk hb hv t ih =>
    intro p hp
    rcases List.mem_cons.mp hp with rfl | hp
    · exact nk_ok hb hk
    · exact ih p hp
theorem key8_ref {K : PySem.W.Frag} {A : Addr → Prop} {H : Hp} {σ : L2.St} {v : V} {d : Da} (h : d.key8 = true) (r : RpS K A σ H v d) : ∃ b, v = .ref b ∧ Rp K A H (.ref b) d := by
  have ht : d.isT = true := by unfold Da.key8 at h; rw [Bool.and_eq_true] at h; exact h.1
  cases d <;> try (cases ht; done)
  have r' := r.pure rfl
  cases r' with
  | t h1 h2 => exact ⟨_, rfl, .t h1 h2⟩
section
variable {X : Cx} {c : Cq} {S S' : Sx} {σ σ' : L2.St} {H H' : Hp} {p : Addr} {lk : Option Obj} {kds : List (Da × Da)}
theorem dn_ok (r : Rel X.K c S σ H) (e : S.M p = some (.dn X.prog X.w lk kds)) : ∃ kas, DnAt X H p lk kas ∧ RpN X.K (S.A c) H kas kds := by
  obtain ⟨kas, h, rk⟩ := r.mem p _ e
  exact ⟨kas, ⟨h, rpn_ok rk⟩, rk⟩
end
section
variable {X : Cx} {c : Cq} {pos pos' apos cpos : Pos} {o i a b e f value : Expr} {wa wb wv wd wk wz : WE}
def rdNget (P : Program) (w : World) : RD := fun x y S Q => ∃ p lk kds d, x = .r p ∧ S.M p = some (.dn P w lk kds) ∧ y.key8 = true ∧ valN kds y = some d ∧ Q d S
def rdNin (P : Program) (w : World) (neg : Bool) : RD := fun y x S Q => ∃ p lk kds, x = .r p ∧ S.M p = some (.dn P w lk kds) ∧ y.key8 = true ∧ Q (.b (if neg then !(valN kds y).isSome else (valN kds y).isSome)) S
def wPutN (P : Program) (w : World) (wv wd wk : WE) : WS := fun D S => wv S fun v S1 => wd S1 fun x S2 => wk S2 fun y S3 => v.isO = false ∧ ∃ p kds, x = .r p ∧ S3.M p = some (.dn P w none kds) ∧ y.key8 = true ∧ kds.length < sizeLine ∧ D.nx ⟨S3.ρ, updM S3.M p (.dn P w none (putN kds y v))⟩
def wDnewN (P : Program) (w : World) : WE := fun S Q => ∀ q, S.M q = none → Q (.r q) ⟨S.ρ, updM S.M q (.dn P w none [])⟩
theorem v_nget {P : Program} {w : World} (hP : X.prog = P) (hw : X.w = w) (hu : X.A.units + 9 < cLine) (ha : PE X a (lE X.K c wa)) (hb : PE X b (lE X.K c wb)) (hs : NoSl b) : PE X (.Subscript a b pos) (lE X.K c (wOp (rdNget P w) wa wb)) := by
  subst hP hw
  exact pe_imp (pe_nget hu ha hb hs) fun σ H Q h => by
    obtain ⟨S, Qd, r, h, p⟩ := h
    refine ⟨S, _, r, h, fun dx S1 h1 H1 x r1 k1 p1 => ⟨S1, _, r1, h1, fun dy S2 h2 H2 y r2 k2 p2 => ?_⟩⟩
    obtain ⟨q, lk, kds, d, rfl, eM, hk, hv, q2⟩ := h2
    obtain ⟨kas, g, rn⟩ := dn_ok r2 eM
    obtain ⟨bb, rfl, rb⟩ := key8_ref hk p2
    rcases rpn_val rn dy with ⟨z, _⟩ | ⟨d', v, g1, g2, g3⟩
    · rw [hv] at z; cases z
    · rw [hv] at g1
      cases g1
      exact ⟨q, lk, kas, bb, _, v, rs_r (p1.kp (kA k2)), g, rfl, nk_ok rb hk, g2, p _ _ q2 _ _ r2 (k1.trans k2) (.inl g3)⟩
theorem lnin {neg : Bool} (σ : L2.St) (H : Hp) (Q : VK) (h : lE X.K c (wOp (rdNin X.prog X.w neg) wa wb) σ H Q) : tNin X neg (lE X.K c wa) (lE X.K c wb) σ H Q := by
  obtain ⟨S, Qd, r, h, p⟩ := h
  refine ⟨S, _, r, h, fun dx S1 h1 H1 x r1 k1 p1 => ⟨S1, _, r1, h1, fun dy S2 h2 H2 y r2 k2 p2 => ?_⟩⟩
  obtain ⟨q, lk, kds, rfl, eM, hk, q2⟩ := h2
  obtain ⟨kas, g, rn⟩ := dn_ok r2 eM
  obtain ⟨bb, rfl, rb⟩ := key8_ref hk (p1.kp (kA k2))
  refine ⟨q, lk, kas, bb, _, rs_r p2, g, rfl, nk_ok rb hk, ?_⟩
  have e : (valK kas dx.nk).isSome = (valN kds dx).isSome := by
    rcases rpn_val rn dx with ⟨z1, z2⟩ | ⟨_, _, z1, z2, _⟩ <;> rw [z1, z2] <;> rfl
  rw [e]
  exact p _ _ q2 _ _ r2 (k1.trans k2) (.inl (.b _))
theorem v_nin {P : Program} {w : World} (hP : X.prog = P) (hw : X.w = w) (hu : X.A.units + 9 < cLine) (hm : behindInMarks .In b = false) (ha : PE X a (lE X.K c wa)) (hb : PE X b (lE X.K c wb)) : PE X (.Compare a [.In] [b] pos) (lE X.K c (wOp (rdNin P w false) wa wb)) := by
  subst hP hw
  exact pe_imp (pe_cmp (pc_nin hu ha hb) hm) lnin
theorem s_putN {P : Program} {w : World} (hP : X.prog = P) (hw : X.w = w) (hu : X.A.units + 9 < cLine) (hv : PE X value (lE X.K c wv)) (ho : PE X o (lE X.K c wd)) (hi : PE X i (lE X.K c wk)) (hs : swapsWith value (some (.Subscript o i pos')) pos.line X.env = pure false := by rfl) :
    PS X (.Assign [.Subscript o i pos'] value pos) (lS X.K c (wPutN P w wv wd wk)) := by
  subst hP hw
  exact ps_imp (ps_nput hu ho hi hv hs) fun D σ H h => by
    obtain ⟨S, Dd, r, h, pst⟩ := h
    refine ⟨S, _, r, h, fun dv S1 h1 H1 v r1 k1 p1 => ⟨S1, _, r1, h1, fun dx S2 h2 H2 x r2 k2 p2 => ⟨S2, _, r2, h2, fun dy S3 h3 H3 y r3 k3 p3 => ?_⟩⟩⟩
    obtain ⟨vO, q, kds, rfl, eM, hk, hz, h4⟩ := h3
    obtain ⟨kas, g, rn⟩ := dn_ok r3 eM
    obtain ⟨bb, rfl, rb⟩ := key8_ref hk p3
    have p1' : Rp X.K (S3.A c) H3 v dv := (p1.pure vO).kp (kA (k2.trans k3))
    obtain ⟨r4, k4⟩ := r3.updM (m' := .dn X.prog X.w none (putN kds dy dv)) (o' := dnO X.prog X.w q none (putKN kas dy.nk bb v)) eM g.e trivial fun A kk => ⟨_, upd_same, rpn_put (rn.kp kk) hk (rb.kp kk) (p1'.kp kk)⟩
    exact ⟨q, kas, bb, _, rs_r (p2.kp (kA k3)), g, rfl, nk_ok rb hk, by rw [rpn_len rn]; exact hz, pst.nx _ h4 _ _ r4 (((k1.trans k2).trans k3).trans k4)⟩
theorem v_dnewN {P : Program} {w : World} (hP : X.prog = P) (hw : X.w = w) : PE X (.Dict [] [] pos) (lE X.K c (wDnewN P w)) := by
  subst hP hw
  exact pe_imp pe_dnewN fun σ H Q h => by
    obtain ⟨S, Qd, r, h, p⟩ := h
    intro q nq
    obtain ⟨r2, k2⟩ := r.newM (o := dnO X.prog X.w q none []) (m := .dn X.prog X.w none []) nq fun A k => ⟨[], upd_same, .nil⟩
    exact p _ _ (h q (m_none r nq)) _ _ r2 k2 (.inl (.r q))
end
end VL
set_option Elab.async false
set_option linter.all false
set_option maxRecDepth 100000
set_option maxHeartbeats 1000000
namespace VL
open PySem PySem.Spec PyProof.Rows L2
section
variable {X : Cx} {CX : CXT} {c : Cq} {k n : Nat} {f fa C : Addr} {fd : FuncData} {ps ks : List Str} {sp : Sp} {E : L2.St → XK} {m : Str} {p pos apos : Pos} {o e : Expr} {es : List Expr} {kws : List Keyword} {ta : TE} {t tk : TA} {we : WE} {wl wk : WA} {dc : DC} {Xs : Value → Option (List (Str × Da)) → Sx → Prop} {W : WX}
theorem run_kn {pins : List (Addr × Obj)} {σ : L2.St} {H : Hp} {s : Shared} {Q : VK} {us ws : List Value} {vs zs : List V} (F : FnOk X.prog X.w X.K X.mg X.base CX k f fd ps sp) (hr : Room k X.A) (hb : KBn X.K fd ps n ks (fun us ws => us ++ ws) (fun vs zs => vs ++ zs)) (hx : PassesAt CX X σ (E σ))
    (I : Inv X pins σ H s) (r : Vals vs us) (rz : Vals zs ws) (l1 : vs.length = n) (l2 : zs.length = ks.length) (h : sp (vs ++ zs) H Q (E σ)) : wpAny (model X.prog X.w) X.A (call (.ref f) us (ks.zip ws)) (EP X pins σ Q) X.xe s := by
  refine wpAny_call (codeAny_mono (F.run X.A X.stack s H ⟨us, ks.zip ws⟩ (us ++ ws) (vs ++ zs) Q (E σ) hr I.env0 (hb.to s us ws I.kIn (r.length.symm.trans l1) (rz.length.symm.trans l2)) (r.append rz) h) fun r s' hq => ?_)
  cases r with
  | error e => exact hx pins H s e s' I hq
  | ok fl =>
    cases fl with
    | ret u => exact I.after hq
    | next => exact False.elim hq
    | brk => exact False.elim hq
    | cont => exact False.elim hq
def tMethK (C : Addr) (m : Str) (n l : Nat) (sp : Sp) (E : L2.St → XK) (ta : TE) (t tk : TA) : TE := fun σ H Q => ta σ H fun x H1 => ∃ a dx fs, x = .ref a ∧ H1 a = some (.ins C dx fs) ∧ fs.lookup m = none ∧ t σ H1 fun vs H2 => tk σ H2 fun zs H3 => vs.length + 1 = n ∧ zs.length = l ∧ sp (x :: (vs ++ zs)) H3 Q (E σ)
theorem pe_methK {pl : Sem Bool} (he : PE X o ta) (cl : Cls X.K C) (hm : Meth X.K C m fa) (F : FnOk X.prog X.w X.K X.mg X.base CX k fa fd ps sp) (hr : Room k X.A) (hb : KBn X.K fd ps n ks (fun us ws => us ++ ws) (fun vs zs => vs ++ zs)) (hx : ∀ σ, PassesAt CX X σ (E σ)) (ha : PA X (e :: es) t)
    (hkw : PK X kws tk) (hall : (backToKw pos (keywordEach kws X.env)).all (·.1.isSome) = true := by rfl) (hks : (backToKw pos (keywordEach kws X.env)).filterMap (·.1) = ks := by rfl) (hst : starEach (e :: es) X.env = (false, eval e X.env) :: starEach es X.env := by rfl)
    (hpl : ((backTo pos (starEach (e :: es) X.env)).any (·.1) || (backToKw pos (keywordEach kws X.env)).any (·.1.isNone)) = false := by rfl)
    (ht : eval (.Call (.Attribute o m apos) (e :: es) kws pos) X.env = (do
      let ov ← eval o X.env
      standAt apos.atName
      let (f, first) ← holding [ov] (getMethod ov m pl)
      callWith pos f first (backTo pos (starEach (e :: es) X.env)) (backToKw pos (keywordEach kws X.env))) := by rfl) :
    PE X (.Call (.Attribute o m apos) (e :: es) kws pos) (tMethK C m n ks.length sp E ta t tk) := by
  refine ⟨fun pins s σ H Q I h => ?_⟩
  refine PySem.W.methodCall_KW (pl := pl) (thn (he.run pins s σ H _ I h) fun u s1 ⟨x, H1, I1, rx, a, dx, fs, ex, ea, l, q⟩ => ?_) ht
  subst ex
  obtain rfl : u = Value.ref a := rx
  refine getmeth_ok I1 ea cl hm l ?_
  refine PySem.W.callWith_KW (first := [.ref a]) (h₀ := X.base) I.ok.mod.kin hm.kp hall (thn (ha.run pos pins s1 σ H1 _ I1 q) fun us s2 ⟨vs, H2, I2, r, q2⟩ => ?_) hpl hst
  refine thn (hkw.run pos pins s2 σ H2 _ I2 q2) fun ws s3 ⟨zs, H3, I3, rz, l1, l2, q3⟩ => ⟨I3.kIn, ?_⟩
  rw [hks]
  exact run_kn (us := .ref a :: us) (vs := .ref a :: vs) F hr hb (hx σ) I3 (.cons rfl r) rz l1 l2 q3
def wMethK (C : Addr) (m : Str) (n l : Nat) (dc : DC) (Xs : Value → Option (List (Str × Da)) → Sx → Prop) (we : WE) (wa wk : WA) : WE := fun S Q => we S fun x S1 => ∃ gs, isIns S1 C x gs ∧ gs.lookup m = none ∧
  wa S1 fun vs S2 => wk S2 fun zs S3 => vs.length + 1 = n ∧ zs.length = l ∧ dc (x :: (vs ++ zs)) S3.M (fun d M' => Q d ⟨S3.ρ, M'⟩) fun cls ofs M' => Xs cls ofs ⟨S3.ρ, M'⟩
theorem lmethK {K : PySem.W.Frag} {n l : Nat} (hX : XOk K c Xs W) : ∀ σ H Q, lE K c (wMethK C m n l dc Xs we wl wk) σ H Q → tMethK C m n l (spOf K dc) (fun σ cls d H' => W cls d σ H') (lE K c we) (lA K c wl) (lA K c wk) σ H Q := fun σ H Q h => by
  obtain ⟨S, Qd, r, h, p⟩ := h
  refine ⟨S, _, r, h, fun x S1 h1 H1 v r1 k1 p1 => ?_⟩
  obtain ⟨gs, hi, hl, h1⟩ := h1
  obtain ⟨a, dx, fs, rfl, ha, hf⟩ := ins_ok r1 p1 hi
  refine ⟨a, dx, fs, rfl, ha, rpf_none hf hl, S1, _, r1, h1, fun ds S2 h2 H2 vs r2 k2 p2 => ⟨S2, _, r2, h2, fun es S3 h3 H3 zs r3 k3 p3 => ?_⟩⟩
  obtain ⟨l1, l2, h3⟩ := h3
  exact ⟨by rw [p2.length]; exact l1, by rw [p3.length]; exact l2, sp_call r3 (.cons ((p1.pure (ins_pure hi)).kp (kA (k2.trans k3))) ((p2.kp (kA k3)).append p3)) h3 (p.at ((k1.trans k2).trans k3)) hX⟩
theorem v_methK {pl : Sem Bool} (F : FnOk X.prog X.w X.K X.mg X.base (L2.CX X.prog X.w) k fa fd ps (spOf X.K dc)) (hr : Room k X.A) (cl : Cls X.K C) (hm : Meth X.K C m fa) (hb : KBn X.K fd ps n ks (fun us ws => us ++ ws) (fun vs zs => vs ++ zs))
    (tk : Takes X W) (hX : XOk X.K c Xs W) (he : PE X o (lE X.K c we)) (ha : PA X (e :: es) (lA X.K c wl)) (hkw : PK X kws (lA X.K c wk)) (hall : (backToKw pos (keywordEach kws X.env)).all (·.1.isSome) = true := by rfl) (hks : (backToKw pos (keywordEach kws X.env)).filterMap (·.1) = ks := by rfl) (hst : starEach (e :: es) X.env = (false, eval e X.env) :: starEach es X.env := by rfl)
    (hpl : ((backTo pos (starEach (e :: es) X.env)).any (·.1) || (backToKw pos (keywordEach kws X.env)).any (·.1.isNone)) = false := by rfl)
    (ht : eval (.Call (.Attribute o m apos) (e :: es) kws pos) X.env = (do
      let ov ← eval o X.env
      standAt apos.atName
      let (f, first) ← holding [ov] (getMethod ov m pl)
      callWith pos f first (backTo pos (starEach (e :: es) X.env)) (backToKw pos (keywordEach kws X.env))) := by rfl) :
    PE X (.Call (.Attribute o m apos) (e :: es) kws pos) (lE X.K c (wMethK C m n ks.length dc Xs we wl wk)) := pe_imp (pe_methK he cl hm F hr hb (fun σ => passAt tk σ) ha hkw hall hks hst hpl ht) (lmethK hX)
end
end VL
set_option Elab.async false
set_option linter.all false
set_option maxRecDepth 100000
set_option maxHeartbeats 1000000
namespace VL
open PySem PySem.Spec PyProof.Rows L2
theorem hu9 {k : Nat} {A : Around} (hr : Room k A) : A.units + 9 < cLine := by have := hr.un; omega
/-- a method with keyword-only parameters that have defaults -/
structure MtdK (K : PySem.W.Frag) (C : Addr) (x qual : Str) (st : Stmt) (ps : List Str) (n : Nat) (ks : List Str) (kws : List (Str × V)) (f : Addr) (fd : FuncData) : Prop where
  F : L2.FunD K x qual (defArgs st) (defBody st) (defScope st) [] kws f fd
  b : ∃ ds, Vals (kws.map (·.2)) ds ∧ Binds K fd ps ds
  kb : KBn K fd ps n ks (fun us ws => us ++ ws) (fun vs zs => vs ++ zs)
  m : Meth K C x f
section
variable {X : Cx} {c : Cq} {k : Nat} {fa C : Addr} {fd : FuncData} {ps : List Str} {m : Str} {pos apos : Pos} {o e : Expr} {es : List Expr} {we : WE} {wl : WA} {dc : DC} {Xs : Value → Option (List (Str × Da)) → Sx → Prop} {W : WX} {dvs : List V} {dd : List Da}
theorem v_methE {pl : Sem Bool} (F : FnOk X.prog X.w X.K X.mg X.base (L2.CX X.prog X.w) k fa fd ps (spOf X.K dc)) (hr : Room k X.A) (cl : Cls X.K C) (hm : Meth X.K C m fa) (hb : ∃ ds, Vals dvs ds ∧ Binds X.K fd ps ds) (hdd : ∀ A H, RpA X.K A H dvs dd)
    (tk : Takes X W) (hX : XOk X.K c Xs W) (he : PE X o (lE X.K c we)) (ha : PA X (e :: es) (lA X.K c wl)) (hst : starEach (e :: es) X.env = (false, eval e X.env) :: starEach es X.env := by rfl) (hpl : (backTo pos (starEach es X.env)).any (·.1) = false := by rfl)
    (ht : eval (.Call (.Attribute o m apos) (e :: es) [] pos) X.env = (do
      let ov ← eval o X.env
      standAt apos.atName
      let (f, first) ← holding [ov] (getMethod ov m pl)
      callWith pos f first (backTo pos (starEach (e :: es) X.env)) (backToKw pos (keywordEach [] X.env))) := by rfl) :
    PE X (.Call (.Attribute o m apos) (e :: es) [] pos) (lE X.K c (wMeth C m dc dd Xs we wl)) := by
  obtain ⟨ds, r, b⟩ := hb
  exact v_methD F hr cl hm b r hdd tk hX he ha hst hpl ht
end
theorem rpa_bl {K : PySem.W.Frag} {x : Bool} (A : Addr → Prop) (H : Hp) : RpA K A H [V.bl x] [Da.b x] := .cons (.b x) .nil
end VL
set_option Elab.async false
set_option linter.all false
set_option maxRecDepth 100000
set_option maxHeartbeats 1000000
namespace VL
open PySem PySem.Spec PyProof.Rows L2 RZ
def zipD : List Da → List Da → List Da
  | d :: ds, e :: es => .t [d, e] :: zipD ds es
  | _, _ => []
theorem zipD_get : ∀ (ds es : List Da) (i : Nat) (x : Da), (zipD ds es)[i]? = some x → ∃ d e, ds[i]? = some d ∧ es[i]? = some e ∧ x = .t [d, e]
  | [], _, i, x, h => by simp [zipD] at h
  | d :: ds, [], i, x, h => by simp [zipD] at h
  | d :: ds, e :: es, 0, x, h => by
    rw [zipD] at h
    cases h
    exact ⟨d, e, rfl, rfl, rfl⟩
  | d :: ds, e :: es, i + 1, x, h => by
    rw [zipD, List.getElem?_cons_succ] at h
    exact zipD_get ds es i x h
theorem zipD_len : ∀ (ds es : List Da), (zipD ds es).length = min ds.length es.length
  | [], _ => by simp [zipD]
  | d :: ds, [] => by simp [zipD]
  | d :: ds, e :: es => by rw [zipD, List.length_cons, zipD_len ds es, List.length_cons, List.length_cons]; omega
def wZip (wa wb : WE) : WI := fun S Q => wa S fun d S1 => d.isO = false ∧ wb S1 fun e S2 => e.isO = false ∧ match d, e with
  | .t ds, .t es => Q (zipD ds es) S2
  | .l ds, .l es => Q (zipD ds es) S2
  | _, _ => False
section
variable {X : Cx} {c : Cq} {e e2 : Expr} {wa wb : WE} {p pos tpos : Pos} {elts : List Expr} {kk : Nat}
theorem i_zip (hg : Gl X "zip") (hm : X.mg "zip" = none) (ha : PE X e (lE X.K c wa)) (hb : PE X e2 (lE X.K c wb)) (hs : starEach [e, e2] X.env = (false, eval e X.env) :: starEach [e2] X.env := by rfl) (hs2 : starEach [e2] X.env = (false, eval e2 X.env) :: starEach [] X.env := by rfl) (hpl : (backTo pos (starEach [e2] X.env)).any (·.1) = false := by rfl) :
    PI X (.Tuple elts kk tpos) (.Call (.Name "zip" p) [e, e2] [] pos) (lWk X.K c (wZip wa wb)) := pi_imp (pi_zipA hg hm (pa_cons ha (pa_cons hb pa_nil hs2) hs) hs hpl) fun σ H R h => by
  obtain ⟨S, Qd, r, h, pst⟩ := h
  refine ⟨S, _, r, h, fun d S1 h1 H1 v r1 k1 p1 => ⟨S1, _, r1, h1.2, fun d2 S2 h2 H2 u r2 k2 p2 => ?_⟩⟩
  obtain ⟨e2O, h2⟩ := h2
  have p1' := (p1.pure h1.1).kp (kA k2)
  have p2' := p2.pure e2O
  cases d <;> cases d2 <;> try exact h2.elim
  · rename_i ds es
    cases p1' with
    | t g1 g2 =>
    cases p2' with
    | t g3 g4 =>
    refine ⟨_, _, _, _, rfl, .inr ⟨g1, g3, pst _ _ h2 _ _ r2 (k1.trans k2) fun H3 W3 k i => ?_⟩⟩
    have e1 := sqt_kp k g1
    have e3 := sqt_kp k g3
    refine ⟨fun x hx => ?_, fun hl => ⟨_, _, e1, e3, by rw [g2.length, g4.length]; rw [zipD_len] at hl; omega⟩⟩
    obtain ⟨d, e, hd, he, rfl⟩ := zipD_get _ _ _ _ hx
    obtain ⟨v, hv, rv⟩ := g2.get hd
    obtain ⟨w, hw, rw'⟩ := g4.get he
    refine ⟨⟨_, _, v, w, e1, e3, hv, hw⟩, fun x H4 hy => ?_⟩
    obtain ⟨T, x', y', rfl, nT, rfl, hx', hy'⟩ := hy
    have q1 := hx' _ e1
    have q2 := hy' _ e3
    rw [hv] at q1
    rw [hw] at q2
    cases q1
    cases q2
    exact ⟨same_upd nT, .t (.inl (.inl upd_same)) (.cons ((rv.kp k.or).kp (.same (same_upd nT))) (.cons ((rw'.kp k.or).kp (.same (same_upd nT))) .nil))⟩
  · rename_i ds es
    cases p1' with
    | l g1 n1 g2 =>
    cases p2' with
    | l g3 n3 g4 =>
    refine ⟨_, _, _, _, rfl, .inl ⟨SqL.of g1, SqL.of g3, pst _ _ h2 _ _ r2 (k1.trans k2) fun H3 W3 k i => ?_⟩⟩
    have e1 := SqL.of (K := X.K) (k.keep _ _ g1 (.inl fun z => n1 (.inr z)))
    have e3 := SqL.of (K := X.K) (k.keep _ _ g3 (.inl fun z => n3 (.inr z)))
    refine ⟨fun x hx => ?_, fun hl => ⟨_, _, e1, e3, by rw [g2.length, g4.length]; rw [zipD_len] at hl; omega⟩⟩
    obtain ⟨d, e, hd, he, rfl⟩ := zipD_get _ _ _ _ hx
    obtain ⟨v, hv, rv⟩ := g2.get hd
    obtain ⟨w, hw, rw'⟩ := g4.get he
    refine ⟨⟨_, _, v, w, e1, e3, hv, hw⟩, fun x H4 hy => ?_⟩
    obtain ⟨T, x', y', rfl, nT, rfl, hx', hy'⟩ := hy
    have q1 := hx' _ e1
    have q2 := hy' _ e3
    rw [hv] at q1
    rw [hw] at q2
    cases q1
    cases q2
    exact ⟨same_upd nT, .t (.inl (.inl upd_same)) (.cons ((rv.kp k.or).kp (.same (same_upd nT))) (.cons ((rw'.kp k.or).kp (.same (same_upd nT))) .nil))⟩
end
def WGx (wg : WG) : Prop := ∀ d S Q, wg d S Q → ∃ S1, Q S1
def WRx (wr : List Da → Sx → (Sx → Prop) → Prop) : Prop := ∀ ds S Q, wr ds S Q → ∃ S1, Q S1
theorem xN {i : Nat} : WGx (wgN i) := fun d S Q h => ⟨_, h⟩
theorem xNil : WRx wgNil := fun ds S Q h => by
  cases ds with
  | nil => exact ⟨_, h⟩
  | cons _ _ => exact h.elim
theorem xCons {wg : WG} {wr : List Da → Sx → (Sx → Prop) → Prop} (h1 : WGx wg) (h2 : WRx wr) : WRx (wgCons wg wr) := fun ds S Q h => by
  cases ds with
  | nil => exact h.elim
  | cons d ds =>
    obtain ⟨S1, h⟩ := h1 d S _ h
    exact h2 ds S1 Q h
theorem xT {wr : List Da → Sx → (Sx → Prop) → Prop} (h2 : WRx wr) : WGx (wgT wr) := fun d S Q h => by
  cases d <;> try exact h.elim
  exact h2 _ S Q h
theorem lenC {n : Nat} {wg : WG} {wr : List Da → Sx → (Sx → Prop) → Prop} (hx : WGx wg) (h : ∀ ds S Q, wr ds S Q → ds.length = n) : ∀ ds S Q, wgCons wg wr ds S Q → ds.length = n + 1 := fun ds S Q z => by
  cases ds with
  | nil => exact z.elim
  | cons d r =>
    obtain ⟨S1, z⟩ := hx d S _ z
    rw [List.length_cons, h r _ _ z]
end VL
set_option Elab.async false
set_option linter.all false
set_option maxRecDepth 100000
set_option maxHeartbeats 1000000
set_option Elab.async false
set_option linter.all false
set_option maxRecDepth 100000
set_option maxHeartbeats 1000000
namespace VL
open PySem PySem.Spec PyProof.Rows L2
inductive Sr where
  | tup (a : Addr) | txt (x : Str)
def Sr.v : Sr → V
  | .tup a => .ref a
  | .txt x => .str x
def chV (x : Str) : List V := x.cps.toList.map fun c => V.str ⟨#[c]⟩
def Sr.at (K : PySem.W.Frag) (H : Hp) : Sr → List V → Prop
  | .tup a, xs => SqT K H a xs
  | .txt x, xs => xs = chV x
def Sr.st : Sr → Addr → Nat → Heap → Prop
  | .tup a, it, i, h => h.IsTupleIter it a i
  | .txt x, it, i, h => ∃ t, h.IsStrIter it (strIterType x) x t i
def Sr.lt (n : Nat) : Sr → Prop
  | .tup a => a < n
  | .txt _ => True
theorem Sr.keep {r : Sr} {it : Addr} {i : Nat} {h h' : Heap} (st : r.st it i h) (k : ∀ o, h.get? it = some o → h'.get? it = some o) : r.st it i h' := by
  cases r with
  | tup a => obtain ⟨o, ho, x⟩ := st; exact ⟨o, k o ho, x⟩
  | txt x => obtain ⟨t, o, ho, x⟩ := st; exact ⟨t, o, k o ho, x⟩
theorem Sr.obj {r : Sr} {it : Addr} {i : Nat} {h : Heap} (st : r.st it i h) : ∃ o, h.get? it = some o ∧ ∀ v, o.data ≠ .cell v := by
  cases r with
  | tup a => obtain ⟨o, ho, _, d⟩ := st; exact ⟨o, ho, fun v q => by rw [d] at q; cases q⟩
  | txt x => obtain ⟨t, o, ho, _, d⟩ := st; exact ⟨o, ho, fun v q => by rw [d] at q; cases q⟩
end VL
set_option Elab.async false
set_option linter.all false
set_option maxRecDepth 100000
set_option maxHeartbeats 1000000
set_option Elab.async false
set_option linter.all false
set_option maxRecDepth 100000
set_option maxHeartbeats 1000000
namespace VL
open PySem PySem.Spec PyProof.Rows L2
def NkAll (X : Cx) (H : Hp) (b : Addr) (k : NestedKey) : Prop := ∀ Y : Cx, Y.K = X.K → Y.prog = X.prog → Y.w = X.w → NkOk Y H b k
theorem nk_all {X : Cx} {A : Addr → Prop} {H : Hp} {b : Addr} {d : Da} (r : Rp X.K A H (.ref b) d) (h : d.key8 = true) : NkAll X H b d.nk := fun Y e _ _ => nk_ok (A := A) (by rw [e]; exact r) h
section
variable {X : Cx} {pins : List (Addr × Obj)} {σ : L2.St} {H : Hp} {s : Shared} {a b : Addr} {kas : List (NestedKey × Addr × V)} {k : NestedKey} {A : Around} {E : Value → Shared → Prop}
theorem n_dset {v : V} {r : Value} {Q : Unit → Shared → Prop} (hu : A.units + 9 < cLine) (I : Inv X pins σ H s) (e : H a = some (dnO X.prog X.w a none kas)) (hk : ∀ p ∈ kas, NkOk X H p.2.1 p.1) (kb : NkOk X H b k) (hz : kas.length < sizeLine) (rv : RelV v r)
    (h : ∀ s', Inv X pins σ (upd H a (dnO X.prog X.w a none (putKN kas k b v))) s' → Q () s') : wpAny (model X.prog X.w) A (dictSet a (.ref b) r) Q E s := by
  obtain ⟨z, hd, xs, rel, dd⟩ := dn_at I e hk
  have hz' : xs.length ≤ sizeLine := by rw [← Paired.length rel]; exact z
  have hl : (putKN kas k b v).length ≤ sizeLine := by have := putKN_le kas k b v; omega
  refine wpAny_dictSet_heap (knd := nestedKind X.prog X.w) (hsz := hz') (show A.units + 8 < cLine by omega) (kb pins σ s I) dd fun h' dd' hs => h _ ?_
  obtain ⟨q, es, ep, hq, h2, h3, h4, _, h5⟩ := dd'
  exact d_write I (by rw [e]; exact True.intro) hs ⟨q, hq⟩ (ext_new ⟨hl, hd, _, p3_put rel k rv, q, es, ep, hq, h2, h3, h4, h5⟩)
end
section
variable {X : Cx}
def tDcN (X : Cx) (wi : TI) (g : TG) (tt : TT) (tk tv : TE) (vs : List Nat) : TE := fun σ H Q => wi σ H fun J H1 => ∀ D, H1 D = none → ∃ Wm : Nat → Nat → Hp → Prop, (∃ m, Wm 0 m (upd H1 D (dnO X.prog X.w D none []))) ∧ ∀ i m H, Wm i m H →
  (J.stop i H ∧ Q (.ref D) H) ∨ (J.go i H ∧ ∃ Nx : Hp → Prop, (∀ H', Nx H' → ∃ m', m' < m ∧ Wm (i + 1) m' H') ∧ ∀ x H', J.yld i H x H' → g x (wipe σ vs) H' fun σ2 H2 => wipe σ2 vs = wipe σ vs ∧ tt σ2 H2 fun b H3 =>
    if b = true then tk σ2 H3 fun y H4 => tv σ2 H4 fun z H5 => ∃ kas b k, y = .ref b ∧ H5 D = some (dnO X.prog X.w D none kas) ∧ (∀ p ∈ kas, NkAll X H5 p.2.1 p.1) ∧ NkAll X H5 b k ∧ kas.length < sizeLine ∧ Nx (upd H5 D (dnO X.prog X.w D none (putKN kas k b z))) else Nx H3)
theorem dcN_core {pins : List (Addr × Obj)} {s : Shared} {σ : L2.St} {H : Hp} {Q : V → Hp → Prop} {use : Option (Value → Sem Unit)} {Qf : Value → Shared → Prop} {pos' : Pos} {ke ve tgt ite : Expr} {cs : List Expr} {scp : Scope} {own : List (Str × Nat)} {ps : Pos} {wi : TI} {g : TG} {tt : TT} {tk tv : TE} (hu : X.A.units + 9 < cLine) (hc : X.calm = true) (hN : X.N.Nodup) (hi : PI X tgt ite wi) (ok : BlkOk X.N X.env.scope scp own)
    (hg : ∀ (s : Shared) (H : Hp) (C : Addr) (cl : List (Str × Addr)) (fr : List Addr), PG (X.blk s H scp (compEnvC scp cl C X.env) fr) tgt g) (ht : ∀ (s : Shared) (H : Hp) (C : Addr) (cl : List (Str × Addr)) (fr : List Addr), PTs (X.blk s H scp (compEnvC scp cl C X.env) fr) cs tt)
    (hk : ∀ (s : Shared) (H : Hp) (C : Addr) (cl : List (Str × Addr)) (fr : List Addr), PE (X.blk s H scp (compEnvC scp cl C X.env) fr) ke tk)
    (he : ∀ (s : Shared) (H : Hp) (C : Addr) (cl : List (Str × Addr)) (fr : List Addr), PE (X.blk s H scp (compEnvC scp cl C X.env) fr) ve tv) (hs : ∀ x, foldedSetIterable ite X.env x = pure x) (I : Inv X pins σ H s) (h : tDcN X wi g tt tk tv (own.map (·.2)) σ H Q)
    (hRR : ∀ D C s' m H', Inv X pins σ H' s' → Q (.ref D) H' → s'.heap.Ns C m → FpOk X pins H' C → compPost (model X.prog X.w) X.A X.xe use Qf (.ref D) C (.ok .next) s') :
    wpAny (model X.prog X.w) X.A (comprehension (.DictComp ke ve [⟨tgt, ite, cs, 0⟩] scp ps) scp X.env pos' newDict false (eval ite X.env) use) Qf X.xe s := by
  have frees : ∀ y ∈ scp.names, y.2 = .free → ∃ c, X.env.cells.lookup y.1 = some c := fun y hy e => (ok.free y hy e).elim (fun z => I.ok.has _ (.inl z)) fun z => I.ok.has _ (.inr z)
  refine wpAny_comprehension_free (use := use) rfl hs (closure_ok frees) ok.kind (fun y hy e => by rw [ok.uniq y hy, e]) (thn (hi.run pins s σ H _ I h) fun itx sA hA => thn hA fun itw sB hB => ?_)
  obtain ⟨it, fr, tn, J, HB, eit, IB, Tn, stB, frB, step⟩ := hB
  subst eit
  refine wpAny_newObj_type (newEnv_comp ?_)
  generalize hD : sB.heap.objs.size = D
  have freshD : HB D = none := IB.hok.fresh (Nat.le_of_eq hD)
  obtain ⟨Wm, ⟨m0, w0⟩, turn⟩ := step D freshD
  obtain ⟨sC, eC⟩ : ∃ sC : Shared, sC = { sB with heap := sB.heap.push { cls := .type "dict", data := .dict #[] } } := ⟨_, rfl⟩
  rw [← eC]
  have heC : sC.heap = sB.heap.push { cls := .type "dict", data := .dict #[] } := by rw [eC]
  obtain ⟨HC, eHC⟩ : ∃ HC, HC = upd HB D (dnO X.prog X.w D none []) := ⟨_, rfl⟩
  rw [← eHC] at w0
  have IC : Inv X pins σ HC sC := by
    rw [eC, eHC, ← hD]
    exact IB.laid (t' := sB.toks) (fun _ _ e => Heap.get?_push_of_some _ e) (Nat.le_refl _) (ext_new (dn_empty _ _ sB.heap IB.big))
  have small : ∀ b ∈ fr, b < sB.heap.objs.size := fun b hb => let ⟨_, e, _⟩ := Tn.obj _ _ stB b hb; Heap.lt_size e
  have frC : ∀ b ∈ fr, FpOk X pins HC b ∧ b < sC.heap.objs.size := fun b hb => by
    refine ⟨⟨?_, (frB b hb).2⟩, by rw [heC, Heap.size_push]; exact Nat.lt_succ_of_lt (small b hb)⟩
    rw [eHC, upd_ne (by rw [← hD]; exact Nat.ne_of_lt (small b hb))]
    exact (frB b hb).1
  have stC : tn 0 sC.heap := Tn.keep _ _ _ stB fun b _ o e => by rw [heC]; exact Heap.get?_push_of_some _ e
  have IL := block_start IC ok hN frC
  let cl0 := cellsFrom (sC.heap.objs.size + 1) scp.names (cloFrom X.env.cells scp.names [])
  have g1 := hg sC HC sC.heap.objs.size cl0 fr
  have g2 := ht sC HC sC.heap.objs.size cl0 fr
  have g3 := hk sC HC sC.heap.objs.size cl0 fr
  have g4 := he sC HC sC.heap.objs.size cl0 fr
  refine (?_ : codeAny (model X.prog X.w) X.A (.compStart (.DictComp ke ve [⟨tgt, ite, cs, 0⟩] scp ps) 0 (.ref it) (.ref D) (compEnvC scp cl0 sC.heap.objs.size X.env)) _ { sC with heap := pushCells (sC.heap.push { cls := .type "dict", data := .dict #[] }) scp.names })
  generalize eB : compEnvC scp cl0 sC.heap.objs.size X.env = bE at IL g1 g2 g3 g4
  have lB : bE.locals = sC.heap.objs.size := by rw [← eB]; rfl
  have hn0 : ∀ b ∈ fr, HC b = none := fun b hb => (frC b hb).1.1
  obtain ⟨sL, eL⟩ : ∃ sL : Shared, sL = { sC with heap := pushCells (sC.heap.push { cls := .type "dict", data := .dict #[] }) scp.names } := ⟨_, rfl⟩
  rw [← eL] at IL ⊢
  have stL : tn 0 sL.heap := Tn.keep _ _ _ stC fun b _ o e => by rw [eL]; exact pushCells_keeps _ _ _ _ (Heap.get?_push_of_some _ e)
  have fpo : ∀ {σ' : L2.St} {H' : Hp} {s' : Shared}, Inv (X.blk sC HC scp bE fr) [] σ' H' s' → (∀ b ∈ fr, H' b = none) → ∀ b ∈ fr, FpOk (X.blk sC HC scp bE fr) [] H' b := fun {σ' H' s'} I' hn b hb =>
    ⟨hn b hb, (I'.ok.exf b hb).1, I'.ok.exfs b hb, .inl hb, fun x c e => (I'.ok.exf b hb).2 x c e, fun p hp => absurd (show p ∈ ([] : List (Addr × Obj)) ++ [] from hp) (by simp)⟩
  have run : codeAny (model X.prog X.w) X.A (.compLoop (.DictComp ke ve [⟨tgt, ite, cs, 0⟩] scp ps) 0 (.ref it) (.ref D) bE) (compPost (model X.prog X.w) X.A X.xe use Qf (.ref D) sC.heap.objs.size) sL := by
    refine compLoop_anyD (fun n t => ∃ i Hi, Inv (X.blk sC HC scp bE fr) [] (wipe σ (own.map (·.2))) Hi t ∧ tn i t.heap ∧ (∀ b ∈ fr, Hi b = none) ∧ Wm i n Hi) ?_ m0 ⟨0, HC, IL, stL, hn0, w0⟩
    rintro n t ⟨i, Hi, Ii, sti, ni, wi'⟩
    rcases turn i n Hi wi' with ⟨fin, qD⟩ | ⟨more, Nx, hNx, one⟩
    · refine thnF (Tn.done (X.blk sC HC scp bE fr) rfl rfl rfl hc i [] t _ Hi (fun _ _ => False) Ii (fpo Ii ni) sti fin) fun r t2 ⟨er, It⟩ => ?_
      subst er
      have Ib : Inv X pins σ Hi t2 := IC.call' (ch := fr) It.os It.base It.hok It.bare fun b hb => let z := (frC b hb).1.2; ⟨z.2.2.1, z.1, z.2.2.2.1, z.2.2.2.2⟩
      have freeC : Hi sC.heap.objs.size = none := by
        have q : Hi bE.locals = none := It.free
        rw [lB] at q
        exact q
      obtain ⟨mN, hN2, _⟩ := It.loc
      have hN3 : t2.heap.Ns bE.locals mN := hN2
      rw [lB] at hN3
      exact hRR D sC.heap.objs.size t2 mN Hi Ib qD hN3 (IC.fpOk (Nat.le_refl _) freeC)
    · refine thnF (Tn.item (X.blk sC HC scp bE fr) rfl rfl rfl hc i [] t _ Hi (fun _ _ => False) Ii (fpo Ii ni) sti more) fun r t2 ⟨u, er, ho⟩ => ?_
      subst er
      refine thnF ho fun _ t3 ⟨x, Hx, Ix, rx, yx, stx, nx⟩ => ?_
      refine thnF (g1.run _ t3 _ Hx x u _ (Ix.pinned (fpo Ix nx) (Tn.obj _ _ stx)) rx (one x Hx yx)) fun _ t4 ⟨σ4, H4, I4, ew, q4⟩ => ?_
      refine thnF (g2.run _ t4 σ4 H4 _ I4 q4) fun yes t5 ⟨H5, I5, q5⟩ => ?_
      have close : ∀ {t' : Shared} {H' : Hp}, Inv (X.blk sC HC scp bE fr) ([] ++ pinsAt fr t3.heap) σ4 H' t' → Nx H' → ∃ m, m < n ∧ ∃ i Hi, Inv (X.blk sC HC scp bE fr) [] (wipe σ (own.map (·.2))) Hi t' ∧ tn i t'.heap ∧ (∀ b ∈ fr, Hi b = none) ∧ Wm i m Hi := fun {t' H'} I' nn => by
        obtain ⟨m', hm, w'⟩ := hNx H' nn
        have pin2 : ∀ b ∈ fr, ∀ o, t3.heap.get? b = some o → t'.heap.get? b = some o ∧ H' b = none := fun b hb o e => ⟨(I'.pin (b, o) (List.mem_append_right _ (List.mem_append_right _ (mem_pinsAt hb e)))).1, (I'.pin (b, o) (List.mem_append_right _ (List.mem_append_right _ (mem_pinsAt hb e)))).2.1⟩
        refine ⟨m', hm, i + 1, H', (I'.unpinned (pins := [])).weak (by rw [← ew, wipe_length]) (fun j v e => ?_), Tn.keep _ _ _ stx fun b hb o e => (pin2 b hb o e).1, fun b hb => ?_, w'⟩
        · rw [← ew] at e
          exact (wipe_some e).1
        · obtain ⟨o, e, _⟩ := Tn.obj _ _ stx b hb
          exact (pin2 b hb o e).2
      cases yes with
      | false =>
        simp only [Bool.false_eq_true, if_false] at q5 ⊢
        exact close I5 q5
      | true =>
        simp only [if_true] at q5 ⊢
        refine thnF (g3.run _ t5 σ4 H5 _ I5 q5) fun vk t6 ⟨yk, H6, I6, rk, q6⟩ => ?_
        refine thnF (g4.run _ t6 σ4 H6 _ I6 q6) fun vv t7 ⟨yv, H7, I7, rv, kas, kb, kk, ek, eD, all, kn, hz, nn⟩ => ?_
        subst ek
        obtain rfl : vk = Value.ref kb := rk
        exact n_dset (X := X.blk sC HC scp bE fr) hu I7 eD (fun p hp => all p hp _ rfl rfl rfl) (kn _ rfl rfl rfl) hz rv fun t8 I8 => close I8 nn
  exact codeAny_compStart_dict run (Tn.self X.A 0 _ _ _ stL run)
theorem ps_setDcN {i : Nat} {y : Str} {py spos : Pos} {ke ve tgt ite : Expr} {cs : List Expr} {scp : Scope} {own : List (Str × Nat)} {ps : Pos} {wi : TI} {g : TG} {tt : TT} {tk tv : TE} (hu : X.A.units + 9 < cLine) (hc : X.calm = true) (hN : X.N.Nodup) (hy : X.N[i]? = some y) (hyl : X.env.scope.names.lookup y = some .local)
    (hsw : swapsWith (.DictComp ke ve [⟨tgt, ite, cs, 0⟩] scp ps) (some (.Name y py)) spos.line X.env = pure true) (hi : PI X tgt ite wi) (ok : BlkOk X.N X.env.scope scp own)
    (hg : ∀ (s : Shared) (H : Hp) (C : Addr) (cl : List (Str × Addr)) (fr : List Addr), PG (X.blk s H scp (compEnvC scp cl C X.env) fr) tgt g) (ht : ∀ (s : Shared) (H : Hp) (C : Addr) (cl : List (Str × Addr)) (fr : List Addr), PTs (X.blk s H scp (compEnvC scp cl C X.env) fr) cs tt)
    (hk : ∀ (s : Shared) (H : Hp) (C : Addr) (cl : List (Str × Addr)) (fr : List Addr), PE (X.blk s H scp (compEnvC scp cl C X.env) fr) ke tk)
    (he : ∀ (s : Shared) (H : Hp) (C : Addr) (cl : List (Str × Addr)) (fr : List Addr), PE (X.blk s H scp (compEnvC scp cl C X.env) fr) ve tv) (hs : ∀ x, foldedSetIterable ite X.env x = pure x := by intro _; rfl) :
    PS X (.Assign [.Name y py] (.DictComp ke ve [⟨tgt, ite, cs, 0⟩] scp ps) spos) (tAsg (tDcN X wi g tt tk tv (own.map (·.2))) (gName i)) := by
  refine ⟨fun pins s σ H D I h => ?_⟩
  rw [exec_Assign_Name_used _ _ _ _ hsw]
  refine wpAny_bind (wpAny_standAt (wpAny_bind ?_))
  show wpAny _ X.A (do let _ ← comprehension (.DictComp ke ve [⟨tgt, ite, cs, 0⟩] scp ps) scp X.env (firstIterPos [⟨tgt, ite, cs, 0⟩] ps) newDict false (eval ite X.env) (some (assign (.Name y py) X.env))) _ _ s
  have h : tDcN X wi g tt tk tv (own.map (·.2)) σ H (fun x H1 => gName i x σ H1 D.nx) := h
  refine wpAny_bind (thn (dcN_core (Qf := fun _ s' => SP X pins D .next s') hu hc hN hi ok hg ht hk he hs I h fun L C s' m H' I' q hn f => ?_) fun _ s' hq => wpAny_pure (wpAny_pure hq))
  show wpAny _ _ (assign (.Name y py) X.env (.ref L)) _ _ _
  refine wpAny_assign_Name (store_ok2 (v := V.ref L) I' hN hy (.inl hyl) rfl (fun s2 I2 ⟨a, sb, ha⟩ => ?_) (.inr hyl))
  obtain ⟨f0, f1, f2, f3, f4, f5⟩ := f
  have haC : C ≠ a := by
    rcases ha with z | z
    · rw [z]; exact f1
    · exact fun e => f4 y a z e.symm
  refine ⟨m, hn.sameBut sb haC, fun h3 sb3 => ?_⟩
  exact ⟨_, H', I2.turned (t' := s2.toks) (fun b o hb e => (sb3.2 b hb).trans e) f0 f1 f3 f4 f5, q⟩
theorem sw_trueD {ke ve : Expr} {gs : List Comprehension} {scope : Scope} {pos py : Pos} {y : Str} {l : Nat} {env : Env} (hk : env.scope.kind = .function) (hy : env.scope.names.lookup y = some .local) (hl : (py.line == pos.line) = true)
    (ha : (scope.names.any fun (n, k) => n == y && (k == .local || k == .cell)) = false) : swapsWith (.DictComp ke ve gs scope pos) (some (.Name y py)) l env = pure true := by
  have ky : env.kindOf y = some .local := hy
  have hb : env.blockKind = .function := by unfold Env.blockKind; rw [hk]; rfl
  unfold swapsWith
  simp only [hb, ky, ha, Expr.pos, hl]
  rfl
end
def dcGoN (wg : WG) (wt : WT) (wk wv : WE) (vs : List Nat) (Q : List (Da × Da) → Sx → Prop) : List Da → List (Da × Da) → Sx → Prop
  | [], acc, S => Q acc S
  | d :: ds, acc, S => wg d (S.wipe vs) fun S2 => wt S2 fun b S3 => if b = true then wk S3 fun y S4 => wv S4 fun z S5 => y.key8 = true ∧ z.isO = false ∧ acc.length < sizeLine ∧ dcGoN wg wt wk wv vs Q ds (putN acc y z) (S.back S5 vs) else dcGoN wg wt wk wv vs Q ds acc (S.back S3 vs)
def wDcN (P : Program) (w : World) (wi : WI) (wg : WG) (wt : WT) (wk wv : WE) (vs : List Nat) : WE := fun S Q => wi S fun ds S1 => dcGoN wg wt wk wv vs (fun acc S2 => ∀ q, S2.M q = none → Q (.r q) ⟨S2.ρ, updM S2.M q (.dn P w none acc)⟩) ds [] (S1.norm vs)
theorem putN_len {kds : List (Da × Da)} {k d : Da} : (putN kds k d).length ≤ kds.length + 1 := by
  unfold putN
  split
  · rw [List.length_map]; omega
  · simp
theorem mut_dn {P : Program} {w : World} {a : Addr} {kas : List (NestedKey × Addr × V)} : Mut (some (dnO P w a none kas)) := trivial
section
variable {X : Cx} {c : Cq} {pos : Pos} {wk wv : WE}
theorem ldcN {wi : WI} {g : TG} {wg : WG} {tt : TT} {wt : WT} {tk tv : TE} {is vs : List Nat} (L : ∀ c' : Cq, c'.n = c.n → LG X.K c' g wg is) (hv : ∀ i ∈ is, i ∈ vs) (ht : ∀ c' : Cq, c'.n = c.n → ∀ σ H Q, lT X.K c' wt σ H Q → tt σ H Q)
    (hk : ∀ c' : Cq, c'.n = c.n → ∀ σ H Q, lE X.K c' wk σ H Q → tk σ H Q) (he : ∀ c' : Cq, c'.n = c.n → ∀ σ H Q, lE X.K c' wv σ H Q → tv σ H Q) : ∀ σ H Q, lE X.K c (wDcN X.prog X.w wi wg wt wk wv vs) σ H Q → tDcN X (lWk X.K c wi) g tt tk tv vs σ H Q := fun σ H Q h => by
  obtain ⟨S, Qd, r, h, p⟩ := h
  refine ⟨S, _, r, h, fun ds S1 h1 H1 J r1 k1 ok D nD => ?_⟩
  have nk := r1.nk nD
  have nA : ¬ c.A0 D := fun z => (r1.a0 D z).1 nD
  obtain ⟨r1', _⟩ := r1.plus (o := dnO X.prog X.w D none []) nD
  have sm1 : Same H1 (upd H1 D (dnO X.prog X.w D none [])) := same_upd nD
  let Qe : List (Da × Da) → Sx → Prop := fun acc S2 => ∀ q, S2.M q = none → Qd (.r q) ⟨S2.ρ, updM S2.M q (.dn X.prog X.w none acc)⟩
  refine ⟨fun i m H2 => m = ds.length - i ∧ i ≤ ds.length ∧ ∃ S2 acc vacc, Rel X.K (c.plus D) S2 σ H2 ∧ Kp S1.W S2.W H1 H2 ∧ H2 D = some (dnO X.prog X.w D none vacc) ∧ RpN X.K (S2.A (c.plus D)) H2 vacc acc ∧ acc.length ≤ sizeLine ∧ dcGoN wg wt wk wv vs Qe (ds.drop i) acc S2,
    ⟨ds.length, by simp, Nat.zero_le _, S1.norm vs, [], [], (r1'.back r1' .refl rfl fun _ _ => rfl).1, (Kp.same sm1).trans (r1'.back r1' .refl rfl fun _ _ => rfl).2, upd_same, .nil, Nat.zero_le _, by simpa using h1⟩, ?_⟩
  rintro i m H2 ⟨rfl, hi, S2, acc, vacc, r2, k2, eD, ra, hz, h2⟩
  obtain ⟨go, stop⟩ := ok H2 (fun a => S2.W a ∨ a = D) ⟨k2.keep, fun b z => z.elim (k2.mono b) fun q => .inr (by rw [q]; exact nD)⟩ i
  by_cases hlt : i < ds.length
  · refine .inr ⟨(go ds[i] (List.getElem?_eq_getElem hlt)).1, fun H' => ∃ S2 acc vacc, Rel X.K (c.plus D) S2 σ H' ∧ Kp S1.W S2.W H1 H' ∧ H' D = some (dnO X.prog X.w D none vacc) ∧ RpN X.K (S2.A (c.plus D)) H' vacc acc ∧ acc.length ≤ sizeLine ∧ dcGoN wg wt wk wv vs Qe (ds.drop (i + 1)) acc S2,
      fun H' q => ⟨ds.length - (i + 1), by omega, rfl, hlt, q⟩, fun x H3 hy => ?_⟩
    obtain ⟨sm, rx⟩ := (go ds[i] (List.getElem?_eq_getElem hlt)).2 x H3 hy
    rw [List.drop_eq_getElem_cons hlt] at h2
    have r3 := r2.same sm
    have k3 : Kp S2.W S2.W H2 H3 := .same sm
    obtain ⟨rw3, kw3⟩ := r3.wipe vs
    have rx' : Rp X.K ((S2.wipe vs).A (c.plus D)) H3 x ds[i] := rx.kp ⟨fun b u e _ => e, fun b z => by
      rcases z with (z | z) | z
      · exact .inl (.inl z)
      · exact .inl (.inr (.inr z))
      · exact (kw3.mono b z).imp (fun q => .inr (.inl q)) id⟩
    refine (L (c.plus D) rfl).run x ds[i] _ _ H3 _ _ rw3 rx' h2 fun S4 σ4 h4 r4 k4 s4 l4 => ?_
    have l4' : σ4.length = σ.length := by rw [l4, wipe_length]
    have s4' : ∀ j, j ∉ vs → σ4[j]? = σ[j]? := fun j hj => by
      rw [s4 j (fun z => hj (hv j z)), wipe_get hj]
    refine ⟨wipe_eq l4' s4', ht (c.plus D) rfl _ _ _ ⟨S4, _, r4, h4, fun b S5 h5 H5 r5 k5 => ?_⟩⟩
    have k25 : Kp S2.W S5.W H2 H5 := ((k3.trans kw3).trans k4).trans k5
    have D5 : H5 D = some (dnO X.prog X.w D none vacc) := k25.keep D _ eD (.inl (r2.a0 D (.inr rfl)).2)
    refine ite_of h5 (fun h6 => hk (c.plus D) rfl _ _ _ ⟨S5, _, r5, h6, fun y S6 h7 H6 v r6 k6 py => he (c.plus D) rfl _ _ _ ⟨S6, _, r6, h7, fun z S7 h8 H7 u r7 k7 pz => ?_⟩⟩) fun h6 => ?_
    · obtain ⟨hkk, zO, hz2, h9⟩ := h8
      have k27 := (k25.trans k6).trans k7
      have D7 : H7 D = some (dnO X.prog X.w D none vacc) := k27.keep D _ eD (.inl (r2.a0 D (.inr rfl)).2)
      obtain ⟨rb, kb⟩ := r2.back r7 k27 l4' s4'
      have kab := kA (c := c.plus D) (k27.trans kb)
      have ra7 := ra.kp kab
      obtain ⟨bb, rfl, rkey⟩ := key8_ref hkk (py.kp (kA k7))
      have upk : ∀ {A : Addr → Prop}, A D → Kp A A H7 (upd H7 D (dnO X.prog X.w D none (putKN vacc y.nk bb u))) := fun {A} hA => ⟨fun b u eb z => by
        have : b ≠ D := fun q => by
          subst q
          rcases z with z | z
          · exact z hA
          · rw [D7] at eb
            cases eb
            exact z trivial
        rw [upd_ne this]
        exact eb, fun b z => .inl z⟩
      refine ⟨vacc, bb, y.nk, rfl, D7, fun p hp Y e1 e2 e3 => rpn_ok (X := Y) (A := (S2.back S7 vs).A (c.plus D)) (by rw [e1]; exact ra7) p hp, nk_all rkey hkk, by rw [rpn_len ra]; exact hz2, S2.back S7 vs, putN acc y z, putKN vacc y.nk bb u, rb.upD D7 mut_dn nk, ?_, upd_same, ?_, Nat.le_trans putN_len hz2, h9⟩
      · refine ⟨fun b u eb z => ?_, (k2.trans (k27.trans kb)).mono⟩
        rw [upd_ne (ne_of_none eb nD)]
        exact (k2.trans (k27.trans kb)).keep b u eb z
      · have hD : ((S2.back S7 vs).A (c.plus D)) D := .inl (.inr rfl)
        exact rpn_put (ra7.kp (upk hD)) hkk ((rkey.kp (kA kb)).kp (upk hD)) (((pz.pure zO).kp (kA kb)).kp (upk hD))
    · obtain ⟨rb, kb⟩ := r2.back r5 k25 l4' s4'
      exact ⟨S2.back S5 vs, acc, vacc, rb, k2.trans (k25.trans kb), D5, ra.kp (kA (k25.trans kb)), hz, h6⟩
  · have e : i = ds.length := by omega
    subst e
    rw [List.drop_length] at h2
    obtain ⟨rm, km⟩ := r2.minus eD mut_dn nA nk
    have h2' : Qe acc S2 := h2
    obtain ⟨r5, k5⟩ := rm.newM (o := dnO X.prog X.w D none vacc) (m := .dn X.prog X.w none acc) offH_same fun A k => ⟨vacc, upd_same, (ra.kp km).kp k⟩
    rw [upd_offH eD] at r5 k5
    refine .inl ⟨stop (Nat.le_refl _), p (.r D) _ (h2' D (m_none rm offH_same)) _ _ r5 ?_ (.inl (.r D))⟩
    refine (k1.trans ⟨fun b u eb z => ?_, fun b z => k2.mono b z⟩ : Kp S.W S2.W H (offH H2 D)).trans k5
    rw [offH_ne (ne_of_none eb nD)]
    exact k2.keep b u eb z
theorem s_valDcN {P : Program} {w : World} {i : Nat} {y : Str} {py spos : Pos} (hP : X.prog = P) (hw : X.w = w) {kx vx tg iter : Expr} {ifs : List Expr} {scope : Scope} {own : List (Str × Nat)} {wi : WI} {wt : WT} {g : TG} {wg : WG} {is : List Nat} (hu : X.A.units + 9 < cLine) (hc : X.calm = true) (hN : X.N.Nodup) (hy : X.N[i]? = some y) (hyl : X.env.scope.names.lookup y = some .local) (hn : i < c.n) (hsw : swapsWith (.DictComp kx vx [⟨tg, iter, ifs, 0⟩] scope pos) (some (.Name y py)) spos.line X.env = pure true) (hi : PI X tg iter (lWk X.K c wi)) (ok : BlkOk X.N X.env.scope scope own)
    (L : ∀ c' : Cq, c'.n = c.n → LG X.K c' g wg is) (hg : ∀ (s : Shared) (H : Hp) (C : Addr) (cl : List (Str × Addr)) (fp : List Addr), PG (X.blk s H scope (compEnvC scope cl C X.env) fp) tg g)
    (ht : ∀ (s : Shared) (H : Hp) (C : Addr) (cl : List (Str × Addr)) (fp : List Addr) (c' : Cq), c'.n = c.n → PTs (X.blk s H scope (compEnvC scope cl C X.env) fp) ifs (lT X.K c' wt))
    (hk : ∀ (s : Shared) (H : Hp) (C : Addr) (cl : List (Str × Addr)) (fp : List Addr) (c' : Cq), c'.n = c.n → PE (X.blk s H scope (compEnvC scope cl C X.env) fp) kx (lE X.K c' wk))
    (he : ∀ (s : Shared) (H : Hp) (C : Addr) (cl : List (Str × Addr)) (fp : List Addr) (c' : Cq), c'.n = c.n → PE (X.blk s H scope (compEnvC scope cl C X.env) fp) vx (lE X.K c' wv))
    (hv : ∀ i ∈ is, i ∈ own.map (·.2)) (hs : ∀ x, foldedSetIterable iter X.env x = pure x := by intro _; rfl) : PS X (.Assign [.Name y py] (.DictComp kx vx [⟨tg, iter, ifs, 0⟩] scope pos) spos) (lS X.K c (wSet i (wDcN P w wi wg wt wk wv (own.map (·.2))))) := by
  subst hP hw
  exact ps_imp (ps_setDcN (i := i) (tt := fun σ H Q => ∃ c' : Cq, c'.n = c.n ∧ lT X.K c' wt σ H Q) (tk := fun σ H Q => ∃ c' : Cq, c'.n = c.n ∧ lE X.K c' wk σ H Q) (tv := fun σ H Q => ∃ c' : Cq, c'.n = c.n ∧ lE X.K c' wv σ H Q) hu hc hN hy hyl hsw hi ok hg
    (fun s H C cl fp => ⟨fun pins s' σ H' Q I ⟨c', hc', h⟩ => (ht s H C cl fp c' hc').run pins s' σ H' Q I h⟩)
    (fun s H C cl fp => ⟨fun pins s' σ H' Q I ⟨c', hc', h⟩ => (hk s H C cl fp c' hc').run pins s' σ H' Q I h⟩)
    (fun s H C cl fp => ⟨fun pins s' σ H' Q I ⟨c', hc', h⟩ => (he s H C cl fp c' hc').run pins s' σ H' Q I h⟩) hs)
    (lset hn fun σ H Q h => ldcN L hv (fun c' e _ _ _ h => ⟨c', e, h⟩) (fun c' e _ _ _ h => ⟨c', e, h⟩) (fun c' e _ _ _ h => ⟨c', e, h⟩) σ H Q h)
end
end VL
set_option Elab.async false
set_option linter.all false
set_option maxRecDepth 100000
set_option maxHeartbeats 1000000
namespace VL
open PySem PySem.Spec PyProof.Rows L2
section
variable {X : Cx} {c : Cq} {k : Nat} {C p g : Addr} {f : Str} {fd : FuncData} {ps : List Str} {dc : DC} {e : Expr} {pos : Pos} {we : WE}
variable {fa : Addr} {dvs : List V} {dd : List Da} {x : Str} {p2 : Pos} {es : List Expr} {wl : WA} {Xs : Value → Option (List (Str × Da)) → Sx → Prop} {W : WX}
theorem v_makeE (F : FnOk X.prog X.w X.K X.mg X.base (L2.CX X.prog X.w) k fa fd ps (spOf X.K dc)) (hr : Room (k + 1) X.A) (M : Mk X.K C fa) (hg : Gl X x) (hm : X.mg x = some (.ref C)) (hb : ∃ ds, Vals dvs ds ∧ Binds X.K fd ps ds) (hdd : ∀ A H, RpA X.K A H dvs dd)
    (tk : Takes X W) (hX : XOk X.K c Xs W) (ha : PA X (e :: es) (lA X.K c wl)) (hdb : (x == ("__debug__" : Str)) = false := by decide) (he : starEach (e :: es) X.env = (false, eval e X.env) :: starEach es X.env := by rfl) (hpl : (backTo pos (starEach es X.env)).any (·.1) = false := by rfl) :
    PE X (.Call (.Name x p2) (e :: es) [] pos) (lE X.K c (wMake C dc dd Xs wl)) := by
  obtain ⟨ds, r, b⟩ := hb
  exact v_makeD F hr M hg hm b r hdd tk hX ha hdb he hpl
theorem rpa_n {K : PySem.W.Frag} (A : Addr → Prop) (H : Hp) : RpA K A H [V.non] [Da.n] := .cons .n .nil
end
end VL
set_option Elab.async false
set_option linter.all false
set_option maxRecDepth 100000
set_option maxHeartbeats 1000000
namespace VL
open PySem PySem.Spec PyProof.Rows L2
def wIsiLT (we : WE) : WE := fun S Q => we S fun d S' => ∃ ds, S'.lst d = some ds ∧ Q (.b true) S'
section
variable {X : Cx} {c : Cq} {pos p p1 p2 tp : Pos} {e : Expr} {we : WE} {kk : Nat}
theorem v_isiLT (hg : Gl X "isinstance") (hm : X.mg "isinstance" = none) (hg1 : Gl X "list") (hm1 : X.mg "list" = none) (hg2 : Gl X "tuple") (hm2 : X.mg "tuple" = none) (he : PE X e (lE X.K c we))
    (hs : starEach [e, .Tuple [.Name "list" p1, .Name "tuple" p2] kk tp] X.env = (false, eval e X.env) :: starEach [.Tuple [.Name "list" p1, .Name "tuple" p2] kk tp] X.env := by rfl)
    (hs2 : starEach [.Tuple [.Name "list" p1, .Name "tuple" p2] kk tp] X.env = (false, eval (.Tuple [.Name "list" p1, .Name "tuple" p2] kk tp) X.env) :: starEach [] X.env := by rfl)
    (hs3 : starEach [.Name "list" p1, .Name "tuple" p2] X.env = (false, eval (.Name "list" p1) X.env) :: starEach [.Name "tuple" p2] X.env := by rfl) (hs4 : starEach [.Name "tuple" p2] X.env = (false, eval (.Name "tuple" p2) X.env) :: starEach [] X.env := by rfl)
    (hpl : (backTo pos (starEach [.Tuple [.Name "list" p1, .Name "tuple" p2] kk tp] X.env)).any (·.1) = false := by rfl) (hv : bootBuiltins "isinstance" = some (.builtin "isinstance") := by decide +kernel) (hv1 : bootBuiltins "list" = some (.type "list") := by decide +kernel) (hv2 : bootBuiltins "tuple" = some (.type "tuple") := by decide +kernel) :
    PE X (.Call (.Name "isinstance" p) [e, .Tuple [.Name "list" p1, .Name "tuple" p2] kk tp] [] pos) (lE X.K c (wIsiLT we)) :=
  pe_imp (pe_callB call_isiT hg hm hv (pa_cons he (pa_cons (pe_tup (pa_cons (pe_bltn (v := .ty "list") hg1 hm1 hv1 rfl) (pa_cons (pe_bltn (v := .ty "tuple") hg2 hm2 hv2 rfl) pa_nil hs4) hs3)) pa_nil hs2) hs) (by decide) (by decide) hs hpl) fun σ H Q h => by
  obtain ⟨S, Qd, r, h, q⟩ := h
  refine ⟨S, _, r, h, fun d S1 h1 H1 v r1 k1 px => ?_⟩
  obtain ⟨ds, hl, hq⟩ := h1
  obtain ⟨w, vs, rfl, g1, g2⟩ := lst_ok r1 px hl
  refine ⟨by show 2 ≤ sizeLine; decide, fun a na => ?_⟩
  obtain ⟨r2, k2, nA⟩ := r1.alloc (o := .tup [.ty "list", .ty "tuple"]) na
  have gw : upd H1 a (.tup [.ty "list", .ty "tuple"]) w = some (.lst vs) := by
    rw [upd_ne (fun z => by rw [z, na] at g1; cases g1)]
    exact g1
  refine ⟨.ref w, a, [.ty "list", .ty "tuple"], .type "list", [.type "list", .type "tuple"], true, rfl, upd_same, .cons (.ty "list") (.cons (.ty "tuple") .nil), .base (.lst gw), ?_, q _ _ hq _ _ r2 (k1.trans k2) (.inl (.b _))⟩
  exact kitAny_cons (b := true) (kit_ty isi_list.l) (fun z => by cases z) (fun _ => rfl)
end
end VL
set_option Elab.async false
set_option linter.all false
set_option maxRecDepth 100000
set_option maxHeartbeats 1000000
namespace VL
open PySem PySem.Spec PyProof.Rows L2
def wNotT (we : WE) : WE := fun S Q => we S fun d S' => trD S' d fun k => Q (.b (!k)) S'
section
variable {X : Cx} {c : Cq} {pos : Pos} {e : Expr} {we : WE}
theorem v_notT (he : PE X e (lE X.K c we)) : PE X (.UnaryOp .Not e pos) (lE X.K c (wNotT we)) := pe_imp (pe_notT he) fun σ H Q h => by
  obtain ⟨S, Qd, r, h, p⟩ := h
  refine ⟨S, _, r, h, fun d S1 h1 H1 v r1 k1 p1 => ?_⟩
  obtain ⟨k, tv, q⟩ := tr_ok r1 p1 h1
  exact ⟨k, tv, p _ _ q _ _ r1 k1 (.inl (.b _))⟩
end
section
variable {X : Cx} {c : Cq} {pos : Pos} {a b : Expr} {wa wb : WE}
theorem vt_nin {P : Program} {w : World} (hP : X.prog = P) (hw : X.w = w) (hu : X.A.units + 9 < cLine) (hm : behindInMarks .In b = false) (ha : PE X a (lE X.K c wa)) (hb : PE X b (lE X.K c wb)) : PT X (.Compare a [.In] [b] pos) (lT X.K c (wB (wOp (rdNin P w false) wa wb))) := by
  subst hP hw
  exact pt_imp (pt_cmp (pc_nin hu ha hb) hm) (lTest lnin)
theorem vt_nnin {P : Program} {w : World} (hP : X.prog = P) (hw : X.w = w) (hu : X.A.units + 9 < cLine) (hm : behindInMarks .NotIn b = false) (ha : PE X a (lE X.K c wa)) (hb : PE X b (lE X.K c wb)) : PT X (.Compare a [.NotIn] [b] pos) (lT X.K c (wB (wOp (rdNin P w true) wa wb))) := by
  subst hP hw
  exact pt_imp (pt_cmp (pc_nnin hu ha hb) hm) (lTest lnin)
end
section
variable {α : Type} {wg : WG} {wt : WT} {we : WE} {vs : List Nat} {Q : List Da → Sx → Prop} {S : Sx}
theorem lc_on (D : α → Da) (f : α → Option Da) {l : List α}
    (h : ∀ a ∈ l, ∀ (R1 : Da → Sx → Prop) (R2 : Sx → Prop), (∀ S4, Agr (S.norm vs) S4 vs → match f a with | some y => R1 y S4 | none => R2 S4) → wg (D a) ((S.norm vs).wipe vs) fun S2 => wt S2 fun b S3 => if b = true then we S3 R1 else R2 S3)
    (hO : ∀ a ∈ l, ∀ y, f a = some y → y.isO = false) (hz : l.length ≤ sizeLine) (q : Q (l.filterMap f) (S.norm vs)) : lcGo wg wt we vs Q (l.map D) [] (S.norm vs) := by
  refine lcGo_of (fun rest acc S' => S' = S.norm vs ∧ ∃ done left, l = done ++ left ∧ rest = left.map D ∧ acc = done.filterMap f) (fun d rest acc S' ⟨e, done, left, e1, e0, e2⟩ R hR => ?_) (fun acc S' ⟨e, done, left, e1, e0, e2⟩ => ?_) (l.map D) [] (S.norm vs) ⟨rfl, [], l, rfl, rfl, rfl⟩
  · subst e
    cases left with
    | nil => cases e0
    | cons a left =>
    injection e0 with ea eb
    subst ea
    subst eb
    have hd : a ∈ l := by rw [e1]; simp
    refine h a hd _ _ fun S4 hb => ?_
    have la : acc.length ≤ done.length := by rw [e2]; exact List.length_filterMap_le f done
    have ld : done.length < l.length := by rw [e1]; simp
    cases e : f a with
    | none => exact hR _ _ ⟨hb.back, done ++ [a], left, by simp [e1], rfl, by simp [e2, e]⟩
    | some y => exact ⟨hO a hd y e, by omega, hR _ _ ⟨hb.back, done ++ [a], left, by simp [e1], rfl, by simp [e2, e]⟩⟩
  · subst e
    have e0' : left = [] := List.map_eq_nil_iff.mp e0.symm
    subst e0'
    rw [List.append_nil] at e1
    subst e1
    rw [e2]
    exact q
theorem lc_onM (D g : α → Da) {l : List α}
    (h : ∀ a ∈ l, ∀ (R1 : Da → Sx → Prop), (∀ S4, Agr (S.norm vs) S4 vs → R1 (g a) S4) → wg (D a) ((S.norm vs).wipe vs) fun S2 => we S2 R1)
    (hO : ∀ a ∈ l, (g a).isO = false) (hz : l.length ≤ sizeLine) (q : Q (l.map g) (S.norm vs)) : lcGo wg wYes we vs Q (l.map D) [] (S.norm vs) := by
  refine lc_on D (fun a => some (g a)) (fun d hd R1 R2 hR => ?_) (fun d hd y e => by cases e; exact hO d hd) hz ?_
  · exact h d hd R1 hR
  · rw [show l.filterMap (fun d => some (g d)) = l.map g from by rw [← List.filterMap_eq_map]; rfl]
    exact q
theorem lc_onF (D : α → Da) (p : α → Bool) {l : List α}
    (h : ∀ a ∈ l, ∀ (R1 : Da → Sx → Prop) (R2 : Sx → Prop), (∀ S4, Agr (S.norm vs) S4 vs → if p a = true then R1 (D a) S4 else R2 S4) → wg (D a) ((S.norm vs).wipe vs) fun S2 => wt S2 fun b S3 => if b = true then we S3 R1 else R2 S3)
    (hO : ∀ a ∈ l, (D a).isO = false) (hz : l.length ≤ sizeLine) (q : Q ((l.filter p).map D) (S.norm vs)) : lcGo wg wt we vs Q (l.map D) [] (S.norm vs) := by
  have e : l.filterMap (fun a => if p a = true then some (D a) else none) = (l.filter p).map D := by
    clear q hz hO h
    induction l with
    | nil => rfl
    | cons a l ih =>
      rw [List.filterMap_cons]
      cases hp : p a with
      | true => rw [List.filter_cons_of_pos hp, List.map_cons, ← ih]; rfl
      | false => rw [List.filter_cons_of_neg (by rw [hp]; decide), ← ih]; rfl
  refine lc_on D (fun a => if p a = true then some (D a) else none) (fun a ha R1 R2 hR => h a ha R1 R2 fun S4 hb => ?_) (fun a ha y e => ?_) hz (by rw [e]; exact q)
  · have := hR S4 hb
    cases hp : p a with
    | true => rw [hp] at this; exact this
    | false => rw [hp] at this; exact this
  · cases hp : p a with
    | true => rw [hp] at e; cases e; exact hO a ha
    | false => rw [hp] at e; cases e
end
end VL
set_option Elab.async false
set_option linter.all false
set_option maxRecDepth 100000
set_option maxHeartbeats 1000000
namespace VL
open PySem PySem.Spec PyProof.Rows L2 LamX NdefX
def topS (i : Nat) : Stmt := PySem.Challenge.pw_kindnotes_k29_still_at_a_lot.main.body.getD i (.Pass ⟨0, 0, 0, 0⟩)
abbrev sPassing : Stmt := topS 16
abbrev NPassing : List Str := ["book", "rows", "noted", "flags", "path", "core", "_", "wholes", "alone", "way"]
theorem scPassing : FnScope NPassing ["book", "rows", "noted"] (defScope sPassing) := ⟨rfl, rfl, rfl, by decide +kernel, rfl, by decide +kernel, by decide +kernel⟩
abbrev sStandingStill : Stmt := topS 17
abbrev NStandingStill : List Str := ["book", "rows", "noted", "told", "flags", "cores", "path", "fitting", "bare", "row"]
theorem scStandingStill : FnScope NStandingStill ["book", "rows", "noted", "told"] (defScope sStandingStill) := ⟨rfl, rfl, rfl, by decide +kernel, rfl, by decide +kernel, by decide +kernel⟩
abbrev sIsPassed : Stmt := topS 18
abbrev NIsPassed : List Str := ["flags", "told"]
theorem scIsPassed : FnScope NIsPassed ["flags", "told"] (defScope sIsPassed) := ⟨rfl, rfl, rfl, by decide +kernel, rfl, by decide +kernel, by decide +kernel⟩
abbrev sFitting : Stmt := topS 19
abbrev NFitting : List Str := ["book", "node", "told", "way"]
theorem scFitting : FnScope NFitting ["book", "node", "told"] (defScope sFitting) := ⟨rfl, rfl, rfl, by decide +kernel, rfl, by decide +kernel, by decide +kernel⟩
abbrev sParts : Stmt := topS 20
abbrev NParts : List Str := ["way", "path", "place", "direction"]
theorem scParts : FnScope NParts ["way", "path"] (defScope sParts) := ⟨rfl, rfl, rfl, by decide +kernel, rfl, by decide +kernel, by decide +kernel⟩
abbrev sNamesWithoutNote : Stmt := topS 21
abbrev NNamesWithoutNote : List Str := ["way", "path", "noted", "place"]
theorem scNamesWithoutNote : FnScope NNamesWithoutNote ["way", "path", "noted"] (defScope sNamesWithoutNote) := ⟨rfl, rfl, rfl, by decide +kernel, rfl, by decide +kernel, by decide +kernel⟩
abbrev sStuckParts : Stmt := topS 22
abbrev NStuckParts : List Str := ["way", "path", "flags", "below", "told"]
theorem scStuckParts : FnScope NStuckParts ["way", "path", "flags"] (defScope sStuckParts) := ⟨rfl, rfl, rfl, by decide +kernel, rfl, by decide +kernel, by decide +kernel⟩
abbrev sPasses : Stmt := topS 23
abbrev NPasses : List Str := ["way", "path", "noted", "flags"]
theorem scPasses : FnScope NPasses ["way", "path", "noted", "flags"] (defScope sPasses) := ⟨rfl, rfl, rfl, by decide +kernel, rfl, by decide +kernel, by decide +kernel⟩
abbrev sIsWord : Stmt := topS 27
abbrev NIsWord : List Str := ["text", "mark"]
theorem scIsWord : FnScope NIsWord ["text"] (defScope sIsWord) := ⟨rfl, rfl, rfl, by decide +kernel, rfl, by decide +kernel, by decide +kernel⟩
abbrev sIsLetter : Stmt := topS 28
abbrev NIsLetter : List Str := ["text"]
theorem scIsLetter : FnScope NIsLetter ["text"] (defScope sIsLetter) := ⟨rfl, rfl, rfl, by decide +kernel, rfl, by decide +kernel, by decide +kernel⟩
abbrev sIsForm : Stmt := topS 29
abbrev NIsForm : List Str := ["row", "todo", "part"]
theorem scIsForm : FnScope NIsForm ["row"] (defScope sIsForm) := ⟨rfl, rfl, rfl, by decide +kernel, rfl, by decide +kernel, by decide +kernel⟩
abbrev sStock_init : Stmt := inClass (topS 30) 0
abbrev NStock_init : List Str := ["self", "shapes", "under", "word"]
theorem scStock_init : FnScope NStock_init ["self", "shapes", "under"] (defScope sStock_init) := ⟨rfl, rfl, rfl, by decide +kernel, rfl, by decide +kernel, by decide +kernel⟩
abbrev sStock_fits : Stmt := inClass (topS 30) 2
abbrev NStock_fits : List Str := ["self", "form", "part"]
theorem scStock_fits : FnScope NStock_fits ["self", "form"] (defScope sStock_fits) := ⟨rfl, rfl, rfl, by decide +kernel, rfl, by decide +kernel, by decide +kernel⟩
abbrev sIsKind : Stmt := topS 31
abbrev NIsKind : List Str := ["row", "part"]
theorem scIsKind : FnScope NIsKind ["row"] (defScope sIsKind) := ⟨rfl, rfl, rfl, by decide +kernel, rfl, by decide +kernel, by decide +kernel⟩
abbrev sCheckKind : Stmt := topS 32
abbrev NCheckKind : List Str := ["stock", "row"]
theorem scCheckKind : FnScope NCheckKind ["stock", "row"] (defScope sCheckKind) := ⟨rfl, rfl, rfl, by decide +kernel, rfl, by decide +kernel, by decide +kernel⟩
abbrev sWalk : Stmt := topS 33
abbrev NWalk : List Str := ["form", "seen", "todo", "part"]
theorem scWalk : FnScope NWalk ["form"] (defScope sWalk) := ⟨rfl, rfl, rfl, by decide +kernel, rfl, by decide +kernel, by decide +kernel⟩
abbrev sIsMarks : Stmt := topS 34
abbrev NIsMarks : List Str := ["marks", "mark"]
theorem scIsMarks : FnScope NIsMarks ["marks"] (defScope sIsMarks) := ⟨rfl, rfl, rfl, by decide +kernel, rfl, by decide +kernel, by decide +kernel⟩
abbrev sCheckShapes : Stmt := topS 35
abbrev NCheckShapes : List Str := ["shapes", "word", "marks"]
theorem scCheckShapes : FnScope NCheckShapes ["shapes"] (defScope sCheckShapes) := ⟨rfl, rfl, rfl, by decide +kernel, rfl, by decide +kernel, by decide +kernel⟩
abbrev sCheckUnder : Stmt := topS 36
abbrev NCheckUnder : List Str := ["shapes", "under", "word", "above"]
theorem scCheckUnder : FnScope NCheckUnder ["shapes", "under"] (defScope sCheckUnder) := ⟨rfl, rfl, rfl, by decide +kernel, rfl, by decide +kernel, by decide +kernel⟩
abbrev sChain : Stmt := topS 37
abbrev NChain : List Str := ["word", "under", "chain", "above"]
theorem scChain : FnScope NChain ["word", "under"] (defScope sChain) := ⟨rfl, rfl, rfl, by decide +kernel, rfl, by decide +kernel, by decide +kernel⟩
abbrev sLaidOut : Stmt := topS 39
abbrev NLaidOut : List Str := ["program", "rows", "todo", "path", "part", "name", "name_note", "core", "note", "below", "place", "block"]
theorem scLaidOut : FnScope NLaidOut ["program"] (defScope sLaidOut) := ⟨rfl, rfl, rfl, by decide +kernel, rfl, by decide +kernel, by decide +kernel⟩
abbrev sBuilt : Stmt := topS 40
abbrev NBuilt : List Str := ["table", "program", "rows", "_", "core", "note", "name_note", "kind"]
theorem scBuilt : FnScope NBuilt ["table", "program"] (defScope sBuilt) := ⟨rfl, rfl, rfl, by decide +kernel, rfl, by decide +kernel, by decide +kernel⟩
abbrev sCheckWays : Stmt := topS 41
abbrev NCheckWays : List Str := ["book", "rows", "_", "core"]
theorem scCheckWays : FnScope NCheckWays ["book", "rows"] (defScope sCheckWays) := ⟨rfl, rfl, rfl, by decide +kernel, rfl, by decide +kernel, by decide +kernel⟩
abbrev sSpotsOf : Stmt := topS 42
abbrev NSpotsOf : List Str := ["rows", "spots", "path", "_", "note", "name", "name_note"]
theorem scSpotsOf : FnScope NSpotsOf ["rows"] (defScope sSpotsOf) := ⟨rfl, rfl, rfl, by decide +kernel, rfl, by decide +kernel, by decide +kernel⟩
abbrev sParted : Stmt := topS 43
abbrev NParted : List Str := ["part"]
theorem scParted : FnScope NParted ["part"] (defScope sParted) := ⟨rfl, rfl, rfl, by decide +kernel, rfl, by decide +kernel, by decide +kernel⟩
abbrev sCheckCore : Stmt := topS 44
abbrev NCheckCore : List Str := ["core", "block"]
theorem scCheckCore : FnScope NCheckCore ["core"] (defScope sCheckCore) := ⟨rfl, rfl, rfl, by decide +kernel, rfl, by decide +kernel, by decide +kernel⟩
abbrev sCheckBlock : Stmt := topS 45
abbrev NCheckBlock : List Str := ["block", "name", "note", "_"]
theorem scCheckBlock : FnScope NCheckBlock ["block"] (defScope sCheckBlock) := ⟨rfl, rfl, rfl, by decide +kernel, rfl, by decide +kernel, by decide +kernel⟩
abbrev sCheckNode : Stmt := topS 46
abbrev NCheckNode : List Str := ["table", "node", "places", "_", "bound", "block"]
theorem scCheckNode : FnScope NCheckNode ["table", "node"] (defScope sCheckNode) := ⟨rfl, rfl, rfl, by decide +kernel, rfl, by decide +kernel, by decide +kernel⟩
abbrev sNotes_init : Stmt := inClass (topS 48) 0
abbrev NNotes_init : List Str := ["self", "book", "program", "prices", "_"]
theorem scNotes_init : FnScope NNotes_init ["self", "book", "program", "prices"] (defScope sNotes_init) := ⟨rfl, rfl, rfl, by decide +kernel, rfl, by decide +kernel, by decide +kernel⟩
abbrev sNotes_still : Stmt := inClass (topS 48) 3
abbrev NNotes_still : List Str := ["self", "lot", "told", "noted", "index", "spot", "stands"]
theorem scNotes_still : FnScope NNotes_still ["self", "lot", "told"] (defScope sNotes_still) := ⟨rfl, rfl, rfl, by decide +kernel, rfl, by decide +kernel, by decide +kernel⟩
abbrev sCheckPrices : Stmt := topS 50
abbrev NCheckPrices : List Str := ["prices", "count", "price"]
theorem scCheckPrices : FnScope NCheckPrices ["prices", "count"] (defScope sCheckPrices) := ⟨rfl, rfl, rfl, by decide +kernel, rfl, by decide +kernel, by decide +kernel⟩
abbrev sIsPrice : Stmt := topS 51
abbrev NIsPrice : List Str := ["price"]
theorem scIsPrice : FnScope NIsPrice ["price"] (defScope sIsPrice) := ⟨rfl, rfl, rfl, by decide +kernel, rfl, by decide +kernel, by decide +kernel⟩
abbrev sTable_init : Stmt := inClass (topS 53) 0
abbrev NTable_init : List Str := ["self", "stock"]
theorem scTable_init : FnScope NTable_init ["self", "stock"] (defScope sTable_init) := ⟨rfl, rfl, rfl, by decide +kernel, rfl, by decide +kernel, by decide +kernel⟩
abbrev sTable_getitem : Stmt := inClass (topS 53) 1
abbrev NTable_getitem : List Str := ["self", "sign"]
theorem scTable_getitem : FnScope NTable_getitem ["self", "sign"] (defScope sTable_getitem) := ⟨rfl, rfl, rfl, by decide +kernel, rfl, by decide +kernel, by decide +kernel⟩
abbrev sTable_setitem : Stmt := inClass (topS 53) 2
abbrev NTable_setitem : List Str := ["self", "sign", "rule", "places", "whole", "bounds", "forms", "bound", "form"]
theorem scTable_setitem : FnScope NTable_setitem ["self", "sign", "rule"] (defScope sTable_setitem) := ⟨rfl, rfl, rfl, by decide +kernel, rfl, by decide +kernel, by decide +kernel⟩
abbrev sWay : Stmt := topS 54
abbrev NWay : List Str := ["whole", "places", "noted", "steps", "listed", "ascending", "place", "direction", "step"]
theorem scWay : FnScope NWay ["whole", "places", "noted"] (defScope sWay) := ⟨rfl, rfl, rfl, by decide +kernel, rfl, by decide +kernel, by decide +kernel⟩
abbrev sBook_init : Stmt := inClass (topS 67) 0
abbrev NBook_init : List Str := ["self", "table"]
theorem scBook_init : FnScope NBook_init ["self", "table"] (defScope sBook_init) := ⟨rfl, rfl, rfl, by decide +kernel, rfl, by decide +kernel, by decide +kernel⟩
abbrev sBook_getitem : Stmt := inClass (topS 67) 1
abbrev NBook_getitem : List Str := ["self", "sign"]
theorem scBook_getitem : FnScope NBook_getitem ["self", "sign"] (defScope sBook_getitem) := ⟨rfl, rfl, rfl, by decide +kernel, rfl, by decide +kernel, by decide +kernel⟩
abbrev sBook_setitem : Stmt := inClass (topS 67) 2
abbrev NBook_setitem : List Str := ["self", "sign", "ways"]
theorem scBook_setitem : FnScope NBook_setitem ["self", "sign", "ways"] (defScope sBook_setitem) := ⟨rfl, rfl, rfl, by decide +kernel, rfl, by decide +kernel, by decide +kernel⟩
abbrev sCheckedWays : Stmt := topS 68
abbrev NCheckedWays : List Str := ["rule", "ways", "rows", "row"]
theorem scCheckedWays : FnScope NCheckedWays ["rule", "ways"] (defScope sCheckedWays) := ⟨rfl, rfl, rfl, by decide +kernel, rfl, by decide +kernel, by decide +kernel⟩
abbrev sCheckWay : Stmt := topS 70
abbrev NCheckWay : List Str := ["places", "row", "step", "place"]
theorem scCheckWay : FnScope NCheckWay ["places", "row"] (defScope sCheckWay) := ⟨rfl, rfl, rfl, by decide +kernel, rfl, by decide +kernel, by decide +kernel⟩
abbrev sLCell : Stmt := topS 72
abbrev NLCell : List Str := ["_law_script", "_law_k"]
theorem scLCell : FnScope NLCell ["_law_script", "_law_k"] (defScope sLCell) := ⟨rfl, rfl, rfl, by decide +kernel, rfl, by decide +kernel, by decide +kernel⟩
abbrev sLTape : Stmt := topS 73
abbrev NLTape : List Str := ["_law_script", "_law_k", "_law_size", "_law_cell_here", "_law_left", "_law_tape_here", "_law_j", "_law_mixed"]
theorem scLTape : FnScope NLTape ["_law_script", "_law_k", "_law_size"] (defScope sLTape) := ⟨rfl, rfl, rfl, by decide +kernel, rfl, by decide +kernel, by decide +kernel⟩
abbrev sLTake : Stmt := topS 74
abbrev NLTake : List Str := ["_law_tape_here", "_law_many"]
theorem scLTake : FnScope NLTake ["_law_tape_here", "_law_many"] (defScope sLTake) := ⟨rfl, rfl, rfl, by decide +kernel, rfl, by decide +kernel, by decide +kernel⟩
abbrev sLWords : Stmt := topS 75
abbrev NLWords : List Str := ["_law_tape_here", "_law_many", "_law_alphabet", "_law_filler", "_law_longer", "_law_start", "_law_last", "_law_words_here", "_law_k", "_law_own"]
theorem scLWords : FnScope NLWords ["_law_tape_here", "_law_many"] (defScope sLWords) := ⟨rfl, rfl, rfl, by decide +kernel, rfl, by decide +kernel, by decide +kernel⟩
abbrev sLStock : Stmt := topS 76
abbrev NLStock : List Str := ["_law_tape_here", "_law_flat", "_law_menu", "_law_words_here", "_law_bases", "_law_shapes", "_law_k", "_law_under", "_law_above"]
theorem scLStock : FnScope NLStock ["_law_tape_here", "_law_flat", "_law_menu"] (defScope sLStock) := ⟨rfl, rfl, rfl, by decide +kernel, rfl, by decide +kernel, by decide +kernel⟩
abbrev sLForm : Stmt := topS 77
abbrev NLForm : List Str := ["_law_tape_here", "_law_shapes", "_law_letters", "_law_depth", "_law_words_here", "_law_word", "_law_mark"]
theorem scLForm : FnScope NLForm ["_law_tape_here", "_law_shapes", "_law_letters", "_law_depth"] (defScope sLForm) := ⟨rfl, rfl, rfl, by decide +kernel, rfl, by decide +kernel, by decide +kernel⟩
abbrev sLRule : Stmt := topS 78
abbrev NLRule : List Str := ["_law_tape_here", "_law_shapes", "_law_letters", "_law_most", "_law_depth", "_law_row", "_law_k", "_law_bound"]
theorem scLRule : FnScope NLRule ["_law_tape_here", "_law_shapes", "_law_letters", "_law_most", "_law_depth"] (defScope sLRule) := ⟨rfl, rfl, rfl, by decide +kernel, rfl, by decide +kernel, by decide +kernel⟩
abbrev sLWay : Stmt := topS 79
abbrev NLWay : List Str := ["_law_tape_here", "_law_one", "_law_left", "_law_steps", "_law_marked", "_law_k", "_law_place"]
theorem scLWay : FnScope NLWay ["_law_tape_here", "_law_one"] (defScope sLWay) := ⟨rfl, rfl, rfl, by decide +kernel, rfl, by decide +kernel, by decide +kernel⟩
abbrev sLPart : Stmt := topS 80
abbrev NLPart : List Str := ["_law_tape_here", "_law_rules", "_law_names", "_law_depth", "_law_pick", "_law_blocks", "_law_place", "_law_name"]
theorem scLPart : FnScope NLPart ["_law_tape_here", "_law_rules", "_law_names", "_law_depth"] (defScope sLPart) := ⟨rfl, rfl, rfl, by decide +kernel, rfl, by decide +kernel, by decide +kernel⟩
abbrev sLAnnotated : Stmt := topS 81
abbrev NLAnnotated : List Str := ["_law_tape_here", "_law_part_here", "_law_kind", "_law_made", "_law_blocks", "_law_block", "_law_note"]
theorem scLAnnotated : FnScope NLAnnotated ["_law_tape_here", "_law_part_here", "_law_kind"] (defScope sLAnnotated) := ⟨rfl, rfl, rfl, by decide +kernel, rfl, by decide +kernel, by decide +kernel⟩
abbrev sLSpots : Stmt := topS 82
abbrev NLSpots : List Str := ["_law_part_here", "_law_path", "_law_found", "_law_k"]
theorem scLSpots : FnScope NLSpots ["_law_part_here", "_law_path"] (defScope sLSpots) := ⟨rfl, rfl, rfl, by decide +kernel, rfl, by decide +kernel, by decide +kernel⟩
abbrev sLStillIn : Stmt := topS 83
abbrev NLStillIn : List Str := ["_law_part_here", "_law_path", "_law_chosen", "_law_below", "_law_extra", "_law_place", "_law_step", "_law_spot"]
theorem scLStillIn : FnScope NLStillIn ["_law_part_here", "_law_path", "_law_chosen", "_law_below", "_law_extra"] (defScope sLStillIn) := ⟨rfl, rfl, rfl, by decide +kernel, rfl, by decide +kernel, by decide +kernel⟩
abbrev sLFirstSpot : Stmt := topS 84
abbrev NLFirstSpot : List Str := ["_law_rows", "_law_path", "_law_spot"]
theorem scLFirstSpot : FnScope NLFirstSpot ["_law_rows", "_law_path"] (defScope sLFirstSpot) := ⟨rfl, rfl, rfl, by decide +kernel, rfl, by decide +kernel, by decide +kernel⟩
abbrev sLStills : Stmt := topS 85
abbrev NLStills : List Str := ["_law_ways", "_law_part_here", "_law_path", "_law_extra", "_law_spot", "_law_below", "_law_rows", "_law_chosen", "_law_low", "_law_high", "_law_k", "_law_row"]
theorem scLStills : FnScope NLStills ["_law_ways", "_law_part_here", "_law_path", "_law_extra"] (defScope sLStills) := ⟨rfl, rfl, rfl, by decide +kernel, rfl, by decide +kernel, by decide +kernel⟩
abbrev sLStill : Stmt := topS 86
abbrev NLStill : List Str := ["_law_ways", "_law_part_here", "_law_path", "_law_heard", "_law_extra"]
theorem scLStill : FnScope NLStill ["_law_ways", "_law_part_here", "_law_path", "_law_heard", "_law_extra"] (defScope sLStill) := ⟨rfl, rfl, rfl, by decide +kernel, rfl, by decide +kernel, by decide +kernel⟩
abbrev sLTable : Stmt := topS 87
abbrev NLTable : List Str := ["_law_shapes", "_law_under", "_law_rules", "_law_table_here", "_law_row"]
theorem scLTable : FnScope NLTable ["_law_shapes", "_law_under", "_law_rules"] (defScope sLTable) := ⟨rfl, rfl, rfl, by decide +kernel, rfl, by decide +kernel, by decide +kernel⟩
abbrev sLAgrees : Stmt := topS 88
abbrev NLAgrees : List Str := ["_law_notes", "_law_ways", "_law_program", "_law_lots", "_law_every", "_law_lot", "_law_extra", "_law_full", "_law_k"]
theorem scLAgrees : FnScope NLAgrees ["_law_notes", "_law_ways", "_law_program", "_law_lots", "_law_every"] (defScope sLAgrees) := ⟨rfl, rfl, rfl, by decide +kernel, rfl, by decide +kernel, by decide +kernel⟩
abbrev sLaw : Stmt := topS 89
abbrev NLaw : List Str := ["_law_script", "_law_tape_here", "_law_pair", "_law_kind", "_law_signs", "_law_other", "_law_rows", "_law_book", "_law_last", "_law_ways", "_law_row", "_law_many", "_law_bare", "_law_program", "_law_every", "_law_drawn", "_law_lots", "_law_j", "_law_notes", "_law_k"]
theorem scLaw : FnScope NLaw ["_law_script"] (defScope sLaw) := ⟨rfl, rfl, rfl, by decide +kernel, rfl, by decide +kernel, by decide +kernel⟩
abbrev siUnknownSign : Stmt := inClass (topS 8) 0
abbrev NiUnknownSign : List Str := ["self", "sign", "__class__"]
set_option genInjectivity false in
structure Tx (P : Program) (K : PySem.W.Frag) (mg : Str → Option Value) where
  C_Book : Addr
  c_Book : ClsX K mg "Book" C_Book
  C_Notes : Addr
  c_Notes : ClsX K mg "Notes" C_Notes
  C_Stock : Addr
  c_Stock : ClsX K mg "Stock" C_Stock
  C_Table : Addr
  c_Table : ClsX K mg "Table" C_Table
  f_passing : Addr
  fd_passing : FuncData
  d_passing : Dfn K mg "passing" sPassing ["book", "rows", "noted"] f_passing fd_passing
  f_standing_still : Addr
  fd_standing_still : FuncData
  d_standing_still : Dfn K mg "standing_still" sStandingStill ["book", "rows", "noted", "told"] f_standing_still fd_standing_still
  f_is_passed : Addr
  fd_is_passed : FuncData
  d_is_passed : Dfn K mg "_is_passed" sIsPassed ["flags", "told"] f_is_passed fd_is_passed
  f_fitting : Addr
  fd_fitting : FuncData
  d_fitting : Dfn K mg "_fitting" sFitting ["book", "node", "told"] f_fitting fd_fitting
  f_parts : Addr
  fd_parts : FuncData
  d_parts : Dfn K mg "_parts" sParts ["way", "path"] f_parts fd_parts
  f_names_without_note : Addr
  fd_names_without_note : FuncData
  d_names_without_note : Dfn K mg "_names_without_note" sNamesWithoutNote ["way", "path", "noted"] f_names_without_note fd_names_without_note
  f_stuck_parts : Addr
  fd_stuck_parts : FuncData
  d_stuck_parts : Dfn K mg "_stuck_parts" sStuckParts ["way", "path", "flags"] f_stuck_parts fd_stuck_parts
  f_passes : Addr
  fd_passes : FuncData
  d_passes : Dfn K mg "_passes" sPasses ["way", "path", "noted", "flags"] f_passes fd_passes
  f_is_word : Addr
  fd_is_word : FuncData
  d_is_word : Dfn K mg "is_word" sIsWord ["text"] f_is_word fd_is_word
  f_is_letter : Addr
  fd_is_letter : FuncData
  d_is_letter : Dfn K mg "is_letter" sIsLetter ["text"] f_is_letter fd_is_letter
  f_is_form : Addr
  fd_is_form : FuncData
  d_is_form : Dfn K mg "is_form" sIsForm ["row"] f_is_form fd_is_form
  f_Stock_init : Addr
  fd_Stock_init : FuncData
  d_Stock_init : MtdD K C_Stock "__init__" "Stock.__init__" sStock_init ["self", "shapes", "under"] [V.non] f_Stock_init fd_Stock_init
  m_Stock_init : Mk K C_Stock f_Stock_init
  f_Stock_fits : Addr
  fd_Stock_fits : FuncData
  d_Stock_fits : Mtd K C_Stock "fits" "Stock.fits" sStock_fits ["self", "form"] f_Stock_fits fd_Stock_fits
  f_is_kind : Addr
  fd_is_kind : FuncData
  d_is_kind : Dfn K mg "is_kind" sIsKind ["row"] f_is_kind fd_is_kind
  f_check_kind : Addr
  fd_check_kind : FuncData
  d_check_kind : Dfn K mg "check_kind" sCheckKind ["stock", "row"] f_check_kind fd_check_kind
  f_walk : Addr
  fd_walk : FuncData
  d_walk : Dfn K mg "_walk" sWalk ["form"] f_walk fd_walk
  f_is_marks : Addr
  fd_is_marks : FuncData
  d_is_marks : Dfn K mg "_is_marks" sIsMarks ["marks"] f_is_marks fd_is_marks
  f_check_shapes : Addr
  fd_check_shapes : FuncData
  d_check_shapes : Dfn K mg "_check_shapes" sCheckShapes ["shapes"] f_check_shapes fd_check_shapes
  f_check_under : Addr
  fd_check_under : FuncData
  d_check_under : Dfn K mg "_check_under" sCheckUnder ["shapes", "under"] f_check_under fd_check_under
  f_chain : Addr
  fd_chain : FuncData
  d_chain : Dfn K mg "_chain" sChain ["word", "under"] f_chain fd_chain
  f_laid_out : Addr
  fd_laid_out : FuncData
  d_laid_out : Dfn K mg "laid_out" sLaidOut ["program"] f_laid_out fd_laid_out
  f_built : Addr
  fd_built : FuncData
  d_built : Dfn K mg "built" sBuilt ["table", "program"] f_built fd_built
  f_check_ways : Addr
  fd_check_ways : FuncData
  d_check_ways : Dfn K mg "check_ways" sCheckWays ["book", "rows"] f_check_ways fd_check_ways
  f_spots_of : Addr
  fd_spots_of : FuncData
  d_spots_of : Dfn K mg "spots_of" sSpotsOf ["rows"] f_spots_of fd_spots_of
  f_parted : Addr
  fd_parted : FuncData
  d_parted : Dfn K mg "_parted" sParted ["part"] f_parted fd_parted
  f_check_core : Addr
  fd_check_core : FuncData
  d_check_core : Dfn K mg "_check_core" sCheckCore ["core"] f_check_core fd_check_core
  f_check_block : Addr
  fd_check_block : FuncData
  d_check_block : Dfn K mg "_check_block" sCheckBlock ["block"] f_check_block fd_check_block
  f_check_node : Addr
  fd_check_node : FuncData
  d_check_node : Dfn K mg "_check_node" sCheckNode ["table", "node"] f_check_node fd_check_node
  f_Notes_init : Addr
  fd_Notes_init : FuncData
  d_Notes_init : MtdD K C_Notes "__init__" "Notes.__init__" sNotes_init ["self", "book", "program", "prices"] [V.non] f_Notes_init fd_Notes_init
  m_Notes_init : Mk K C_Notes f_Notes_init
  de_Notes_init : ∃ ds, Vals [V.non] ds ∧ Binds K fd_Notes_init ["self", "book", "program", "prices"] ds
  f_Notes_still : Addr
  fd_Notes_still : FuncData
  d_Notes_still : MtdK K C_Notes "still" "Notes.still" sNotes_still ["self", "lot", "told"] 2 ["told"] [("told", V.bl false)] f_Notes_still fd_Notes_still
  f_check_prices : Addr
  fd_check_prices : FuncData
  d_check_prices : Dfn K mg "_check_prices" sCheckPrices ["prices", "count"] f_check_prices fd_check_prices
  f_is_price : Addr
  fd_is_price : FuncData
  d_is_price : Dfn K mg "_is_price" sIsPrice ["price"] f_is_price fd_is_price
  f_Table_init : Addr
  fd_Table_init : FuncData
  d_Table_init : Mtd K C_Table "__init__" "Table.__init__" sTable_init ["self", "stock"] f_Table_init fd_Table_init
  m_Table_init : Mk K C_Table f_Table_init
  f_Table_getitem : Addr
  fd_Table_getitem : FuncData
  d_Table_getitem : Mtd K C_Table "__getitem__" "Table.__getitem__" sTable_getitem ["self", "sign"] f_Table_getitem fd_Table_getitem
  f_Table_setitem : Addr
  fd_Table_setitem : FuncData
  d_Table_setitem : Mtd K C_Table "__setitem__" "Table.__setitem__" sTable_setitem ["self", "sign", "rule"] f_Table_setitem fd_Table_setitem
  f_way : Addr
  fd_way : FuncData
  d_way : DfnK K mg "way" sWay ["whole", "places", "noted"] f_way fd_way
  f_Book_init : Addr
  fd_Book_init : FuncData
  d_Book_init : Mtd K C_Book "__init__" "Book.__init__" sBook_init ["self", "table"] f_Book_init fd_Book_init
  m_Book_init : Mk K C_Book f_Book_init
  f_Book_getitem : Addr
  fd_Book_getitem : FuncData
  d_Book_getitem : Mtd K C_Book "__getitem__" "Book.__getitem__" sBook_getitem ["self", "sign"] f_Book_getitem fd_Book_getitem
  f_Book_setitem : Addr
  fd_Book_setitem : FuncData
  d_Book_setitem : Mtd K C_Book "__setitem__" "Book.__setitem__" sBook_setitem ["self", "sign", "ways"] f_Book_setitem fd_Book_setitem
  f_checked_ways : Addr
  fd_checked_ways : FuncData
  d_checked_ways : Dfn K mg "_checked_ways" sCheckedWays ["rule", "ways"] f_checked_ways fd_checked_ways
  f_check_way : Addr
  fd_check_way : FuncData
  d_check_way : Dfn K mg "_check_way" sCheckWay ["places", "row"] f_check_way fd_check_way
  f_l_cell : Addr
  fd_l_cell : FuncData
  d_l_cell : Dfn K mg "_law_cell" sLCell ["_law_script", "_law_k"] f_l_cell fd_l_cell
  f_l_tape : Addr
  fd_l_tape : FuncData
  d_l_tape : Dfn K mg "_law_tape" sLTape ["_law_script", "_law_k", "_law_size"] f_l_tape fd_l_tape
  f_l_take : Addr
  fd_l_take : FuncData
  d_l_take : Dfn K mg "_law_take" sLTake ["_law_tape_here", "_law_many"] f_l_take fd_l_take
  f_l_words : Addr
  fd_l_words : FuncData
  d_l_words : Dfn K mg "_law_words" sLWords ["_law_tape_here", "_law_many"] f_l_words fd_l_words
  f_l_stock : Addr
  fd_l_stock : FuncData
  d_l_stock : Dfn K mg "_law_stock" sLStock ["_law_tape_here", "_law_flat", "_law_menu"] f_l_stock fd_l_stock
  f_l_form : Addr
  fd_l_form : FuncData
  d_l_form : Dfn K mg "_law_form" sLForm ["_law_tape_here", "_law_shapes", "_law_letters", "_law_depth"] f_l_form fd_l_form
  f_l_rule : Addr
  fd_l_rule : FuncData
  d_l_rule : Dfn K mg "_law_rule" sLRule ["_law_tape_here", "_law_shapes", "_law_letters", "_law_most", "_law_depth"] f_l_rule fd_l_rule
  f_l_way : Addr
  fd_l_way : FuncData
  d_l_way : Dfn K mg "_law_way" sLWay ["_law_tape_here", "_law_one"] f_l_way fd_l_way
  f_l_part : Addr
  fd_l_part : FuncData
  d_l_part : Dfn K mg "_law_part" sLPart ["_law_tape_here", "_law_rules", "_law_names", "_law_depth"] f_l_part fd_l_part
  f_l_annotated : Addr
  fd_l_annotated : FuncData
  d_l_annotated : Dfn K mg "_law_annotated" sLAnnotated ["_law_tape_here", "_law_part_here", "_law_kind"] f_l_annotated fd_l_annotated
  f_l_spots : Addr
  fd_l_spots : FuncData
  d_l_spots : Dfn K mg "_law_spots" sLSpots ["_law_part_here", "_law_path"] f_l_spots fd_l_spots
  f_l_still_in : Addr
  fd_l_still_in : FuncData
  d_l_still_in : Dfn K mg "_law_still_in" sLStillIn ["_law_part_here", "_law_path", "_law_chosen", "_law_below", "_law_extra"] f_l_still_in fd_l_still_in
  f_l_first_spot : Addr
  fd_l_first_spot : FuncData
  d_l_first_spot : Dfn K mg "_law_first_spot" sLFirstSpot ["_law_rows", "_law_path"] f_l_first_spot fd_l_first_spot
  f_l_stills : Addr
  fd_l_stills : FuncData
  d_l_stills : Dfn K mg "_law_stills" sLStills ["_law_ways", "_law_part_here", "_law_path", "_law_extra"] f_l_stills fd_l_stills
  f_l_still : Addr
  fd_l_still : FuncData
  d_l_still : Dfn K mg "_law_still" sLStill ["_law_ways", "_law_part_here", "_law_path", "_law_heard", "_law_extra"] f_l_still fd_l_still
  f_l_table : Addr
  fd_l_table : FuncData
  d_l_table : Dfn K mg "_law_table" sLTable ["_law_shapes", "_law_under", "_law_rules"] f_l_table fd_l_table
  f_l_agrees : Addr
  fd_l_agrees : FuncData
  d_l_agrees : Dfn K mg "_law_agrees" sLAgrees ["_law_notes", "_law_ways", "_law_program", "_law_lots", "_law_every"] f_l_agrees fd_l_agrees
  f_law : Addr
  fd_law : FuncData
  d_law : Dfn K mg "law" sLaw ["_law_script"] f_law fd_law
  n_Book_table : NoAttr K C_Book "table"
  n_Book_ways : NoAttr K C_Book "ways"
  n_Notes_book : NoAttr K C_Notes "book"
  n_Notes_prices : NoAttr K C_Notes "prices"
  n_Notes_rows : NoAttr K C_Notes "rows"
  n_Notes_spots : NoAttr K C_Notes "spots"
  n_Stock_chains : NoAttr K C_Stock "chains"
  n_Stock_shapes : NoAttr K C_Stock "shapes"
  n_Stock_under : NoAttr K C_Stock "under"
  n_Table_rules : NoAttr K C_Table "rules"
  n_Table_stock : NoAttr K C_Table "stock"
  n_all : mg "all" = none
  n_any : mg "any" = none
  n_bool : mg "bool" = none
  n_dict : mg "dict" = none
  n_enumerate : mg "enumerate" = none
  n_int : mg "int" = none
  n_isinstance : mg "isinstance" = none
  n_len : mg "len" = none
  n_list : mg "list" = none
  n_range : mg "range" = none
  n_reversed : mg "reversed" = none
  n_str : mg "str" = none
  n_tuple : mg "tuple" = none
  n_zip : mg "zip" = none
  t_SMALL : Tok
  c_SMALL : mg "SMALL" = some (.str (Str.ofString "abcdefghijklmnopqrstuvwxyz") t_SMALL)
  t_CAPITAL : Tok
  c_CAPITAL : mg "CAPITAL" = some (.str (Str.ofString "ABCDEFGHIJKLMNOPQRSTUVWXYZ") t_CAPITAL)
  C_BadPrices : Addr
  x_BadPrices : ErrC K mg "BadPrices" C_BadPrices
  C_BadRule : Addr
  x_BadRule : ErrC K mg "BadRule" C_BadRule
  C_BadWay : Addr
  x_BadWay : ErrC K mg "BadWay" C_BadWay
  C_NotesError : Addr
  x_NotesError : ErrN K mg "NotesError" C_NotesError
  C_UnknownSign : Addr
  i_UnknownSign : Addr
  fi_UnknownSign : FuncData
  k_UnknownSign : Addr
  cc_UnknownSign : Addr
  x_UnknownSign : ErrI P K mg "UnknownSign" "sign" siUnknownSign C_UnknownSign i_UnknownSign k_UnknownSign cc_UnknownSign fi_UnknownSign
  e_BadPrices_NotesError : PySem.W.exmOne K (.ref C_BadPrices) (.ref C_NotesError) = some true
  k_BadPrices_BadPrices : PySem.W.kitOne K (.ref C_BadPrices) (.ref C_BadPrices) = some true
section
variable {P : Program} {w : World} {K : PySem.W.Frag} {mg : Str → Option Value} {base : Heap}
theorem lst_r {S : Sx} {p : Addr} {ds : List Da} (h : S.M p = some (.lst ds)) : S.lst (.r p) = some ds := by
  show (match S.M p with | some (.lst ds) => some ds | _ => none) = _
  rw [h]
theorem putL_r {S : Sx} {p : Addr} {ds es : List Da} (h : S.M p = some (.lst ds)) : S.putL (.r p) es = some ⟨S.ρ, updM S.M p (.lst es)⟩ := by
  show (match S.M p with | some (.lst _) => some _ | _ => none) = _
  rw [h]
theorem updM_id {M : Mx} {p : Addr} {m : MO} (h : M p = some m) : updM M p m = M := by
  funext b
  by_cases e : b = p
  · rw [e, updM_same, h]
  · rw [updM_ne e]
theorem updM_upd {M : Mx} {p : Addr} {m m' : MO} : updM (updM M p m) p m' = updM M p m' := by
  funext b
  by_cases e : b = p
  · rw [e, updM_same, updM_same]
  · rw [updM_ne e, updM_ne e, updM_ne e]
theorem fmod_small (c : Int) : -(2 ^ 64) < c.fmod 9973 ∧ c.fmod 9973 < 2 ^ 64 := by
  have h : c.fmod 9973 = c % 9973 := Int.fmod_eq_emod_of_nonneg c (by decide)
  rw [h]
  have h1 := Int.emod_nonneg c (show (9973 : Int) ≠ 0 by decide)
  have h2 := Int.emod_lt_of_pos c (show (0 : Int) < 9973 by decide)
  constructor <;> omega
theorem seq0 {n : Nat} (h : 0 < n) (h2 : n < 2 ^ 62) : seqIndex? 0 n = some 0 := seqIndex_of (by decide) (by omega)
def dc_l_cell : DC := fun ds M Q _ => ∃ (s : Da) (ns : List Int) (k : Nat), ds = [s, .i k] ∧ Scr s ns ∧ ns.length ≤ 63 ∧ ∀ v : Int, Q (.i v) M
/-- a tape stands at p -/
def Tp (M : Mx) (p : Addr) : Prop := ∃ ts : List Int, M p = some (.lst (ts.map .i)) ∧ ts.length ≤ 1000
/-- the tape at p may have changed, all else is as it was -/
structure Tto (p : Addr) (M M' : Mx) : Prop where
  tp : Tp M' p
  out : ∀ b, b ≠ p → M' b = M b
theorem Tto.trans {p : Addr} {M M1 M2 : Mx} (a : Tto p M M1) (b : Tto p M1 M2) : Tto p M M2 := ⟨b.tp, fun x h => (b.out x h).trans (a.out x h)⟩
theorem Tto.refl {p : Addr} {M : Mx} (h : Tp M p) : Tto p M M := ⟨h, fun _ _ => rfl⟩
theorem Tto.upd {p : Addr} {M : Mx} {ts : List Int} (h : ts.length ≤ 1000) : Tto p M (updM M p (.lst (ts.map .i))) := ⟨⟨ts, updM_same, h⟩, fun _ h => updM_ne h⟩
def dc_l_tape : DC := fun ds M Q _ => ∃ (s : Da) (ns : List Int) (k m : Nat), ds = [s, .i k, .i m] ∧ Scr s ns ∧ ns.length ≤ 63 ∧ m ≤ 1000 ∧ ∀ (p : Addr) (M' : Mx), M p = none → Tto p M M' → Q (.r p) M'
def dc_l_take : DC := fun ds M Q _ => ∃ (p : Addr) (m : Nat), ds = [.r p, .i m] ∧ Tp M p ∧ 1 ≤ m ∧ ∀ (r : Nat) (M' : Mx), r < m → Tto p M M' → Q (.i r) M'
theorem atI_some {α : Type} {xs : List α} {k : Nat} (h : k < xs.length) : atI xs ((k : Nat) : Int) = some xs[k] := atI_nat (by simp [h])
theorem ok_l_cell (T : Tx P K mg)  : FnOk P w K mg base (L2.CX P w) 1 T.f_l_cell T.fd_l_cell ["_law_script", "_law_k"] (spOf K dc_l_cell) := by
  have sc := scLCell
  refine okD T.d_l_cell.F sc (fun ds M Q X h => ?_) (fun cdv A outer s H E c ds M Qd Xd hn hr h hX => ?_)
  · obtain ⟨s, ns, k, rfl, _⟩ := h
    rfl
  have tk := takes_of (X := cxOf (L2.CX P w) P w K mg base NLCell "_law_cell" (defScope sLCell) T.f_l_cell cdv A outer s H E) rfl rfl rfl rfl
  refine ⟨_, (ss_cons (s_if (vt_cmp op_lt lC (nomark _) (vv 1) (v_cb1 call_lenA lLen (by rfl) T.n_len (by decide +kernel) (vv 0)))
  (ss_one (s_ret (v_ix (vv 0) (vv 1) (fun _ _ => rfl))))
  ss_nil)
  (ss_one (s_ret vi))), ?_⟩
  obtain ⟨s, ns, k, rfl, hs, hl, q⟩ := h
  have small : ns.length ≤ sizeLine := by rw [sizeLine_eq]; omega
  rcases hs with rfl | rfl
  · refine ite2 (fun z => ?_) (fun _ => ⟨rfl, q 0⟩)
    have hk : k < (ns.map Da.i).length := by
      have : (k : Int) < ((ns.map Da.i).length : Int) := of_decide_eq_true z
      omega
    refine ⟨_, _, rfl, atI_some hk, ?_, ?_⟩
    · rw [List.getElem_map]; rfl
    · rw [List.getElem_map]; exact q _
  · refine ite2 (fun z => ?_) (fun _ => ⟨rfl, q 0⟩)
    have hk : k < ns.length := by
      have : (k : Int) < (ns.length : Int) := of_decide_eq_true z
      omega
    exact ⟨_, atI_some hk, rfl, q _⟩
theorem ok_l_tape (T : Tx P K mg) (G_l_cell : FnOk P w K mg base (L2.CX P w) 1 T.f_l_cell T.fd_l_cell ["_law_script", "_law_k"] (spOf K dc_l_cell)) : FnOk P w K mg base (L2.CX P w) 2 T.f_l_tape T.fd_l_tape ["_law_script", "_law_k", "_law_size"] (spOf K dc_l_tape) := by
  have sc := scLTape
  refine okD T.d_l_tape.F sc (fun ds M Q X h => ?_) (fun cdv A outer s H E c ds M Qd Xd hn hr h hX => ?_)
  · obtain ⟨s, ns, k, m, rfl, _⟩ := h
    rfl
  have tk := takes_of (X := cxOf (L2.CX P w) P w K mg base NLTape "_law_tape" (defScope sLTape) T.f_l_tape cdv A outer s H E) rfl rfl rfl rfl
  refine ⟨_, (ss_cons (s_set (i := 3) sc.nd rfl (by first | exact .inl rfl | exact .inr rfl) (by rw [hn]; decide) (v_call G_l_cell (hr.mono (by decide)) (by rfl) T.d_l_cell.g T.d_l_cell.F.kp T.d_l_cell.b tk hX (v_cons (vv 0) (v_cons (vv 1) v_nil))))
  (ss_cons (s_set (i := 4) sc.nd rfl (by first | exact .inl rfl | exact .inr rfl) (by rw [hn]; decide) (vv 3))
  (ss_cons (s_own (i := 5) sc.nd rfl (by first | exact .inl rfl | exact .inr rfl) (by rw [hn]; decide) (v_lst v_nil))
  (ss_cons (s_for (passes_of rfl) rfl (i_rng1 (by rfl) T.n_range (vv 2)) (pg_name (i := 6) sc.nd rfl (by first | exact .inl rfl | exact .inr rfl)) (lgN (i := 6) (by rw [hn]; decide))
  (ss_one (s_if (PW.pt (v_and (vt_cmp op_ge lC (nomark _) (vv 3) (v_op op_pow lI vi vi)) (pw_and1 (vt_cmp op_gt lC (nomark _) (vv 4) vi))))
  (ss_cons (s_expr (v_met PySem.F.plainAttrs_list PySem.F.slot_list_append PySem.F.type_list_append mt_append tyL_ok lAppend (vv 5) (v_op op_modN lI (v_ct1 call_int1 lInt (by rfl) T.n_int (by decide +kernel) (vv 4)) vi)))
  (ss_one (s_set (i := 4) sc.nd rfl (by first | exact .inl rfl | exact .inr rfl) (by rw [hn]; decide) (v_op op_fdivN lI (vv 4) vi))))
  (ss_cons (s_set (i := 7) sc.nd rfl (by first | exact .inl rfl | exact .inr rfl) (by rw [hn]; decide) (v_op op_modN lI (v_ct1 call_int1 lInt (by rfl) T.n_int (by decide +kernel) (v_op op_addA lAdd (v_op op_mul lI (v_op op_modN lI (v_ct1 call_int1 lInt (by rfl) T.n_int (by decide +kernel) (vv 3)) vi) (v_op op_addA lAdd vi (v_op op_mul lI vi (vv 6)))) (v_op op_mul lI vi (vv 6)))) vi))
  (ss_one (s_expr (v_met PySem.F.plainAttrs_list PySem.F.slot_list_append PySem.F.type_list_append mt_append tyL_ok lAppend (vv 5) (v_op op_addA lAdd (vv 7) (v_op op_fdivN lI (vv 7) vi)))))))))
  (ss_one (s_ret (vSh (vv 5)))))))), ?_⟩
  obtain ⟨s, ns, k, m, rfl, hs, hl, hm, q⟩ := h
  refine ⟨?_, ?_, s, ns, k, rfl, hs, hl, fun v => ⟨rfl, rfl, by show 0 ≤ sizeLine; decide, fun p np => ⟨by omega, by omega, ?_⟩⟩⟩
  · rcases hs with rfl | rfl <;> rfl
  · rfl
  · refine forGo_of (fun rest S => ∃ (ts : List Int) (x4 : Int) (y6 y7 : Slx), S = ⟨[.val s, .val (.i k), .val (.i m), .val (.i v), .val (.i x4), .own p (ts.map .i), y6, y7], M⟩ ∧ ts.length + rest.length = m ∧ ∀ x ∈ rest, ∃ j : Int, x = .i j)
      (fun d ds S h R hR => ?_) (fun S h => ?_) _ _ ⟨[], v, .no, .no, rfl, by simp [rngD], fun x hx => ?_⟩
    · obtain ⟨ts, x4, y6, y7, rfl, hl, hj⟩ := h
      obtain ⟨j, rfl⟩ := hj d (by simp)
      have small : ts.length < sizeLine := by rw [sizeLine_eq]; rw [List.length_cons] at hl; omega
      have go : ∀ (x x4 : Int) (y6 y7 : Slx), R ⟨[.val s, .val (.i k), .val (.i m), .val (.i v), .val (.i x4), .own p (ts.map .i ++ [.i x]), y6, y7], M⟩ := fun x x4 y6 y7 => hR _ ⟨ts ++ [x], x4, y6, y7, by rw [List.map_append]; rfl, by rw [List.length_append]; rw [List.length_cons] at hl; simp; omega, fun z hz => hj z (by simp [hz])⟩
      refine ⟨⟨by decide, by decide, by decide⟩, ite2 (fun _ => ite2 (fun _ => ?t) (fun _ => ?e1)) (fun _ => ?e2)⟩
      case t => exact ⟨⟨_, rfl⟩, by show (5040 : Int) ≠ 0; decide, _, _, rfl, rfl, by rw [List.length_map]; exact small, rfl, ⟨by decide, by decide⟩, rfl, go _ _ _ _⟩
      all_goals exact ⟨by show (9973 : Int) ≠ 0; decide, .inl ⟨by decide, by decide⟩, .inl (fmod_small v), .inl ⟨by decide, by decide⟩, by show (1009 : Int) ≠ 0; decide, rfl, ⟨_, rfl⟩, ⟨by decide, by decide⟩, _, _, rfl, rfl, by rw [List.length_map]; exact small, rfl, go _ _ _ _⟩
    · obtain ⟨ts, x4, y6, y7, rfl, hl, hj⟩ := h
      exact ⟨rfl, q p _ np (.upd (by simp at hl; omega))⟩
    · unfold rngD at hx
      obtain ⟨j, _, rfl⟩ := List.mem_map.mp hx
      exact ⟨_, rfl⟩
theorem ok_l_take (T : Tx P K mg)  : FnOk P w K mg base (L2.CX P w) 1 T.f_l_take T.fd_l_take ["_law_tape_here", "_law_many"] (spOf K dc_l_take) := by
  have sc := scLTake
  refine okD T.d_l_take.F sc (fun ds M Q X h => ?_) (fun cdv A outer s H E c ds M Qd Xd hn hr h hX => ?_)
  · obtain ⟨p, m, rfl, _⟩ := h
    rfl
  have tk := takes_of (X := cxOf (L2.CX P w) P w K mg base NLTake "_law_take" (defScope sLTake) T.f_l_take cdv A outer s H E) rfl rfl rfl rfl
  refine ⟨_, (ss_cons (s_if (vt_cmp (op_eqA hr.units) lEq (nomark _) (v_cb1 call_lenA lLen (by rfl) T.n_len (by decide +kernel) (vv 0)) vi)
  (ss_one (s_ret vi))
  ss_nil)
  (ss_one (s_ret (v_op op_modN lI (v_ct1 call_int1 lInt (by rfl) T.n_int (by decide +kernel) (v_met PySem.F.plainAttrs_list PySem.F.slot_list_pop PySem.F.type_list_pop mt_popAt tyL_ok lPopAt (vv 0) vi)) (vv 1))))), ?_⟩
  obtain ⟨p, m, rfl, ⟨ts, hp, hz⟩, hm, q⟩ := h
  refine ⟨ts.map .i, lst_r hp, .inl ⟨rfl, rfl, rfl, ite2 (fun z => ?_) (fun z => ?_)⟩⟩
  · exact ⟨rfl, q 0 M (by omega) (.refl ⟨ts, hp, hz⟩)⟩
  · cases ts with
    | nil => exact absurd rfl z
    | cons x r =>
      refine ⟨⟨_, lst_r hp⟩, by decide, by decide, _, 0, .i x, _, lst_r hp, seq0 (by simp) (by simp at hz ⊢; omega), rfl, putL_r hp, ?_, rfl, ?_⟩
      · show (m : Int) ≠ 0
        omega
      · have e1 : x.fmod (m : Int) = x % (m : Int) := Int.fmod_eq_emod_of_nonneg x (by omega)
        have h1 := Int.emod_nonneg x (show (m : Int) ≠ 0 by omega)
        have h2 := Int.emod_lt_of_pos x (show (0 : Int) < (m : Int) by omega)
        have z := q (x % (m : Int)).toNat _ (by omega) (.upd (ts := r) (by simp at hz; omega))
        rw [Int.toNat_of_nonneg h1] at z
        show Qd (.i (x.fmod (m : Int))) _
        rw [e1]
        exact z
theorem ok_UnknownSign_init (T : Tx P K mg) : FnOk P w K mg base (L2.CX P w) 1 T.i_UnknownSign T.fi_UnknownSign ["self", "sign"] (spErr T.C_UnknownSign "sign") := by
  have S : NScope NiUnknownSign ["self", "sign"] ["__class__"] (defScope siUnknownSign) := nscope_by (by decide +kernel)
  refine fn_super T.x_UnknownSign.s S rfl rfl rfl (by decide +kernel) (by decide +kernel) (by decide +kernel) (fun L => by rfl) (fun L => by rfl) (fun L => by rfl) (fun L => by rfl) (fun vs H Q E h => ?_) (fun A outer s H vs Q E hr h => ?_)
  · obtain ⟨a, z, rfl, _⟩ := h
    rfl
  obtain ⟨a, z, rfl, hz, ha, q⟩ := h
  refine ⟨a, [.str z], rfl, ha, _, _, pa_cons (pe_joined (.cons pe_str (.cons (pe_fmt (pv 1)) .nil))) pa_nil, pss_one (ps_ost (pv 0) (pv 1)), ?_⟩
  have zl : z.length ≤ sizeLine := Nat.le_trans hz (by decide)
  have l1 : (Str.empty ++ Str.ofString "the table has no sign ").length ≤ 200 := by decide +kernel
  have l2 : ((Str.empty ++ Str.ofString "the table has no sign ") ++ z).length ≤ 1200 := app_len l1 hz
  refine ⟨_, rfl, Nat.le_trans l1 (by decide), ?_⟩
  refine ⟨.str z, rfl, .inl ⟨z, rfl, zl, z, rfl, Nat.le_trans l2 (by decide), ?_⟩⟩
  exact ⟨ha, by show 1 ≤ 1000; decide, ⟨_, rfl, ⟨_, rfl, a, T.C_UnknownSign, rfl, T.x_UnknownSign.oex, T.x_UnknownSign.n, .inl ⟨ha, fun dx nd ne => q dx nd ne⟩⟩⟩⟩
end
end VL
set_option Elab.async false
set_option linter.all false
set_option maxRecDepth 100000
set_option maxHeartbeats 1000000
namespace VL
open PySem PySem.Spec PyProof.Rows L2
section
variable {P : Program} {w : World} {K : PySem.W.Frag} {mg : Str → Option Value} {base : Heap}
theorem wl_wd8 {b : Bool} {st k : Nat} {fl lg : List Nat} (hf : fl.length ≤ 3) (hg : lg.length ≤ 1) (hk : k ≤ 7) (cf : ∀ c ∈ fl, 97 ≤ c ∧ c ≤ 122) (cg : ∀ c ∈ lg, 97 ≤ c ∧ c ≤ 122) {z : Str} (e : z.cps.toList = wl b st fl lg k) : Wd z := by
  have hl : (wl b st fl lg k).length = 1 + fl.length + k * lg.length := by
    unfold wl
    cases b <;> simp <;> omega
  have : k * lg.length ≤ 7 * 1 := Nat.mul_le_mul hk hg
  refine ⟨by rw [e, hl]; omega, by rw [e, hl]; omega, fun c hc => ?_⟩
  rw [e] at hc
  have cr : c ∈ (List.replicate k lg).flatten → 97 ≤ c ∧ c ≤ 122 := fun h => by
    obtain ⟨l, h1, h2⟩ := List.mem_flatten.mp h
    rw [List.eq_of_mem_replicate h1] at h2
    exact cg c h2
  have co : c = 97 + (st + k) % 26 → 97 ≤ c ∧ c ≤ 122 := fun h => by omega
  unfold wl at hc
  cases b with
  | true =>
    simp only [if_true, List.append_assoc, List.mem_append, List.mem_singleton] at hc
    rcases hc with h | h | h
    · exact co h
    · exact cf c h
    · exact cr h
  | false =>
    simp only [Bool.false_eq_true, if_false, List.append_assoc, List.mem_append, List.mem_singleton] at hc
    rcases hc with h | h | h
    · exact cf c h
    · exact cr h
    · exact co h
theorem Wds.wd8 {b : Bool} {st : Nat} {fl lg : List Nat} {ws : List Str} (h : Wds b st fl lg ws) (hl : ws.length ≤ 8) (hf : fl.length ≤ 3) (hg : lg.length ≤ 1) (cf : ∀ c ∈ fl, 97 ≤ c ∧ c ≤ 122) (cg : ∀ c ∈ lg, 97 ≤ c ∧ c ≤ 122) : ∀ z ∈ ws, Wd z := fun z hz => by
  obtain ⟨j, hj, rfl⟩ := List.getElem_of_mem hz
  exact wl_wd8 hf hg (by omega) cf cg (h.at_ j hj)
def dc_l_words : DC := fun ds M Q _ => ∃ (p : Addr) (m : Nat), ds = [.r p, .i m] ∧ Tp M p ∧ m ≤ 8 ∧ ∀ (ws : List Str) (M' : Mx), Tto p M M' → ws.length = m → ws.Nodup → (∀ z ∈ ws, Wd z) → (m ≤ 7 → ∀ z ∈ ws, z.cps.toList.length ≤ 10) → Q (.l (ws.map .s)) M'
theorem ok_l_words (T : Tx P K mg) (G_l_take : FnOk P w K mg base (L2.CX P w) 1 T.f_l_take T.fd_l_take ["_law_tape_here", "_law_many"] (spOf K dc_l_take)) : FnOk P w K mg base (L2.CX P w) 2 T.f_l_words T.fd_l_words ["_law_tape_here", "_law_many"] (spOf K dc_l_words) := by
  have sc := scLWords
  refine okD T.d_l_words.F sc (fun ds M Q X h => ?_) (fun cdv A outer s H E c ds M Qd Xd hn hr h hX => ?_)
  · obtain ⟨p, m, rfl, _⟩ := h
    rfl
  have tk := takes_of (X := cxOf (L2.CX P w) P w K mg base NLWords "_law_words" (defScope sLWords) T.f_l_words cdv A outer s H E) rfl rfl rfl rfl
  refine ⟨_, (ss_cons (s_set (i := 2) sc.nd rfl (by first | exact .inl rfl | exact .inr rfl) (by rw [hn]; decide) vs)
  (ss_cons (s_set (i := 3) sc.nd rfl (by first | exact .inl rfl | exact .inr rfl) (by rw [hn]; decide) (v_op op_mulA lMul (v_ix (vv 2) (v_call G_l_take (hr.mono (by decide)) (by rfl) T.d_l_take.g T.d_l_take.F.kp T.d_l_take.b tk hX (v_cons (vv 0) (v_cons vi v_nil))) (fun _ _ => rfl)) (v_call G_l_take (hr.mono (by decide)) (by rfl) T.d_l_take.g T.d_l_take.F.kp T.d_l_take.b tk hX (v_cons (vv 0) (v_cons vi v_nil)))))
  (ss_cons (s_set (i := 4) sc.nd rfl (by first | exact .inl rfl | exact .inr rfl) (by rw [hn]; decide) (v_op op_mulA lMul (v_ix (vv 2) (v_call G_l_take (hr.mono (by decide)) (by rfl) T.d_l_take.g T.d_l_take.F.kp T.d_l_take.b tk hX (v_cons (vv 0) (v_cons vi v_nil))) (fun _ _ => rfl)) (v_call G_l_take (hr.mono (by decide)) (by rfl) T.d_l_take.g T.d_l_take.F.kp T.d_l_take.b tk hX (v_cons (vv 0) (v_cons vi v_nil)))))
  (ss_cons (s_set (i := 5) sc.nd rfl (by first | exact .inl rfl | exact .inr rfl) (by rw [hn]; decide) (v_call G_l_take (hr.mono (by decide)) (by rfl) T.d_l_take.g T.d_l_take.F.kp T.d_l_take.b tk hX (v_cons (vv 0) (v_cons vi v_nil))))
  (ss_cons (s_set (i := 6) sc.nd rfl (by first | exact .inl rfl | exact .inr rfl) (by rw [hn]; decide) (v_call G_l_take (hr.mono (by decide)) (by rfl) T.d_l_take.g T.d_l_take.F.kp T.d_l_take.b tk hX (v_cons (vv 0) (v_cons vi v_nil))))
  (ss_cons (s_own (i := 7) sc.nd rfl (by first | exact .inl rfl | exact .inr rfl) (by rw [hn]; decide) (v_lst v_nil))
  (ss_cons (s_for (passes_of rfl) rfl (i_rng1 (by rfl) T.n_range (vv 1)) (pg_name (i := 8) sc.nd rfl (by first | exact .inl rfl | exact .inr rfl)) (lgN (i := 8) (by rw [hn]; decide))
  (ss_cons (s_set (i := 9) sc.nd rfl (by first | exact .inl rfl | exact .inr rfl) (by rw [hn]; decide) (v_ix (vv 2) (v_op op_modN lI (v_op op_addA lAdd (vv 5) (vv 8)) vi) (fun _ _ => rfl)))
  (ss_one (s_if (vt_cmp (op_eqA hr.units) lEq (nomark _) (vv 6) vi)
  (ss_one (s_expr (v_met PySem.F.plainAttrs_list PySem.F.slot_list_append PySem.F.type_list_append mt_append tyL_ok lAppend (vv 7) (v_op op_addA lAdd (v_op op_addA lAdd (vv 9) (vv 3)) (v_op op_mulA lMul (vv 4) (vv 8))))))
  (ss_one (s_expr (v_met PySem.F.plainAttrs_list PySem.F.slot_list_append PySem.F.type_list_append mt_append tyL_ok lAppend (vv 7) (v_op op_addA lAdd (v_op op_addA lAdd (vv 3) (v_op op_mulA lMul (vv 4) (vv 8))) (vv 9)))))))))
  (ss_one (s_ret (vFz (vv 7))))))))))), ?_⟩
  obtain ⟨p, m, rfl, hp, hm, q⟩ := h
  refine ⟨rfl, rfl, rfl, p, 26, rfl, hp, by decide, fun r1 M1 h1 t1 => ⟨by decide, _, abc_at h1, ?_⟩⟩
  refine ⟨rfl, rfl, p, 4, rfl, t1.tp, by decide, fun r2 M2 h2 t2 => ?_⟩
  have mF := mul_of (z := ⟨#[97 + r1]⟩) (n := r2) (Nat.le_refl 1) (by omega)
  generalize hF : Txt.mul ⟨#[97 + r1]⟩ (r2 : Int) = F at mF
  refine ⟨mF.1, ?_⟩
  rw [hF]
  refine ⟨rfl, rfl, rfl, p, 26, rfl, t2.tp, by decide, fun r3 M3 h3 t3 => ⟨by decide, _, abc_at h3, ?_⟩⟩
  refine ⟨rfl, rfl, p, 2, rfl, t3.tp, by decide, fun r4 M4 h4 t4 => ?_⟩
  have mG := mul_of (z := ⟨#[97 + r3]⟩) (n := r4) (Nat.le_refl 1) (by omega)
  generalize hG : Txt.mul ⟨#[97 + r3]⟩ (r4 : Int) = G at mG
  refine ⟨mG.1, ?_⟩
  rw [hG]
  refine ⟨rfl, rfl, rfl, p, 26, rfl, t4.tp, by decide, fun st M5 h5 t5 => ?_⟩
  refine ⟨rfl, rfl, rfl, p, 2, rfl, t5.tp, by decide, fun la M6 h6 t6 => ?_⟩
  have t : Tto p M M6 := ((((t1.trans t2).trans t3).trans t4).trans t5).trans t6
  refine ⟨rfl, by show 0 ≤ sizeLine; decide, fun p7 n7 => ⟨by omega, by omega, ?_⟩⟩
  have eF : F.cps.toList = (List.replicate r2 [97 + r1]).flatten := mF.2
  have eG : G.cps.toList = (List.replicate r4 [97 + r3]).flatten := mG.2
  have lF : F.cps.toList.length = r2 := by rw [eF]; exact rep1.1
  have lG : G.cps.toList.length = r4 := by rw [eG]; exact rep1.1
  have cF : ∀ c ∈ F.cps.toList, 97 ≤ c ∧ c ≤ 122 := fun c hc => by rw [eF] at hc; have := rep1.2 c hc; omega
  have cG : ∀ c ∈ G.cps.toList, 97 ≤ c ∧ c ≤ 122 := fun c hc => by rw [eG] at hc; have := rep1.2 c hc; omega
  refine forGo_rng0 (fun k S => ∃ (ws : List Str) (y8 y9 : Slx), ws.length = k ∧ Wds (decide (la = 0)) st F.cps.toList G.cps.toList ws ∧
      S = ⟨[.val (.r p), .val (.i m), .val (.s abc), .val (.s F), .val (.s G), .val (.i st), .val (.i la), .own p7 (ws.map .s), y8, y9], M6⟩)
    (fun k S hk h R hR => ?_) (fun S h => ?_) _ ⟨[], .no, .no, rfl, ⟨fun j hj => by simp at hj⟩, rfl⟩
  · obtain ⟨ws, y8, y9, hl, hw, rfl⟩ := h
    have mK := mul_of (z := G) (n := k) (by rw [← Array.length_toList, lG]; omega) (by omega)
    have lK : (Txt.mul G (k : Int)).cps.toList.length ≤ 7 := by
      rw [mK.2, List.length_flatten, List.map_replicate, List.sum_replicate_nat, lG]
      have : k * r4 ≤ 7 * 1 := Nat.mul_le_mul (by omega) (by omega)
      omega
    have ends : ∀ z : Str, z.cps.toList = wl (decide (la = 0)) st F.cps.toList G.cps.toList k → R ⟨[.val (.r p), .val (.i m), .val (.s abc), .val (.s F), .val (.s G), .val (.i st), .val (.i la), .own p7 (ws.map .s ++ [.s z]), .val (.i k), .val (.s ⟨#[97 + (st + k) % 26]⟩)], M6⟩ := fun z hz =>
      hR _ ⟨ws ++ [z], _, _, by rw [List.length_append, hl]; rfl, hw.snoc (by rw [hl]; exact hz), by rw [List.map_append]; rfl⟩
    have sl : ∀ a b : Str, a.cps.toList.length + b.cps.toList.length ≤ 1000 → Str.length a + Str.length b ≤ sizeLine := fun a b h => by
      rw [str_len, str_len]
      exact sz_le h
    have own1 : (Str.mk #[97 + (st + k) % 26]).cps.toList = [97 + (st + k) % 26] := rfl
    have small : (ws.map Da.s).length < sizeLine := by rw [List.length_map, sizeLine_eq]; omega
    refine ⟨by show (26 : Int) ≠ 0; decide, by decide, _, abc_mod, rfl, .inl ⟨rfl, rfl, rfl, ite2 (fun z => ?_) (fun z => ?_)⟩⟩
    · have z' : la = 0 := by
        have : (la : Int) = 0 := of_decide_eq_true z
        omega
      refine ⟨⟨_, rfl⟩, sl _ _ (by rw [own1, lF, List.length_singleton]; omega), mK.1, sl _ _ (by rw [str_app, List.length_append]; (try rw [own1]); (try rw [lF]); rw [List.length_singleton]; omega), _, _, rfl, rfl, small, rfl, ends _ ?_⟩
      rw [str_app, str_app, mK.2, own1, decide_eq_true z']
      rfl
    · have z' : la ≠ 0 := fun e => z (decide_eq_true (by omega))
      refine ⟨⟨_, rfl⟩, mK.1, sl _ _ (by rw [lF]; omega), sl _ _ (by rw [str_app, List.length_append]; (try rw [own1]); (try rw [lF]); rw [List.length_singleton]; omega), _, _, rfl, rfl, small, rfl, ends _ ?_⟩
      rw [str_app, str_app, mK.2, own1, decide_eq_false z']
      rfl
  · obtain ⟨ws, y8, y9, hl, hw, rfl⟩ := h
    refine ⟨rfl, q ws M6 t hl (hw.nodup (by omega)) (hw.wd8 (by omega) (by omega) (by omega) cF cG) (fun h7 => hw.l10 (by omega) (by omega) (by omega))⟩
end
end VL
set_option Elab.async false
set_option linter.all false
set_option maxRecDepth 100000
set_option maxHeartbeats 1000000
namespace VL
open PySem PySem.Spec PyProof.Rows L2
section
variable {P : Program} {w : World} {K : PySem.W.Frag} {mg : Str → Option Value} {base : Heap}
def dc_l_form : Nat → DC
  | 0 => fun _ _ _ _ => False
  | n + 1 => fun ds M Q _ => ∃ (p q : Addr) (sh : List (Str × Str)) (lt : Str) (d : Nat), ds = [.r p, .r q, .s lt, .i d] ∧ q ≠ p ∧ Tp M p ∧ M q = some (.dk none (shD sh)) ∧ Shp sh ∧ lt.cps.toList.length ≤ 26 ∧ d ≤ n ∧
      ∀ (f : Da) (M' : Mx), Tto p M M' → Fo sh lt (d + 1) f → Q f M'
theorem step_l_form (T : Tx P K mg) (G_l_take : FnOk P w K mg base (L2.CX P w) 1 T.f_l_take T.fd_l_take ["_law_tape_here", "_law_many"] (spOf K dc_l_take)) (n : Nat) (G_l_form : FnOk P w K mg base (L2.CX P w) (1 + n) T.f_l_form T.fd_l_form ["_law_tape_here", "_law_shapes", "_law_letters", "_law_depth"] (spOf K (dc_l_form n))) : FnOk P w K mg base (L2.CX P w) (1 + n + 1) T.f_l_form T.fd_l_form ["_law_tape_here", "_law_shapes", "_law_letters", "_law_depth"] (spOf K (dc_l_form (n + 1))) := by
  have sc := scLForm
  refine okD T.d_l_form.F sc (fun ds M Q X h => ?_) (fun cdv A outer s H E c ds M Qd Xd hn hr h hX => ?_)
  · obtain ⟨p, q, sh, lt, d, rfl, _⟩ := h
    rfl
  have tk := takes_of (X := cxOf (L2.CX P w) P w K mg base NLForm "_law_form" (defScope sLForm) T.f_l_form cdv A outer s H E) rfl rfl rfl rfl
  refine ⟨_, (ss_cons (s_lk (s_valLc (i := 4) rfl sc.nd rfl rfl (by rw [hn]; decide) (sw_true rfl rfl rfl (by decide +kernel)) (i_keys (vv 1)) (blkOk_by (own := [("_law_word", 5)]) (N := NLForm) (sc := defScope sLForm) (by decide +kernel)) (fun c1 e1 => (lgN (i := 5) (by rw [e1, hn]; decide))) (fun _ _ _ _ _ => (pg_name (i := 5) sc.nd rfl (by first | exact .inl rfl | exact .inr rfl))) (fun _ _ _ _ _ _ _ => ts_nil) (fun _ _ _ _ _ c1 e1 => (vv 5)) (by decide)))
  (ss_cons (s_if (PW.pt (v_and (vt_cmp (op_neA hr.units) lNe (nomark _) (vv 2) vs) (pw_and1 (vt_cmp (op_eqA hr.units) lEq (nomark _) (v_call G_l_take (hr.mono (by omega)) (by rfl) T.d_l_take.g T.d_l_take.F.kp T.d_l_take.b tk hX (v_cons (vv 0) (v_cons vi v_nil))) vi))))
  (ss_one (s_ret (v_ix (vv 2) (v_call G_l_take (hr.mono (by omega)) (by rfl) T.d_l_take.g T.d_l_take.F.kp T.d_l_take.b tk hX (v_cons (vv 0) (v_cons (v_cb1 call_lenA lLen (by rfl) T.n_len (by decide +kernel) (vv 2)) v_nil))) (fun _ _ => rfl))))
  ss_nil)
  (ss_cons (s_set (i := 5) sc.nd rfl (by first | exact .inl rfl | exact .inr rfl) (by rw [hn]; decide) (v_ix (vv 4) (v_call G_l_take (hr.mono (by omega)) (by rfl) T.d_l_take.g T.d_l_take.F.kp T.d_l_take.b tk hX (v_cons (vv 0) (v_cons (v_cb1 call_lenA lLen (by rfl) T.n_len (by decide +kernel) (vv 4)) v_nil))) (fun _ _ => rfl)))
  (ss_cons (s_if (vt_cmp (op_eqA hr.units) lEq (nomark _) (vv 3) vi)
  (ss_one (s_set (i := 5) sc.nd rfl (by first | exact .inl rfl | exact .inr rfl) (by rw [hn]; decide) (v_ix (vv 4) (v_call G_l_take (hr.mono (by omega)) (by rfl) T.d_l_take.g T.d_l_take.F.kp T.d_l_take.b tk hX (v_cons (vv 0) (v_cons vi v_nil))) (fun _ _ => rfl))))
  ss_nil)
  (ss_one (s_ret (v_op op_addA lAdd (v_tup (v_cons (vv 5) v_nil)) (v_ct1 call_tupleA lTuple (by rfl) T.n_tuple (by decide +kernel) (vOf (v_lc rfl sc.nd (i_str (v_dget (hu_of hr) (vv 1) (vv 5) (fun _ _ => rfl))) (blkOk_by (own := [("_law_mark", 6)]) (N := NLForm) (sc := defScope sLForm) (by decide +kernel)) (fun c1 e1 => (lgN (i := 6) (by rw [e1, hn]; decide))) (fun _ _ _ _ _ => (pg_name (i := 6) sc.nd rfl (by first | exact .inl rfl | exact .inr rfl))) (fun _ _ _ _ _ _ _ => ts_nil) (fun _ _ _ _ _ c1 e1 => (v_call G_l_form (hr.mono (by omega)) (by rfl) T.d_l_form.g T.d_l_form.F.kp T.d_l_form.b takes0 xno (v_cons (vv 0) (v_cons (vv 1) (v_cons (vv 2) (v_cons (v_op op_sub lI0 (vv 3) vi) v_nil)))))) (by decide))))))))))), ?_⟩
  obtain ⟨p, q, sh, lt, d, rfl, hpq, hp, hq, hs, hlt, hd, qq⟩ := h
  refine ⟨q, shD sh, hq, fun od => ⟨q, od, shD sh, rfl, updM_same, ?_⟩⟩
  refine lc_map id (fun d hd R1 hR1 => hR1 _ (Agr.wipe.set (by decide))) (fun d hd => ?_) ?_ ?_
  · rw [keys_shD] at hd
    obtain ⟨z, _, rfl⟩ := List.mem_map.mp hd
    rfl
  · rw [keys_shD, List.length_map, List.length_map]
    exact sz_le hs.hi
  rw [List.map_id, keys_shD]
  have eM : updM (updM M q (.dk (some od) (shD sh))) q (.dk none (shD sh)) = M := by
    rw [updM_upd]
    exact updM_id hq
  have at_ : ∀ r, (h : r < sh.length) → atI ((sh.map (·.1)).map Da.s) (r : Int) = some (.s sh[r].1) := fun r h => by
    rw [atI_some (by simp [h])]
    simp
  have fin : ∀ (z v : Str) (M5 : Mx), (z, v) ∈ sh → (d = 0 → v = Str.empty) → Tto p M M5 → (wRet (wOp rdAdd (wTup (wCons (wVar 5) wNil)) (wUn rdTuple (wOf (wLc (wStrI (wOp rdDget (wVar 1) (wVar 5))) (wgN 6) wYes (wCall (dc_l_form n) [] Xno (wCons (wVar 0) (wCons (wVar 1) (wCons (wVar 2) (wCons (wOp (rdI0 HSub.hSub) (wVar 3) (wC (Da.i 1))) wNil))))) (List.map (fun x => x.snd) [(Str.ofString "_law_mark", 6)]))))))
      { nx := fun S' => Qd Da.n S'.M, rt := fun d S' => Qd d S'.M } ⟨[.val (.r p), .val (.r q), .val (.s lt), .val (.i d), .val (.l ((sh.map (·.1)).map .s)), .val (.s z), .no], M5⟩ := fun z v M5 hz hv t5 => by
    have q5 : M5 q = some (.dk none (shD sh)) := (t5.out q hpq).trans hq
    have la : v.cps.toList.length ≤ 3 := hs.ar _ hz
    refine ⟨rfl, by show 1 ≤ sizeLine; decide, q, none, shD sh, .inr z, .s v, rfl, q5, rfl, valD_shD hs.nd hz, ?_⟩
    refine lcGo_of (fun rest acc S => ∃ M6, (∀ f ∈ acc, Fo sh lt d f) ∧ acc.length + rest.length = v.cps.toList.length ∧ Tto p M M6 ∧ S = ⟨[.val (.r p), .val (.r q), .val (.s lt), .val (.i d), .val (.l ((sh.map (·.1)).map .s)), .val (.s z), .no], M6⟩)
      (fun k ds acc S h R hR => ?_) (fun acc S h => ?_) _ _ _ ⟨M5, by simp, by simp [chsD], t5, rfl⟩
    · obtain ⟨M6, hf, hl, t6, rfl⟩ := h
      rw [List.length_cons] at hl
      have d0 : d ≠ 0 := fun e => by
        rw [hv e] at hl
        have : Str.empty.cps.toList.length = 0 := rfl
        omega
      obtain ⟨n', rfl⟩ : ∃ n', n = n' + 1 := ⟨n - 1, by omega⟩
      have q6 : M6 q = some (.dk none (shD sh)) := (t6.out q hpq).trans hq
      have e1 : (d : Int) - 1 = ((d - 1 : Nat) : Int) := by omega
      refine ⟨rfl, rfl, rfl, rfl, p, q, sh, lt, d - 1, by rw [← e1]; rfl, hpq, t6.tp, q6, hs, hlt, by omega, fun f M7 t7 hfo => ?_⟩
      have hfo' : Fo sh lt d f := by rw [show d = d - 1 + 1 by omega]; exact hfo
      refine ⟨hfo.nO, by rw [sizeLine_eq]; omega, hR _ _ ⟨M7, fun g hg => ?_, by rw [List.length_append]; simp only [List.length_singleton]; omega, t6.trans t7, rfl⟩⟩
      rcases List.mem_append.mp hg with hg | hg
      · exact hf g hg
      · rw [List.mem_singleton.mp hg]
        exact hfo'
    · obtain ⟨M6, hf, hl, t6, rfl⟩ := h
      rw [List.length_nil, Nat.add_zero] at hl
      refine ⟨by rw [sizeLine_eq]; simp only [List.length_singleton]; omega, rfl, qq _ M6 t6 (.nd hz hl hf)⟩
  have rest : ∀ M3, Tto p M M3 → (wSeq (wSet 5 (wOp rdIx (wVar 4) (wCall dc_l_take [] (fun cls ofs S' => Xd cls ofs S'.M) (wCons (wVar 0) (wCons (wUn rdLen (wVar 4)) wNil)))))
      (wSeq (wIf (wB (wOp rdEq (wVar 3) (wC (Da.i 0)))) (wSet 5 (wOp rdIx (wVar 4) (wCall dc_l_take [] (fun cls ofs S' => Xd cls ofs S'.M) (wCons (wVar 0) (wCons (wC (Da.i 2)) wNil))))) wNx)
      (wRet (wOp rdAdd (wTup (wCons (wVar 5) wNil)) (wUn rdTuple (wOf (wLc (wStrI (wOp rdDget (wVar 1) (wVar 5))) (wgN 6) wYes (wCall (dc_l_form n) [] Xno (wCons (wVar 0) (wCons (wVar 1) (wCons (wVar 2) (wCons (wOp (rdI0 HSub.hSub) (wVar 3) (wC (Da.i 1))) wNil))))) (List.map (fun x => x.snd) [(Str.ofString "_law_mark", 6)]))))))))
      { nx := fun S' => Qd Da.n S'.M, rt := fun d S' => Qd d S'.M } ⟨[.val (.r p), .val (.r q), .val (.s lt), .val (.i d), .val (.l ((sh.map (·.1)).map .s)), .no, .no], M3⟩ := fun M3 t3 => by
    have ln : (((sh.map (·.1)).map Da.s).length : Nat) = sh.length := by simp
    refine ⟨rfl, rfl, p, sh.length, by rw [← ln]; rfl, t3.tp, by have := hs.lo; omega, fun r M4 hr t4 => ⟨_, _, rfl, at_ r hr, rfl, .inl ⟨rfl, rfl, rfl, ite2 (fun z => ?_) (fun z => ?_)⟩⟩⟩
    · have d0 : d = 0 := by
        have : (d : Int) = 0 := of_decide_eq_true z
        omega
      refine ⟨rfl, rfl, p, 2, rfl, t4.tp, by decide, fun r' M5 hr' t5 => ?_⟩
      have h2 : r' < sh.length := by have := hs.lo; omega
      exact ⟨_, _, rfl, at_ r' h2, rfl, fin _ _ M5 (List.getElem_mem h2) (fun _ => hs.z0 r' h2 hr') ((t3.trans t4).trans t5)⟩
    · exact fin _ _ M4 (List.getElem_mem hr) (fun e => absurd (decide_eq_true (by rw [e]; rfl)) z) (t3.trans t4)
  have tail : ∀ M2, M2 = M → (wSeq (wIf (wAnd (wB (wOp rdNe (wVar 2) (wC (Da.s (Str.ofString ""))))) (wB (wOp rdEq (wCall dc_l_take [] (fun cls ofs S' => Xd cls ofs S'.M) (wCons (wVar 0) (wCons (wC (Da.i 2)) wNil))) (wC (Da.i 0)))))
      (wRet (wOp rdIx (wVar 2) (wCall dc_l_take [] (fun cls ofs S' => Xd cls ofs S'.M) (wCons (wVar 0) (wCons (wUn rdLen (wVar 2)) wNil))))) wNx)
      (wSeq (wSet 5 (wOp rdIx (wVar 4) (wCall dc_l_take [] (fun cls ofs S' => Xd cls ofs S'.M) (wCons (wVar 0) (wCons (wUn rdLen (wVar 4)) wNil)))))
      (wSeq (wIf (wB (wOp rdEq (wVar 3) (wC (Da.i 0)))) (wSet 5 (wOp rdIx (wVar 4) (wCall dc_l_take [] (fun cls ofs S' => Xd cls ofs S'.M) (wCons (wVar 0) (wCons (wC (Da.i 2)) wNil))))) wNx)
      (wRet (wOp rdAdd (wTup (wCons (wVar 5) wNil)) (wUn rdTuple (wOf (wLc (wStrI (wOp rdDget (wVar 1) (wVar 5))) (wgN 6) wYes (wCall (dc_l_form n) [] Xno (wCons (wVar 0) (wCons (wVar 1) (wCons (wVar 2) (wCons (wOp (rdI0 HSub.hSub) (wVar 3) (wC (Da.i 1))) wNil))))) (List.map (fun x => x.snd) [(Str.ofString "_law_mark", 6)])))))))))
      { nx := fun S' => Qd Da.n S'.M, rt := fun d S' => Qd d S'.M } ⟨[.val (.r p), .val (.r q), .val (.s lt), .val (.i d), .val (.l ((sh.map (·.1)).map .s)), .no, .no], M2⟩ := by
    rintro _ rfl
    refine .inl ⟨rfl, rfl, rfl, ite2 (fun z => ?_) (fun z => ?_)⟩
    · refine ⟨rfl, rfl, p, 2, rfl, hp, by decide, fun r M3 hr t3 => .inl ⟨rfl, rfl, rfl, ite2 (fun y => ?_) (fun y => rest M3 t3)⟩⟩
      have z' : lt ≠ Str.ofString "" := fun e => by
        have z2 : (!decide (lt = Str.ofString "")) = true := z
        rw [decide_eq_true e] at z2
        cases z2
      have l1 := str_pos z'
      have sl : Str.length lt ≤ sizeLine := by rw [str_len]; exact sz_le (by omega)
      refine ⟨rfl, sl, rfl, p, lt.cps.toList.length, by rw [← str_len]; rfl, t3.tp, l1, fun r' M4 hr' t4 => ⟨sl, _, atI_nat (List.getElem?_eq_getElem hr'), rfl, qq _ M4 (t3.trans t4) (.lt (List.getElem_mem hr'))⟩⟩
    · exact rest _ (.refl hp)
  exact ⟨rfl, updM_same, tail _ eM⟩
theorem ok_l_form (T : Tx P K mg) (G_l_take : FnOk P w K mg base (L2.CX P w) 1 T.f_l_take T.fd_l_take ["_law_tape_here", "_law_many"] (spOf K dc_l_take)) : ∀ n, FnOk P w K mg base (L2.CX P w) (1 + n) T.f_l_form T.fd_l_form ["_law_tape_here", "_law_shapes", "_law_letters", "_law_depth"] (spOf K (dc_l_form n))
  | 0 => fn_no fun _ _ _ _ h => h
  | n + 1 => step_l_form T G_l_take n (ok_l_form T G_l_take n)
end
end VL
set_option Elab.async false
set_option linter.all false
set_option maxRecDepth 100000
set_option maxHeartbeats 1000000
namespace VL
open PySem PySem.Spec PyProof.Rows L2
section
variable {P : Program} {w : World} {K : PySem.W.Frag} {mg : Str → Option Value} {base : Heap}
def dc_l_stock : DC := fun ds M Q _ => ∃ (p : Addr) (fl : Bool) (menu : List Str), ds = [.r p, .b fl, .l (menu.map .s)] ∧ Tp M p ∧ 1 ≤ menu.length ∧ menu.length ≤ 26 ∧ (∀ v ∈ menu, v.cps.toList.length ≤ 3) ∧ (∀ v ∈ menu, ∀ c ∈ v.cps.toList, c = 43 ∨ c = 45) ∧
  ∀ (sh : List (Str × Str)) (p1 p2 : Addr) (un : List (Str × Str)) (M' : Mx), ShpS sh → Und sh un → (fl = true → un = []) → Stk p p1 M sh M' → M p2 = none → p2 ≠ p → p2 ≠ p1 → M' p2 = some (.dk none (shD un)) → Q (.t [.r p1, .r p2]) M'
theorem ok_l_stock (T : Tx P K mg) (G_l_take : FnOk P w K mg base (L2.CX P w) 1 T.f_l_take T.fd_l_take ["_law_tape_here", "_law_many"] (spOf K dc_l_take)) (G_l_words : FnOk P w K mg base (L2.CX P w) 2 T.f_l_words T.fd_l_words ["_law_tape_here", "_law_many"] (spOf K dc_l_words)) : FnOk P w K mg base (L2.CX P w) 3 T.f_l_stock T.fd_l_stock ["_law_tape_here", "_law_flat", "_law_menu"] (spOf K dc_l_stock) := by
  have sc := scLStock
  refine okD T.d_l_stock.F sc (fun ds M Q X h => ?_) (fun cdv A outer s H E c ds M Qd Xd hn hr h hX => ?_)
  · obtain ⟨p, fl, menu, rfl, _⟩ := h
    rfl
  have tk := takes_of (X := cxOf (L2.CX P w) P w K mg base NLStock "_law_stock" (defScope sLStock) T.f_l_stock cdv A outer s H E) rfl rfl rfl rfl
  refine ⟨_, (ss_cons (s_set (i := 3) sc.nd rfl (by first | exact .inl rfl | exact .inr rfl) (by rw [hn]; decide) (v_call G_l_words (hr.mono (by decide)) (by rfl) T.d_l_words.g T.d_l_words.F.kp T.d_l_words.b tk hX (v_cons (vv 0) (v_cons vi v_nil))))
  (ss_cons (s_set (i := 4) sc.nd rfl (by first | exact .inl rfl | exact .inr rfl) (by rw [hn]; decide) (v_op op_addA lAdd vi (v_call G_l_take (hr.mono (by decide)) (by rfl) T.d_l_take.g T.d_l_take.F.kp T.d_l_take.b tk hX (v_cons (vv 0) (v_cons vi v_nil)))))
  (ss_cons (s_set (i := 5) sc.nd rfl (by first | exact .inl rfl | exact .inr rfl) (by rw [hn]; decide) v_dnew)
  (ss_cons (s_for (passes_of rfl) rfl (i_rng1 (by rfl) T.n_range (vv 4)) (pg_name (i := 6) sc.nd rfl (by first | exact .inl rfl | exact .inr rfl)) (lgN (i := 6) (by rw [hn]; decide))
  (ss_one (s_putD (hu_of hr) vs (vv 5) (v_ix (vv 3) (vv 6) (fun _ _ => rfl)))))
  (ss_cons (s_for (passes_of rfl) rfl (i_rng1 (by rfl) T.n_range (v_call G_l_take (hr.mono (by decide)) (by rfl) T.d_l_take.g T.d_l_take.F.kp T.d_l_take.b tk hX (v_cons (vv 0) (v_cons vi v_nil)))) (pg_name (i := 6) sc.nd rfl (by first | exact .inl rfl | exact .inr rfl)) (lgN (i := 6) (by rw [hn]; decide))
  (ss_one (s_putD (hu_of hr) (v_ix (vv 2) (v_call G_l_take (hr.mono (by decide)) (by rfl) T.d_l_take.g T.d_l_take.F.kp T.d_l_take.b tk hX (v_cons (vv 0) (v_cons (v_cb1 call_lenA lLen (by rfl) T.n_len (by decide +kernel) (vv 2)) v_nil))) (fun _ _ => rfl)) (vv 5) (v_ix (vv 3) (v_op op_addA lAdd vi (vv 6)) (fun _ _ => rfl)))))
  (ss_cons (s_set (i := 7) sc.nd rfl (by first | exact .inl rfl | exact .inr rfl) (by rw [hn]; decide) v_dnew)
  (ss_cons (s_for (passes_of rfl) rfl (i_rng2 (by rfl) T.n_range vi (vv 4)) (pg_name (i := 6) sc.nd rfl (by first | exact .inl rfl | exact .inr rfl)) (lgN (i := 6) (by rw [hn]; decide))
  (ss_cons (s_set (i := 8) sc.nd rfl (by first | exact .inl rfl | exact .inr rfl) (by rw [hn]; decide) (v_call G_l_take (hr.mono (by decide)) (by rfl) T.d_l_take.g T.d_l_take.F.kp T.d_l_take.b tk hX (v_cons (vv 0) (v_cons (v_op op_addA lAdd (vv 6) vi) v_nil))))
  (ss_one (s_if (PW.pt (v_and (vt_cmp op_lt lC (nomark _) (vv 8) (vv 6)) (pw_and1 (v_not (vTr (vv 1))))))
  (ss_one (s_putD (hu_of hr) (v_ix (vv 3) (vv 8) (fun _ _ => rfl)) (vv 7) (v_ix (vv 3) (vv 6) (fun _ _ => rfl))))
  ss_nil))))
  (ss_one (s_ret (v_tup (v_cons (vv 5) (v_cons (vv 7) v_nil)))))))))))), ?_⟩
  obtain ⟨p, fl, menu, rfl, hp, hm1, hm2, hm3, hm4, q⟩ := h
  refine ⟨rfl, rfl, p, 7, rfl, hp, by decide, fun ws M1 t1 hl nd wd w10' => ?_⟩
  have w10 := w10' (by decide)
  refine ⟨rfl, rfl, rfl, p, 3, rfl, t1.tp, by decide, fun nb M2 hnb t2 => ?_⟩
  have t12 : Tto p M M2 := t1.trans t2
  refine ⟨rfl, fun q1 n1 => ⟨rfl, by omega, by omega, ?_⟩⟩
  have hq1 : q1 ≠ p := fun e => by
    obtain ⟨ts, e2, _⟩ := t12.tp
    have n1' : M2 q1 = none := n1
    rw [e, e2] at n1'
    cases n1'
  have nq1 : M q1 = none := by
    have := t12.out q1 hq1
    rw [← this]
    exact n1
  rw [show (2 + (nb : Int)).toNat = 2 + nb by omega]
  have small : ∀ sh : List (Str × Str), sh.length ≤ 20 → (shD sh).length < sizeLine := fun sh h => by rw [shD_len, sizeLine_eq]; omega
  have klen : ∀ {sh : List (Str × Str)} {a k : Nat}, sh.map (·.1) = ksOf ws a k → sh.length ≤ a + k := fun {sh a k} e => by
    have := congrArg List.length e
    rw [List.length_map] at this
    rw [this]
    exact ks_len
  refine forGo_rng0 (fun k S => ∃ (sh : List (Str × Str)) (M3 : Mx) (y6 : Slx), sh.map (·.1) = ksOf ws k 0 ∧ (∀ x ∈ sh, x.2 = Str.empty) ∧ Stk p q1 M sh M3 ∧ S = ⟨[.val (.r p), .val (.b fl), .val (.l (menu.map .s)), .val (.l (ws.map .s)), .val (.i (2 + (nb : Int))), .val (.r q1), y6, .no, .no], M3⟩)
    (fun k S hk h R hR => ?_) (fun S h => ?_) _ ⟨[], _, .no, by simp [ksOf], by simp, ⟨?_, updM_same, fun b m hb e => ?_, hq1, nq1⟩, rfl⟩
  · obtain ⟨sh, M3, y6, hk1, hk2, st, rfl⟩ := h
    have hlt : k < ws.length := by omega
    have hn : (ksOf ws k 0 ++ [ws[k]]).Nodup := by rw [← ks_base hlt]; exact ks_nodup nd (by omega)
    refine ⟨_, _, rfl, at_s hlt, rfl, q1, shD sh, .inr ws[k], rfl, st.dk, rfl, small sh (by have := klen hk1; omega), hR _ ⟨sh ++ [(ws[k], Str.ofString "")], _, _, by rw [List.map_append, hk1, ks_base hlt]; rfl, fun x hx => ?_, st.put (by rw [hk1]; exact not_in hn), rfl⟩⟩
    rcases List.mem_append.mp hx with hx | hx
    · exact hk2 x hx
    · rw [List.mem_singleton.mp hx]
      exact empty_eq
  · obtain ⟨sh, M3, y6, hk1, hk2, st, rfl⟩ := h
    have hsl : sh.length = 2 + nb := by
      have := congrArg List.length hk1
      rw [List.length_map] at this
      rw [this]
      unfold ksOf
      simp
      omega
    refine ⟨rfl, rfl, p, 4, rfl, st.tp, by decide, fun nm M4 hnm t4 => ⟨by omega, by omega, ?_⟩⟩
    refine forGo_rng0 (fun k S => ∃ (sh : List (Str × Str)) (M3 : Mx) (y6 : Slx), sh.map (·.1) = ksOf ws (2 + nb) k ∧ (2 ≤ sh.length ∧ ∀ j (h : j < sh.length), j < 2 → sh[j].2 = Str.empty) ∧ ((∀ x ∈ sh, x.2.cps.toList.length ≤ 3) ∧ (∀ x ∈ sh, ∀ c ∈ x.2.cps.toList, c = 43 ∨ c = 45) ∧ 2 + nb ≤ sh.length ∧ ∀ j, j < 2 + nb → ∃ z, ws[j]? = some z ∧ sh[j]? = some (z, Str.empty)) ∧ Stk p q1 M sh M3 ∧ S = ⟨[.val (.r p), .val (.b fl), .val (.l (menu.map .s)), .val (.l (ws.map .s)), .val (.i (2 + (nb : Int))), .val (.r q1), y6, .no, .no], M3⟩)
      (fun k S hk h R hR => ?_) (fun S h => ?_) _ ⟨sh, M4, y6, hk1, ⟨by omega, fun j hj _ => hk2 _ (List.getElem_mem hj)⟩, ⟨fun x hx => by rw [hk2 x hx]; decide, fun x hx c hc => by rw [hk2 x hx, ← empty_eq, empty_str] at hc; simp at hc, by omega, fun j hj => ⟨ws[j]'(by omega), List.getElem?_eq_getElem (by omega), base_get hk1 hk2 hj (by omega)⟩⟩, st.take t4.tp t4.out, rfl⟩
    · obtain ⟨sh, M3, y6, hk1, hz, hk2, st, rfl⟩ := h
      have hlt : 4 + k < ws.length := by omega
      have hn : (ksOf ws (2 + nb) k ++ [ws[4 + k]]).Nodup := by rw [← ks_succ hlt]; exact ks_nodup nd (by omega)
      refine ⟨rfl, rfl, p, menu.length, by rw [← ln_s menu]; rfl, st.tp, hm1, fun r M5 hr t5 => ?_⟩
      have st5 := st.take t5.tp t5.out
      refine ⟨_, _, rfl, at_s hr, _, _, rfl, (by rw [show (4 : Int) + (k : Int) = ((4 + k : Nat) : Int) by omega]; exact at_s hlt), rfl, q1, shD sh, .inr ws[4 + k], rfl, st5.dk, rfl, small sh (by have := klen hk1; omega), hR _ ⟨sh ++ [(ws[4 + k], menu[r])], _, _, by rw [List.map_append, hk1, ks_succ hlt]; rfl, ⟨by rw [List.length_append]; omega, fun j hj h2 => ?_⟩, ?_, st5.put (by rw [hk1]; exact not_in hn), rfl⟩⟩
      · rw [List.getElem_append_left (by omega)]
        exact hz.2 j (by omega) h2
      · refine ⟨fun x hx => ?_, fun x hx => ?_, by rw [List.length_append]; omega, bases_snoc hk2.2.2.2 hk2.2.2.1⟩
        all_goals rcases List.mem_append.mp hx with hx | hx
        · exact hk2.1 x hx
        · rw [List.mem_singleton.mp hx]
          exact hm3 _ (List.getElem_mem hr)
        · exact hk2.2.1 x hx
        · rw [List.mem_singleton.mp hx]
          exact hm4 _ (List.getElem_mem hr)
    · obtain ⟨sh, M3, y6, hk1, hz, hk2, st, rfl⟩ := h
      have shp : Shp sh := by
        refine ⟨hz.1, by have := klen hk1; omega, by rw [hk1]; exact ks_nodup nd (by omega), fun x hx => ?_, hz.2, hk2.1⟩
        have h1 : x.1 ∈ sh.map (·.1) := List.mem_map.mpr ⟨x, hx, rfl⟩
        rw [hk1] at h1
        unfold ksOf at h1
        rcases List.mem_append.mp h1 with h1 | h1
        · exact wd _ (List.mem_of_mem_take h1)
        · exact wd _ (List.mem_of_mem_drop (List.mem_of_mem_take h1))
      refine fun q2 n2 => ⟨rfl, ⟨by omega, by omega, by omega, by omega⟩, ?_⟩
      have n2' : M3 q2 = none := n2
      have h2p : q2 ≠ p := fun e => by
        obtain ⟨ts, e2, _⟩ := st.tp
        rw [e, e2] at n2'
        cases n2'
      have h2q : q2 ≠ q1 := fun e => by
        rw [e, st.dk] at n2'
        cases n2'
      have nM2 : M q2 = none := by
        cases e : M q2 with
        | none => rfl
        | some m =>
          rw [st.out q2 m h2p e] at n2'
          cases n2'
      refine forGo_rng (fun k S => ∃ (M4 : Mx) (un : List (Str × Str)) (y6 y8 : Slx), Stk p q1 M sh M4 ∧ M4 q2 = some (.dk none (shD un)) ∧ (un.length ≤ k ∧ (un.map (·.1)).Nodup ∧ (fl = true → un = []) ∧ ∀ x ∈ un, ∃ i j : Nat, i < j ∧ j < 1 + k ∧ ws[j]? = some x.1 ∧ sh[j]? = some (x.1, Str.empty) ∧ sh[i]? = some (x.2, Str.empty)) ∧ S = ⟨[.val (.r p), .val (.b fl), .val (.l (menu.map .s)), .val (.l (ws.map .s)), .val (.i (2 + (nb : Int))), .val (.r q1), y6, .val (.r q2), y8], M4⟩)
        (fun k S hk h R hR => ?_) (fun S h => ?_) _ ⟨_, [], y6, .no, st.other h2p h2q nM2, updM_same, ⟨Nat.le_refl _, by simp, fun _ => rfl, by simp⟩, rfl⟩
      · obtain ⟨M4, un, y6, y8, st4, hu, hul, rfl⟩ := h
        have hk7 : 1 + k < 7 := by omega
        have same : ∀ M5, Tto p M4 M5 → ∀ y8, R ⟨[.val (.r p), .val (.b fl), .val (.l (menu.map .s)), .val (.l (ws.map .s)), .val (.i (2 + (nb : Int))), .val (.r q1), .val (.i (1 + (k : Int))), .val (.r q2), y8], M5⟩ := fun M5 t5 y8 =>
          hR _ ⟨M5, un, _, _, st4.take t5.tp t5.out, by rw [t5.out q2 h2p]; exact hu, ⟨by omega, hul.2.1, hul.2.2.1, fun x hx => by obtain ⟨i, j, a, b, c⟩ := hul.2.2.2 x hx; exact ⟨i, j, a, by omega, c⟩⟩, rfl⟩
        refine ⟨rfl, rfl, p, k + 2, by rw [show ((k + 2 : Nat) : Int) = 1 + (k : Int) + 1 by omega]; rfl, st4.tp, by omega, fun r M5 hr t5 => ⟨rfl, ite2 (fun z => ?_) (fun _ => same M5 t5 _)⟩⟩
        have hr1 : r < 1 + k := by
          have : (r : Int) < 1 + (k : Int) := of_decide_eq_true z
          omega
        refine ite2 (fun zf => ?_) (fun _ => same M5 t5 _)
        have st5 := st4.take t5.tp t5.out
        have ff : fl = false := by cases fl <;> first | rfl | cases zf
        have hw1 : 1 + k < ws.length := by omega
        have hwr : r < ws.length := by omega
        have nin : ws[1 + k] ∉ un.map (·.1) := fun hx => by
          obtain ⟨x, hx, ex⟩ := List.mem_map.mp hx
          obtain ⟨i, j, _, hj, hwj, _⟩ := hul.2.2.2 x hx
          have hj7 : j < ws.length := by omega
          have := nodup_inj nd hwj (by rw [ex]; exact List.getElem?_eq_getElem hw1)
          omega
        have el : (shD (un ++ [(ws[1 + k], ws[r])])) = putD (shD un) (.inr ws[1 + k]) (.s ws[r]) := (putD_shD nin).symm
        refine ⟨_, _, rfl, at_s (ws := ws) (r := r) (by omega), _, _, rfl, (by rw [show (1 : Int) + (k : Int) = ((1 + k : Nat) : Int) by omega]; exact at_s (ws := ws) (by omega)), rfl, q2, shD un, .inr _, rfl, by show M5 q2 = _; rw [t5.out q2 h2p]; exact hu, rfl, by rw [sizeLine_eq, shD_len]; omega, hR _ ⟨_, un ++ [(ws[1 + k], ws[r])], _, _, st5.other h2p h2q nM2, ?_, ⟨by rw [List.length_append]; simp; omega, ?_, fun z => (by rw [ff] at z; cases z), fun x hx => ?_⟩, rfl⟩⟩
        · rw [el]; exact updM_same
        · rw [List.map_append]
          exact List.nodup_append.mpr ⟨hul.2.1, by simp, fun a ha b hb e => nin (by simp at hb; rw [← hb, ← e]; exact ha)⟩
        · rcases List.mem_append.mp hx with hx | hx
          · obtain ⟨i, j, a, b, c⟩ := hul.2.2.2 x hx
            exact ⟨i, j, a, by omega, c⟩
          · rw [List.mem_singleton.mp hx]
            obtain ⟨z1, e1, e2⟩ := hk2.2.2.2 (1 + k) (by omega)
            obtain ⟨z2, e3, e4⟩ := hk2.2.2.2 r (by omega)
            rw [List.getElem?_eq_getElem hw1] at e1
            rw [List.getElem?_eq_getElem hwr] at e3
            cases e1
            cases e3
            exact ⟨r, 1 + k, hr1, by omega, List.getElem?_eq_getElem hw1, e2, e4⟩
      · obtain ⟨M4, un, y6, y8, st4, hu, hul, rfl⟩ := h
        have kl := klen hk1
        refine ⟨rfl, rfl, by show 2 ≤ sizeLine; decide, rfl, q sh q1 q2 un M4 ⟨shp, ?_, fun x hx => ?_, hk2.2.1⟩ ⟨hul.2.1, by omega, fun x hx => ?_⟩ hul.2.2.1 st4 nM2 h2p h2q hu⟩
        · omega
        · have h1 : x.1 ∈ sh.map (·.1) := List.mem_map.mpr ⟨x, hx, rfl⟩
          rw [hk1] at h1
          unfold ksOf at h1
          rcases List.mem_append.mp h1 with h1 | h1
          · exact w10 _ (List.mem_of_mem_take h1)
          · exact w10 _ (List.mem_of_mem_drop (List.mem_of_mem_take h1))
        · obtain ⟨i, j, a, _, _, b, c⟩ := hul.2.2.2 x hx
          exact ⟨i, j, a, b, c⟩
  · obtain ⟨ts, e, hz⟩ := t12.tp
    exact ⟨ts, by rw [updM_ne (Ne.symm hq1)]; exact e, hz⟩
  · have : b ≠ q1 := fun z => by rw [z, nq1] at e; cases e
    rw [updM_ne this]
    show M2 b = some m
    rw [t12.out b hb]
    exact e
end
end VL
set_option Elab.async false
set_option linter.all false
set_option maxRecDepth 100000
set_option maxHeartbeats 1000000
namespace VL
open PySem PySem.Spec PyProof.Rows L2
section
variable {P : Program} {w : World} {K : PySem.W.Frag} {mg : Str → Option Value} {base : Heap}
def smZ (z : Str) : Bool := !(Builtin.Str.occurrences (Str.ofString "abcdefghijklmnopqrstuvwxyz") z 0 (Str.ofString "abcdefghijklmnopqrstuvwxyz").length 1).isEmpty
def smB (c : Nat) : Bool := smZ ⟨#[c]⟩
def smD : Da → Da
  | .s z => .b (smZ z)
  | d => .b false
theorem smD_chs (z : Str) : (chsD z).map smD = (z.cps.toList.map smB).map Da.b := by
  unfold chsD
  rw [List.map_map, List.map_map]
  rfl
theorem wd_all {z : Str} (h : Wd z) : (z.cps.toList.map smB).all id = true := by
  rw [List.all_eq_true]
  intro b hb
  obtain ⟨c, hc, rfl⟩ := List.mem_map.mp hb
  exact occ_small (h.ch c hc)
def NoWd (z : Str) : Prop := z.cps.toList.length ≤ 1000 ∧ (z.cps.toList.length = 0 ∨ 12 < z.cps.toList.length ∨ ∃ c ∈ z.cps.toList, smB c = false)
def dc_is_word : DC := fun ds M Q _ => ∃ z : Str, ds = [.s z] ∧ ((Wd z ∧ Q (.b true) M) ∨ (NoWd z ∧ Q (.b false) M))
theorem ok_is_word (T : Tx P K mg)  : FnOk P w K mg base (L2.CX P w) 1 T.f_is_word T.fd_is_word ["text"] (spOf K dc_is_word) := by
  have sc := scIsWord
  refine okD T.d_is_word.F sc (fun ds M Q X h => ?_) (fun cdv A outer s H E c ds M Qd Xd hn hr h hX => ?_)
  · obtain ⟨z, rfl, _⟩ := h
    rfl
  have tk := takes_of (X := cxOf (L2.CX P w) P w K mg base NIsWord "is_word" (defScope sIsWord) T.f_is_word cdv A outer s H E) rfl rfl rfl rfl
  refine ⟨_, (ss_one (s_ret (ve_and (v_isi isi_str (by rfl) T.n_isinstance (by rfl) T.n_str (by decide +kernel) (vv 0)) (ve_and (v_chain op_le lC op_le lC vi (v_cb1 call_lenA lLen (by rfl) T.n_len (by decide +kernel) (vv 0)) vi) (pe_one (v_cb1 (cr_all rfl) lAll (by rfl) T.n_all (by decide +kernel) (vOf (v_lc rfl sc.nd (i_str (vv 0)) (blkOk_by (own := [("mark", 1)]) (N := NIsWord) (sc := defScope sIsWord) (by decide +kernel)) (fun c1 e1 => (lgN (i := 1) (by rw [e1, hn]; decide))) (fun _ _ _ _ _ => (pg_name (i := 1) sc.nd rfl (by first | exact .inl rfl | exact .inr rfl))) (fun _ _ _ _ _ _ _ => ts_nil) (fun _ _ _ _ _ c1 e1 => (v_cmp op_inA lIn (by rfl) (vv 1) (vgs rfl T.c_SMALL))) (by decide))))))))), ?_⟩
  obtain ⟨z, rfl, hq⟩ := h
  have e := str_len z
  have hl : z.cps.toList.length ≤ 1000 := by
    rcases hq with ⟨wd, _⟩ | ⟨nw, _⟩
    · have := wd.hi; omega
    · exact nw.1
  have sl : Str.length z ≤ sizeLine := by rw [str_len]; exact sz_le (by omega)
  rcases Decidable.em (1 ≤ z.cps.toList.length ∧ z.cps.toList.length ≤ 12) with hr | hr
  · refine ⟨sl, ite2 (fun _ => ite2 (fun _ => ?_) (fun y => absurd (decide_eq_true (by omega)) y)) (fun y => absurd (decide_eq_true (by omega)) y)⟩
    refine lc_map smD (fun d hd R1 hR1 => ?_) (fun d hd => by cases d <;> rfl) (by unfold chsD; rw [List.length_map]; exact sz_le (by omega)) ?_
    · unfold chsD at hd
      obtain ⟨c, hc, rfl⟩ := List.mem_map.mp hd
      exact hR1 _ (Agr.wipe.set (i := 1) (x := .val (.s ⟨#[c]⟩)) (by decide))
    · refine ⟨_, _, rfl, by rw [smD_chs]; exact bools_map _, ?_⟩
      rcases hq with ⟨wd, q⟩ | ⟨nw, q⟩
      · rw [wd_all wd]
        exact ⟨rfl, q⟩
      · have : (z.cps.toList.map smB).all id = false := by
          rcases nw.2 with h | h | ⟨c, hc, h⟩
          · omega
          · omega
          · rw [List.all_eq_false]
            exact ⟨smB c, List.mem_map.mpr ⟨c, hc, rfl⟩, by rw [h]; decide⟩
        rw [this]
        exact ⟨rfl, q⟩
  · rcases hq with ⟨wd, q⟩ | ⟨nw, q⟩
    · exact absurd ⟨wd.lo, wd.hi⟩ hr
    · refine ⟨sl, ite2 (fun y1 => ite2 (fun y2 => ?_) (fun _ => ⟨rfl, q⟩)) (fun _ => ⟨rfl, q⟩)⟩
      have h1 : (1 : Int) ≤ (Str.length z : Int) := of_decide_eq_true y1
      have h2 : (Str.length z : Int) ≤ 12 := of_decide_eq_true y2
      exact absurd ⟨by omega, by omega⟩ hr
def dc_is_letter : DC := fun ds M Q _ => (∃ c : Nat, ds = [.s ⟨#[c]⟩] ∧ 65 ≤ c ∧ c ≤ 90 ∧ Q (.b true) M) ∨ (∃ es, ds = [.t es] ∧ Q (.b false) M)
theorem ok_is_letter (T : Tx P K mg)  : FnOk P w K mg base (L2.CX P w) 1 T.f_is_letter T.fd_is_letter ["text"] (spOf K dc_is_letter) := by
  have sc := scIsLetter
  refine okD T.d_is_letter.F sc (fun ds M Q X h => ?_) (fun cdv A outer s H E c ds M Qd Xd hn hr h hX => ?_)
  · rcases h with ⟨c, rfl, _⟩ | ⟨es, rfl, _⟩ <;> rfl
  have tk := takes_of (X := cxOf (L2.CX P w) P w K mg base NIsLetter "is_letter" (defScope sIsLetter) T.f_is_letter cdv A outer s H E) rfl rfl rfl rfl
  refine ⟨_, (ss_one (s_ret (ve_and (v_isi isi_str (by rfl) T.n_isinstance (by rfl) T.n_str (by decide +kernel) (vv 0)) (ve_and (v_cmp (op_eqA hr.units) lEq (nomark _) (v_cb1 call_lenA lLen (by rfl) T.n_len (by decide +kernel) (vv 0)) vi) (pe_one (v_cmp op_inA lIn (by rfl) (vv 0) (vgs rfl T.c_CAPITAL))))))), ?_⟩
  rcases h with ⟨c, rfl, h1, h2, q⟩ | ⟨es, rfl, q⟩
  · have sl : Str.length ⟨#[c]⟩ ≤ sizeLine := by rw [str_len]; exact sz_le (show 1 ≤ 1000 by decide)
    have := occ_cap ⟨h1, h2⟩
    refine ⟨sl, .inl ⟨rfl, rfl, rfl, ?_⟩⟩
    rw [← this] at q
    exact ⟨rfl, q⟩
  · exact ⟨rfl, q⟩
def dc_is_form : DC := fun ds M Q _ => ∃ (lb : Bool) (d : Da), ds = [d] ∧ Fk lb d ∧ d.sz ≤ 100000 ∧ Q (.b true) M
theorem ok_is_form (T : Tx P K mg) (G_is_letter : FnOk P w K mg base (L2.CX P w) 1 T.f_is_letter T.fd_is_letter ["text"] (spOf K dc_is_letter)) (G_is_word : FnOk P w K mg base (L2.CX P w) 1 T.f_is_word T.fd_is_word ["text"] (spOf K dc_is_word)) : FnOk P w K mg base (L2.CX P w) 2 T.f_is_form T.fd_is_form ["row"] (spOf K dc_is_form) := by
  have sc := scIsForm
  refine okD T.d_is_form.F sc (fun ds M Q X h => ?_) (fun cdv A outer s H E c ds M Qd Xd hn hr h hX => ?_)
  · obtain ⟨lb, d, rfl, _⟩ := h
    rfl
  have tk := takes_of (X := cxOf (L2.CX P w) P w K mg base NIsForm "is_form" (defScope sIsForm) T.f_is_form cdv A outer s H E) rfl rfl rfl rfl
  refine ⟨_, (ss_cons (s_own (i := 1) sc.nd rfl (by first | exact .inl rfl | exact .inr rfl) (by rw [hn]; decide) (v_lst (v_cons (vv 0) v_nil)))
  (ss_cons (s_while (passes_of rfl) (vTr (vv 1))
  (ss_cons (s_set (i := 2) sc.nd rfl (by first | exact .inl rfl | exact .inr rfl) (by rw [hn]; decide) (v_pop (by rfl) (by rfl) (vv 1)))
  (ss_cons (s_if (vTr (v_call G_is_letter (hr.mono (by decide)) (by rfl) T.d_is_letter.g T.d_is_letter.F.kp T.d_is_letter.b tk hX (v_cons (vv 2) v_nil)))
  (ss_one s_cont)
  ss_nil)
  (ss_cons (s_if (PW.pt (v_or (v_not (vB (v_isi isi_tuple (by rfl) T.n_isinstance (by rfl) T.n_tuple (by decide +kernel) (vv 2)))) (v_or (v_not (vt_chain op_le lC op_le lC vi (v_cb1 call_lenA lLen (by rfl) T.n_len (by decide +kernel) (vv 2)) vi)) (pw_or1 (v_not (vTr (v_call G_is_word (hr.mono (by decide)) (by rfl) T.d_is_word.g T.d_is_word.F.kp T.d_is_word.b tk hX (v_cons (v_ix (vv 2) vi (fun _ _ => rfl)) v_nil))))))))
  (ss_one (s_ret vb))
  ss_nil)
  (ss_one (s_expr (v_met PySem.F.plainAttrs_list PySem.F.slot_list_extend PySem.F.type_list_extend mt_extA tyL_ok lExtend (vv 1) (v_sl (vv 2) (v_part vi) v_no))))))))
  (ss_one (s_ret vb)))), ?_⟩
  obtain ⟨lb, d, rfl, hf, hz, q⟩ := h
  have dO : d.isO = false := by cases hf <;> rfl
  refine ⟨dO, by show 1 ≤ sizeLine; decide, fun p1 n1 => ⟨fun m S => ∃ (todo : List Da) (y2 : Slx), S = ⟨[.val d, .own p1 todo, y2], M⟩ ∧ m = szs todo ∧ (∀ x ∈ todo, Fk lb x) ∧ szs todo ≤ 100000, ⟨_, [d], .no, rfl, rfl, by simpa using hf, by simp only [szs]; omega⟩, ?_⟩⟩
  rintro m S ⟨todo, y2, rfl, rfl, hk, hl⟩
  refine ⟨todo, rfl, ite2 (fun z => ?_) (fun z => ⟨rfl, q⟩)⟩
  rcases List.eq_nil_or_concat todo with e | ⟨ini, x, e⟩
  · subst e
    cases z
  rw [List.concat_eq_append] at e
  subst e
  have hx := hk x (by simp)
  have hi : ∀ y ∈ ini, Fk lb y := fun y hy => hk y (by simp [hy])
  rw [szs_concat] at hl
  refine ⟨ini ++ [x], x, ⟨[.val d, .own p1 ini, y2], M⟩, rfl, by simp, by show some _ = some _; rw [List.dropLast_concat]; rfl, ?_⟩
  cases hx with
  | lt h0 h1 h2 =>
    rename_i c
    refine ⟨rfl, rfl, .inl ⟨c, rfl, h1, h2, ⟨szs ini, ?_, ini, _, rfl, rfl, hi, by omega⟩⟩⟩
    rw [szs_concat]
    have := sz_pos (.s ⟨#[c]⟩)
    omega
  | nd wd hfl hfs =>
    rename_i zz fs
    have hsz : (Da.t (.s zz :: fs)).sz = 2 + szs fs := by simp [Da.sz, szs]; omega
    rw [hsz] at hl
    refine ⟨rfl, rfl, .inr ⟨_, rfl, ?_⟩⟩
    have e1 : (((Da.s zz :: fs).length : Nat) : Int) = (fs.length : Int) + 1 := by simp
    refine ite2 (fun _ => ite2 (fun y => ?_) (fun _ => ?_)) (fun y => absurd (decide_eq_true (by omega)) y)
    · have : decide (((Da.s zz :: fs).length : Int) ≤ 4) = true := decide_eq_true (by omega)
      have y' : (!decide (((Da.s zz :: fs).length : Int) ≤ 4)) = true := y
      rw [this] at y'
      cases y'
    · have hl2 := szs_len ini
      refine ⟨_, atI_nat (j := 0) rfl, rfl, zz, rfl, .inl ⟨wd, ⟨_, rfl⟩, ini, fs, _, rfl, (by show some (cutD (.s zz :: fs) (some 1) none) = _; rw [cut_tail]), by rw [sizeLine_eq]; omega, rfl, szs (ini ++ fs), ?_, ini ++ fs, _, rfl, rfl, fun y hy => ?_, ?_⟩⟩
      · rw [szs_concat, szs_app, hsz]
        omega
      · rcases List.mem_append.mp hy with hy | hy
        · exact hi y hy
        · exact hfs y hy
      · rw [szs_app]
        omega
def dc_walk : DC := fun ds M Q _ => ∃ (lb : Bool) (d : Da), ds = [d] ∧ Fk lb d ∧ d.sz ≤ 100000 ∧ ((∀ x ∈ d.subs, Fk lb x) → d.subs.length ≤ d.sz → Q (.l d.subs) M)
theorem ok_walk (T : Tx P K mg)  : FnOk P w K mg base (L2.CX P w) 1 T.f_walk T.fd_walk ["form"] (spOf K dc_walk) := by
  have sc := scWalk
  refine okD T.d_walk.F sc (fun ds M Q X h => ?_) (fun cdv A outer s H E c ds M Qd Xd hn hr h hX => ?_)
  · obtain ⟨lb, d, rfl, _⟩ := h
    rfl
  have tk := takes_of (X := cxOf (L2.CX P w) P w K mg base NWalk "_walk" (defScope sWalk) T.f_walk cdv A outer s H E) rfl rfl rfl rfl
  refine ⟨_, (ss_cons (s_own (i := 1) sc.nd rfl (by first | exact .inl rfl | exact .inr rfl) (by rw [hn]; decide) (v_lst v_nil))
  (ss_cons (s_own (i := 2) sc.nd rfl (by first | exact .inl rfl | exact .inr rfl) (by rw [hn]; decide) (v_lst (v_cons (vv 0) v_nil)))
  (ss_cons (s_while (passes_of rfl) (vTr (vv 2))
  (ss_cons (s_set (i := 3) sc.nd rfl (by first | exact .inl rfl | exact .inr rfl) (by rw [hn]; decide) (v_pop (by rfl) (by rfl) (vv 2)))
  (ss_cons (s_expr (v_met PySem.F.plainAttrs_list PySem.F.slot_list_append PySem.F.type_list_append mt_append tyL_ok lAppend (vv 1) (vv 3)))
  (ss_one (s_if (v_not (vB (v_isi isi_str (by rfl) T.n_isinstance (by rfl) T.n_str (by decide +kernel) (vv 3))))
  (ss_one (s_expr (v_met PySem.F.plainAttrs_list PySem.F.slot_list_extend PySem.F.type_list_extend mt_extA tyL_ok lExtend (vv 2) (v_rev0 (vv 3)))))
  ss_nil)))))
  (ss_one (s_ret (vFz (vv 1))))))), ?_⟩
  obtain ⟨lb, d, rfl, hf, hz, q⟩ := h
  have dO : d.isO = false := by cases hf <;> rfl
  refine ⟨by show 0 ≤ sizeLine; decide, fun p1 n1 => ⟨dO, by show 1 ≤ sizeLine; decide, fun p2 n2 => ⟨fun m S => ∃ (seen todo : List Da) (y3 : Slx), S = ⟨[.val d, .own p1 seen, .own p2 todo, y3], M⟩ ∧ m = szs todo ∧ (∀ x ∈ todo, Fk lb x) ∧ (∀ x ∈ seen, Fk lb x) ∧ seen.length + szs todo ≤ d.sz ∧ seen ++ subsL todo.reverse = d.subs, ⟨_, [], [d], .no, rfl, rfl, by simpa using hf, by simp, by simp [szs], by simp [subsL]⟩, ?_⟩⟩⟩
  rintro m S ⟨seen, todo, y3, rfl, rfl, hk, hs, hl, hsub⟩
  refine ⟨todo, rfl, ite2 (fun z => ?_) (fun z => ?_)⟩
  rotate_left
  · have e0 : todo = [] := by cases todo with | nil => rfl | cons a b => exact absurd rfl z
    subst e0
    rw [show subsL ([] : List Da).reverse = [] by simp [subsL], List.append_nil] at hsub
    subst hsub
    exact ⟨rfl, q hs (by omega)⟩
  rcases List.eq_nil_or_concat todo with e | ⟨ini, x, e⟩
  · subst e
    cases z
  rw [List.concat_eq_append] at e
  subst e
  have hx := hk x (by simp)
  have hi : ∀ y ∈ ini, Fk lb y := fun y hy => hk y (by simp [hy])
  have hs' : ∀ y ∈ seen ++ [x], Fk lb y := fun y hy => by
    rcases List.mem_append.mp hy with hy | hy
    · exact hs y hy
    · rw [List.mem_singleton.mp hy]
      exact hx
  rw [szs_concat] at hl
  rw [List.reverse_concat, subsL] at hsub
  have hp := sz_pos x
  have xO : x.isO = false := by cases hx <;> rfl
  refine ⟨ini ++ [x], x, ⟨[.val d, .own p1 seen, .own p2 ini, y3], M⟩, rfl, by simp, by show some _ = some _; rw [List.dropLast_concat]; rfl, xO, ⟨_, rfl⟩, seen, _, rfl, xO, by rw [sizeLine_eq]; omega, rfl, ?_⟩
  cases hx with
  | lt h0 h1 h2 =>
    rename_i c
    refine ⟨szs ini, ?_, seen ++ [.s ⟨#[c]⟩], ini, _, rfl, rfl, hi, hs', ?_, by rw [List.append_assoc]; exact hsub⟩
    · rw [szs_concat]
      omega
    · rw [List.length_append, List.length_singleton]
      omega
  | nd wd hfl hfs =>
    rename_i zz fs
    have hsz : (Da.t (.s zz :: fs)).sz = 2 + szs fs := by simp [Da.sz, szs]; omega
    have hl2 := szs_len ini
    have hl3 := szs_len fs
    have hc : cutR true (Da.s zz :: fs) = fs.reverse := by
      unfold cutR downN
      simp
    refine ⟨⟨_, rfl⟩, ini, fs.reverse, _, rfl, (by show some (cutR true (.s zz :: fs)) = _; rw [hc]), by rw [sizeLine_eq, List.length_reverse]; omega, rfl, szs (ini ++ fs.reverse), ?_, seen ++ [.t (.s zz :: fs)], ini ++ fs.reverse, _, rfl, rfl, fun y hy => ?_, hs', ?_, by rw [List.reverse_append, List.reverse_reverse, subsL_app, ← hsub, Da.subs, List.append_assoc]; rfl⟩
    · rw [szs_concat, szs_app, szs_rev, hsz]
      omega
    · rcases List.mem_append.mp hy with hy | hy
      · exact hi y hy
      · exact hfs y (List.mem_reverse.mp hy)
    · rw [List.length_append, List.length_singleton, szs_app, szs_rev]
      omega
end
end VL
set_option Elab.async false
set_option linter.all false
set_option maxRecDepth 100000
set_option maxHeartbeats 1000000
namespace VL
open PySem PySem.Spec PyProof.Rows L2
section
variable {P : Program} {w : World} {K : PySem.W.Frag} {mg : Str → Option Value} {base : Heap}
def dc_is_marks : DC := fun ds M Q _ => ∃ v : Str, ds = [.s v] ∧ v.cps.toList.length ≤ 3 ∧ (∀ c ∈ v.cps.toList, c = 43 ∨ c = 45) ∧ Q (.b true) M
theorem ok_is_marks (T : Tx P K mg)  : FnOk P w K mg base (L2.CX P w) 1 T.f_is_marks T.fd_is_marks ["marks"] (spOf K dc_is_marks) := by
  have sc := scIsMarks
  refine okD T.d_is_marks.F sc (fun ds M Q X h => ?_) (fun cdv A outer s H E c ds M Qd Xd hn hr h hX => ?_)
  · obtain ⟨z, rfl, _⟩ := h
    rfl
  have tk := takes_of (X := cxOf (L2.CX P w) P w K mg base NIsMarks "_is_marks" (defScope sIsMarks) T.f_is_marks cdv A outer s H E) rfl rfl rfl rfl
  refine ⟨_, (ss_one (s_ret (ve_and (v_cmp op_le lC (nomark _) (v_cb1 call_lenA lLen (by rfl) T.n_len (by decide +kernel) (vv 0)) vi) (pe_one (v_cb1 (cr_all rfl) lAll (by rfl) T.n_all (by decide +kernel) (vOf (v_lc rfl sc.nd (i_str (vv 0)) (blkOk_by (own := [("mark", 1)]) (N := NIsMarks) (sc := defScope sIsMarks) (by decide +kernel)) (fun c1 e1 => (lgN (i := 1) (by rw [e1, hn]; decide))) (fun _ _ _ _ _ => (pg_name (i := 1) sc.nd rfl (by first | exact .inl rfl | exact .inr rfl))) (fun _ _ _ _ _ _ _ => ts_nil) (fun _ _ _ _ _ c1 e1 => (v_cmp op_inA lIn (by rfl) (vv 1) vs)) (by decide)))))))), ?_⟩
  obtain ⟨v, rfl, hl, hc, q⟩ := h
  have e := str_len v
  refine ⟨by rw [str_len]; exact sz_le (by omega), ite2 (fun _ => ?_) (fun y => absurd (decide_eq_true (by omega)) y)⟩
  refine lc_map (fun _ => .b true) (fun d hd R1 hR1 => ?_) (fun d hd => rfl) (by unfold chsD; rw [List.length_map]; exact sz_le (by omega)) ?_
  · unfold chsD at hd
    obtain ⟨c, hcc, rfl⟩ := List.mem_map.mp hd
    have := hR1 _ (Agr.wipe.set (i := 1) (x := .val (.s ⟨#[c]⟩)) (by decide))
    rw [← occ_pm (hc c hcc)] at this
    exact this
  · refine ⟨_, _, rfl, bools_true _, ?_⟩
    rw [show ((chsD v).map fun _ => true).all id = true by simp]
    exact ⟨rfl, q⟩
theorem und_get {sh un : List (Str × Str)} (s : Shp sh) (u : Und sh un) {x : Str × Str} (hx : x ∈ un) : (x.1, Str.empty) ∈ sh ∧ (x.2, Str.empty) ∈ sh := by
  obtain ⟨i, j, _, h1, h2⟩ := u.up x hx
  exact ⟨List.mem_of_getElem? h1, List.mem_of_getElem? h2⟩
theorem eqF_e (v : Str) : eqF (.s v) (.s (Str.ofString "")) = decide (v = Str.empty) := by rw [empty_eq]; simp [eqF]
theorem eqF_e1 : eqF (.s Str.empty) (.s (Str.ofString "")) = true := by rw [eqF_e]; simp
def dc_check_under : DC := fun ds M Q _ => ∃ (p1 p2 : Addr) (sh un : List (Str × Str)), ds = [.r p1, .r p2] ∧ p1 ≠ p2 ∧ Shp sh ∧ Und sh un ∧ M p1 = some (.dk none (shD sh)) ∧ M p2 = some (.dk none (shD un)) ∧ Q .n M
theorem ok_check_under (T : Tx P K mg)  : FnOk P w K mg base (L2.CX P w) 1 T.f_check_under T.fd_check_under ["shapes", "under"] (spOf K dc_check_under) := by
  have sc := scCheckUnder
  refine okD T.d_check_under.F sc (fun ds M Q X h => ?_) (fun cdv A outer s H E c ds M Qd Xd hn hr h hX => ?_)
  · obtain ⟨p1, p2, sh, un, rfl, _⟩ := h
    rfl
  have tk := takes_of (X := cxOf (L2.CX P w) P w K mg base NCheckUnder "_check_under" (defScope sCheckUnder) T.f_check_under cdv A outer s H E) rfl rfl rfl rfl
  refine ⟨_, (ss_one (s_lk (s_for (passes_of rfl) rfl (i_items (vv 1)) (pg_tup (by rfl) (pgs_cons (pg_name (i := 2) sc.nd rfl (by first | exact .inl rfl | exact .inr rfl)) (pgs_cons (pg_name (i := 3) sc.nd rfl (by first | exact .inl rfl | exact .inr rfl)) pgs_nil))) (lgT (n := 2) (lgs_cons (lgN (i := 2) (by rw [hn]; decide)) (lgs_cons (lgN (i := 3) (by rw [hn]; decide)) lgs_nil)) (lenN (lenN len0)))
  (ss_one (s_if (PW.pt (v_or (vt_cmp (op_neA hr.units) lNe (nomark _) (v_dget1 (hu_of hr) (vv 0) (vv 2) ⟨rfl, rfl, rfl, rfl⟩) vs) (pw_or1 (vt_cmp (op_neA hr.units) lNe (nomark _) (v_dget1 (hu_of hr) (vv 0) (vv 3) ⟨rfl, rfl, rfl, rfl⟩) vs))))
  (ss_one s_dead)
  ss_nil))))), ?_⟩
  obtain ⟨p1, p2, sh, un, rfl, n12, s, u, m1, m2, q⟩ := h
  refine ⟨p2, shD un, m2, fun od => ⟨p2, od, shD un, rfl, updM_same, ?_⟩⟩
  have m1' : updM M p2 (.dk (some od) (shD un)) p1 = some (.dk none (shD sh)) := by rw [updM_ne n12]; exact m1
  refine forGo_of (fun rest S => ∃ (rr : List (Str × Str)) (y2 y3 : Slx), (∀ x ∈ rr, x ∈ un) ∧ rest = (shD rr).map pairD ∧ S = ⟨[.val (.r p1), .val (.r p2), y2, y3], updM M p2 (.dk (some od) (shD un))⟩)
    (fun d ds S h R hR => ?_) (fun S h => ?_) _ _ ⟨un, .no, .no, fun _ h => h, rfl, rfl⟩
  · obtain ⟨rr, y2, y3, hrr, e1, rfl⟩ := h
    cases rr with
    | nil => cases e1
    | cons x rr =>
    cases e1
    obtain ⟨h1, h2⟩ := und_get s u (hrr x (by simp))
    have dk : Sx.dk ⟨[.val (.r p1), .val (.r p2), .val (.s x.1), .val (.s x.2)], updM M p2 (.dk (some od) (shD un))⟩ (.r p1) = some (shD sh) := by
      show (match updM M p2 (.dk (some od) (shD un)) p1 with | some (.dk _ kds) => some kds | _ => none) = _
      rw [m1']
    have g1 : (valD (shD sh) (.inr x.1)).getD .n = .s Str.empty := by rw [valD_shD s.nd h1]; rfl
    have g2 : (valD (shD sh) (.inr x.2)).getD .n = .s Str.empty := by rw [valD_shD s.nd h2]; rfl
    have fin := hR ⟨[.val (.r p1), .val (.r p2), .val (.s x.1), .val (.s x.2)], updM M p2 (.dk (some od) (shD un))⟩ ⟨rr, _, _, fun y hy => hrr y (by simp [hy]), rfl, rfl⟩
    refine ⟨⟨_, dk⟩, _, _, dk, rfl, ?_⟩
    rw [g1]
    refine .inl ⟨rfl, rfl, rfl, ?_⟩
    rw [eqF_e1]
    refine ⟨⟨_, dk⟩, _, _, dk, rfl, ?_⟩
    rw [g2]
    refine .inl ⟨rfl, rfl, rfl, ?_⟩
    rw [eqF_e1]
    exact fin
  · obtain ⟨rr, y2, y3, hrr, e1, rfl⟩ := h
    refine ⟨updM_same, ?_⟩
    show Qd .n (updM (updM M p2 (.dk (some od) (shD un))) p2 (.dk none (shD un)))
    rw [updM_upd, updM_id m2]
    exact q
def dc_chain : DC := fun ds M Q _ => ∃ (p : Addr) (z v : Str) (sh un : List (Str × Str)) (lk : Option Obj), ds = [.s z, .r p] ∧ Shp sh ∧ Und sh un ∧ sh.length ≤ 7 ∧ (z, v) ∈ sh ∧ M p = some (.dk lk (shD un)) ∧ Q (.t ((chn un 7 z).map .s)) M
theorem ok_chain (T : Tx P K mg)  : FnOk P w K mg base (L2.CX P w) 1 T.f_chain T.fd_chain ["word", "under"] (spOf K dc_chain) := by
  have sc := scChain
  refine okD T.d_chain.F sc (fun ds M Q X h => ?_) (fun cdv A outer s H E c ds M Qd Xd hn hr h hX => ?_)
  · obtain ⟨p, z, v, sh, un, lk, rfl, _⟩ := h
    rfl
  have tk := takes_of (X := cxOf (L2.CX P w) P w K mg base NChain "_chain" (defScope sChain) T.f_chain cdv A outer s H E) rfl rfl rfl rfl
  refine ⟨_, (ss_cons (s_own (i := 2) sc.nd rfl (by first | exact .inl rfl | exact .inr rfl) (by rw [hn]; decide) (v_lst (v_cons (vv 0) v_nil)))
  (ss_cons (s_while (passes_of rfl) (vt_dinV (hu_of hr) (by rfl) (v_ix (vv 2) (v_neg vi) (fun _ _ => rfl)) (vv 1))
  (ss_cons (s_set (i := 3) sc.nd rfl (by first | exact .inl rfl | exact .inr rfl) (by rw [hn]; decide) (v_dgetV (hu_of hr) (vv 1) (v_ix (vv 2) (v_neg vi) (fun _ _ => rfl)) (fun _ _ => rfl)))
  (ss_cons (s_if (vt_cmp op_inA lIn (by rfl) (vv 3) (vv 2))
  (ss_one s_dead)
  ss_nil)
  (ss_one (s_expr (v_met PySem.F.plainAttrs_list PySem.F.slot_list_append PySem.F.type_list_append mt_append tyL_ok lAppend (vv 2) (vv 3)))))))
  (ss_one (s_ret (v_ct1 call_tupleA lTuple (by rfl) T.n_tuple (by decide +kernel) (vv 2)))))), ?_⟩
  obtain ⟨p, z, v, sh, un, lk, rfl, s, u, h7, hz, m2, q⟩ := h
  refine ⟨rfl, by show 1 ≤ sizeLine; decide, fun p1 n1 => ?_⟩
  obtain ⟨j, hj, ej⟩ := List.mem_iff_getElem.mp hz
  have ej' : sh[j]? = some (z, v) := by rw [List.getElem?_eq_getElem hj, ej]
  -- the last word stands at place m, all before it behind m
  refine ⟨fun m S => ∃ (ini : List Str) (y vy : Str) (y3 : Slx), S = ⟨[.val (.s z), .val (.r p), .own p1 ((ini ++ [y]).map .s), y3], M⟩ ∧ sh[m]? = some (y, vy) ∧ ini.length + m ≤ 7 ∧ (∀ a ∈ ini, ∃ i va, m < i ∧ sh[i]? = some (a, va)) ∧ ini ++ chn un 7 y = chn un 7 z,
    ⟨j, [], z, v, .no, rfl, ej', by simp; omega, by simp, rfl⟩, ?_⟩
  rintro m S ⟨ini, y, vy, y3, rfl, hm, hl, hi, hc⟩
  refine ⟨_, _, rfl, at_end (by omega), shD un, .inr y, dk_r m2, rfl, ?_⟩
  rw [valD_up]
  cases e : upS un y with
  | none =>
    have : chn un 7 y = [y] := by simp [chn, e]
    rw [this] at hc
    exact ⟨_, rfl, rfl, by rw [hc]; exact q⟩
  | some a =>
    obtain ⟨i, hi1, hi2⟩ := upS_lt s u hm e
    have nin : a ∉ ini ++ [y] := fun hx => by
      have key : ∀ k va, sh[k]? = some (a, va) → k = i := fun k va hk => nodup_inj (l := sh.map (·.1)) s.nd (by rw [List.getElem?_map, hk]; rfl) (by rw [List.getElem?_map, hi2]; rfl)
      rcases List.mem_append.mp hx with hx | hx
      · obtain ⟨k, va, h1, h2⟩ := hi a hx
        have := key k va h2
        omega
      · rw [List.mem_singleton.mp hx] at key
        have := key m vy hm
        omega
    have e7 : chn un 7 y = y :: chn un 7 a := by
      have h1 : chn un 7 y = y :: chn un 6 a := by simp [chn, e]
      rw [h1, chn_more s u i hi2 (show i ≤ 6 by omega) (show i ≤ 7 by omega)]
    have small : ((ini ++ [y]).map Da.s).length < sizeLine := by rw [List.length_map, List.length_append, List.length_singleton, sizeLine_eq]; omega
    have ends := fun (R : Sx → Prop) (hR : ∀ S', (∃ m', m' < m ∧ ∃ (ini : List Str) (y vy : Str) (y3 : Slx), S' = ⟨[.val (.s z), .val (.r p), .own p1 ((ini ++ [y]).map .s), y3], M⟩ ∧ sh[m']? = some (y, vy) ∧ ini.length + m' ≤ 7 ∧ (∀ a ∈ ini, ∃ i va, m' < i ∧ sh[i]? = some (a, va)) ∧ ini ++ chn un 7 y = chn un 7 z) → R S') =>
      hR ⟨[.val (.s z), .val (.r p), .own p1 ((ini ++ [y]).map .s ++ [.s a]), .val (.s a)], M⟩ ⟨i, hi1, ini ++ [y], a, _, _, by rw [List.map_append (l₂ := [a])]; rfl, hi2, by rw [List.length_append, List.length_singleton]; omega, fun b hb => by
        rcases List.mem_append.mp hb with hb | hb
        · obtain ⟨k, va, h1, h2⟩ := hi b hb
          exact ⟨k, va, by omega, h2⟩
        · rw [List.mem_singleton.mp hb]
          exact ⟨m, vy, hi1, hm⟩, by rw [List.append_assoc, ← hc, e7]; rfl⟩
    refine ⟨_, _, rfl, at_end (by omega), shD un, .inr y, .s a, dk_r m2, rfl, by rw [valD_up, e]; rfl, rfl, ?_⟩
    refine ⟨_, rfl, rfl, ?_, ?_⟩
    · rw [List.all_map]; simp [Da.fl]
    · rw [inD_s, decide_eq_false nin]
      exact ⟨⟨_, rfl⟩, _, _, rfl, rfl, small, rfl, ends _ fun _ h => h⟩
end
end VL
set_option Elab.async false
set_option linter.all false
set_option maxRecDepth 100000
set_option maxHeartbeats 1000000
namespace VL
open PySem PySem.Spec PyProof.Rows L2
section
variable {P : Program} {w : World} {K : PySem.W.Frag} {mg : Str → Option Value} {base : Heap}
def isBase (sh : List (Str × Str)) : Da → Option Da
  | .s z => if upS sh z = some Str.empty then some (.s z) else none
  | _ => none
theorem isBase_s {sh : List (Str × Str)} {z v : Str} (h : upS sh z = some v) : isBase sh (.s z) = if v = Str.empty then some (.s z) else none := by
  show (if upS sh z = some Str.empty then some (Da.s z) else none) = _
  rw [h]
  by_cases e : v = Str.empty
  · rw [if_pos e, e, if_pos rfl]
  · rw [if_neg e, if_neg (fun q => e (Option.some.inj q))]
def dc_check_shapes : DC := fun ds M Q _ => ∃ (p : Addr) (sh : List (Str × Str)), ds = [.r p] ∧ ShpS sh ∧ M p = some (.dk none (shD sh)) ∧ Q .n M
theorem ok_check_shapes (T : Tx P K mg) (G_is_marks : FnOk P w K mg base (L2.CX P w) 1 T.f_is_marks T.fd_is_marks ["marks"] (spOf K dc_is_marks)) (G_is_word : FnOk P w K mg base (L2.CX P w) 1 T.f_is_word T.fd_is_word ["text"] (spOf K dc_is_word)) : FnOk P w K mg base (L2.CX P w) 2 T.f_check_shapes T.fd_check_shapes ["shapes"] (spOf K dc_check_shapes) := by
  have sc := scCheckShapes
  refine okD T.d_check_shapes.F sc (fun ds M Q X h => ?_) (fun cdv A outer s H E c ds M Qd Xd hn hr h hX => ?_)
  · obtain ⟨p, sh, rfl, _⟩ := h
    rfl
  have tk := takes_of (X := cxOf (L2.CX P w) P w K mg base NCheckShapes "_check_shapes" (defScope sCheckShapes) T.f_check_shapes cdv A outer s H E) rfl rfl rfl rfl
  refine ⟨_, (ss_cons (s_if (vt_cmp op_gt lC (nomark _) (v_cb1 call_lenA lLenD (by rfl) T.n_len (by decide +kernel) (vv 0)) vi)
  (ss_one s_dead)
  ss_nil)
  (ss_cons (s_lk (s_for (passes_of rfl) rfl (i_items (vv 0)) (pg_tup (by rfl) (pgs_cons (pg_name (i := 1) sc.nd rfl (by first | exact .inl rfl | exact .inr rfl)) (pgs_cons (pg_name (i := 2) sc.nd rfl (by first | exact .inl rfl | exact .inr rfl)) pgs_nil))) (lgT (n := 2) (lgs_cons (lgN (i := 1) (by rw [hn]; decide)) (lgs_cons (lgN (i := 2) (by rw [hn]; decide)) lgs_nil)) (lenN (lenN len0)))
  (ss_one (s_if (PW.pt (v_or (v_not (vTr (v_call G_is_word (hr.mono (by decide)) (by rfl) T.d_is_word.g T.d_is_word.F.kp T.d_is_word.b tk hX (v_cons (vv 1) v_nil)))) (pw_or1 (v_not (vTr (v_call G_is_marks (hr.mono (by decide)) (by rfl) T.d_is_marks.g T.d_is_marks.F.kp T.d_is_marks.b tk hX (v_cons (vv 2) v_nil)))))))
  (ss_one s_dead)
  ss_nil))))
  (ss_one (s_if (vt_cmp op_lt lC (nomark _) (v_cb1 call_lenA lLen (by rfl) T.n_len (by decide +kernel) (vOf (v_lkL (v_lc rfl sc.nd (i_keys (vv 0)) (blkOk_by (own := [("word", 1)]) (N := NCheckShapes) (sc := defScope sCheckShapes) (by decide +kernel)) (fun c1 e1 => (lgN (i := 1) (by rw [e1, hn]; decide))) (fun _ _ _ _ _ => (pg_name (i := 1) sc.nd rfl (by first | exact .inl rfl | exact .inr rfl))) (fun _ _ _ _ _ c1 e1 => ts_one (vt_cmp (op_eqA hr.units) lEq (nomark _) (v_dgetV (hu_of hr) (vv 0) (vv 1) (fun _ _ => rfl)) vs)) (fun _ _ _ _ _ c1 e1 => (vv 1)) (by decide))))) vi)
  (ss_one s_dead)
  ss_nil)))), ?_⟩
  obtain ⟨p, sh, rfl, s, m1, q⟩ := h
  refine ⟨shD sh, dku_r m1, ite2 (fun z => ?_) (fun _ => ?_)⟩
  · have := s.hi
    have z' : (12 : Int) < ((shD sh).length : Int) := of_decide_eq_true z
    rw [shD_len] at z'
    omega
  have lock : ∀ od, updM (updM M p (.dk (some od) (shD sh))) p (.dk none (shD sh)) = M := fun od => by rw [updM_upd, updM_id m1]
  refine ⟨p, shD sh, m1, fun od => ⟨p, od, shD sh, rfl, updM_same, ?_⟩⟩
  refine forGo_of (fun rest S => ∃ (rr : List (Str × Str)) (y1 y2 : Slx), (∀ x ∈ rr, x ∈ sh) ∧ rest = (shD rr).map pairD ∧ S = ⟨[.val (.r p), y1, y2], updM M p (.dk (some od) (shD sh))⟩)
    (fun d ds S h R hR => ?_) (fun S h => ?_) _ _ ⟨sh, .no, .no, fun _ h => h, rfl, rfl⟩
  · obtain ⟨rr, y1, y2, hrr, e1, rfl⟩ := h
    cases rr with
    | nil => cases e1
    | cons x rr =>
    cases e1
    have hx := hrr x (by simp)
    exact ⟨rfl, x.1, rfl, .inl ⟨s.shp.wd _ hx, rfl, x.2, rfl, s.shp.ar _ hx, s.mks _ hx, hR ⟨[.val (.r p), .val (.s x.1), .val (.s x.2)], updM M p (.dk (some od) (shD sh))⟩ ⟨rr, _, _, fun y hy => hrr y (by simp [hy]), rfl, rfl⟩⟩⟩
  · obtain ⟨rr, y1, y2, hrr, e1, rfl⟩ := h
    refine ⟨updM_same, ?_⟩
    dsimp only
    rw [lock]
    refine ⟨p, shD sh, m1, fun od2 => ⟨p, od2, shD sh, rfl, updM_same, ?_⟩⟩
    refine lc_pure (isBase sh) (fun d hd R1 R2 hR => ?_) (fun d hd y e => ?_) (by rw [List.length_map, shD_len]; exact sz_le (by have := s.hi; omega)) ?_
    · rw [keys_shD] at hd
      obtain ⟨z, hz, rfl⟩ := List.mem_map.mp hd
      obtain ⟨x, hx, rfl⟩ := List.mem_map.mp hz
      have hu := upS_some s.shp.nd (z := x.1) (v := x.2) hx
      have := hR _ (Agr.wipe.set (i := 1) (x := .val (.s x.1)) (by decide))
      refine ⟨shD sh, .inr x.1, .s x.2, dk_r updM_same, rfl, valD_shD s.shp.nd hx, .inl ⟨rfl, rfl, rfl, ?_⟩⟩
      rw [eqF_e]
      rw [isBase_s hu] at this
      by_cases h : x.2 = Str.empty
      · rw [decide_eq_true h]
        rw [if_pos h] at this
        exact this
      · rw [decide_eq_false h]
        rw [if_neg h] at this
        exact this
    · rw [keys_shD] at hd
      obtain ⟨z, hz, rfl⟩ := List.mem_map.mp hd
      unfold isBase at e
      dsimp only at e
      split at e <;> cases e
      rfl
    · refine ⟨updM_same, ?_⟩
      have len2 : 2 ≤ (((shD sh).map keyD).filterMap (isBase sh)).length := by
        rw [keys_shD]
        have lo := s.shp.lo
        have z0 := s.shp.z0
        have nd := s.shp.nd
        match sh, lo, z0, nd with
        | a :: b :: r, _, z0, nd =>
          have ha : upS (a :: b :: r) a.1 = some Str.empty := upS_some nd (by have := z0 0 (by simp) (by decide); simp at this; rw [← this]; simp)
          have hb : upS (a :: b :: r) b.1 = some Str.empty := upS_some nd (by have := z0 1 (by simp) (by decide); simp at this; rw [← this]; simp)
          simp only [List.map_cons, List.filterMap_cons, isBase_s ha, isBase_s hb, if_true]
          simp
      refine ite2 (fun z => ?_) (fun _ => ?_)
      · have z' : ((((shD sh).map keyD).filterMap (isBase sh)).length : Int) < 2 := of_decide_eq_true z
        omega
      · show Qd .n (updM (updM M p (.dk (some od2) (shD sh))) p (.dk none (shD sh)))
        rw [lock]
        exact q
def dc_Stock_init (C : Addr) : DC := fun ds M Q _ => ∃ (x p1 p2 : Addr) (sh un : List (Str × Str)), ds = [.r x, .r p1, .r p2] ∧ M x = some (.ins C []) ∧ p1 ≠ x ∧ p2 ≠ x ∧ ShpS sh ∧ Und sh un ∧ M p1 = some (.dk none (shD sh)) ∧ M p2 = some (.dk none (shD un)) ∧
  ∀ (q1 q2 q3 : Addr) (M' : Mx), M q1 = none → M q2 = none → M q3 = none → q1 ≠ q2 → q1 ≠ q3 → q2 ≠ q3 → (∀ b, b ≠ x → b ≠ q1 → b ≠ q2 → b ≠ q3 → M' b = M b) → M' x = some (.ins C [("shapes", .r q1), ("under", .r q2), ("chains", .r q3)]) → M' q1 = some (.dk none (shD sh)) → M' q2 = some (.dk none (shD un)) → M' q3 = some (.dk none (chD sh un)) → Q .n M'
theorem ok_Stock_init (T : Tx P K mg) (G_chain : FnOk P w K mg base (L2.CX P w) 1 T.f_chain T.fd_chain ["word", "under"] (spOf K dc_chain)) (G_check_shapes : FnOk P w K mg base (L2.CX P w) 2 T.f_check_shapes T.fd_check_shapes ["shapes"] (spOf K dc_check_shapes)) (G_check_under : FnOk P w K mg base (L2.CX P w) 1 T.f_check_under T.fd_check_under ["shapes", "under"] (spOf K dc_check_under)) : FnOk P w K mg base (L2.CX P w) 3 T.f_Stock_init T.fd_Stock_init ["self", "shapes", "under"] (spOf K (dc_Stock_init T.C_Stock)) := by
  have sc := scStock_init
  refine okDD T.d_Stock_init.F sc (fun ds M Q X h => ?_) (fun cdv A outer s H E c ds M Qd Xd hn hr h hX => ?_)
  · obtain ⟨x, p1, p2, sh, un, rfl, _⟩ := h
    rfl
  have tk := takes_of (X := cxOf (L2.CX P w) P w K mg base NStock_init "Stock.__init__" (defScope sStock_init) T.f_Stock_init cdv A outer s H E) rfl rfl rfl rfl
  refine ⟨_, (ss_cons (s_fld T.c_Stock.cl T.n_Stock_shapes (v_ct1 call_dcopy lDcopy (by rfl) T.n_dict (by decide +kernel) (vv 1)) (vv 0))
  (ss_cons (s_fld T.c_Stock.cl T.n_Stock_under (v_ite (vt_cmp op_isN lIs (nomark _) (vv 2) vn) v_dnew (v_ct1 call_dcopy lDcopy (by rfl) T.n_dict (by decide +kernel) (vv 2))) (vv 0))
  (ss_cons (s_expr (v_call G_check_shapes (hr.mono (by decide)) (by rfl) T.d_check_shapes.g T.d_check_shapes.F.kp T.d_check_shapes.b tk hX (v_cons (v_fld T.c_Stock.cl T.n_Stock_shapes (vv 0)) v_nil)))
  (ss_cons (s_expr (v_call G_check_under (hr.mono (by decide)) (by rfl) T.d_check_under.g T.d_check_under.F.kp T.d_check_under.b tk hX (v_cons (v_fld T.c_Stock.cl T.n_Stock_shapes (vv 0)) (v_cons (v_fld T.c_Stock.cl T.n_Stock_under (vv 0)) v_nil))))
  (ss_one (s_fld T.c_Stock.cl T.n_Stock_chains (v_lkE (v_dc rfl sc.nd (i_keys (v_fld T.c_Stock.cl T.n_Stock_shapes (vv 0))) (blkOk_by (own := [("word", 3)]) (N := NStock_init) (sc := defScope sStock_init) (by decide +kernel)) (fun c1 e1 => (lgN (i := 3) (by rw [e1, hn]; decide))) (fun _ _ _ _ _ => (pg_name (i := 3) sc.nd rfl (by first | exact .inl rfl | exact .inr rfl))) (fun _ _ _ _ _ _ _ => ts_nil) (fun _ _ _ _ _ c1 e1 => (vv 3)) (fun _ _ _ _ _ c1 e1 => (v_call G_chain (hr.mono (by decide)) (by rfl) T.d_chain.g T.d_chain.F.kp T.d_chain.b takes0 xno (v_cons (vv 3) (v_cons (v_fld T.c_Stock.cl T.n_Stock_under (vv 0)) v_nil)))) (by decide))) (vv 0))))))), ?_⟩
  obtain ⟨x, p1, p2, sh, un, rfl, mx, n1x, n2x, s, u, m1, m2, q⟩ := h
  have ne_of : ∀ {a b : Addr} {m : MO} {N : Mx}, N a = none → N b = some m → b ≠ a := fun h1 h2 e => by rw [e, h1] at h2; cases h2
  refine ⟨shD sh, dk_r m1, fun q1 n1 => ⟨rfl, x, [], rfl, ?_, by decide, ?_⟩⟩
  · show updM M q1 _ x = _
    rw [updM_ne (ne_of n1 mx)]; exact mx
  have n1' : M q1 = none := n1
  have x1 := ne_of n1' mx
  let M1 : Mx := updM (updM M q1 (.dk none (shD sh))) x (.ins T.C_Stock [("shapes", .r q1)])
  show wSeq _ _ _ ⟨[.val (.r x), .val (.r p1), .val (.r p2), .no], M1⟩
  have g1 : M1 q1 = some (.dk none (shD sh)) := by show updM _ x _ q1 = _; rw [updM_ne (Ne.symm x1), updM_same]
  have g2 : M1 p2 = some (.dk none (shD un)) := by show updM _ x _ p2 = _; rw [updM_ne n2x, updM_ne (ne_of n1' m2)]; exact m2
  have gx : M1 x = some (.ins T.C_Stock [("shapes", .r q1)]) := updM_same
  have go : ∀ b, b ≠ x → b ≠ q1 → M1 b = M b := fun b h1 h2 => by show updM _ x _ b = _; rw [updM_ne h1, updM_ne h2]
  refine ⟨shD un, dk_r g2, fun q2 n2 => ⟨rfl, x, [("shapes", .r q1)], rfl, ?_, by show (1 : Nat) < 1000; decide, ?_⟩⟩
  · show updM M1 q2 _ x = _
    rw [updM_ne (ne_of n2 gx)]; exact gx
  have n2' : M1 q2 = none := n2
  have x2 := ne_of n2' gx
  have q12 := ne_of n2' g1
  let M2 : Mx := updM (updM M1 q2 (.dk none (shD un))) x (.ins T.C_Stock [("shapes", .r q1), ("under", .r q2)])
  show wSeq _ _ _ ⟨[.val (.r x), .val (.r p1), .val (.r p2), .no], M2⟩
  have k1 : M2 q1 = some (.dk none (shD sh)) := by show updM _ x _ q1 = _; rw [updM_ne (Ne.symm x1), updM_ne q12]; exact g1
  have k2 : M2 q2 = some (.dk none (shD un)) := by show updM _ x _ q2 = _; rw [updM_ne (Ne.symm x2), updM_same]
  have kx : M2 x = some (.ins T.C_Stock [("shapes", .r q1), ("under", .r q2)]) := updM_same
  have ko : ∀ b, b ≠ x → b ≠ q1 → b ≠ q2 → M2 b = M b := fun b h1 h2 h3 => by show updM _ x _ b = _; rw [updM_ne h1, updM_ne h3]; exact go b h1 h2
  refine ⟨_, _, kx, rfl, rfl, q1, sh, rfl, s, k1, ?_⟩
  refine ⟨_, _, kx, rfl, rfl, _, _, kx, rfl, rfl, q1, q2, sh, un, rfl, q12, s.shp, u, k1, k2, ?_⟩
  refine ⟨q1, shD sh, k1, fun od => ⟨_, _, (by show updM M2 q1 _ x = _; rw [updM_ne x1]; exact kx), rfl, q1, od, shD sh, rfl, updM_same, ?_⟩⟩
  refine dc_map (fun d => match d with | .s z => .inr z | _ => .inl 0) (fun d => match d with | .s z => .t ((chn un 7 z).map .s) | _ => .n) (fun d hd R1 hR1 => ?_) ?_ (fun d hd => ?_) (by rw [List.length_map, shD_len]; exact sz_le (by have := s.hi; omega)) ?_
  · rw [keys_shD] at hd
    obtain ⟨z, hz, rfl⟩ := List.mem_map.mp hd
    obtain ⟨y, hy, rfl⟩ := List.mem_map.mp hz
    refine ⟨rfl, _, _, (by show updM M2 q1 _ x = _; rw [updM_ne x1]; exact kx), rfl, rfl, q2, y.1, y.2, sh, un, none, rfl, s.shp, u, s.hi, hy, (by show updM M2 q1 _ q2 = _; rw [updM_ne (Ne.symm q12)]; exact k2), ?_⟩
    exact hR1 (.s y.1) _ rfl (Agr.wipe.set (i := 3) (x := .val (.s y.1)) (by decide))
  · rw [keys_shD, List.map_map, List.map_map]
    have e : ((fun d : Da => (match d with | .s z => .inr z | _ => .inl 0 : Key)) ∘ Da.s) ∘ (fun x : Str × Str => x.1) = fun x => Sum.inr x.1 := rfl
    have nd := s.shp.nd
    rw [List.nodup_iff_pairwise_ne, List.pairwise_map] at nd ⊢
    exact nd.imp fun h q => h (Sum.inr.inj q)
  · rw [keys_shD] at hd
    obtain ⟨z, hz, rfl⟩ := List.mem_map.mp hd
    rfl
  · intro q3 n3
    have n3a : updM M2 q1 (.dk (some od) (shD sh)) q3 = none := n3
    have q31 : q3 ≠ q1 := fun e => by rw [e, updM_same] at n3a; cases n3a
    have n3' : M2 q3 = none := by rw [updM_ne q31] at n3a; exact n3a
    have q32 : q3 ≠ q2 := fun e => by rw [e, k2] at n3'; cases n3'
    have q3x : q3 ≠ x := fun e => by rw [e, kx] at n3'; cases n3'
    have ec : ((shD sh).map keyD).map (fun d => ((match d with | .s z => .inr z | _ => .inl 0 : Key), (match d with | .s z => .t ((chn un 7 z).map .s) | _ => .n : Da))) = chD sh un := by
      rw [keys_shD, List.map_map, List.map_map]
      rfl
    let M3 : Mx := updM (updM (updM M2 q1 (.dk (some od) (shD sh))) q3 (.dk none (chD sh un))) q1 (.dk none (shD sh))
    refine ⟨rfl, ?_, rfl, x, [("shapes", .r q1), ("under", .r q2)], rfl, ?_, by show (2 : Nat) < 1000; decide, ?_⟩
    · show updM (updM M2 q1 _) q3 _ q1 = _
      rw [updM_ne (Ne.symm q31), updM_same]
    · show updM (updM (updM M2 q1 _) q3 _) q1 _ x = _
      rw [updM_ne x1, updM_ne (Ne.symm q3x), updM_ne x1]
      exact kx
    · have n1M := n1'
      have n2M : M q2 = none := by rw [go q2 (Ne.symm x2) (Ne.symm q12)] at n2'; exact n2'
      have n3M : M q3 = none := by rw [ko q3 q3x q31 q32] at n3'; exact n3'
      refine q q1 q2 q3 _ n1M n2M n3M q12 (Ne.symm q31) (Ne.symm q32) (fun b h1 h2 h3 h4 => ?_) updM_same ?_ ?_ ?_
      · show updM (updM (updM (updM M2 q1 _) q3 _) q1 _) x _ b = _
        rw [updM_ne h1, updM_ne h2, updM_ne h4, updM_ne h2]
        exact ko b h1 h2 h3
      · show updM (updM (updM (updM M2 q1 _) q3 _) q1 _) x _ q1 = _
        rw [updM_ne (Ne.symm x1), updM_same]
      · show updM (updM (updM (updM M2 q1 _) q3 _) q1 _) x _ q2 = _
        rw [updM_ne (Ne.symm x2), updM_ne (Ne.symm q12), updM_ne (Ne.symm q32), updM_ne (Ne.symm q12)]
        exact k2
      · show updM (updM (updM (updM M2 q1 _) q3 _) q1 _) x _ q3 = _
        rw [updM_ne q3x, updM_ne q31, updM_same, ← ec]
def dc_Stock_fits (C : Addr) : DC := fun ds M Q _ => ∃ (lb : Bool) (sh un : List (Str × Str)) (d : Da), ds = [stD C sh un, d] ∧ (sh.map (·.1)).Nodup ∧ (∀ z v, (z, v) ∈ sh → v.length ≤ sizeLine) ∧ Fk lb d ∧ d.sz ≤ 1000 ∧ Q (.b (fitB sh d)) M
theorem ok_Stock_fits (T : Tx P K mg) (G_walk : FnOk P w K mg base (L2.CX P w) 1 T.f_walk T.fd_walk ["form"] (spOf K dc_walk)) (G_is_form : FnOk P w K mg base (L2.CX P w) 2 T.f_is_form T.fd_is_form ["row"] (spOf K dc_is_form)) : FnOk P w K mg base (L2.CX P w) 3 T.f_Stock_fits T.fd_Stock_fits ["self", "form"] (spOf K (dc_Stock_fits T.C_Stock)) := by
  have sc := scStock_fits
  refine okD T.d_Stock_fits.F sc (fun ds M Q X h => ?_) (fun cdv A outer s H E c ds M Qd Xd hn hr h hX => ?_)
  · obtain ⟨lb, sh, un, d, rfl, _⟩ := h
    rfl
  have tk := takes_of (X := cxOf (L2.CX P w) P w K mg base NStock_fits "Stock.fits" (defScope sStock_fits) T.f_Stock_fits cdv A outer s H E) rfl rfl rfl rfl
  refine ⟨_, (ss_cons (s_if (v_not (vTr (v_call G_is_form (hr.mono (by decide)) (by rfl) T.d_is_form.g T.d_is_form.F.kp T.d_is_form.b tk hX (v_cons (vv 1) v_nil))))
  (ss_one (s_ret vb))
  ss_nil)
  (ss_cons (s_for (passes_of rfl) rfl (i_sq (v_call G_walk (hr.mono (by decide)) (by rfl) T.d_walk.g T.d_walk.F.kp T.d_walk.b tk hX (v_cons (vv 1) v_nil))) (pg_name (i := 2) sc.nd rfl (by first | exact .inl rfl | exact .inr rfl)) (lgN (i := 2) (by rw [hn]; decide))
  (ss_cons (s_if (vB (v_isi isi_str (by rfl) T.n_isinstance (by rfl) T.n_str (by decide +kernel) (vv 2)))
  (ss_one s_cont)
  ss_nil)
  (ss_one (s_if (PW.pt (v_or (vt_dninV (hu_of hr) (by rfl) (v_ix (vv 2) vi (fun _ _ => rfl)) (v_fld T.c_Stock.cl T.n_Stock_shapes (vv 0))) (pw_or1 (vt_cmp (op_neA hr.units) lNe (nomark _) (v_cb1 call_lenA lLen (by rfl) T.n_len (by decide +kernel) (v_dgetV (hu_of hr) (v_fld T.c_Stock.cl T.n_Stock_shapes (vv 0)) (v_ix (vv 2) vi (fun _ _ => rfl)) (fun _ _ => rfl))) (v_op op_sub lI0 (v_cb1 call_lenA lLen (by rfl) T.n_len (by decide +kernel) (vv 2)) vi)))))
  (ss_one (s_ret vb))
  ss_nil))))
  (ss_one (s_ret vb)))), ?_⟩
  obtain ⟨lb, sh, un, d, rfl, nd, hm, hf, hz, q⟩ := h
  have dO : d.isO = false := by cases hf <;> rfl
  refine ⟨dO, lb, d, rfl, hf, by omega, dO, lb, d, rfl, hf, by omega, fun hs hl => ?_⟩
  unfold fitB at q
  have key : ∀ x ∈ d.subs, (∃ z, x = .s z) ∨ ∃ z fs, x = .t (.s z :: fs) ∧ fs.length ≤ 3 := fun x hx => by
    have := hs x hx
    cases this with
    | lt h _ _ => exact .inl ⟨_, rfl⟩
    | nd _ h3 _ => exact .inr ⟨_, _, rfl, h3⟩
  generalize d.subs = xs at q hl key
  refine forGo_of (fun rest S => ∃ (y2 : Slx), S = ⟨[.val (stD T.C_Stock sh un), .val d, y2], M⟩ ∧ (∀ x ∈ rest, (∃ z, x = .s z) ∨ ∃ z fs, x = .t (.s z :: fs) ∧ fs.length ≤ 3) ∧ xs.all (okF sh) = rest.all (okF sh))
    (fun x ds S h R hR => ?_) (fun S h => ?_) _ _ ⟨.no, rfl, key, rfl⟩
  · obtain ⟨y2, rfl, hk, ha⟩ := h
    rcases hk x (by simp) with ⟨z, rfl⟩ | ⟨z, fs, rfl, h3⟩
    · exact hR _ ⟨_, rfl, fun y hy => hk y (by simp [hy]), by rw [ha]; simp [okF]⟩
    have e := okF_eq nd z fs
    refine ⟨_, atI_nat (j := 0) rfl, _, _, ⟨rfl, rfl⟩, rfl, shD sh, .inr z, rfl, rfl, ?_⟩
    rw [valD_up]
    rw [List.all_cons, e] at ha
    cases eu : upS sh z with
    | none =>
      rw [eu] at ha
      rw [ha] at q
      exact ⟨rfl, q⟩
    | some v =>
      rw [eu] at ha
      refine ⟨_, _, ⟨rfl, rfl⟩, rfl, _, atI_nat (j := 0) rfl, shD sh, .inr z, .s v, rfl, rfl, (by rw [valD_up, eu]; rfl), ?_⟩
      have zl := upS_mem eu
      refine ⟨hm z v zl, .inl ⟨rfl, rfl, rfl, ?_⟩⟩
      have e2 : eqF (.i (v.length : Int)) (.i (((Da.s z :: fs).length : Int) - 1)) = decide (v.cps.toList.length = fs.length) := by
        rw [str_len]
        simp only [eqF, List.length_cons]
        exact dec_of (by omega)
      show if (!eqF (.i (v.length : Int)) (.i (((Da.s z :: fs).length : Int) - 1))) = true then _ else _
      rw [e2]
      change xs.all (okF sh) = (decide (v.cps.toList.length = fs.length) && ds.all (okF sh)) at ha
      cases ev : decide (v.cps.toList.length = fs.length) with
      | true =>
        rw [ev] at ha
        exact hR _ ⟨_, rfl, fun y hy => hk y (by simp [hy]), ha⟩
      | false =>
        rw [ev] at ha
        have ha : xs.all (okF sh) = false := ha
        rw [ha] at q
        exact ⟨rfl, q⟩
  · obtain ⟨y2, rfl, hk, ha⟩ := h
    rw [ha] at q
    exact ⟨rfl, q⟩
end
end VL
set_option Elab.async false
set_option linter.all false
set_option pp.maxSteps 3000
set_option maxRecDepth 100000
set_option maxHeartbeats 1000000
namespace VL
open PySem PySem.Spec PyProof.Rows L2
section
variable {P : Program} {w : World} {K : PySem.W.Frag} {mg : Str → Option Value} {base : Heap}
theorem valD_O {kds : List (Key × Da)} {k : Key} {d : Da} (h : ∀ kd ∈ kds, kd.2.isO = false) (e : valD kds k = some d) : d.isO = false := by
  obtain ⟨k', hm⟩ := valD_mem e
  exact h _ hm
def ShM (sh : List (Str × Str)) : Prop := (sh.map (·.1)).Nodup ∧ ∀ z v, (z, v) ∈ sh → v.length ≤ sizeLine
/-- a table stands at x, its rules at q -/
structure TbAt (CT : Addr) (st : Da) (kds : List (Key × Da)) (M : Mx) (x q : Addr) : Prop where
  x : M x = some (.ins CT [("stock", st), ("rules", .r q)])
  q : M q = some (.dk none kds)
/-- a table as one reads it, under a lock too -/
structure TbRd (CT : Addr) (st : Da) (kds : List (Key × Da)) (M : Mx) (x q : Addr) : Prop where
  x : M x = some (.ins CT [("stock", st), ("rules", .r q)])
  q : ∃ lk, M q = some (.dk lk kds)
theorem TbAt.rd {CT x q : Addr} {st : Da} {kds : List (Key × Da)} {M : Mx} (h : TbAt CT st kds M x q) : TbRd CT st kds M x q := ⟨h.x, none, h.q⟩
def dc_Table_init (CT : Addr) : DC := fun ds M Q _ => ∃ (x : Addr) (st : Da), ds = [.r x, st] ∧ M x = some (.ins CT []) ∧ st.isO = false ∧
  ∀ (q : Addr) (M' : Mx), M q = none → TbAt CT st [] M' x q → (∀ b, b ≠ x → b ≠ q → M' b = M b) → Q .n M'
theorem ok_Table_init (T : Tx P K mg)  : FnOk P w K mg base (L2.CX P w) 1 T.f_Table_init T.fd_Table_init ["self", "stock"] (spOf K (dc_Table_init T.C_Table)) := by
  have sc := scTable_init
  refine okD T.d_Table_init.F sc (fun ds M Q X h => ?_) (fun cdv A outer s H E c ds M Qd Xd hn hr h hX => ?_)
  · obtain ⟨x, st, rfl, _⟩ := h
    rfl
  have tk := takes_of (X := cxOf (L2.CX P w) P w K mg base NTable_init "Table.__init__" (defScope sTable_init) T.f_Table_init cdv A outer s H E) rfl rfl rfl rfl
  refine ⟨_, (ss_cons (s_fld T.c_Table.cl T.n_Table_stock (vv 1) (vv 0))
  (ss_one (s_fld T.c_Table.cl T.n_Table_rules v_dnew (vv 0)))), ?_⟩
  obtain ⟨x, st, rfl, mx, sO, q⟩ := h
  refine ⟨sO, x, [], rfl, mx, by decide, ?_⟩
  refine fun q1 n1 => ⟨rfl, x, [("stock", st)], rfl, ?_, by show (1 : Nat) < 1000; decide, ?_⟩
  all_goals have n1' : updM M x (.ins T.C_Table [("stock", st)]) q1 = none := n1
  all_goals have q1x : q1 ≠ x := fun e => by rw [e, updM_same] at n1'; cases n1'
  · show updM (updM M x _) q1 _ x = _
    rw [updM_ne (Ne.symm q1x), updM_same]
    rfl
  · refine q q1 _ (by rw [updM_ne q1x] at n1'; exact n1') ⟨updM_same, ?_⟩ fun b h1 h2 => ?_
    · show updM (updM (updM M x _) q1 _) x _ q1 = _
      rw [updM_ne q1x, updM_same]
    · show updM (updM (updM M x _) q1 _) x _ b = _
      rw [updM_ne h1, updM_ne h2, updM_ne h1]
def dc_Table_getitem (CT CU : Addr) : DC := fun ds M Q X => ∃ (x q : Addr) (st : Da) (kds : List (Key × Da)) (z : Str), ds = [.r x, .s z] ∧ TbRd CT st kds M x q ∧ z.length ≤ 1000 ∧ (∀ kd ∈ kds, kd.2.isO = false) ∧ (∀ d, valD kds (.inr z) = some d → Q d M) ∧ (valD kds (.inr z) = none → X (.ref CU) (some [("sign", .s z)]) M)
theorem ok_Table_getitem (T : Tx P K mg) (GI_UnknownSign : FnOk P w K mg base (L2.CX P w) 1 T.i_UnknownSign T.fi_UnknownSign ["self", "sign"] (spErr T.C_UnknownSign "sign")) : FnOk P w K mg base (L2.CX P w) 3 T.f_Table_getitem T.fd_Table_getitem ["self", "sign"] (spOf K (dc_Table_getitem T.C_Table T.C_UnknownSign)) := by
  have sc := scTable_getitem
  refine okD T.d_Table_getitem.F sc (fun ds M Q X h => ?_) (fun cdv A outer s H E c ds M Qd Xd hn hr h hX => ?_)
  · obtain ⟨x, q, st, kds, z, rfl, _⟩ := h
    rfl
  have tk := takes_of (X := cxOf (L2.CX P w) P w K mg base NTable_getitem "Table.__getitem__" (defScope sTable_getitem) T.f_Table_getitem cdv A outer s H E) rfl rfl rfl rfl
  refine ⟨_, (ss_cons (s_if (vt_dninV (hu_of hr) (by rfl) (vv 1) (v_fld T.c_Table.cl T.n_Table_rules (vv 0)))
  (ss_one (s_raiseF rfl tk hX T.x_UnknownSign.oex T.x_UnknownSign.iC T.x_UnknownSign.tI GI_UnknownSign (hr.mono (by decide)) T.x_UnknownSign.ib (by rfl) T.x_UnknownSign.g (vv 1)))
  ss_nil)
  (ss_one (s_ret (v_dgetV (hu_of hr) (v_fld T.c_Table.cl T.n_Table_rules (vv 0)) (vv 1) (fun _ _ => rfl))))), ?_⟩
  obtain ⟨x, q, st, kds, z, rfl, ⟨tbx, lk, tbq⟩, hz, hO, q1, q2⟩ := h
  refine ⟨_, _, tbx, rfl, kds, .inr z, dk_r tbq, rfl, ?_⟩
  cases e : valD kds (.inr z) with
  | none => exact ⟨z, rfl, hz, q2 e⟩
  | some d => exact ⟨_, _, tbx, rfl, kds, .inr z, d, dk_r tbq, rfl, e, valD_O hO e, q1 d e⟩
def ruleD (pls : List (Da × Da)) (w : Da) : Da := .t [.t (pls.map pl2), w]
def bdO (x : Da × Da) : Option Da := if x.1.isN then none else some x.1
def allF (pls : List (Da × Da)) (w : Da) : List Da := w :: (pls.filterMap bdO ++ pls.map (·.2))
def fitR (sh : List (Str × Str)) (pls : List (Da × Da)) (w : Da) : Bool := (allF pls w).all (fitB sh)
def goodB (sh : List (Str × Str)) (kds : List (Key × Da)) (wd : Bool) (z : Str) (pls : List (Da × Da)) (w : Da) : Bool := wd && !(valD kds (.inr z)).isSome && decide (kds.length < 8) && fitR sh pls w
structure RlOk (pls : List (Da × Da)) (w : Da) : Prop where
  len : pls.length ≤ 4
  f : ∀ d ∈ allF pls w, Fk true d ∧ d.sz ≤ 1000
  b : ∀ x ∈ pls, x.1.isO = false
def bdD : Da → Option Da
  | .t [b, _] => if b.isN then none else some b
  | _ => none
def fmD : Da → Da
  | .t [_, f] => f
  | d => d
theorem bd_pls (pls : List (Da × Da)) : (pls.map pl2).filterMap bdD = pls.filterMap bdO := by rw [List.filterMap_map]; rfl
theorem fm_pls (pls : List (Da × Da)) : (pls.map pl2).map fmD = pls.map (·.2) := by rw [List.map_map]; rfl
theorem fkO {lb : Bool} {d : Da} (h : Fk lb d) : d.isO = false := by cases h <;> rfl
structure WdB (wd : Bool) (z : Str) : Prop where
  t : wd = true → Wd z
  f : wd = false → NoWd z
def dc_Table_setitem (CT C CB : Addr) : DC := fun ds M Q X => ∃ (x q : Addr) (sh un : List (Str × Str)) (kds : List (Key × Da)) (z : Str) (wd : Bool) (pls : List (Da × Da)) (w : Da), ds = [.r x, .s z, ruleD pls w] ∧ TbAt CT (stD C sh un) kds M x q ∧ ShM sh ∧ WdB wd z ∧ RlOk pls w ∧ kds.length ≤ 1000 ∧
  (goodB sh kds wd z pls w = true → Q .n (updM M q (.dk none (putD kds (.inr z) (ruleD pls w))))) ∧ (goodB sh kds wd z pls w = false → X (.ref CB) none M)
theorem ok_Table_setitem (T : Tx P K mg) (G_Stock_fits : FnOk P w K mg base (L2.CX P w) 3 T.f_Stock_fits T.fd_Stock_fits ["self", "form"] (spOf K (dc_Stock_fits T.C_Stock))) (G_is_word : FnOk P w K mg base (L2.CX P w) 1 T.f_is_word T.fd_is_word ["text"] (spOf K dc_is_word)) : FnOk P w K mg base (L2.CX P w) 4 T.f_Table_setitem T.fd_Table_setitem ["self", "sign", "rule"] (spOf K (dc_Table_setitem T.C_Table T.C_Stock T.C_BadRule)) := by
  have sc := scTable_setitem
  refine okD T.d_Table_setitem.F sc (fun ds M Q X h => ?_) (fun cdv A outer s H E c ds M Qd Xd hn hr h hX => ?_)
  · obtain ⟨x, q, sh, un, kds, z, wd, pls, w, rfl, _⟩ := h
    rfl
  have tk := takes_of (X := cxOf (L2.CX P w) P w K mg base NTable_setitem "Table.__setitem__" (defScope sTable_setitem) T.f_Table_setitem cdv A outer s H E) rfl rfl rfl rfl
  refine ⟨_, (ss_cons (s_if (PW.pt (v_or (v_not (vTr (v_call G_is_word (hr.mono (by decide)) (by rfl) T.d_is_word.g T.d_is_word.F.kp T.d_is_word.b tk hX (v_cons (vv 1) v_nil)))) (v_or (vt_dinV (hu_of hr) (by rfl) (vv 1) (v_fld T.c_Table.cl T.n_Table_rules (vv 0))) (pw_or1 (vt_cmp op_ge lC (nomark _) (v_cb1 call_lenA lLenD (by rfl) T.n_len (by decide +kernel) (v_fld T.c_Table.cl T.n_Table_rules (vv 0))) vi)))))
  (ss_one (s_raise rfl tk hX PySem.F.excBase_ValueError T.x_BadRule.ex T.x_BadRule.g T.x_BadRule.kp (raises_own T.x_BadRule.sb T.x_BadRule.ty) rfl))
  ss_nil)
  (ss_cons (s_asg (vv 2) (pg_tup (by rfl) (pgs_cons (pg_name (i := 3) sc.nd rfl (by first | exact .inl rfl | exact .inr rfl)) (pgs_cons (pg_name (i := 4) sc.nd rfl (by first | exact .inl rfl | exact .inr rfl)) pgs_nil))) (lgT (n := 2) (lgs_cons (lgN (i := 3) (by rw [hn]; decide)) (lgs_cons (lgN (i := 4) (by rw [hn]; decide)) lgs_nil)) (lenN (lenN len0))))
  (ss_cons (s_valLc (i := 5) rfl sc.nd rfl rfl (by rw [hn]; decide) (sw_true rfl rfl rfl (by decide +kernel)) (i_sq (vv 3)) (blkOk_by (own := [("bound", 7), ("form", 8)]) (N := NTable_setitem) (sc := defScope sTable_setitem) (by decide +kernel)) (fun c1 e1 => (lgT (n := 2) (lgs_cons (lgN (i := 7) (by rw [e1, hn]; decide)) (lgs_cons (lgN (i := 8) (by rw [e1, hn]; decide)) lgs_nil)) (lenN (lenN len0)))) (fun _ _ _ _ _ => (pg_tup (by rfl) (pgs_cons (pg_name (i := 7) sc.nd rfl (by first | exact .inl rfl | exact .inr rfl)) (pgs_cons (pg_name (i := 8) sc.nd rfl (by first | exact .inl rfl | exact .inr rfl)) pgs_nil)))) (fun _ _ _ _ _ c1 e1 => ts_one (vt_cmp op_notN lIsNot (nomark _) (vv 7) vn)) (fun _ _ _ _ _ c1 e1 => (vv 7)) (by decide))
  (ss_cons (s_valLc (i := 6) rfl sc.nd rfl rfl (by rw [hn]; decide) (sw_true rfl rfl rfl (by decide +kernel)) (i_sq (vv 3)) (blkOk_by (own := [("bound", 7), ("form", 8)]) (N := NTable_setitem) (sc := defScope sTable_setitem) (by decide +kernel)) (fun c1 e1 => (lgT (n := 2) (lgs_cons (lgN (i := 7) (by rw [e1, hn]; decide)) (lgs_cons (lgN (i := 8) (by rw [e1, hn]; decide)) lgs_nil)) (lenN (lenN len0)))) (fun _ _ _ _ _ => (pg_tup (by rfl) (pgs_cons (pg_name (i := 7) sc.nd rfl (by first | exact .inl rfl | exact .inr rfl)) (pgs_cons (pg_name (i := 8) sc.nd rfl (by first | exact .inl rfl | exact .inr rfl)) pgs_nil)))) (fun _ _ _ _ _ _ _ => ts_nil) (fun _ _ _ _ _ c1 e1 => (vv 8)) (by decide))
  (ss_cons (s_if (v_not (vB (v_cb1 (cr_all rfl) lAll (by rfl) T.n_all (by decide +kernel) (vOf (v_lc rfl sc.nd (i_sq (vOf (v_lst (v_cons (vv 4) (v_star (vv 5) (v_star (vv 6) v_nil)))))) (blkOk_by (own := [("form", 8)]) (N := NTable_setitem) (sc := defScope sTable_setitem) (by decide +kernel)) (fun c1 e1 => (lgN (i := 8) (by rw [e1, hn]; decide))) (fun _ _ _ _ _ => (pg_name (i := 8) sc.nd rfl (by first | exact .inl rfl | exact .inr rfl))) (fun _ _ _ _ _ _ _ => ts_nil) (fun _ _ _ _ _ c1 e1 => (v_meth G_Stock_fits (hr.mono (by decide)) T.c_Stock.cl T.d_Stock_fits.m T.d_Stock_fits.b takes0 xno (v_fld T.c_Table.cl T.n_Table_stock (vv 0)) (v_cons (vv 8) v_nil))) (by decide))))))
  (ss_one (s_raise rfl tk hX PySem.F.excBase_ValueError T.x_BadRule.ex T.x_BadRule.g T.x_BadRule.kp (raises_own T.x_BadRule.sb T.x_BadRule.ty) rfl))
  ss_nil)
  (ss_one (s_putD (hu_of hr) (vv 2) (v_fld T.c_Table.cl T.n_Table_rules (vv 0)) (vv 1)))))))), ?_⟩
  obtain ⟨x, q, sh, un, kds, z, wd, pls, w, rfl, tb, hs, hw, hr', hk, q1, q2⟩ := h
  have lf := List.length_filterMap_le bdO pls
  have hrl := hr'.len
  have tO := tb.q
  refine (fun (tail : (valD kds (.inr z)).isSome = false → kds.length < 8 → wd = true → (?cont : Sx → Prop) ⟨[.val (.r x), .val (.s z), .val (ruleD pls w), .no, .no, .no, .no, .no, .no], M⟩) => ?main) ?tail
  case main =>
    cases wd with
    | false => exact ⟨rfl, z, rfl, .inr ⟨hw.f rfl, q2 rfl⟩⟩
    | true =>
      refine ⟨rfl, z, rfl, .inl ⟨hw.t rfl, ?_⟩⟩
      dsimp only [trD]
      refine ite2 (fun y => by cases y) (fun _ => ?_)
      refine ⟨_, _, tb.x, rfl, kds, .inr z, dk_r (lk := none) (by exact tb.q), rfl, ?_⟩
      cases e : (valD kds (.inr z)).isSome with
      | true => exact q2 (by unfold goodB; rw [e]; rfl)
      | false =>
        refine ⟨_, _, tb.x, rfl, kds, dku_r (by exact tb.q), ite2 (fun y => ?_) (fun y => ?_)⟩
        · have y' : (8 : Int) ≤ (kds.length : Nat) := of_decide_eq_true y
          exact q2 (by unfold goodB; rw [e, decide_eq_false (by omega)]; rfl)
        · have y' : ¬ (8 : Int) ≤ (kds.length : Nat) := fun h => y (decide_eq_true h)
          exact tail e (by omega) rfl
  case tail =>
    intro e1 e2 e3
    subst e3
    have hg : goodB sh kds true z pls w = fitR sh pls w := by
      unfold goodB
      rw [e1, decide_eq_true e2]
      simp
    rw [hg] at q1 q2
    have pO : ∀ d ∈ pls.map pl2, ∃ b f, d = .t [b, f] ∧ b.isO = false ∧ f.isO = false := fun d hd => by
      obtain ⟨y, hy, rfl⟩ := List.mem_map.mp hd
      exact ⟨y.1, y.2, rfl, hr'.b y hy, fkO (hr'.f y.2 (List.mem_cons_of_mem _ (List.mem_append_right _ (List.mem_map.mpr ⟨y, hy, rfl⟩)))).1⟩
    have wO : w.isO = false := fkO (hr'.f w (List.mem_cons_self ..)).1
    refine ⟨rfl, ?_⟩
    conv => whnf
    refine lc_pure (ds := pls.map pl2) bdD (fun d hd R1 R2 hR => ?_) (fun d hd y e => ?_) (by rw [List.length_map, sizeLine_eq]; omega) ?_
    · obtain ⟨b, f, rfl, bO, fO⟩ := pO d hd
      have hb := hR _ ((Agr.wipe.set (i := 7) (x := .val b) (by decide)).set (i := 8) (x := .val f) (by decide))
      cases b <;> first | (cases bO; done) | exact hb
    · obtain ⟨b, f, rfl, bO, fO⟩ := pO d hd
      by_cases hb : b.isN = true
      · rw [show bdD (.t [b, f]) = none from if_pos hb] at e
        cases e
      · rw [show bdD (.t [b, f]) = some b from if_neg hb] at e
        cases e
        exact bO
    rw [bd_pls]
    refine ⟨rfl, ?_⟩
    refine lc_map (ds := pls.map pl2) fmD (fun d hd R1 hR1 => ?_) (fun d hd => ?_) (by rw [List.length_map, sizeLine_eq]; omega) ?_
    · obtain ⟨b, f, rfl, bO, fO⟩ := pO d hd
      exact hR1 _ ((Agr.wipe.set (i := 7) (x := .val b) (by decide)).set (i := 8) (x := .val f) (by decide))
    · obtain ⟨b, f, rfl, bO, fO⟩ := pO d hd
      exact fO
    rw [fm_pls]
    refine ⟨rfl, ?_⟩
    have aO : ∀ d ∈ allF pls w, d.isO = false := fun d hd => fkO (hr'.f d hd).1
    have al : (allF pls w).length ≤ 1000 := by
      unfold allF
      rw [List.length_cons, List.length_append, List.length_map]
      omega
    refine ⟨wO, _, rfl, rfl, fun d hd => aO d (List.mem_cons_of_mem _ (List.mem_append_left _ hd)), _, rfl, rfl, fun d hd => aO d (List.mem_cons_of_mem _ (List.mem_append_right _ hd)), ?_⟩
    have el : w :: (pls.filterMap bdO ++ (pls.map (·.2) ++ [])) = allF pls w := by rw [List.append_nil]; rfl
    refine ⟨by rw [el]; exact sz_le al, ?_⟩
    show lcGo _ _ _ _ _ (w :: (pls.filterMap bdO ++ (pls.map (·.2) ++ []))) [] _
    rw [el]
    refine lc_map (ds := allF pls w) (fun d => .b (fitB sh d)) (fun d hd R1 hR1 => ?_) (fun d hd => rfl) (sz_le al) ?_
    · exact ⟨_, _, tb.x, rfl, _, ⟨rfl, rfl⟩, rfl, aO d hd, true, sh, un, d, rfl, hs.1, hs.2, (hr'.f d hd).1, (hr'.f d hd).2, hR1 _ (Agr.wipe.set (i := 8) (x := .val d) (by decide))⟩
    · have eb : (allF pls w).map (fun d => Da.b (fitB sh d)) = ((allF pls w).map (fitB sh)).map Da.b := by rw [List.map_map]; rfl
      have ea : ((allF pls w).map (fitB sh)).all id = fitR sh pls w := by unfold fitR; rw [List.all_map]; rfl
      refine ⟨_, _, rfl, by rw [eb]; exact bools_map _, ?_⟩
      rw [ea]
      cases ef : fitR sh pls w with
      | true => exact ⟨_, _, tb.x, rfl, rfl, q, kds, .inr z, rfl, tb.q, rfl, by rw [sizeLine_eq]; omega, q1 ef⟩
      | false => exact q2 ef
end
end VL
set_option Elab.async false
set_option linter.all false
set_option pp.maxSteps 3000
set_option maxRecDepth 100000
set_option maxHeartbeats 1000000
namespace VL
open PySem PySem.Spec PyProof.Rows L2
section
variable {P : Program} {w : World} {K : PySem.W.Frag} {mg : Str → Option Value} {base : Heap}
structure PlOk (sh : List (Str × Str)) (lt : Str) (n : Nat) (x : Option Da × Da) : Prop where
  b : ∀ f, x.1 = some f → Fo sh lt n f
  f : Fo sh lt n x.2
theorem Pd.mono {d : Da} {n m : Nat} (h : Pd d n) (hm : n ≤ m) : Pd d m := ⟨h.pl, Nat.le_trans h.dp hm⟩
def dc_l_rule : DC := fun ds M Q _ => ∃ (p q : Addr) (sh : List (Str × Str)) (lt : Str) (most d : Nat), ds = [.r p, .r q, .s lt, .i most, .i d] ∧ q ≠ p ∧ Tp M p ∧ M q = some (.dk none (shD sh)) ∧ Shp sh ∧ lt.cps.toList.length ≤ 26 ∧ most ≤ 20 ∧ d ≤ 1 ∧
      ∀ (pls : List (Option Da × Da)) (f : Da) (M' : Mx), Tto p M M' → pls.length ≤ most → (∀ x ∈ pls, PlOk sh lt (d + 1) x) → Fo sh lt (d + 1) f → Q (.t [.t (pls.map plD), f]) M'
theorem ok_l_rule (T : Tx P K mg) (G_l_form : FnOk P w K mg base (L2.CX P w) 3 T.f_l_form T.fd_l_form ["_law_tape_here", "_law_shapes", "_law_letters", "_law_depth"] (spOf K (dc_l_form 2))) (G_l_take : FnOk P w K mg base (L2.CX P w) 1 T.f_l_take T.fd_l_take ["_law_tape_here", "_law_many"] (spOf K dc_l_take)) : FnOk P w K mg base (L2.CX P w) 4 T.f_l_rule T.fd_l_rule ["_law_tape_here", "_law_shapes", "_law_letters", "_law_most", "_law_depth"] (spOf K dc_l_rule) := by
  have sc := scLRule
  refine okD T.d_l_rule.F sc (fun ds M Q X h => ?_) (fun cdv A outer s H E c ds M Qd Xd hn hr h hX => ?_)
  · obtain ⟨p, q, sh, lt, most, d, rfl, _⟩ := h
    rfl
  have tk := takes_of (X := cxOf (L2.CX P w) P w K mg base NLRule "_law_rule" (defScope sLRule) T.f_l_rule cdv A outer s H E) rfl rfl rfl rfl
  refine ⟨_, (ss_cons (s_own (i := 5) sc.nd rfl (by first | exact .inl rfl | exact .inr rfl) (by rw [hn]; decide) (v_lst v_nil))
  (ss_cons (s_for (passes_of rfl) rfl (i_rng1 (by rfl) T.n_range (v_call G_l_take (hr.mono (by decide)) (by rfl) T.d_l_take.g T.d_l_take.F.kp T.d_l_take.b tk hX (v_cons (vv 0) (v_cons (v_op op_addA lAdd (vv 3) vi) v_nil)))) (pg_name (i := 6) sc.nd rfl (by first | exact .inl rfl | exact .inr rfl)) (lgN (i := 6) (by rw [hn]; decide))
  (ss_cons (s_set (i := 7) sc.nd rfl (by first | exact .inl rfl | exact .inr rfl) (by rw [hn]; decide) vn)
  (ss_cons (s_if (vt_cmp (op_eqA hr.units) lEq (nomark _) (v_call G_l_take (hr.mono (by decide)) (by rfl) T.d_l_take.g T.d_l_take.F.kp T.d_l_take.b tk hX (v_cons (vv 0) (v_cons vi v_nil))) vi)
  (ss_one (s_set (i := 7) sc.nd rfl (by first | exact .inl rfl | exact .inr rfl) (by rw [hn]; decide) (v_call G_l_form (hr.mono (by decide)) (by rfl) T.d_l_form.g T.d_l_form.F.kp T.d_l_form.b tk hX (v_cons (vv 0) (v_cons (vv 1) (v_cons (vv 2) (v_cons (vv 4) v_nil)))))))
  ss_nil)
  (ss_one (s_expr (v_met PySem.F.plainAttrs_list PySem.F.slot_list_append PySem.F.type_list_append mt_append tyL_ok lAppend (vv 5) (v_tup (v_cons (vv 7) (v_cons (v_call G_l_form (hr.mono (by decide)) (by rfl) T.d_l_form.g T.d_l_form.F.kp T.d_l_form.b tk hX (v_cons (vv 0) (v_cons (vv 1) (v_cons (vv 2) (v_cons (vv 4) v_nil))))) v_nil)))))))))
  (ss_one (s_ret (v_tup (v_cons (v_ct1 call_tupleA lTuple (by rfl) T.n_tuple (by decide +kernel) (vv 5)) (v_cons (v_call G_l_form (hr.mono (by decide)) (by rfl) T.d_l_form.g T.d_l_form.F.kp T.d_l_form.b tk hX (v_cons (vv 0) (v_cons (vv 1) (v_cons (vv 2) (v_cons (vv 4) v_nil))))) v_nil))))))), ?_⟩
  obtain ⟨p, q, sh, lt, most, d, rfl, hpq, hp, hq, hs, hlt, hm, hd, qq⟩ := h
  have keep : ∀ {M1}, Tto p M M1 → M1 q = some (.dk none (shD sh)) := fun t => (t.out q hpq).trans hq
  refine ⟨by show 0 ≤ sizeLine; decide, fun p5 n5 => ⟨rfl, rfl, p, most + 1, rfl, hp, by omega, fun r M1 hr t1 => ⟨by omega, by omega, ?_⟩⟩⟩
  refine forGo_rng0 (fun k S => ∃ (pls : List (Option Da × Da)) (y6 y7 : Slx) (M2 : Mx), pls.length = k ∧ (∀ x ∈ pls, PlOk sh lt (d + 1) x) ∧ Tto p M M2 ∧ S = ⟨[.val (.r p), .val (.r q), .val (.s lt), .val (.i most), .val (.i d), .own p5 (pls.map plD), y6, y7], M2⟩)
    (fun k S hk h R hR => ?_) (fun S h => ?_) _ ⟨[], .no, .no, M1, rfl, by simp, t1, rfl⟩
  · obtain ⟨pls, y6, y7, M2, hl, hpl, t2, rfl⟩ := h
    have ends : ∀ (bd : Option Da) (M3 : Mx), (∀ f, bd = some f → Fo sh lt (d + 1) f) → Tto p M M3 →
        (wDrop (wMet tyL rdAppend (wVar 5) (wTup (wCons (wVar 7) (wCons (wCall (dc_l_form 2) [] (fun cls ofs S' => Xd cls ofs S'.M) (wCons (wVar 0) (wCons (wVar 1) (wCons (wVar 2) (wCons (wVar 4) wNil))))) wNil)))))
        { nx := R, rt := fun d S' => Qd d S'.M } ⟨[.val (.r p), .val (.r q), .val (.s lt), .val (.i most), .val (.i d), .own p5 (pls.map plD), .val (.i k), .val (optD' bd)], M3⟩ := fun bd M3 hb t3 => by
      have bO : (optD' bd).isO = false := by
        cases bd with
        | none => rfl
        | some f => exact (hb f rfl).nO
      refine ⟨⟨_, rfl⟩, bO, rfl, rfl, rfl, rfl, p, q, sh, lt, d, rfl, hpq, t3.tp, keep t3, hs, hlt, by omega, fun f M4 t4 hf => ?_⟩
      refine ⟨hf.nO, by show 2 ≤ sizeLine; decide, _, _, rfl, rfl, by rw [List.length_map, sizeLine_eq]; omega, rfl, ?_⟩
      refine hR _ ⟨pls ++ [(bd, f)], _, _, M4, by rw [List.length_append, hl]; rfl, fun x hx => ?_, t3.trans t4, by rw [List.map_append]; rfl⟩
      rcases List.mem_append.mp hx with hx | hx
      · exact hpl x hx
      · rw [List.mem_singleton.mp hx]
        exact ⟨hb, hf⟩
    refine ⟨rfl, rfl, rfl, p, 3, rfl, t2.tp, by decide, fun r M3 hr t3 => .inl ⟨rfl, rfl, rfl, ite2 (fun _ => ?_) (fun _ => ?_)⟩⟩
    · refine ⟨rfl, rfl, rfl, rfl, p, q, sh, lt, d, rfl, hpq, t3.tp, keep (t2.trans t3), hs, hlt, by omega, fun f M4 t4 hf => ?_⟩
      exact ⟨hf.nO, ends (some f) M4 (fun g e => by cases e; exact hf) ((t2.trans t3).trans t4)⟩
    · exact ends none M3 (fun g e => by cases e) (t2.trans t3)
  · obtain ⟨pls, y6, y7, M2, hl, hpl, t2, rfl⟩ := h
    refine ⟨_, rfl, rfl, rfl, rfl, rfl, rfl, p, q, sh, lt, d, rfl, hpq, t2.tp, keep t2, hs, hlt, by omega, fun f M4 t4 hf => ?_⟩
    exact ⟨hf.nO, by show 2 ≤ sizeLine; decide, rfl, qq pls f M4 (t2.trans t4) (by omega) hpl hf⟩
/-- a form with letters -/
structure Gf (d : Da) : Prop where
  k : Fk true d
  z : d.sz ≤ 1000
  p : Pd d 2
theorem fo_gf {sh : List (Str × Str)} (hs : Shp sh) {f : Da} (h : Fo sh (Str.ofString "AB") 2 f) : Gf f := by
  have hc : ∀ c ∈ (Str.ofString "AB").cps.toList, 65 ≤ c ∧ c ≤ 90 := by decide +kernel
  exact ⟨fo_fkl hs hc h, Nat.le_trans (fo_sz hs h) (by decide), fo_pd hs hc h⟩
theorem rl_of {pls : List (Da × Da)} {w : Da} (hl : pls.length ≤ 4) (h : ∀ x ∈ pls, (x.1 = .n ∨ Gf x.1) ∧ Gf x.2) (hw : Gf w) : RlOk pls w ∧ (ruleD pls w).eqb = true := by
  refine ⟨⟨hl, fun d hd => ?_, fun x hx => ?_⟩, ?_⟩
  · unfold allF at hd
    rcases List.mem_cons.mp hd with rfl | hd
    · exact ⟨hw.k, hw.z⟩
    rcases List.mem_append.mp hd with hd | hd
    · obtain ⟨x, hx, e⟩ := List.mem_filterMap.mp hd
      unfold bdO at e
      rcases (h x hx).1 with e1 | g
      · rw [e1] at e; cases e
      · split at e
        · cases e
        · cases e; exact ⟨g.k, g.z⟩
    · obtain ⟨x, hx, rfl⟩ := List.mem_map.mp hd
      exact ⟨(h x hx).2.k, (h x hx).2.z⟩
  · rcases (h x hx).1 with e1 | g
    · rw [e1]; rfl
    · exact fkO g.k
  · refine (Pd.t (n := 5) fun d hd => ?_).eqb (by decide)
    simp only [List.mem_cons, List.not_mem_nil, or_false] at hd
    rcases hd with rfl | rfl
    · refine (Pd.t (n := 3) fun d hd => ?_).mono (by decide)
      obtain ⟨x, hx, rfl⟩ := List.mem_map.mp hd
      refine Pd.t (n := 2) fun d hd => ?_
      simp only [pl2, List.mem_cons, List.not_mem_nil, or_false] at hd
      rcases hd with rfl | rfl
      · rcases (h x hx).1 with e1 | g
        · rw [e1]; exact .n
        · exact g.p
      · exact (h x hx).2.p
    · exact hw.p.mono (by decide)
theorem fit_of {sh : List (Str × Str)} {pls : List (Da × Da)} {w : Da} (h : ∀ x ∈ pls, (x.1 = .n ∨ fitB sh x.1 = true) ∧ fitB sh x.2 = true) (hw : fitB sh w = true) : fitR sh pls w = true := by
  unfold fitR
  rw [List.all_eq_true]
  intro d hd
  unfold allF at hd
  rcases List.mem_cons.mp hd with rfl | hd
  · exact hw
  rcases List.mem_append.mp hd with hd | hd
  · obtain ⟨x, hx, e⟩ := List.mem_filterMap.mp hd
    unfold bdO at e
    rcases (h x hx).1 with e1 | g
    · rw [e1] at e; cases e
    · split at e
      · cases e
      · cases e; exact g
  · obtain ⟨x, hx, rfl⟩ := List.mem_map.mp hd
    exact (h x hx).2
end
end VL
set_option Elab.async false
set_option linter.all false
set_option pp.maxSteps 3000
set_option maxRecDepth 100000
set_option maxHeartbeats 1000000
namespace VL
open PySem PySem.Spec PyProof.Rows L2
section
variable {P : Program} {w : World} {K : PySem.W.Frag} {mg : Str → Option Value} {base : Heap}
def dirB (z : Str) : Bool := decide (z = Str.ofString "told") || decide (z = Str.ofString "found")
def stD1 (p : Int × Str) : Da := .t [.i p.1, .s p.2]
def wD (z : Str) (st : List (Int × Str)) (nt : List Int) : Da := .t [.s z, .t (st.map stD1), .t (nt.map .i)]
def listed (st : List (Int × Str)) : List Int := st.map (·.1)
def ascN (st : List (Int × Str)) (nt : List Int) : List Int := ((List.range st.length).map fun (k : Nat) => (k : Int)).filter fun k => decide (k ∈ nt)
def dirsB (z : Str) (st : List (Int × Str)) : Bool := (z :: st.map (·.2)).all dirB
def onceB (st : List (Int × Str)) : Bool := decide (st.length ≤ 3) && (List.range st.length).all fun (k : Nat) => decide ((listed st).count (k : Int) = 1)
def wayB (z : Str) (st : List (Int × Str)) (nt : List Int) : Bool := dirsB z st && onceB st && decide ((ascN st nt).length = nt.length)
def sndD : Da → Da
  | .t [_, s] => s
  | d => d
def fstD : Da → Da
  | .t [k, _] => k
  | d => d
def dirD : Da → Da
  | .s x => .b (dirB x)
  | d => d
theorem dir_in (x : Str) : inD (.s x) [Da.s (Str.ofString "told"), Da.s (Str.ofString "found")] = dirB x := by
  have := inD_s x [Str.ofString "told", Str.ofString "found"]
  simp only [List.map_cons, List.map_nil] at this
  rw [this]
  unfold dirB
  by_cases h1 : x = Str.ofString "told"
  · simp [h1]
  · by_cases h2 : x = Str.ofString "found"
    · simp [h2]
    · simp [h1, h2]
theorem snd_st (st : List (Int × Str)) : (st.map stD1).map sndD = (st.map (·.2)).map Da.s := by rw [List.map_map, List.map_map]; rfl
theorem fst_st (st : List (Int × Str)) : (st.map stD1).map fstD = (listed st).map Da.i := by unfold listed; rw [List.map_map, List.map_map]; rfl
theorem dir_map (l : List Str) : (l.map Da.s).map dirD = (l.map dirB).map Da.b := by rw [List.map_map, List.map_map]; rfl
theorem inD_i : ∀ (z : Int) (l : List Int), inD (.i z) (l.map Da.i) = decide (z ∈ l) := fun z l => by
  unfold inD inV
  induction l with
  | nil => simp
  | cons a l ih =>
    simp only [List.map_cons, List.any_cons] at ih ⊢
    rw [ih]
    have : eqV (Da.i a).va (Da.i z).va = decide (z = a) := by
      show eqV (V.int a) (V.int z) = _
      unfold eqV
      by_cases h : z = a
      · subst h; simp
      · simp [h, Ne.symm h]
    rw [this]
    simp
def cntD (st : List (Int × Str)) : Da → Da
  | .i k => .b (decide ((((listed st).count k : Nat) : Int) = 1))
  | d => d
def ascD (nt : List Int) : Da → Option Da
  | .i k => if decide (k ∈ nt) = true then some (.i k) else none
  | _ => none
theorem cnt_rng (st : List (Int × Str)) (n : Nat) : (rngD 0 n).map (cntD st) = ((List.range n).map fun (k : Nat) => decide ((listed st).count (k : Int) = 1)).map Da.b := by
  unfold rngD
  rw [List.map_map, List.map_map]
  refine List.map_congr_left fun k _ => ?_
  show Da.b (decide ((((listed st).count (0 + (k : Int)) : Nat) : Int) = 1)) = Da.b (decide ((listed st).count (k : Int) = 1))
  rw [Int.zero_add]
  exact congrArg Da.b (dec_of (by omega))
theorem asc_rng (st : List (Int × Str)) (nt : List Int) : (rngD 0 st.length).filterMap (ascD nt) = (ascN st nt).map Da.i := by
  unfold rngD ascN
  induction List.range st.length with
  | nil => rfl
  | cons a l ih =>
    rw [List.map_cons, List.map_cons, List.filterMap_cons, List.filter_cons, Int.zero_add (a : Int)]
    by_cases h : decide ((a : Int) ∈ nt) = true
    · rw [show ascD nt (.i (a : Int)) = some (.i (a : Int)) from if_pos h, if_pos h, List.map_cons, ih]
    · rw [show ascD nt (.i (a : Int)) = none from if_neg h, if_neg h, ih]
def dc_way (CB : Addr) : DC := fun ds M Q X => ∃ (z : Str) (st : List (Int × Str)) (nt : List Int), ds = [.s z, .t (st.map stD1), .t (nt.map .i)] ∧ st.length ≤ 1000 ∧ nt.length ≤ 1000 ∧ (wayB z st nt = true → Q (wD z st (ascN st nt)) M) ∧ (wayB z st nt = false → X (.ref CB) none M)
theorem ok_way (T : Tx P K mg)  : FnOk P w K mg base (L2.CX P w) 1 T.f_way T.fd_way ["whole", "places", "noted"] (spOf K (dc_way T.C_BadWay)) := by
  have sc := scWay
  refine okDD T.d_way.F sc (fun ds M Q X h => ?_) (fun cdv A outer s H E c ds M Qd Xd hn hr h hX => ?_)
  · obtain ⟨z, st, nt, rfl, _⟩ := h
    rfl
  have tk := takes_of (X := cxOf (L2.CX P w) P w K mg base NWay "way" (defScope sWay) T.f_way cdv A outer s H E) rfl rfl rfl rfl
  refine ⟨_, (ss_cons (s_set (i := 3) sc.nd rfl (by first | exact .inl rfl | exact .inr rfl) (by rw [hn]; decide) (v_ct1 call_tupleA lTuple (by rfl) T.n_tuple (by decide +kernel) (vOf (v_lc rfl sc.nd (i_sq (vv 1)) (blkOk_by (own := [("place", 6), ("direction", 7)]) (N := NWay) (sc := defScope sWay) (by decide +kernel)) (fun c1 e1 => (lgT (n := 2) (lgs_cons (lgN (i := 6) (by rw [e1, hn]; decide)) (lgs_cons (lgN (i := 7) (by rw [e1, hn]; decide)) lgs_nil)) (lenN (lenN len0)))) (fun _ _ _ _ _ => (pg_tup (by rfl) (pgs_cons (pg_name (i := 6) sc.nd rfl (by first | exact .inl rfl | exact .inr rfl)) (pgs_cons (pg_name (i := 7) sc.nd rfl (by first | exact .inl rfl | exact .inr rfl)) pgs_nil)))) (fun _ _ _ _ _ _ _ => ts_nil) (fun _ _ _ _ _ c1 e1 => (v_tup (v_cons (vv 6) (v_cons (vv 7) v_nil)))) (by decide)))))
  (ss_cons (s_if (v_not (vB (v_cb1 (cr_all rfl) lAll (by rfl) T.n_all (by decide +kernel) (vOf (v_lc rfl sc.nd (i_sq (vOf (v_lst (v_cons (vv 0) (v_star (vOf (v_lc rfl sc.nd (i_sq (vv 3)) (blkOk_by (own := [("step", 8)]) (N := NWay) (sc := defScope sWay) (by decide +kernel)) (fun c1 e1 => (lgN (i := 8) (by rw [e1, hn]; decide))) (fun _ _ _ _ _ => (pg_name (i := 8) sc.nd rfl (by first | exact .inl rfl | exact .inr rfl))) (fun _ _ _ _ _ _ _ => ts_nil) (fun _ _ _ _ _ c1 e1 => (v_ix (vv 8) vi (fun _ _ => rfl))) (by decide))) v_nil))))) (blkOk_by (own := [("direction", 7)]) (N := NWay) (sc := defScope sWay) (by decide +kernel)) (fun c1 e1 => (lgN (i := 7) (by rw [e1, hn]; decide))) (fun _ _ _ _ _ => (pg_name (i := 7) sc.nd rfl (by first | exact .inl rfl | exact .inr rfl))) (fun _ _ _ _ _ _ _ => ts_nil) (fun _ _ _ _ _ c1 e1 => (v_cmp op_inA lIn (by rfl) (vv 7) (v_tup (v_cons vs (v_cons vs v_nil))))) (by decide))))))
  (ss_one (s_raise rfl tk hX PySem.F.excBase_ValueError T.x_BadWay.ex T.x_BadWay.g T.x_BadWay.kp (raises_own T.x_BadWay.sb T.x_BadWay.ty) rfl))
  ss_nil)
  (ss_cons (s_set (i := 4) sc.nd rfl (by first | exact .inl rfl | exact .inr rfl) (by rw [hn]; decide) (vOf (v_lc rfl sc.nd (i_sq (vv 3)) (blkOk_by (own := [("step", 8)]) (N := NWay) (sc := defScope sWay) (by decide +kernel)) (fun c1 e1 => (lgN (i := 8) (by rw [e1, hn]; decide))) (fun _ _ _ _ _ => (pg_name (i := 8) sc.nd rfl (by first | exact .inl rfl | exact .inr rfl))) (fun _ _ _ _ _ _ _ => ts_nil) (fun _ _ _ _ _ c1 e1 => (v_ix (vv 8) vi (fun _ _ => rfl))) (by decide))))
  (ss_cons (s_if (PW.pt (v_or (vt_cmp op_gt lC (nomark _) (v_cb1 call_lenA lLen (by rfl) T.n_len (by decide +kernel) (vv 4)) vi) (pw_or1 (v_not (vB (v_cb1 (cr_all rfl) lAll (by rfl) T.n_all (by decide +kernel) (vOf (v_lc rfl sc.nd (i_rng1 (by rfl) T.n_range (v_cb1 call_lenA lLen (by rfl) T.n_len (by decide +kernel) (vv 4))) (blkOk_by (own := [("place", 6)]) (N := NWay) (sc := defScope sWay) (by decide +kernel)) (fun c1 e1 => (lgN (i := 6) (by rw [e1, hn]; decide))) (fun _ _ _ _ _ => (pg_name (i := 6) sc.nd rfl (by first | exact .inl rfl | exact .inr rfl))) (fun _ _ _ _ _ _ _ => ts_nil) (fun _ _ _ _ _ c1 e1 => (v_cmp (op_eqA hr.units) lEq (nomark _) (v_met PySem.F.plainAttrs_list PySem.F.slot_list_count PySem.F.type_list_count mt_lcount tyL_ok lCount (vv 4) (vv 6)) vi)) (by decide)))))))))
  (ss_one (s_raise rfl tk hX PySem.F.excBase_ValueError T.x_BadWay.ex T.x_BadWay.g T.x_BadWay.kp (raises_own T.x_BadWay.sb T.x_BadWay.ty) rfl))
  ss_nil)
  (ss_cons (s_set (i := 5) sc.nd rfl (by first | exact .inl rfl | exact .inr rfl) (by rw [hn]; decide) (v_ct1 call_tupleA lTuple (by rfl) T.n_tuple (by decide +kernel) (vOf (v_lc rfl sc.nd (i_rng1 (by rfl) T.n_range (v_cb1 call_lenA lLen (by rfl) T.n_len (by decide +kernel) (vv 4))) (blkOk_by (own := [("place", 6)]) (N := NWay) (sc := defScope sWay) (by decide +kernel)) (fun c1 e1 => (lgN (i := 6) (by rw [e1, hn]; decide))) (fun _ _ _ _ _ => (pg_name (i := 6) sc.nd rfl (by first | exact .inl rfl | exact .inr rfl))) (fun _ _ _ _ _ c1 e1 => ts_one (vt_cmp op_inA lIn (by rfl) (vv 6) (vv 2))) (fun _ _ _ _ _ c1 e1 => (vv 6)) (by decide)))))
  (ss_cons (s_if (vt_cmp (op_neA hr.units) lNe (nomark _) (v_cb1 call_lenA lLen (by rfl) T.n_len (by decide +kernel) (vv 5)) (v_cb1 call_lenA lLen (by rfl) T.n_len (by decide +kernel) (vv 2)))
  (ss_one (s_raise rfl tk hX PySem.F.excBase_ValueError T.x_BadWay.ex T.x_BadWay.g T.x_BadWay.kp (raises_own T.x_BadWay.sb T.x_BadWay.ty) rfl))
  ss_nil)
  (ss_one (s_ret (v_tup (v_cons (vv 0) (v_cons (vv 3) (v_cons (vv 5) v_nil)))))))))))), ?_⟩
  obtain ⟨z, st, nt, rfl, hl, hn2, q1, q2⟩ := h
  have pO : ∀ d ∈ st.map stD1, ∃ k s, d = .t [.i k, .s s] := fun d hd => by
    obtain ⟨y, hy, rfl⟩ := List.mem_map.mp hd
    exact ⟨y.1, y.2, rfl⟩
  have lz : st.length ≤ sizeLine := sz_le hl
  conv => whnf
  refine lc_map (ds := st.map stD1) id ?_ (fun d hd => ?_) (by rw [List.length_map]; exact lz) ?_
  · intro d hd R1 hR1
    obtain ⟨k, s, rfl⟩ := pO d hd
    exact ⟨rfl, rfl, by show 2 ≤ sizeLine; decide, hR1 _ ((Agr.wipe.set (i := 6) (x := .val (.i k)) (by decide)).set (i := 7) (x := .val (.s s)) (by decide))⟩
  · obtain ⟨k, s, rfl⟩ := pO d hd
    rfl
  rw [List.map_id]
  refine ⟨rfl, ?_⟩
  let TO1 : Sx → Prop := fun S => S = ⟨[.val (.s z), .val (.t (st.map stD1)), .val (.t (nt.map .i)), .val (.t (st.map stD1)), .no, .no, .no, .no, .no], M⟩
  apply via_tail (TOk := TO1)
  case main => intro tail; exact tail _ rfl
  case tail =>
    rintro S rfl
    refine ⟨rfl, ?_⟩
    conv => whnf
    refine lc_map (ds := st.map stD1) sndD ?_ (fun d hd => ?_) (by rw [List.length_map]; exact lz) ?_
    · intro d hd R1 hR1
      obtain ⟨k, s, rfl⟩ := pO d hd
      exact ⟨_, atI_nat (j := 1) rfl, hR1 _ (Agr.wipe.set (i := 8) (x := .val (.t [.i k, .s s])) (by decide))⟩
    · obtain ⟨k, s, rfl⟩ := pO d hd
      rfl
    rw [snd_st]
    refine ⟨_, rfl, rfl, fun x hx => ?_, ?_⟩
    · obtain ⟨y, _, rfl⟩ := List.mem_map.mp hx
      rfl
    have eD : Da.s z :: ((st.map (·.2)).map Da.s ++ []) = (z :: st.map (·.2)).map Da.s := by rw [List.append_nil]; rfl
    have lD : ((z :: st.map (·.2)).map Da.s).length ≤ sizeLine := by rw [List.length_map, List.length_cons, List.length_map, sizeLine_eq]; omega
    refine ⟨by rw [eD]; exact lD, ?_⟩
    show lcGo _ _ _ _ _ (Da.s z :: ((st.map (·.2)).map Da.s ++ [])) [] _
    rw [eD]
    refine lc_map (ds := (z :: st.map (·.2)).map Da.s) dirD ?_ (fun d hd => ?_) lD ?_
    · intro d hd R1 hR1
      obtain ⟨x, hx, rfl⟩ := List.mem_map.mp hd
      refine ⟨rfl, rfl, by show 2 ≤ sizeLine; decide, _, rfl, rfl, rfl, ?_⟩
      rw [dir_in]
      exact hR1 _ (Agr.wipe.set (i := 7) (x := .val (.s x)) (by decide))
    · obtain ⟨x, hx, rfl⟩ := List.mem_map.mp hd
      rfl
    refine ⟨_, _, rfl, by rw [dir_map]; exact bools_map _, ?_⟩
    have ed : ((z :: st.map (·.2)).map dirB).all id = dirsB z st := by unfold dirsB; rw [List.all_map]; rfl
    rw [ed]
    cases eA : dirsB z st with
    | false => exact q2 (by unfold wayB; rw [eA]; rfl)
    | true =>
    let TO2 : Sx → Prop := fun S => S = ⟨[.val (.s z), .val (.t (st.map stD1)), .val (.t (nt.map .i)), .val (.t (st.map stD1)), .no, .no, .no, .no, .no], M⟩
    apply via_tail (TOk := TO2)
    case main => intro tail; exact tail _ rfl
    case tail =>
      rintro S rfl
      conv => whnf
      refine lc_map (ds := st.map stD1) fstD ?_ (fun d hd => ?_) (by rw [List.length_map]; exact lz) ?_
      · intro d hd R1 hR1
        obtain ⟨k, s, rfl⟩ := pO d hd
        exact ⟨_, atI_nat (j := 0) rfl, hR1 _ (Agr.wipe.set (i := 8) (x := .val (.t [.i k, .s s])) (by decide))⟩
      · obtain ⟨k, s, rfl⟩ := pO d hd
        rfl
      rw [fst_st]
      refine ⟨rfl, ?_⟩
      have ll : ((listed st).map Da.i).length = st.length := by unfold listed; rw [List.length_map, List.length_map]
      let TO3 : Sx → Prop := fun S => S = ⟨[.val (.s z), .val (.t (st.map stD1)), .val (.t (nt.map .i)), .val (.t (st.map stD1)), .val (.l ((listed st).map .i)), .no, .no, .no, .no], M⟩
      apply via_tail (TOk := TO3)
      case main => intro tail; exact tail _ rfl
      case tail =>
        rintro S rfl
        have bad : onceB st = false → Xd (.ref T.C_BadWay) none M := fun e => q2 (by unfold wayB; rw [eA, e]; rfl)
        refine ite2 (fun y => ?_) (fun y => ?_)
        · have y' : (3 : Int) < ((((listed st).map Da.i).length : Nat) : Int) := of_decide_eq_true y
          exact bad (by unfold onceB; rw [decide_eq_false (by omega)]; rfl)
        have y' : ¬ (3 : Int) < ((((listed st).map Da.i).length : Nat) : Int) := fun h => y (decide_eq_true h)
        have rl : (rngD 0 st.length).length = st.length := by unfold rngD; rw [List.length_map, List.length_range]
        refine ⟨by omega, by omega, ?_⟩
        rw [ll]
        show lcGo _ _ _ _ _ (rngD 0 st.length) [] _
        refine lc_map (ds := rngD 0 st.length) (cntD st) ?_ (fun d hd => ?_) (by rw [rl]; exact lz) ?_
        · intro d hd R1 hR1
          unfold rngD at hd
          obtain ⟨k, hk, rfl⟩ := List.mem_map.mp hd
          exact ⟨⟨_, rfl⟩, listed st, rfl, .inl ⟨rfl, rfl, rfl, hR1 _ (Agr.wipe.set (i := 6) (x := .val (.i (0 + (k : Int)))) (by decide))⟩⟩
        · unfold rngD at hd
          obtain ⟨k, hk, rfl⟩ := List.mem_map.mp hd
          rfl
        refine ⟨_, _, rfl, by rw [cnt_rng]; exact bools_map _, ?_⟩
        have eo : ((List.range st.length).map fun (k : Nat) => decide ((listed st).count (k : Int) = 1)).all id = onceB st := by
          unfold onceB
          rw [List.all_map, decide_eq_true (by omega), Bool.true_and]
          rfl
        rw [eo]
        cases eB : onceB st with
        | false => exact bad eB
        | true =>
        let TO4 : Sx → Prop := fun S => S = ⟨[.val (.s z), .val (.t (st.map stD1)), .val (.t (nt.map .i)), .val (.t (st.map stD1)), .val (.l ((listed st).map .i)), .no, .no, .no, .no], M⟩
        apply via_tail (TOk := TO4)
        case main => intro tail; exact tail _ rfl
        case tail =>
          rintro S rfl
          refine ⟨by omega, by omega, ?_⟩
          rw [ll]
          show lcGo _ _ _ _ _ (rngD 0 st.length) [] _
          have flN : (nt.map Da.i).all Da.fl = true := by
            rw [List.all_eq_true]; intro d hd; obtain ⟨y, _, rfl⟩ := List.mem_map.mp hd; rfl
          refine lc_pure (ds := rngD 0 st.length) (ascD nt) ?_ (fun d hd y e => ?_) (by rw [rl]; exact lz) ?_
          · intro d hd R1 R2 hR
            unfold rngD at hd
            obtain ⟨k, hk, rfl⟩ := List.mem_map.mp hd
            have := hR _ (Agr.wipe.set (i := 6) (x := .val (.i (0 + (k : Int)))) (by decide))
            refine ⟨_, rfl, rfl, flN, ?_⟩
            rw [inD_i]
            cases ek : decide (0 + (k : Int) ∈ nt) with
            | true =>
              rw [show ascD nt (.i (0 + (k : Int))) = some (.i (0 + (k : Int))) from if_pos ek] at this
              exact this
            | false =>
              rw [show ascD nt (.i (0 + (k : Int))) = none from if_neg (by rw [ek]; decide)] at this
              exact this
          · unfold rngD at hd
            obtain ⟨k, hk, rfl⟩ := List.mem_map.mp hd
            by_cases ek : decide (0 + (k : Int) ∈ nt) = true
            · rw [show ascD nt (.i (0 + (k : Int))) = some (.i (0 + (k : Int))) from if_pos ek] at e
              cases e; rfl
            · rw [show ascD nt (.i (0 + (k : Int))) = none from if_neg ek] at e
              cases e
          rw [asc_rng]
          refine ⟨rfl, .inl ⟨rfl, rfl, rfl, ?_⟩⟩
          have el : eqF (.i ((((ascN st nt).map Da.i).length : Nat) : Int)) (.i (((nt.map Da.i).length : Nat) : Int)) = decide ((ascN st nt).length = nt.length) := by
            rw [List.length_map, List.length_map]
            exact dec_of (by omega)
          rw [el]
          cases eC : decide ((ascN st nt).length = nt.length) with
          | false => exact q2 (by unfold wayB; rw [eA, eB, eC]; rfl)
          | true => exact ⟨rfl, rfl, rfl, by show 3 ≤ sizeLine; decide, rfl, q1 (by unfold wayB; rw [eA, eB, eC]; rfl)⟩
end
end VL
set_option Elab.async false
set_option linter.all false
set_option pp.maxSteps 3000
set_option maxRecDepth 100000
set_option maxHeartbeats 1000000
namespace VL
open PySem PySem.Spec PyProof.Rows L2
section
variable {P : Program} {w : World} {K : PySem.W.Frag} {mg : Str → Option Value} {base : Heap}
theorem eqv_ints : ∀ (a b : List Int), PyData.eqvAll (pys (a.map .i)) (pys (b.map .i)) = decide (a = b)
  | [], [] => rfl
  | [], b :: bs => by simp [pys, PyData.eqvAll]
  | a :: as, [] => by simp [pys, PyData.eqvAll]
  | a :: as, b :: bs => by
    simp only [List.map_cons, pys, PyData.eqvAll, eqv_ints as bs, Da.py, PyData.eqv, List.cons.injEq]
    rw [Bool.beq_eq_decide_eq, Bool.decide_and]
structure WOk (z : Str) (st : List (Int × Str)) (nt : List Int) : Prop where
  l1 : st.length ≤ 1000
  l2 : nt.length ≤ 1000
  z : PyData.strOk z = true
  s : ∀ p ∈ st, PyData.strOk p.2 = true
theorem pd_st {st : List (Int × Str)} (h : ∀ p ∈ st, PyData.strOk p.2 = true) : Pd (.t (st.map stD1)) 2 := Pd.t (n := 1) fun d hd => by
  obtain ⟨y, hy, rfl⟩ := List.mem_map.mp hd
  refine Pd.t (n := 0) fun d hd => ?_
  simp only [List.mem_cons, List.not_mem_nil, or_false] at hd
  rcases hd with rfl | rfl
  · exact .i
  · exact .s (h y hy)
theorem pd_wD {z : Str} {st : List (Int × Str)} {nt : List Int} (hz : PyData.strOk z = true) (h : ∀ p ∈ st, PyData.strOk p.2 = true) : Pd (wD z st nt) 3 := Pd.t (n := 2) fun d hd => by
  simp only [List.mem_cons, List.not_mem_nil, or_false] at hd
  rcases hd with rfl | rfl | rfl
  · exact .s hz
  · exact pd_st h
  · exact (Pd.t (n := 0) fun d hd => by obtain ⟨k, _, rfl⟩ := List.mem_map.mp hd; exact .i).mono (by decide)
theorem eqv_wD {z : Str} {st : List (Int × Str)} {a b : List Int} (hz : PyData.strOk z = true) (h : ∀ p ∈ st, PyData.strOk p.2 = true) : PyData.eqv (wD z st a).py (wD z st b).py = decide (a = b) := by
  have e1 := eqv_self ((Pd.s (n := 0) hz).eqb (by decide))
  have e2 := eqv_self ((pd_st h).eqb (by decide))
  simp only [Da.py, PyData.eqv] at e1 e2
  simp only [wD, Da.py, pys, PyData.eqv, PyData.eqvAll, Bool.and_true, e1, e2, eqv_ints, Bool.true_and]
def bndB (pls : List (Da × Da)) (k : Int) : Bool := match atI pls k with
  | some x => !x.1.isN
  | none => false
def chkB (pls : List (Da × Da)) (z : Str) (st : List (Int × Str)) (nt : List Int) : Bool := wayB z st nt && decide (ascN st nt = nt) && decide (st.length = pls.length) && nt.all (bndB pls)
theorem asc_lt {st : List (Int × Str)} {nt : List Int} (h : ascN st nt = nt) : ∀ k ∈ nt, ∃ j : Nat, k = (j : Int) ∧ j < st.length := fun k hk => by
  rw [← h] at hk
  unfold ascN at hk
  obtain ⟨h1, _⟩ := List.mem_filter.mp hk
  obtain ⟨j, hj, rfl⟩ := List.mem_map.mp h1
  exact ⟨j, rfl, List.mem_range.mp hj⟩
def bndD (pls : List (Da × Da)) : Da → Da
  | .i k => .b (bndB pls k)
  | d => d
def dc_check_way (CB : Addr) : DC := fun ds M Q X => ∃ (pls : List (Da × Da)) (z : Str) (st : List (Int × Str)) (nt : List Int), ds = [.t (pls.map pl2), wD z st nt] ∧ pls.length ≤ 1000 ∧ (∀ x ∈ pls, x.1.isO = false) ∧ WOk z st nt ∧ (chkB pls z st nt = true → Q .n M) ∧ (chkB pls z st nt = false → X (.ref CB) none M)
theorem ok_check_way (T : Tx P K mg) (G_way : FnOk P w K mg base (L2.CX P w) 1 T.f_way T.fd_way ["whole", "places", "noted"] (spOf K (dc_way T.C_BadWay))) : FnOk P w K mg base (L2.CX P w) 2 T.f_check_way T.fd_check_way ["places", "row"] (spOf K (dc_check_way T.C_BadWay)) := by
  have sc := scCheckWay
  refine okD T.d_check_way.F sc (fun ds M Q X h => ?_) (fun cdv A outer s H E c ds M Qd Xd hn hr h hX => ?_)
  · obtain ⟨pls, z, st, nt, rfl, _⟩ := h
    rfl
  have tk := takes_of (X := cxOf (L2.CX P w) P w K mg base NCheckWay "_check_way" (defScope sCheckWay) T.f_check_way cdv A outer s H E) rfl rfl rfl rfl
  refine ⟨_, (ss_cons (s_if (PW.pt (v_or (v_not (vB (v_isi isi_tuple (by rfl) T.n_isinstance (by rfl) T.n_tuple (by decide +kernel) (vv 1)))) (v_or (vt_cmp (op_neA hr.units) lNe (nomark _) (v_cb1 call_lenA lLen (by rfl) T.n_len (by decide +kernel) (vv 1)) vi) (v_or (v_not (vB (v_isi isi_tuple (by rfl) T.n_isinstance (by rfl) T.n_tuple (by decide +kernel) (v_ix (vv 1) vi (fun _ _ => rfl))))) (pw_or1 (v_not (vB (v_isi isi_tuple (by rfl) T.n_isinstance (by rfl) T.n_tuple (by decide +kernel) (v_ix (vv 1) vi (fun _ _ => rfl))))))))))
  (ss_one (s_raise rfl tk hX PySem.F.excBase_ValueError T.x_BadWay.ex T.x_BadWay.g T.x_BadWay.kp (raises_own T.x_BadWay.sb T.x_BadWay.ty) rfl))
  ss_nil)
  (ss_cons (s_if (v_not (vB (v_cb1 (cr_all rfl) lAll (by rfl) T.n_all (by decide +kernel) (vOf (v_lc rfl sc.nd (i_sq (v_ix (vv 1) vi (fun _ _ => rfl))) (blkOk_by (own := [("step", 2)]) (N := NCheckWay) (sc := defScope sCheckWay) (by decide +kernel)) (fun c1 e1 => (lgN (i := 2) (by rw [e1, hn]; decide))) (fun _ _ _ _ _ => (pg_name (i := 2) sc.nd rfl (by first | exact .inl rfl | exact .inr rfl))) (fun _ _ _ _ _ _ _ => ts_nil) (fun _ _ _ _ _ c1 e1 => (ve_and (v_isi isi_tuple (by rfl) T.n_isinstance (by rfl) T.n_tuple (by decide +kernel) (vv 2)) (pe_one (v_cmp (op_eqA hr.units) lEq (nomark _) (v_cb1 call_lenA lLen (by rfl) T.n_len (by decide +kernel) (vv 2)) vi)))) (by decide))))))
  (ss_one (s_raise rfl tk hX PySem.F.excBase_ValueError T.x_BadWay.ex T.x_BadWay.g T.x_BadWay.kp (raises_own T.x_BadWay.sb T.x_BadWay.ty) rfl))
  ss_nil)
  (ss_cons (s_if (vt_cmp (op_neA hr.units) lNe (nomark _) (v_callKw G_way (hr.mono (by decide)) (by rfl) T.d_way.g T.d_way.F.kp T.d_way.b tk hX (v_kcons (v_ix (vv 1) vi (fun _ _ => rfl)) (v_kcons (v_ix (vv 1) vi (fun _ _ => rfl)) (v_kcons (v_ix (vv 1) vi (fun _ _ => rfl)) v_knil)))) (vv 1))
  (ss_one (s_raise rfl tk hX PySem.F.excBase_ValueError T.x_BadWay.ex T.x_BadWay.g T.x_BadWay.kp (raises_own T.x_BadWay.sb T.x_BadWay.ty) rfl))
  ss_nil)
  (ss_one (s_if (PW.pt (v_or (vt_cmp (op_neA hr.units) lNe (nomark _) (v_cb1 call_lenA lLen (by rfl) T.n_len (by decide +kernel) (v_ix (vv 1) vi (fun _ _ => rfl))) (v_cb1 call_lenA lLen (by rfl) T.n_len (by decide +kernel) (vv 0))) (pw_or1 (v_not (vB (v_cb1 (cr_all rfl) lAll (by rfl) T.n_all (by decide +kernel) (vOf (v_lc rfl sc.nd (i_sq (v_ix (vv 1) vi (fun _ _ => rfl))) (blkOk_by (own := [("place", 3)]) (N := NCheckWay) (sc := defScope sCheckWay) (by decide +kernel)) (fun c1 e1 => (lgN (i := 3) (by rw [e1, hn]; decide))) (fun _ _ _ _ _ => (pg_name (i := 3) sc.nd rfl (by first | exact .inl rfl | exact .inr rfl))) (fun _ _ _ _ _ _ _ => ts_nil) (fun _ _ _ _ _ c1 e1 => (v_cmp op_notN lIsNot (nomark _) (v_ix (v_ix (vv 0) (vv 3) (fun _ _ => rfl)) vi (fun _ _ => rfl)) vn)) (by decide)))))))))
  (ss_one (s_raise rfl tk hX PySem.F.excBase_ValueError T.x_BadWay.ex T.x_BadWay.g T.x_BadWay.kp (raises_own T.x_BadWay.sb T.x_BadWay.ty) rfl))
  ss_nil))))), ?_⟩
  obtain ⟨pls, z, st, nt, rfl, hpl, hpO, ok, q1, q2⟩ := h
  have lz : st.length ≤ sizeLine := sz_le ok.l1
  have pO : ∀ d ∈ st.map stD1, ∃ k s, d = .t [.i k, .s s] := fun d hd => by
    obtain ⟨y, hy, rfl⟩ := List.mem_map.mp hd
    exact ⟨y.1, y.2, rfl⟩
  refine .inl ⟨rfl, rfl, rfl, ?_⟩
  refine ⟨_, atI_nat (j := 1) rfl, _, atI_nat (j := 2) rfl, ?_⟩
  refine ⟨_, atI_nat (j := 1) rfl, ?_⟩
  conv => whnf
  refine lc_map (ds := st.map stD1) (fun _ => .b true) ?_ (fun d hd => rfl) (by rw [List.length_map]; exact lz) ?_
  · intro d hd R1 hR1
    obtain ⟨k, s, rfl⟩ := pO d hd
    exact .inl ⟨rfl, rfl, rfl, hR1 _ (Agr.wipe.set (i := 2) (x := .val (.t [.i k, .s s])) (by decide))⟩
  refine ⟨_, _, rfl, bools_true _, ?_⟩
  rw [show ((st.map stD1).map fun _ => true).all id = true by simp]
  let TO1 : Sx → Prop := fun S => S = ⟨[.val (.t (pls.map pl2)), .val (wD z st nt), .no, .no], M⟩
  apply via_tail (TOk := TO1)
  case main => intro tail; exact tail _ rfl
  case tail =>
    rintro S rfl
    refine ⟨_, atI_nat (j := 0) rfl, rfl, _, atI_nat (j := 1) rfl, rfl, _, atI_nat (j := 2) rfl, rfl, z, st, nt, rfl, ok.l1, ok.l2, fun e => ?_, fun e => q2 (by unfold chkB; rw [e]; rfl)⟩
    refine .inr ⟨(pd_wD ok.z ok.s).eqb (by decide), (pd_wD ok.z ok.s).eqb (by decide), ?_⟩
    rw [eqv_wD ok.z ok.s]
    cases eN : decide (ascN st nt = nt) with
    | false => exact q2 (by unfold chkB; rw [eN]; simp)
    | true =>
    refine ⟨_, atI_nat (j := 1) rfl, .inl ⟨rfl, rfl, rfl, ?_⟩⟩
    have el : eqF (.i ((((st.map stD1).length : Nat)) : Int)) (.i (((pls.map pl2).length : Nat) : Int)) = decide (st.length = pls.length) := by
      rw [List.length_map, List.length_map]
      exact dec_of (by omega)
    rw [el]
    cases eL : decide (st.length = pls.length) with
    | false => exact q2 (by unfold chkB; rw [eL]; simp)
    | true =>
    have hL : st.length = pls.length := of_decide_eq_true eL
    have hA := asc_lt (of_decide_eq_true eN)
    refine ⟨_, atI_nat (j := 2) rfl, ?_⟩
    conv => whnf
    refine lc_map (ds := nt.map Da.i) (bndD pls) ?_ (fun d hd => ?_) (by rw [List.length_map]; exact sz_le ok.l2) ?_
    · intro d hd R1 hR1
      obtain ⟨k, hk, rfl⟩ := List.mem_map.mp hd
      obtain ⟨j, rfl, hj⟩ := hA k hk
      have hj2 : j < pls.length := by omega
      have e1 : atI (pls.map pl2) (j : Int) = some (pl2 pls[j]) := by rw [atI_some (by simp [hj2])]; simp
      have e2 : bndB pls (j : Int) = !(pls[j].1.isN) := by unfold bndB; rw [atI_some hj2]
      have hb := hR1 _ (Agr.wipe.set (i := 3) (x := .val (.i (j : Int))) (by decide))
      rw [show bndD pls (.i (j : Int)) = .b (!(pls[j].1.isN)) by show Da.b (bndB pls (j : Int)) = _; rw [e2]] at hb
      refine ⟨_, e1, pls[j].1, atI_nat (j := 0) rfl, ?_⟩
      have bO := hpO _ (List.getElem_mem hj2)
      generalize pls[j].1 = b at hb bO
      cases b <;> first | (cases bO; done) | exact hb
    · obtain ⟨k, hk, rfl⟩ := List.mem_map.mp hd
      rfl
    have eb : (nt.map Da.i).map (bndD pls) = (nt.map (bndB pls)).map Da.b := by rw [List.map_map, List.map_map]; rfl
    have ea : (nt.map (bndB pls)).all id = nt.all (bndB pls) := by rw [List.all_map]; rfl
    refine ⟨_, _, rfl, by rw [eb]; exact bools_map _, ?_⟩
    rw [ea]
    cases eZ : nt.all (bndB pls) with
    | false => exact q2 (by unfold chkB; rw [eZ]; simp)
    | true => exact q1 (by unfold chkB; rw [e, eN, eL, eZ]; rfl)
end
end VL
set_option Elab.async false
set_option linter.all false
set_option pp.maxSteps 3000
set_option maxRecDepth 100000
set_option maxHeartbeats 1000000
namespace VL
open PySem PySem.Spec PyProof.Rows L2
section
variable {P : Program} {w : World} {K : PySem.W.Frag} {mg : Str → Option Value} {base : Heap}
structure Wy where
  z : Str
  st : List (Int × Str)
  nt : List Int
def Wy.d (y : Wy) : Da := wD y.z y.st y.nt
def Wy.ok (pls : List (Da × Da)) (y : Wy) : Bool := chkB pls y.z y.st y.nt
def dc_checked_ways (CB : Addr) : DC := fun ds M Q X => ∃ (pls : List (Da × Da)) (w dw : Da) (ws : List Wy), ds = [ruleD pls w, dw] ∧ dw.isO = false ∧ (∀ ρ, (Sx.mk ρ M).sq dw = some (ws.map Wy.d)) ∧ ws.length ≤ 1000 ∧ (∀ y ∈ ws, WOk y.z y.st y.nt) ∧ pls.length ≤ 1000 ∧ (∀ x ∈ pls, x.1.isO = false) ∧
  (ws.all (Wy.ok pls) = true → Q (.t (ws.map Wy.d)) M) ∧ (ws.all (Wy.ok pls) = false → X (.ref CB) none M)
theorem ok_checked_ways (T : Tx P K mg) (G_check_way : FnOk P w K mg base (L2.CX P w) 2 T.f_check_way T.fd_check_way ["places", "row"] (spOf K (dc_check_way T.C_BadWay))) : FnOk P w K mg base (L2.CX P w) 3 T.f_checked_ways T.fd_checked_ways ["rule", "ways"] (spOf K (dc_checked_ways T.C_BadWay)) := by
  have sc := scCheckedWays
  refine okD T.d_checked_ways.F sc (fun ds M Q X h => ?_) (fun cdv A outer s H E c ds M Qd Xd hn hr h hX => ?_)
  · obtain ⟨pls, w, dw, ws, rfl, _⟩ := h
    rfl
  have tk := takes_of (X := cxOf (L2.CX P w) P w K mg base NCheckedWays "_checked_ways" (defScope sCheckedWays) T.f_checked_ways cdv A outer s H E) rfl rfl rfl rfl
  refine ⟨_, (ss_cons (s_set (i := 2) sc.nd rfl (by first | exact .inl rfl | exact .inr rfl) (by rw [hn]; decide) (v_ct1 call_tupleA lTuple (by rfl) T.n_tuple (by decide +kernel) (vOf (v_list (by rfl) T.n_list (by decide +kernel) (vv 1)))))
  (ss_cons (s_for (passes_of rfl) rfl (i_sq (vv 2)) (pg_name (i := 3) sc.nd rfl (by first | exact .inl rfl | exact .inr rfl)) (lgN (i := 3) (by rw [hn]; decide))
  (ss_one (s_expr (v_call G_check_way (hr.mono (by decide)) (by rfl) T.d_check_way.g T.d_check_way.F.kp T.d_check_way.b tk hX (v_cons (v_ix (vv 0) vi (fun _ _ => rfl)) (v_cons (vv 3) v_nil))))))
  (ss_one (s_ret (vv 2))))), ?_⟩
  obtain ⟨pls, w', dw, ws, rfl, dO, hsq, hl, hok, hp, hpO, q1, q2⟩ := h
  refine ⟨_, hsq _, by rw [List.length_map]; exact sz_le hl, rfl, ?_⟩
  refine forGo_of (fun rest S => ∃ (done rr : List Wy) (y3 : Slx), rest = rr.map Wy.d ∧ ws = done ++ rr ∧ done.all (Wy.ok pls) = true ∧ S = ⟨[.val (ruleD pls w'), .val dw, .val (.t (ws.map Wy.d)), y3], M⟩)
    (fun d ds S h R hR => ?_) (fun S h => ?_) _ _ ⟨[], ws, .no, rfl, rfl, rfl, rfl⟩
  · obtain ⟨done, rr, y3, e1, e2, hd, rfl⟩ := h
    cases rr with
    | nil => cases e1
    | cons y rr =>
    cases e1
    have hy : y ∈ ws := by rw [e2]; simp
    refine ⟨_, atI_nat (j := 0) rfl, rfl, rfl, pls, y.z, y.st, y.nt, rfl, hp, hpO, hok y hy, fun e => ?_, fun e => q2 ?_⟩
    · exact hR _ ⟨done ++ [y], rr, _, rfl, by rw [e2]; simp, by rw [List.all_append, hd, List.all_cons, show Wy.ok pls y = true from e]; rfl, rfl⟩
    · rw [e2, List.all_append, List.all_cons, show Wy.ok pls y = false from e]
      simp
  · obtain ⟨done, rr, y3, e1, e2, hd, rfl⟩ := h
    have er : rr = [] := by cases rr with | nil => rfl | cons a r => cases e1
    subst er
    rw [List.append_nil] at e2
    subst e2
    exact ⟨rfl, q1 hd⟩
/-- a book stands at b, its table at t, its ways at q -/
structure BkAt (CB : Addr) (wk : List (Key × Da)) (M : Mx) (b t q : Addr) : Prop where
  b : M b = some (.ins CB [("table", .r t), ("ways", .r q)])
  q : M q = some (.dk none wk)
def dc_Book_init (CB : Addr) : DC := fun ds M Q _ => ∃ (b t : Addr), ds = [.r b, .r t] ∧ M b = some (.ins CB []) ∧
  ∀ (q : Addr) (M' : Mx), M q = none → BkAt CB [] M' b t q → (∀ x, x ≠ b → x ≠ q → M' x = M x) → Q .n M'
theorem ok_Book_init (T : Tx P K mg)  : FnOk P w K mg base (L2.CX P w) 1 T.f_Book_init T.fd_Book_init ["self", "table"] (spOf K (dc_Book_init T.C_Book)) := by
  have sc := scBook_init
  refine okD T.d_Book_init.F sc (fun ds M Q X h => ?_) (fun cdv A outer s H E c ds M Qd Xd hn hr h hX => ?_)
  · obtain ⟨x, st, rfl, _⟩ := h
    rfl
  have tk := takes_of (X := cxOf (L2.CX P w) P w K mg base NBook_init "Book.__init__" (defScope sBook_init) T.f_Book_init cdv A outer s H E) rfl rfl rfl rfl
  refine ⟨_, (ss_cons (s_fld T.c_Book.cl T.n_Book_table (vv 1) (vv 0))
  (ss_one (s_fld T.c_Book.cl T.n_Book_ways v_dnew (vv 0)))), ?_⟩
  obtain ⟨x, t, rfl, mx, q⟩ := h
  refine ⟨rfl, x, [], rfl, mx, by decide, ?_⟩
  refine fun q1 n1 => ⟨rfl, x, [("table", .r t)], rfl, ?_, by show (1 : Nat) < 1000; decide, ?_⟩
  all_goals have n1' : updM M x (.ins T.C_Book [("table", .r t)]) q1 = none := n1
  all_goals have q1x : q1 ≠ x := fun e => by rw [e, updM_same] at n1'; cases n1'
  · show updM (updM M x _) q1 _ x = _
    rw [updM_ne (Ne.symm q1x), updM_same]
    rfl
  · refine q q1 _ (by rw [updM_ne q1x] at n1'; exact n1') ⟨updM_same, ?_⟩ fun b h1 h2 => ?_
    · show updM (updM (updM M x _) q1 _) x _ q1 = _
      rw [updM_ne q1x, updM_same]
    · show updM (updM (updM M x _) q1 _) x _ b = _
      rw [updM_ne h1, updM_ne h2, updM_ne h1]
def dc_Book_getitem (CB CT CU : Addr) : DC := fun ds M Q X => ∃ (b t q tq : Addr) (st : Da) (rk wk : List (Key × Da)) (z : Str), ds = [.r b, .s z] ∧ BkAt CB wk M b t q ∧ TbRd CT st rk M t tq ∧ z.length ≤ 1000 ∧ (∀ kd ∈ wk, kd.2.isO = false) ∧
  ((valD rk (.inr z)).isSome = true → Q ((valD wk (.inr z)).getD (.t [])) M) ∧ (valD rk (.inr z) = none → X (.ref CU) (some [("sign", .s z)]) M)
theorem ok_Book_getitem (T : Tx P K mg) (GI_UnknownSign : FnOk P w K mg base (L2.CX P w) 1 T.i_UnknownSign T.fi_UnknownSign ["self", "sign"] (spErr T.C_UnknownSign "sign")) : FnOk P w K mg base (L2.CX P w) 3 T.f_Book_getitem T.fd_Book_getitem ["self", "sign"] (spOf K (dc_Book_getitem T.C_Book T.C_Table T.C_UnknownSign)) := by
  have sc := scBook_getitem
  refine okD T.d_Book_getitem.F sc (fun ds M Q X h => ?_) (fun cdv A outer s H E c ds M Qd Xd hn hr h hX => ?_)
  · obtain ⟨b, t, q, tq, st, rk, wk, z, rfl, _⟩ := h
    rfl
  have tk := takes_of (X := cxOf (L2.CX P w) P w K mg base NBook_getitem "Book.__getitem__" (defScope sBook_getitem) T.f_Book_getitem cdv A outer s H E) rfl rfl rfl rfl
  refine ⟨_, (ss_cons (s_if (vt_dninV (hu_of hr) (by rfl) (vv 1) (v_fld T.c_Table.cl T.n_Table_rules (v_fld T.c_Book.cl T.n_Book_table (vv 0))))
  (ss_one (s_raiseF rfl tk hX T.x_UnknownSign.oex T.x_UnknownSign.iC T.x_UnknownSign.tI GI_UnknownSign (hr.mono (by decide)) T.x_UnknownSign.ib (by rfl) T.x_UnknownSign.g (vv 1)))
  ss_nil)
  (ss_one (s_ret (v_dget2 (hu_of hr) (v_fld T.c_Book.cl T.n_Book_ways (vv 0)) (vv 1) (v_tup v_nil) ⟨rfl, rfl, rfl, rfl⟩)))), ?_⟩
  obtain ⟨b, t, q, tq, st, rk, wk, z, rfl, bk, ⟨tbx, lkt, tbq⟩, hz, hO, q1, q2⟩ := h
  refine ⟨_, _, ⟨bk.b, rfl, _, _, tbx, rfl, rk, .inr z, dk_r tbq, rfl, ?_⟩⟩
  cases e : valD rk (.inr z) with
  | none => exact ⟨z, rfl, hz, q2 e⟩
  | some d =>
    have gO : ((valD wk (.inr z)).getD (.t [])).isO = false := by
      cases e2 : valD wk (.inr z) with
      | none => rfl
      | some d => exact valD_O hO e2
    exact ⟨_, _, bk.b, rfl, ⟨_, dk_r (lk := none) (by exact bk.q)⟩, by show 0 ≤ sizeLine; decide, wk, .inr z, dk_r (lk := none) (by exact bk.q), rfl, rfl, gO, q1 (by rw [e]; rfl)⟩
def dc_Book_setitem (CB CT CU CW : Addr) : DC := fun ds M Q X => ∃ (b t q tq : Addr) (st : Da) (rk wk : List (Key × Da)) (z : Str) (dw : Da) (ws : List Wy), ds = [.r b, .s z, dw] ∧ BkAt CB wk M b t q ∧ TbAt CT st rk M t tq ∧ z.length ≤ 1000 ∧ (∀ kd ∈ rk, kd.2.isO = false) ∧ wk.length ≤ 1000 ∧
  dw.isO = false ∧ (∀ ρ, (Sx.mk ρ M).sq dw = some (ws.map Wy.d)) ∧ ws.length ≤ 1000 ∧ (∀ y ∈ ws, WOk y.z y.st y.nt) ∧ (valD rk (.inr z) = none → X (.ref CU) (some [("sign", .s z)]) M) ∧
  ∀ d, valD rk (.inr z) = some d → ∃ pls w, d = ruleD pls w ∧ pls.length ≤ 1000 ∧ (∀ x ∈ pls, x.1.isO = false) ∧ (ws.all (Wy.ok pls) = true → Q .n (updM M q (.dk none (putD wk (.inr z) (.t (ws.map Wy.d)))))) ∧ (ws.all (Wy.ok pls) = false → X (.ref CW) none M)
theorem ok_Book_setitem (T : Tx P K mg) (G_Table_getitem : FnOk P w K mg base (L2.CX P w) 3 T.f_Table_getitem T.fd_Table_getitem ["self", "sign"] (spOf K (dc_Table_getitem T.C_Table T.C_UnknownSign))) (G_checked_ways : FnOk P w K mg base (L2.CX P w) 3 T.f_checked_ways T.fd_checked_ways ["rule", "ways"] (spOf K (dc_checked_ways T.C_BadWay))) : FnOk P w K mg base (L2.CX P w) 5 T.f_Book_setitem T.fd_Book_setitem ["self", "sign", "ways"] (spOf K (dc_Book_setitem T.C_Book T.C_Table T.C_UnknownSign T.C_BadWay)) := by
  have sc := scBook_setitem
  refine okD T.d_Book_setitem.F sc (fun ds M Q X h => ?_) (fun cdv A outer s H E c ds M Qd Xd hn hr h hX => ?_)
  · obtain ⟨b, t, q, tq, st, rk, wk, z, dw, ws, rfl, _⟩ := h
    rfl
  have tk := takes_of (X := cxOf (L2.CX P w) P w K mg base NBook_setitem "Book.__setitem__" (defScope sBook_setitem) T.f_Book_setitem cdv A outer s H E) rfl rfl rfl rfl
  refine ⟨_, (ss_one (s_putD (hu_of hr) (v_call G_checked_ways (hr.mono (by decide)) (by rfl) T.d_checked_ways.g T.d_checked_ways.F.kp T.d_checked_ways.b tk hX (v_cons (v_ownIx T.d_Table_getitem.own T.d_Table_getitem.ff G_Table_getitem (hr.mono (by decide)) T.d_Table_getitem.b tk hX (v_fld T.c_Book.cl T.n_Book_table (vv 0)) (vv 1)) (v_cons (vv 2) v_nil))) (v_fld T.c_Book.cl T.n_Book_ways (vv 0)) (vv 1))), ?_⟩
  obtain ⟨b, t, q, tq, st, rk, wk, z, dw, ws, rfl, bk, tb, hz, hO, hw, dO, hsq, hl, hok, q1, q2⟩ := h
  refine ⟨_, _, bk.b, rfl, _, tb.x, rfl, t, tq, st, rk, z, rfl, tb.rd, hz, hO, fun d e => ?_, fun e => q1 e⟩
  obtain ⟨pls, w', rfl, h1, h2, h3, h4⟩ := q2 d e
  exact ⟨rfl, dO, pls, w', dw, ws, rfl, dO, hsq, hl, hok, h1, h2, fun ea => ⟨_, _, bk.b, rfl, rfl, q, wk, .inr z, rfl, bk.q, rfl, by rw [sizeLine_eq]; omega, h3 ea⟩, fun ea => h4 ea⟩
end
end VL
set_option Elab.async false
set_option linter.all false
set_option pp.maxSteps 3000
set_option maxRecDepth 100000
set_option maxHeartbeats 1000000
namespace VL
open PySem PySem.Spec PyProof.Rows L2
section
variable {P : Program} {w : World} {K : PySem.W.Frag} {mg : Str → Option Value} {base : Heap}
def rngI (n : Nat) : List Int := (List.range n).map fun (k : Nat) => (k : Int)
theorem rngI_nodup (n : Nat) : (rngI n).Nodup := by
  unfold rngI
  rw [List.nodup_iff_pairwise_ne, List.pairwise_map]
  exact (List.nodup_iff_pairwise_ne.mp (List.nodup_range (n := n))).imp fun h e => h (by omega)
theorem erase_perm : ∀ (l : List Int) (j : Nat) (h : j < l.length), (l[j] :: l.eraseIdx j).Perm l
  | a :: l, 0, h => by simp
  | a :: l, j + 1, h => by
    simp only [List.getElem_cons_succ, List.eraseIdx_cons_succ]
    exact (List.Perm.swap a _ _).trans (List.Perm.cons a (erase_perm l j (by simpa using h)))
theorem cnt_one : ∀ {l : List Int} {a : Int}, l.Nodup → a ∈ l → l.count a = 1
  | b :: l, a, nd, h => by
    obtain ⟨h1, h2⟩ := List.nodup_cons.mp nd
    by_cases e : b = a
    · subst e
      rw [List.count_cons_self, List.count_eq_zero.mpr h1]
    · rw [List.count_cons_of_ne (by simpa using e)]
      rcases List.mem_cons.mp h with h | h
      · exact absurd h.symm e
      · exact cnt_one h2 h
theorem filter_mem {l : List Int} {p : Int → Bool} : l.filter (fun k => decide (k ∈ l.filter p)) = l.filter p := by
  refine List.filter_congr fun k hk => ?_
  cases e : p k with
  | true => exact decide_eq_true (List.mem_filter.mpr ⟨hk, e⟩)
  | false => exact decide_eq_false fun h => by rw [(List.mem_filter.mp h).2] at e; cases e
/-- steps and what is left of the places -/
structure Sh (n : Nat) (st : List (Int × Str)) (left : List Int) : Prop where
  p : (listed st ++ left).Perm (rngI n)
  d : ∀ y ∈ st, dirB y.2 = true
theorem Sh.take {n : Nat} {st : List (Int × Str)} {left : List Int} (h : Sh n st left) {j : Nat} (hj : j < left.length) {s : Str} (hs : dirB s = true) : Sh n (st ++ [(left[j], s)]) (left.eraseIdx j) := by
  refine ⟨?_, fun y hy => ?_⟩
  · refine List.Perm.trans ?_ h.p
    unfold listed
    rw [List.map_append, List.append_assoc]
    refine List.Perm.append_left _ ?_
    show (left[j] :: left.eraseIdx j).Perm left
    exact erase_perm left j hj
  · rcases List.mem_append.mp hy with hy | hy
    · exact h.d y hy
    · rw [List.mem_singleton.mp hy]; exact hs
theorem sh_ok {n : Nat} {st : List (Int × Str)} {z : Str} {p : Int → Bool} {pls : List (Da × Da)} (h : Sh n st []) (hz : dirB z = true) (hn : n ≤ 3) (hp : pls.length = n) (hb : ∀ k ∈ rngI n, p k = true → bndB pls k = true) : chkB pls z st ((rngI n).filter p) = true := by
  have hP := h.p
  rw [List.append_nil] at hP
  have hl : st.length = n := by
    have := hP.length_eq
    unfold listed rngI at this
    simpa using this
  have e1 : ascN st ((rngI n).filter p) = (rngI n).filter p := by
    unfold ascN
    rw [hl]
    exact filter_mem
  have e2 : onceB st = true := by
    unfold onceB
    rw [decide_eq_true (by omega), Bool.true_and, List.all_eq_true]
    intro k hk
    rw [hl, List.mem_range] at hk
    refine decide_eq_true ?_
    rw [hP.count_eq]
    exact cnt_one (rngI_nodup n) (List.mem_map.mpr ⟨k, List.mem_range.mpr hk, rfl⟩)
  have e3 : dirsB z st = true := by
    unfold dirsB
    rw [List.all_cons, hz, Bool.true_and, List.all_eq_true]
    intro s hs
    obtain ⟨y, hy, rfl⟩ := List.mem_map.mp hs
    exact h.d y hy
  have e4 : ((rngI n).filter p).all (bndB pls) = true := by
    rw [List.all_eq_true]
    intro k hk
    obtain ⟨h1, h2⟩ := List.mem_filter.mp hk
    exact hb k h1 h2
  unfold chkB wayB
  rw [e1, e2, e3, e4, hl, hp]
  simp
theorem dir_ok {s : Str} (h : dirB s = true) : PyData.strOk s = true := by
  unfold dirB at h
  rcases (by simpa using h : s = Str.ofString "told" ∨ s = Str.ofString "found") with rfl | rfl <;> decide +kernel
theorem rdIs_of {b : Da} {S : Sx} {Q : Da → Sx → Prop} (h : b.isO = false) (q : Q (.b (!b.isN)) S) : rdIs true b .n S Q := by
  cases b <;> first | (cases h; done) | exact q
def mk1 (pr : Int → Bool) (b : Bool) (k : Nat) : Int → Bool := fun j => (decide (j < (k : Int)) && pr j) || (b && decide (j = (k : Int)))
theorem erMap {α β : Type} (f : α → β) : ∀ (l : List α) (j : Nat), (l.map f).eraseIdx j = (l.eraseIdx j).map f
  | [], _ => rfl
  | _ :: _, 0 => rfl
  | x :: t, j + 1 => by show f x :: ((t.map f).eraseIdx j) = _; rw [erMap f t j]; rfl
theorem flt_succ {pr : Int → Bool} {b : Bool} {k : Nat} : (rngI (k + 1)).filter (mk1 pr b k) = (rngI k).filter pr ++ (if b = true then [(k : Int)] else []) := by
  unfold rngI
  rw [List.range_succ, List.map_append, List.filter_append]
  congr 1
  · refine List.filter_congr fun j hj => ?_
    obtain ⟨i, hi, rfl⟩ := List.mem_map.mp hj
    rw [List.mem_range] at hi
    unfold mk1
    rw [decide_eq_true (by omega : (i : Int) < (k : Int)), decide_eq_false (by omega : ¬ (i : Int) = (k : Int))]
    simp
  · cases b <;> simp [mk1]
structure Bdw (y : Wy) : Prop where
  zl : y.z.length ≤ 5
  sl : y.st.length ≤ 3
  s : ∀ p ∈ y.st, (0 ≤ p.1 ∧ p.1 < 3) ∧ p.2.length ≤ 5
  nl : y.nt.length ≤ 3
  n : ∀ k ∈ y.nt, 0 ≤ k ∧ k < 3
  pm : (listed y.st).Perm (rngI y.st.length)
theorem dir_l5 {z : Str} (h : dirB z = true) : z.length ≤ 5 := by
  unfold dirB at h
  rcases Bool.or_eq_true _ _ |>.mp h with h | h
  · rw [of_decide_eq_true h]; decide +kernel
  · rw [of_decide_eq_true h]; decide +kernel
theorem rngI_b {n : Nat} {k : Int} (h : k ∈ rngI n) : 0 ≤ k ∧ k < n := by
  unfold rngI at h
  obtain ⟨i, hi, rfl⟩ := List.mem_map.mp h
  rw [List.mem_range] at hi
  omega
def dc_l_way : DC := fun ds M Q X => ∃ (p : Addr) (pls : List (Da × Da)) (w : Da), ds = [.r p, ruleD pls w] ∧ Tp M p ∧ pls.length ≤ 3 ∧ (∀ x ∈ pls, x.1.isO = false) ∧
  ∀ (y : Wy) (M' : Mx), Tto p M M' → Wy.ok pls y = true → WOk y.z y.st y.nt → Bdw y → Q y.d M'
theorem ok_l_way (T : Tx P K mg) (G_l_take : FnOk P w K mg base (L2.CX P w) 1 T.f_l_take T.fd_l_take ["_law_tape_here", "_law_many"] (spOf K dc_l_take)) : FnOk P w K mg base (L2.CX P w) 2 T.f_l_way T.fd_l_way ["_law_tape_here", "_law_one"] (spOf K dc_l_way) := by
  have sc := scLWay
  refine okD T.d_l_way.F sc (fun ds M Q X h => ?_) (fun cdv A outer s H E c ds M Qd Xd hn hr h hX => ?_)
  · obtain ⟨p, pls, w, rfl, _⟩ := h
    rfl
  have tk := takes_of (X := cxOf (L2.CX P w) P w K mg base NLWay "_law_way" (defScope sLWay) T.f_l_way cdv A outer s H E) rfl rfl rfl rfl
  refine ⟨_, (ss_cons (s_ownLc (i := 2) rfl sc.nd rfl rfl (by rw [hn]; decide) (sw_true rfl rfl rfl (by decide +kernel)) (i_rng1 (by rfl) T.n_range (v_cb1 call_lenA lLen (by rfl) T.n_len (by decide +kernel) (v_ix (vv 1) vi (fun _ _ => rfl)))) (blkOk_by (own := [("_law_k", 5)]) (N := NLWay) (sc := defScope sLWay) (by decide +kernel)) (fun c1 e1 => (lgN (i := 5) (by rw [e1, hn]; decide))) (fun _ _ _ _ _ => (pg_name (i := 5) sc.nd rfl (by first | exact .inl rfl | exact .inr rfl))) (fun _ _ _ _ _ _ _ => ts_nil) (fun _ _ _ _ _ c1 e1 => (vv 5)) (by decide))
  (ss_cons (s_own (i := 3) sc.nd rfl (by first | exact .inl rfl | exact .inr rfl) (by rw [hn]; decide) (v_lst v_nil))
  (ss_cons (s_own (i := 4) sc.nd rfl (by first | exact .inl rfl | exact .inr rfl) (by rw [hn]; decide) (v_lst v_nil))
  (ss_cons (s_for (passes_of rfl) rfl (i_rng1 (by rfl) T.n_range (v_cb1 call_lenA lLen (by rfl) T.n_len (by decide +kernel) (v_ix (vv 1) vi (fun _ _ => rfl)))) (pg_name (i := 5) sc.nd rfl (by first | exact .inl rfl | exact .inr rfl)) (lgN (i := 5) (by rw [hn]; decide))
  (ss_cons (s_if (PW.pt (v_and (vt_cmp op_notN lIsNot (nomark _) (v_ix (v_ix (v_ix (vv 1) vi (fun _ _ => rfl)) (vv 5) (fun _ _ => rfl)) vi (fun _ _ => rfl)) vn) (pw_and1 (vt_cmp (op_eqA hr.units) lEq (nomark _) (v_call G_l_take (hr.mono (by decide)) (by rfl) T.d_l_take.g T.d_l_take.F.kp T.d_l_take.b tk hX (v_cons (vv 0) (v_cons vi v_nil))) vi))))
  (ss_one (s_expr (v_met PySem.F.plainAttrs_list PySem.F.slot_list_append PySem.F.type_list_append mt_append tyL_ok lAppend (vv 4) (vv 5))))
  ss_nil)
  (ss_cons (s_set (i := 6) sc.nd rfl (by first | exact .inl rfl | exact .inr rfl) (by rw [hn]; decide) (v_met PySem.F.plainAttrs_list PySem.F.slot_list_pop PySem.F.type_list_pop mt_popAt tyL_ok lPopAt (vv 2) (v_call G_l_take (hr.mono (by decide)) (by rfl) T.d_l_take.g T.d_l_take.F.kp T.d_l_take.b tk hX (v_cons (vv 0) (v_cons (v_cb1 call_lenA lLen (by rfl) T.n_len (by decide +kernel) (vv 2)) v_nil)))))
  (ss_one (s_expr (v_met PySem.F.plainAttrs_list PySem.F.slot_list_append PySem.F.type_list_append mt_append tyL_ok lAppend (vv 3) (v_tup (v_cons (vv 6) (v_cons (v_ix (vOf (v_lst (v_cons vs (v_cons vs v_nil)))) (v_call G_l_take (hr.mono (by decide)) (by rfl) T.d_l_take.g T.d_l_take.F.kp T.d_l_take.b tk hX (v_cons (vv 0) (v_cons vi v_nil))) (fun _ _ => rfl)) v_nil)))))))))
  (ss_one (s_ret (v_tup (v_cons (v_ix (vOf (v_lst (v_cons vs (v_cons vs v_nil)))) (v_call G_l_take (hr.mono (by decide)) (by rfl) T.d_l_take.g T.d_l_take.F.kp T.d_l_take.b tk hX (v_cons (vv 0) (v_cons vi v_nil))) (fun _ _ => rfl)) (v_cons (v_ct1 call_tupleA lTuple (by rfl) T.n_tuple (by decide +kernel) (vv 3)) (v_cons (v_ct1 call_tupleA lTuple (by rfl) T.n_tuple (by decide +kernel) (vv 4)) v_nil)))))))))), ?_⟩
  obtain ⟨p, pls, w', rfl, tp, hl, hO, q⟩ := h
  refine ⟨_, atI_nat (j := 0) rfl, by rw [List.length_map]; omega, by rw [List.length_map]; omega, ?_⟩
  rw [List.length_map]
  have lr : (rngD 0 pls.length).length = pls.length := by unfold rngD; rw [List.length_map, List.length_range]
  have er : rngD 0 pls.length = (rngI pls.length).map Da.i := by
    unfold rngD rngI
    rw [List.map_map]
    refine List.map_congr_left fun k _ => ?_
    show Da.i (0 + (k : Int)) = Da.i (k : Int)
    rw [Int.zero_add]
  have ri : (rngI pls.length).length = pls.length := by unfold rngI; rw [List.length_map, List.length_range]
  show lcGo _ _ _ _ _ (rngD 0 pls.length) [] _
  refine lc_map (ds := rngD 0 pls.length) id ?_ (fun d hd => ?_) (by rw [lr, sizeLine_eq]; omega) ?_
  · intro d hd R1 hR1
    exact hR1 _ (Agr.wipe.set (i := 5) (x := .val d) (by decide))
  · rw [er] at hd
    obtain ⟨k, _, rfl⟩ := List.mem_map.mp hd
    rfl
  rw [List.map_id, er]
  refine fun p2 n2 => ⟨by show 0 ≤ sizeLine; decide, fun p3 n3 => ⟨by show 0 ≤ sizeLine; decide, fun p4 n4 => ?_⟩⟩
  refine ⟨_, atI_nat (j := 0) rfl, by rw [List.length_map]; omega, by rw [List.length_map]; omega, ?_⟩
  rw [List.length_map]
  refine forGo_rng0 (fun k S => ∃ (left : List Int) (st : List (Int × Str)) (pr : Int → Bool) (M2 : Mx) (y5 y6 : Slx), left.length = pls.length - k ∧ Sh pls.length st left ∧ (∀ j : Int, pr j = true → bndB pls j = true) ∧ Tto p M M2 ∧ S = ⟨[.val (.r p), .val (ruleD pls w'), .own p2 (left.map .i), .own p3 (st.map stD1), .own p4 (((rngI k).filter pr).map .i), y5, y6], M2⟩)
    (fun k S hk h R hR => ?_) (fun S h => ?_) _ ⟨rngI pls.length, [], fun _ => false, M, .no, .no, by rw [ri]; omega, ⟨by simp [listed], by simp⟩, by simp, .refl tp, rfl⟩
  · obtain ⟨left, st, pr, M2, y5, y6, hll, sh, hpr, t2, rfl⟩ := h
    have hk3 : k < pls.length := by omega
    have e1 : atI (pls.map pl2) (k : Int) = some (pl2 pls[k]) := by rw [atI_some (by simp [hk3])]; simp
    have eb : bndB pls (k : Int) = !(pls[k].1.isN) := by unfold bndB; rw [atI_some hk3]
    let TO1 : Sx → Prop := fun S => ∃ (pr' : Int → Bool) (M3 : Mx), (∀ j : Int, pr' j = true → bndB pls j = true) ∧ Tto p M M3 ∧ S = ⟨[.val (.r p), .val (ruleD pls w'), .own p2 (left.map .i), .own p3 (st.map stD1), .own p4 (((rngI (k + 1)).filter pr').map .i), .val (.i (k : Int)), y6], M3⟩
    have un : ∀ M3, Tto p M M3 → TO1 ⟨[.val (.r p), .val (ruleD pls w'), .own p2 (left.map .i), .own p3 (st.map stD1), .own p4 (((rngI k).filter pr).map .i), .val (.i (k : Int)), y6], M3⟩ := fun M3 t3 => by
      refine ⟨mk1 pr false k, M3, fun j hj => ?_, t3, ?_⟩
      · unfold mk1 at hj
        simp only [Bool.false_and, Bool.or_false, Bool.and_eq_true] at hj
        exact hpr j hj.2
      · rw [flt_succ]
        simp
    apply via_tail (TOk := TO1)
    case main =>
      intro tail
      refine ⟨_, atI_nat (j := 0) rfl, _, e1, _, atI_nat (j := 0) rfl, ?_⟩
      dsimp only [wC]
      refine rdIs_of (hO _ (List.getElem_mem hk3)) ?_
      cases en : pls[k].1.isN with
      | true =>
        dsimp only [Bool.not_true]
        exact ite2 (fun z => by cases z) (fun _ => ite2 (fun z => by cases z) (fun _ => tail _ (un M2 t2)))
      | false =>
        dsimp only [Bool.not_false]
        refine ite2 (fun _ => ?_) (fun z => by cases z rfl)
        refine ⟨rfl, rfl, p, 3, rfl, t2.tp, by decide, fun r M3 hr t3 => .inl ⟨rfl, rfl, rfl, ite2 (fun _ => ?_) (fun _ => ?_)⟩⟩
        · refine ⟨⟨_, rfl⟩, _, _, rfl, rfl, ?_, rfl, ?_⟩
          · have := List.length_filter_le pr (rngI k)
            rw [List.length_map, sizeLine_eq]
            have : (rngI k).length = k := by unfold rngI; rw [List.length_map, List.length_range]
            omega
          · refine tail _ ⟨mk1 pr true k, M3, fun j hj => ?_, t2.trans t3, ?_⟩
            · unfold mk1 at hj
              simp only [Bool.true_and, Bool.or_eq_true, Bool.and_eq_true, decide_eq_true_eq] at hj
              rcases hj with hj | hj
              · exact hpr j hj.2
              · rw [hj, eb, en]; rfl
            · rw [flt_succ, if_pos rfl, List.map_append]
              rfl
        · exact tail _ (un M3 (t2.trans t3))
    case tail =>
      rintro S ⟨pr', M3, hpr', t3, rfl⟩
      have lp : 1 ≤ left.length := by omega
      refine ⟨⟨_, rfl⟩, rfl, _, rfl, rfl, p, left.length, by rw [List.length_map]; rfl, t3.tp, lp, fun j M4 hj t4 => ?_⟩
      refine ⟨by omega, by omega, left.map .i, j, .i left[j], ⟨[.val (.r p), .val (ruleD pls w'), .own p2 ((left.eraseIdx j).map .i), .own p3 (st.map stD1), .own p4 (((rngI (k + 1)).filter pr').map .i), .val (.i (k : Int)), y6], M4⟩, rfl, by rw [List.length_map]; exact seqIndex_of (by omega) (by omega), by simp [hj], by show some _ = some _; rw [erMap]; rfl, rfl, ?_⟩
      refine ⟨⟨_, rfl⟩, rfl, rfl, rfl, by show 2 ≤ sizeLine; decide, rfl, rfl, p, 2, rfl, t4.tp, by decide, fun r M5 hr t5 => ?_⟩
      have fin : ∀ s : Str, dirB s = true → R ⟨[.val (.r p), .val (ruleD pls w'), .own p2 ((left.eraseIdx j).map .i), .own p3 (st.map stD1 ++ [.t [.i left[j], .s s]]), .own p4 (((rngI (k + 1)).filter pr').map .i), .val (.i (k : Int)), .val (.i left[j])], M5⟩ := fun s hs => by
        refine hR _ ⟨left.eraseIdx j, st ++ [(left[j], s)], pr', M5, _, _, ?_, sh.take hj hs, hpr', (t3.trans t4).trans t5, by rw [List.map_append]; rfl⟩
        rw [List.length_eraseIdx_of_lt hj]
        omega
      have ls : (st.map stD1).length < sizeLine := by
        have := sh.p.length_eq
        rw [List.length_append, ri] at this
        unfold listed at this
        rw [List.length_map] at this
        rw [List.length_map, sizeLine_eq]
        omega
      have c2 : r = 0 ∨ r = 1 := by omega
      rcases c2 with rfl | rfl
      · exact ⟨_, _, rfl, atI_nat (j := 0) rfl, rfl, by show 2 ≤ sizeLine; decide, _, _, rfl, rfl, ls, rfl, fin (Str.ofString "told") (by decide +kernel)⟩
      · exact ⟨_, _, rfl, atI_nat (j := 1) rfl, rfl, by show 2 ≤ sizeLine; decide, _, _, rfl, rfl, ls, rfl, fin (Str.ofString "found") (by decide +kernel)⟩
  · obtain ⟨left, st, pr, M2, y5, y6, hll, sh, hpr, t2, rfl⟩ := h
    have e0 : left = [] := List.length_eq_zero_iff.mp (by omega)
    subst e0
    have hst : st.length = pls.length := by
      have := sh.p.length_eq
      rw [List.append_nil, ri] at this
      unfold listed at this
      rwa [List.length_map] at this
    have hfl : ((rngI pls.length).filter pr).length ≤ 1000 := by
      have := List.length_filter_le pr (rngI pls.length)
      omega
    have fin : ∀ (z : Str) (M3 : Mx), dirB z = true → Tto p M M3 → Qd (wD z st ((rngI pls.length).filter pr)) M3 := fun z M3 hz t3 => by
      refine q ⟨z, st, (rngI pls.length).filter pr⟩ M3 t3 (sh_ok sh hz hl rfl fun k _ h => hpr k h) ⟨by show st.length ≤ 1000; omega, hfl, dir_ok hz, fun y hy => dir_ok (sh.d y hy)⟩ ⟨dir_l5 hz, by show st.length ≤ 3; omega, fun y hy => ⟨?_, dir_l5 (sh.d y hy)⟩, by show ((rngI pls.length).filter pr).length ≤ 3; have := List.length_filter_le pr (rngI pls.length); omega, fun k hk => ?_, by have h1 := sh.p; rw [List.append_nil] at h1; show (listed st).Perm (rngI st.length); rw [hst]; exact h1⟩
      · have h1 : y.1 ∈ listed st := List.mem_map.mpr ⟨y, hy, rfl⟩
        have h2 := rngI_b ((sh.p.mem_iff).mp (by rw [List.append_nil]; exact h1))
        omega
      · have := rngI_b (List.mem_filter.mp hk).1
        omega
    refine ⟨rfl, rfl, by show 2 ≤ sizeLine; decide, rfl, rfl, p, 2, rfl, t2.tp, by decide, fun r M3 hr t3 => ?_⟩
    have c2 : r = 0 ∨ r = 1 := by omega
    rcases c2 with rfl | rfl
    · exact ⟨_, _, rfl, atI_nat (j := 0) rfl, rfl, _, rfl, rfl, _, rfl, rfl, by show 3 ≤ sizeLine; decide, rfl, fin (Str.ofString "found") M3 (by decide +kernel) (t2.trans t3)⟩
    · exact ⟨_, _, rfl, atI_nat (j := 1) rfl, rfl, _, rfl, rfl, _, rfl, rfl, by show 3 ≤ sizeLine; decide, rfl, fin (Str.ofString "told") M3 (by decide +kernel) (t2.trans t3)⟩
end
end VL
set_option Elab.async false
set_option linter.all false
set_option pp.maxSteps 3000
set_option maxRecDepth 100000
set_option maxHeartbeats 1000000
namespace VL
open PySem PySem.Spec PyProof.Rows L2
section
variable {P : Program} {w : World} {K : PySem.W.Frag} {mg : Str → Option Value} {base : Heap}
/-- a sign with its rule -/
structure Tr where
  z : Str
  pls : List (Da × Da)
  w : Da
def Tr.d (r : Tr) : Da := .t [.s r.z, ruleD r.pls r.w]
def Tr.k (r : Tr) : Key × Da := (.inr r.z, ruleD r.pls r.w)
structure Tr.ok (sh : List (Str × Str)) (r : Tr) : Prop where
  wd : Wd r.z
  rl : RlOk r.pls r.w
  ft : fitR sh r.pls r.w = true
theorem any_kinr {α : Type} (f : α → Str) (g : α → Da) (z : Str) : ∀ (l : List α), z ∉ l.map f → ((l.map fun r => ((.inr (f r) : Key), g r)).any fun kd => decide (kd.1 = (.inr z : Key))) = false
  | [], _ => rfl
  | y :: l, h => by
    rw [List.map_cons, List.mem_cons] at h
    rw [List.map_cons, List.any_cons, any_kinr f g z l (fun e => h (.inr e))]
    have : ¬ ((.inr (f y) : Key) = .inr z) := fun e => h (.inl (Sum.inr.inj e).symm)
    simp [this]
theorem tr_none {rows : List Tr} {z : Str} (h : z ∉ rows.map Tr.z) : (valD (rows.map Tr.k) (.inr z)).isSome = false := by
  rw [valD_some_iff]
  exact any_kinr Tr.z (fun r => ruleD r.pls r.w) z rows h
theorem tr_put {rows : List Tr} {r : Tr} (h : r.z ∉ rows.map Tr.z) : putD (rows.map Tr.k) (.inr r.z) (ruleD r.pls r.w) = (rows ++ [r]).map Tr.k := by
  unfold putD
  rw [if_neg (by rw [show ((rows.map Tr.k).any fun kd => decide (kd.1 = (.inr r.z : Key))) = false from any_kinr Tr.z (fun r => ruleD r.pls r.w) r.z rows h]; decide), List.map_append]
  rfl
def dc_l_table (CT C : Addr) : DC := fun ds M Q _ => ∃ (p1 p2 : Addr) (sh un : List (Str × Str)) (rows : List Tr), ds = [.r p1, .r p2, .l (rows.map Tr.d)] ∧ ShpS sh ∧ Und sh un ∧ M p1 = some (.dk none (shD sh)) ∧ M p2 = some (.dk none (shD un)) ∧ rows.length ≤ 8 ∧ (rows.map Tr.z).Nodup ∧ (∀ r ∈ rows, Tr.ok sh r) ∧
  ∀ (x q : Addr) (M' : Mx), M x = none → TbAt CT (stD C sh un) (rows.map Tr.k) M' x q → (∀ b m, M b = some m → M' b = some m) → Q (.r x) M'
theorem ok_l_table (T : Tx P K mg) (G_Stock_init : FnOk P w K mg base (L2.CX P w) 3 T.f_Stock_init T.fd_Stock_init ["self", "shapes", "under"] (spOf K (dc_Stock_init T.C_Stock))) (G_Table_init : FnOk P w K mg base (L2.CX P w) 1 T.f_Table_init T.fd_Table_init ["self", "stock"] (spOf K (dc_Table_init T.C_Table))) (G_Table_setitem : FnOk P w K mg base (L2.CX P w) 4 T.f_Table_setitem T.fd_Table_setitem ["self", "sign", "rule"] (spOf K (dc_Table_setitem T.C_Table T.C_Stock T.C_BadRule))) : FnOk P w K mg base (L2.CX P w) 5 T.f_l_table T.fd_l_table ["_law_shapes", "_law_under", "_law_rules"] (spOf K (dc_l_table T.C_Table T.C_Stock)) := by
  have sc := scLTable
  refine okD T.d_l_table.F sc (fun ds M Q X h => ?_) (fun cdv A outer s H E c ds M Qd Xd hn hr h hX => ?_)
  · obtain ⟨p1, p2, sh, un, rows, rfl, _⟩ := h
    rfl
  have tk := takes_of (X := cxOf (L2.CX P w) P w K mg base NLTable "_law_table" (defScope sLTable) T.f_l_table cdv A outer s H E) rfl rfl rfl rfl
  refine ⟨_, (ss_cons (s_set (i := 3) sc.nd rfl (by first | exact .inl rfl | exact .inr rfl) (by rw [hn]; decide) (v_make G_Table_init (hr.mono (by decide)) T.m_Table_init (by rfl) T.c_Table.g T.d_Table_init.b tk hX (v_cons (vFrz (v_make G_Stock_init (hr.mono (by decide)) T.m_Stock_init (by rfl) T.c_Stock.g T.d_Stock_init.b tk hX (v_cons (v_ct1 call_dcopy lDcopy (by rfl) T.n_dict (by decide +kernel) (vv 0)) (v_cons (v_ct1 call_dcopy lDcopy (by rfl) T.n_dict (by decide +kernel) (vv 1)) v_nil)))) v_nil)))
  (ss_cons (s_for (passes_of rfl) rfl (i_sq (vv 2)) (pg_name (i := 4) sc.nd rfl (by first | exact .inl rfl | exact .inr rfl)) (lgN (i := 4) (by rw [hn]; decide))
  (ss_one (s_ownPut T.d_Table_setitem.own T.c_Table.nq G_Table_setitem (hr.mono (by decide)) T.d_Table_setitem.b tk hX (v_ix (vv 4) vi (fun _ _ => rfl)) (vv 3) (v_ix (vv 4) vi (fun _ _ => rfl)))))
  (ss_one (s_ret (vv 3))))), ?_⟩
  obtain ⟨p1, p2, sh, un, rows, rfl, shs, und, h1p, h2p, rl8, nd, rok, q⟩ := h
  have ne_of : ∀ {a b : Addr} {m : MO} {N : Mx}, N a = none → N b = some m → b ≠ a := fun h1 h2 e => by rw [e, h1] at h2; cases h2
  have shp := shs.shp
  have sm : ShM sh := ⟨shp.nd, fun z v hz => sz_le (Nat.le_trans (shp.ar _ hz) (by decide))⟩
  refine ⟨shD sh, dk_r h1p, fun q1 nq1 => ⟨rfl, ?_⟩⟩
  have nq1' : M q1 = none := nq1
  have e2 := ne_of nq1' h2p
  refine ⟨shD un, dk_r (S := ⟨_, updM M q1 (.dk none (shD sh))⟩) (lk := none) (by show updM M q1 _ p2 = _; rw [updM_ne e2]; exact h2p), fun q2 nq2 => ⟨rfl, fun x nx => ?_⟩⟩
  have nq2' : updM M q1 (.dk none (shD sh)) q2 = none := nq2
  have q21 : q2 ≠ q1 := fun e => by rw [e, updM_same] at nq2'; cases nq2'
  have mq2 : M q2 = none := by rwa [updM_ne q21] at nq2'
  have nx' : updM (updM M q1 (.dk none (shD sh))) q2 (.dk none (shD un)) x = none := nx
  have x2 : q2 ≠ x := ne_of nx' updM_same
  have x1 : q1 ≠ x := ne_of nx' (by rw [updM_ne (Ne.symm q21)]; exact updM_same)
  have mx : M x = none := by rwa [updM_ne (Ne.symm x2), updM_ne (Ne.symm x1)] at nx'
  obtain ⟨N0, hN0⟩ : ∃ N0 : Mx, N0 = updM (updM (updM M q1 (.dk none (shD sh))) q2 (.dk none (shD un))) x (.ins T.C_Stock []) := ⟨_, rfl⟩
  have k0 : ∀ b m, M b = some m → N0 b = some m := fun b m h => by
    rw [hN0, updM_ne (ne_of mx h), updM_ne (ne_of mq2 h), updM_ne (ne_of nq1' h)]
    exact h
  have m1 : N0 q1 = some (.dk none (shD sh)) := by rw [hN0, updM_ne x1, updM_ne (Ne.symm q21), updM_same]
  have m2 : N0 q2 = some (.dk none (shD un)) := by rw [hN0, updM_ne x2, updM_same]
  have m3 : N0 x = some (.ins T.C_Stock []) := by rw [hN0, updM_same]
  show dc_Stock_init T.C_Stock [.r x, .r q1, .r q2] (updM (updM (updM M q1 (.dk none (shD sh))) q2 (.dk none (shD un))) x (.ins T.C_Stock [])) _ _
  rw [← hN0]
  refine ⟨x, q1, q2, sh, un, rfl, m3, x1, x2, shs, und, m1, m2, fun a1 a2 a3 M' na1 na2 na3 n12 n13 n23 hout hx h1 h2 h3 => ?_⟩
  refine ⟨rfl, x, T.C_Stock, _, [("shapes", .dk (shD sh)), ("under", .dk (shD un)), ("chains", .dk (chD sh un))], [a1, a2, a3], rfl, hx, .cons (.dk h1 (by simp)) (.cons (.dk h2 (by simp)) (.cons (.dk h3 (by simp)) .nil)), rfl, ?_⟩
  obtain ⟨N, hN⟩ : ∃ N, N = dropM M' [x, a1, a2, a3] := ⟨_, rfl⟩
  have k1 : ∀ b m, M b = some m → N b = some m := fun b m h => by
    have h0 := k0 b m h
    have g1 := ne_of mx h
    have g2 := ne_of na1 h0
    have g3 := ne_of na2 h0
    have g4 := ne_of na3 h0
    rw [hN, dropM_out (by simp [g1, g2, g3, g4]), hout b g1 g2 g3 g4]
    exact h0
  rw [← hN]
  refine fun t nt => ⟨t, _, rfl, updM_same, rfl, fun qa MA nq tb hA => ⟨rfl, rfl, ?_⟩⟩
  have nt' : N t = none := nt
  have nq' : updM N t (.ins T.C_Table []) qa = none := nq
  have qt : qa ≠ t := fun e => by rw [e, updM_same] at nq'; cases nq'
  have nqa : N qa = none := by rwa [updM_ne qt] at nq'
  have k2 : ∀ b m, M b = some m → MA b = some m := fun b m h => by
    have h1 := k1 b m h
    rw [hA b (ne_of nt' h1) (ne_of nqa h1)]
    show updM N t _ b = _
    rw [updM_ne (ne_of nt' h1)]
    exact h1
  have mt : M t = none := by
    cases e : M t with
    | none => rfl
    | some m => rw [k1 t m e] at nt'; cases nt'
  have mqa : ∀ b m, M b = some m → b ≠ qa := fun b m h => ne_of nqa (k1 b m h)
  refine forGo_of (fun rest S => ∃ (done rr : List Tr) (NN : Mx) (y4 : Slx), rest = rr.map Tr.d ∧ rows = done ++ rr ∧ TbAt T.C_Table (stD T.C_Stock sh un) (done.map Tr.k) NN t qa ∧ (∀ b m, M b = some m → NN b = some m) ∧ S = ⟨[.val (.r p1), .val (.r p2), .val (.l (rows.map Tr.d)), .val (.r t), y4], NN⟩)
    (fun d ds S h R hR => ?_) (fun S h => ?_) _ _ ⟨[], rows, MA, .no, rfl, rfl, tb, k2, rfl⟩
  · obtain ⟨done, rr, NN, y4, e1, er, tN, kN, rfl⟩ := h
    cases rr with
    | nil => cases e1
    | cons r rr =>
    cases e1
    have hr0 : r ∈ rows := by rw [er]; simp
    have ro := rok r hr0
    have hnd : r.z ∉ done.map Tr.z := by
      rw [er, List.map_append, List.map_cons] at nd
      exact fun hm => (List.nodup_append.mp nd).2.2 _ hm _ (List.mem_cons_self) rfl
    have hlen : done.length < 8 := by
      rw [er, List.length_append, List.length_cons] at rl8
      omega
    have hg : goodB sh (done.map Tr.k) true r.z r.pls r.w = true := by
      unfold goodB
      rw [tr_none hnd, List.length_map, decide_eq_true hlen, ro.ft]
      rfl
    refine ⟨_, atI_nat (j := 1) rfl, _, atI_nat (j := 0) rfl, rfl, rfl, _, tN.x, t, qa, sh, un, done.map Tr.k, r.z, true, r.pls, r.w, rfl, tN, sm, ⟨fun _ => ro.wd, fun e => by cases e⟩, ro.rl, by rw [List.length_map]; omega, fun _ => ?_, fun e => by rw [hg] at e; cases e⟩
    have tq : t ≠ qa := Ne.symm qt
    refine hR _ ⟨done ++ [r], rr, _, _, rfl, by rw [er]; simp, ⟨?_, ?_⟩, fun b m h => ?_, rfl⟩
    · show updM NN qa _ t = _
      rw [updM_ne tq]
      exact tN.x
    · show updM NN qa _ qa = _
      rw [updM_same, tr_put hnd]
    · show updM NN qa _ b = _
      rw [updM_ne (mqa b m h)]
      exact kN b m h
  · obtain ⟨done, rr, NN, y4, e1, er, tN, kN, rfl⟩ := h
    have e0 : rr = [] := by cases rr with | nil => rfl | cons a r => cases e1
    subst e0
    rw [List.append_nil] at er
    subst er
    exact ⟨rfl, q t qa NN mt tN kN⟩
end
end VL
set_option Elab.async false
set_option linter.all false
set_option pp.maxSteps 3000
set_option maxRecDepth 100000
set_option maxHeartbeats 1000000
namespace VL
open PySem PySem.Spec PyProof.Rows L2
section
variable {P : Program} {w : World} {K : PySem.W.Frag} {mg : Str → Option Value} {base : Heap}
theorem valD_mapput : ∀ (kds : List (Key × Da)) (k k' : Key) (d : Da), valD (kds.map (fun kd => if kd.1 = k then (kd.1, d) else kd)) k' = if k' = k then (valD kds k').map (fun _ => d) else valD kds k'
  | [], k, k', d => by simp [valD]
  | (a, x) :: l, k, k', d => by
    have ih := valD_mapput l k k' d
    unfold valD at ih ⊢
    rw [List.map_cons, List.find?_cons, List.find?_cons]
    by_cases h : a = k
    · subst h
      rw [if_pos rfl]
      by_cases h2 : a = k'
      · subst h2
        simp
      · have h3 : ¬ k' = a := fun e => h2 e.symm
        rw [if_neg h3] at ih ⊢
        simp only [h2, decide_false]
        exact ih
    · rw [if_neg h]
      by_cases h2 : a = k'
      · subst h2
        simp [h]
      · simp only [h2, decide_false]
        exact ih
theorem valD_put (kds : List (Key × Da)) (k k' : Key) (d : Da) : valD (putD kds k d) k' = if k' = k then some d else valD kds k' := by
  unfold putD
  by_cases h : (kds.any fun kd => decide (kd.1 = k)) = true
  · rw [if_pos h, valD_mapput]
    by_cases e : k' = k
    · subst e
      rw [if_pos rfl, if_pos rfl]
      rw [← valD_some_iff] at h
      obtain ⟨x, hx⟩ := Option.isSome_iff_exists.mp h
      rw [hx]
      rfl
    · rw [if_neg e, if_neg e]
  · rw [if_neg h, valD_snoc]
    by_cases e : k' = k
    · subst e
      rw [if_pos rfl, if_pos rfl]
      have : valD kds k' = none := by
        rw [← valD_some_iff] at h
        cases hv : valD kds k' with
        | none => rfl
        | some x => rw [hv] at h; exact absurd rfl h
      rw [this]
      rfl
    · rw [if_neg e, if_neg fun x => e x.symm]
      cases valD kds k' <;> rfl
theorem putD_O {kds : List (Key × Da)} {k : Key} {d : Da} (h : ∀ kd ∈ kds, kd.2.isO = false) (hd : d.isO = false) : ∀ kd ∈ putD kds k d, kd.2.isO = false := by
  intro kd hk
  unfold putD at hk
  split at hk
  · obtain ⟨y, hy, rfl⟩ := List.mem_map.mp hk
    split
    · exact hd
    · exact h y hy
  · rcases List.mem_append.mp hk with hk | hk
    · exact h kd hk
    · rw [List.mem_singleton.mp hk]; exact hd
theorem tr_val : ∀ {rows : List Tr} {r : Tr}, (rows.map Tr.z).Nodup → r ∈ rows → valD (rows.map Tr.k) (.inr r.z) = some (ruleD r.pls r.w)
  | a :: l, r, nd, h => by
    rw [List.map_cons, List.nodup_cons] at nd
    unfold valD
    rw [List.map_cons, List.find?_cons]
    rcases List.mem_cons.mp h with rfl | h
    · simp [Tr.k]
    · have ne : ¬ ((Tr.k a).1 = (.inr r.z : Key)) := fun e => nd.1 (List.mem_map.mpr ⟨r, h, (Sum.inr.inj e).symm⟩)
      rw [decide_eq_false ne]
      exact tr_val nd.2 h
end
end VL
set_option Elab.async false
set_option linter.all false
set_option pp.maxSteps 1500
set_option maxRecDepth 100000
set_option maxHeartbeats 1000000
namespace VL
open PySem PySem.Spec PyProof.Rows L2
mutual
def Pt.fitsT (rows : List Tr) : Pt → Prop
  | .nm _ _ => True
  | .nd _ z bs => ∃ r, r ∈ rows ∧ r.z = z ∧ Bk.fitsB rows r.pls bs
def Bk.fitsB (rows : List Tr) : List (Da × Da) → Bk → Prop
  | ps, .nil => ps = []
  | ps, .cons x _ q r => ∃ p pr, ps = p :: pr ∧ p.1.isN = x.isNone ∧ Pt.fitsT rows q ∧ Bk.fitsB rows pr r
end
mutual
theorem fits_rows (rows : List Tr) : ∀ (q : Pt) (path : List Nat) (x : Option Str) (xn : Bool), q.fitsT rows → ∀ r ∈ q.rows path x xn, r.q.fitsT rows
  | .nm n z, path, x, xn, h, r, hr => by
    rw [Pt.rows] at hr
    rw [List.mem_singleton.mp hr]
    exact h
  | .nd n z bs, path, x, xn, h, r, hr => by
    rw [Pt.rows] at hr
    rcases List.mem_cons.mp hr with rfl | hr
    · exact h
    · rw [Pt.fitsT] at h
      obtain ⟨r0, h1, h2, h3⟩ := h
      exact fits_brows rows bs _ path 0 h3 r hr
theorem fits_brows (rows : List Tr) : ∀ (b : Bk) (ps : List (Da × Da)) (path : List Nat) (i : Nat), b.fitsB rows ps → ∀ r ∈ b.rows path i, r.q.fitsT rows
  | .nil, ps, path, i, h, r, hr => by rw [Bk.rows] at hr; cases hr
  | .cons x xn q b, ps, path, i, h, r, hr => by
    rw [Bk.fitsB] at h
    obtain ⟨p, pr, rfl, h1, h2, h3⟩ := h
    rw [Bk.rows] at hr
    rcases List.mem_append.mp hr with hr | hr
    · exact fits_rows rows q _ x xn h2 r hr
    · exact fits_brows rows b pr path (i + 1) h3 r hr
end
theorem fitsB_len (rows : List Tr) : ∀ (b : Bk) (ps : List (Da × Da)), b.fitsB rows ps → b.len = ps.length
  | .nil, ps, h => by rw [Bk.fitsB] at h; subst h; rfl
  | .cons x xn q b, ps, h => by
    rw [Bk.fitsB] at h
    obtain ⟨p, pr, rfl, h1, h2, h3⟩ := h
    rw [Bk.len, List.length_cons, fitsB_len rows b pr h3]
section
variable {P : Program} {w : World} {K : PySem.W.Frag} {mg : Str → Option Value} {base : Heap}
def dc_is_kind : DC := fun ds M Q _ => ∃ (d : Da), ds = [d] ∧ Fk false d ∧ d.sz ≤ 1000 ∧ Q (.b true) M
theorem ok_is_kind (T : Tx P K mg) (G_walk : FnOk P w K mg base (L2.CX P w) 1 T.f_walk T.fd_walk ["form"] (spOf K dc_walk)) (G_is_form : FnOk P w K mg base (L2.CX P w) 2 T.f_is_form T.fd_is_form ["row"] (spOf K dc_is_form)) : FnOk P w K mg base (L2.CX P w) 3 T.f_is_kind T.fd_is_kind ["row"] (spOf K dc_is_kind) := by
  have sc := scIsKind
  refine okD T.d_is_kind.F sc (fun ds M Q X h => ?_) (fun cdv A outer s H E c ds M Qd Xd hn hr h hX => ?_)
  · obtain ⟨d, rfl, _⟩ := h
    rfl
  have tk := takes_of (X := cxOf (L2.CX P w) P w K mg base NIsKind "is_kind" (defScope sIsKind) T.f_is_kind cdv A outer s H E) rfl rfl rfl rfl
  refine ⟨_, (ss_one (s_ret (ve_and (v_call G_is_form (hr.mono (by decide)) (by rfl) T.d_is_form.g T.d_is_form.F.kp T.d_is_form.b tk hX (v_cons (vv 0) v_nil)) (pe_one (ve_not (v_cb1 (cr_any rfl) lAny (by rfl) T.n_any (by decide +kernel) (vOf (v_lc rfl sc.nd (i_sq (v_call G_walk (hr.mono (by decide)) (by rfl) T.d_walk.g T.d_walk.F.kp T.d_walk.b tk hX (v_cons (vv 0) v_nil))) (blkOk_by (own := [("part", 1)]) (N := NIsKind) (sc := defScope sIsKind) (by decide +kernel)) (fun c1 e1 => (lgN (i := 1) (by rw [e1, hn]; decide))) (fun _ _ _ _ _ => (pg_name (i := 1) sc.nd rfl (by first | exact .inl rfl | exact .inr rfl))) (fun _ _ _ _ _ _ _ => ts_nil) (fun _ _ _ _ _ c1 e1 => (v_isi isi_str (by rfl) T.n_isinstance (by rfl) T.n_str (by decide +kernel) (vv 1))) (by decide))))))))), ?_⟩
  obtain ⟨d, rfl, hf, hz, q⟩ := h
  have dO : d.isO = false := by cases hf <;> rfl
  refine ⟨dO, false, d, rfl, hf, by omega, dO, false, d, rfl, hf, by omega, fun hx hl => ?_⟩
  refine lc_map (fun _ => .b false) (fun y hy R1 hR1 => ?_) (fun y hy => rfl) (sz_le (by omega)) ?_
  · have h := hx y hy
    cases h with
    | lt h0 _ _ => cases h0
    | nd _ _ _ => exact hR1 _ (Agr.wipe.set (by decide))
  · refine ⟨_, _, rfl, bools_false d.subs, ?_⟩
    rw [show (d.subs.map fun _ => false).any id = false by simp]
    exact ⟨rfl, q⟩
def dc_check_kind (C : Addr) : DC := fun ds M Q _ => ∃ (sh un : List (Str × Str)) (d : Da), ds = [stD C sh un, d] ∧ (sh.map (·.1)).Nodup ∧ (∀ z v, (z, v) ∈ sh → v.length ≤ sizeLine) ∧ Fk false d ∧ d.sz ≤ 1000 ∧ fitB sh d = true ∧ Q .n M
theorem ok_check_kind (T : Tx P K mg) (G_Stock_fits : FnOk P w K mg base (L2.CX P w) 3 T.f_Stock_fits T.fd_Stock_fits ["self", "form"] (spOf K (dc_Stock_fits T.C_Stock))) (G_is_kind : FnOk P w K mg base (L2.CX P w) 3 T.f_is_kind T.fd_is_kind ["row"] (spOf K dc_is_kind)) : FnOk P w K mg base (L2.CX P w) 4 T.f_check_kind T.fd_check_kind ["stock", "row"] (spOf K (dc_check_kind T.C_Stock)) := by
  have sc := scCheckKind
  refine okD T.d_check_kind.F sc (fun ds M Q X h => ?_) (fun cdv A outer s H E c ds M Qd Xd hn hr h hX => ?_)
  · obtain ⟨sh, un, d, rfl, _⟩ := h
    rfl
  have tk := takes_of (X := cxOf (L2.CX P w) P w K mg base NCheckKind "check_kind" (defScope sCheckKind) T.f_check_kind cdv A outer s H E) rfl rfl rfl rfl
  refine ⟨_, (ss_cons (s_if (v_not (vTr (v_call G_is_kind (hr.mono (by decide)) (by rfl) T.d_is_kind.g T.d_is_kind.F.kp T.d_is_kind.b tk hX (v_cons (vv 1) v_nil))))
  (ss_one s_dead)
  ss_nil)
  (ss_one (s_if (v_not (vTr (v_meth G_Stock_fits (hr.mono (by decide)) T.c_Stock.cl T.d_Stock_fits.m T.d_Stock_fits.b tk hX (vv 0) (v_cons (vv 1) v_nil))))
  (ss_one s_dead)
  ss_nil))), ?_⟩
  obtain ⟨sh, un, d, rfl, nd, hv, hf, hz, hfit, q⟩ := h
  have dO : d.isO = false := by cases hf <;> rfl
  refine ⟨dO, d, rfl, hf, hz, ?_⟩
  dsimp only [trD]
  refine ite2 (fun z => by cases z) fun _ => ?_
  refine ⟨_, ⟨rfl, rfl⟩, rfl, dO, false, sh, un, d, rfl, nd, hv, hf, hz, ?_⟩
  dsimp only [trD]
  rw [hfit]
  exact ite2 (fun z => by cases z) fun _ => q
/-- the rows of a table have good sizes -/
structure Trz (rows : List Tr) : Prop where
  nd : (rows.map Tr.z).Nodup
  z : ∀ r ∈ rows, r.z.length ≤ 1000
  p : ∀ r ∈ rows, r.pls.length ≤ 3
  b : ∀ r ∈ rows, ∀ x ∈ r.pls, x.1.isO = false
theorem trk_O (rows : List Tr) : ∀ kd ∈ rows.map Tr.k, kd.2.isO = false := fun kd hk => by
  obtain ⟨x, _, rfl⟩ := List.mem_map.mp hk
  rfl
def dc_check_node (CT : Addr) : DC := fun ds M Q _ => ∃ (t tq : Addr) (st : Da) (rows : List Tr) (r : Tr) (κ : Da) (n : Bool) (bs : Bk), ds = [.r t, (Pt.nd n r.z bs).core κ] ∧ TbAt CT st (rows.map Tr.k) M t tq ∧ Trz rows ∧ r ∈ rows ∧ bs.fitsB rows r.pls ∧ Q .n M
theorem ok_check_node (T : Tx P K mg) (G_Table_getitem : FnOk P w K mg base (L2.CX P w) 3 T.f_Table_getitem T.fd_Table_getitem ["self", "sign"] (spOf K (dc_Table_getitem T.C_Table T.C_UnknownSign))) : FnOk P w K mg base (L2.CX P w) 5 T.f_check_node T.fd_check_node ["table", "node"] (spOf K (dc_check_node T.C_Table)) := by
  have sc := scCheckNode
  refine okD T.d_check_node.F sc (fun ds M Q X h => ?_) (fun cdv A outer s H E c ds M Qd Xd hn hr h hX => ?_)
  · obtain ⟨t, tq, st, rows, r, κ, n, bs, rfl, _⟩ := h
    rfl
  have tk := takes_of (X := cxOf (L2.CX P w) P w K mg base NCheckNode "_check_node" (defScope sCheckNode) T.f_check_node cdv A outer s H E) rfl rfl rfl rfl
  refine ⟨_, (ss_cons (s_asg (v_ownIx T.d_Table_getitem.own T.d_Table_getitem.ff G_Table_getitem (hr.mono (by decide)) T.d_Table_getitem.b tk hX (vv 0) (v_ix (vv 1) vi (fun _ _ => rfl))) (pg_tup (by rfl) (pgs_cons (pg_name (i := 2) sc.nd rfl (by first | exact .inl rfl | exact .inr rfl)) (pgs_cons (pg_name (i := 3) sc.nd rfl (by first | exact .inl rfl | exact .inr rfl)) pgs_nil))) (lgT (n := 2) (lgs_cons (lgN (i := 2) (by rw [hn]; decide)) (lgs_cons (lgN (i := 3) (by rw [hn]; decide)) lgs_nil)) (lenN (lenN len0))))
  (ss_cons (s_if (vt_cmp (op_neA hr.units) lNe (nomark _) (v_op op_sub lI0 (v_cb1 call_lenA lLen (by rfl) T.n_len (by decide +kernel) (vv 1)) vi) (v_cb1 call_lenA lLen (by rfl) T.n_len (by decide +kernel) (vv 2)))
  (ss_one s_dead)
  ss_nil)
  (ss_one (s_for (passes_of rfl) rfl (i_zip (by rfl) T.n_zip (vv 2) (v_sl (vv 1) (v_part vi) v_no)) (pg_tup (by rfl) (pgs_cons (pg_tup (by rfl) (pgs_cons (pg_name (i := 4) sc.nd rfl (by first | exact .inl rfl | exact .inr rfl)) (pgs_cons (pg_name (i := 3) sc.nd rfl (by first | exact .inl rfl | exact .inr rfl)) pgs_nil))) (pgs_cons (pg_name (i := 5) sc.nd rfl (by first | exact .inl rfl | exact .inr rfl)) pgs_nil))) (lgT (n := 2) (lgs_cons (lgT (n := 2) (lgs_cons (lgN (i := 4) (by rw [hn]; decide)) (lgs_cons (lgN (i := 3) (by rw [hn]; decide)) lgs_nil)) (lenN (lenN len0))) (lgs_cons (lgN (i := 5) (by rw [hn]; decide)) lgs_nil)) (lenC (xT (xCons xN (xCons xN xNil))) (lenN len0)))
  (ss_one (s_if (vt_cmp (op_neA hr.units) lNe (nomark _) (v_cmp op_isN lIs (nomark _) (vv 4) vn) (v_cmp op_isN lIs (nomark _) (v_ix (vv 5) vi (fun _ _ => rfl)) vn))
  (ss_one s_dead)
  ss_nil)))))), ?_⟩
  obtain ⟨t, tq, st, rows, r, κ, n, bs, rfl, tb, tz, hr0, hf, q⟩ := h
  have ec : (Pt.nd n r.z bs).core κ = .t (.s r.z :: bs.das κ) := by simp [Pt.core]
  rw [ec]
  have hv := tr_val tz.nd hr0
  have hl := fitsB_len rows bs _ hf
  refine ⟨_, atI_nat (j := 0) rfl, _, tb.x, rfl, t, tq, st, _, r.z, rfl, ⟨tb.x, none, tb.q⟩, tz.z r hr0, trk_O rows, fun d e => ?_, fun e => by rw [hv] at e; cases e⟩
  rw [hv] at e
  cases e
  have e1 : ((Da.s r.z :: bs.das κ).length : Int) - 1 = ((r.pls.map pl2).length : Int) := by
    rw [List.length_cons, das_len, List.length_map, hl]
    omega
  have wO : r.w.isO = false ∨ True := .inr trivial
  refine ⟨rfl, .inl ⟨rfl, rfl, rfl, ?_⟩⟩
  have e2 : (!eqF (Da.i (((Da.s r.z :: bs.das κ).length : Int) - 1)) (Da.i ((r.pls.map pl2).length : Int))) = false := by
    show (!decide (((Da.s r.z :: bs.das κ).length : Int) - 1 = ((r.pls.map pl2).length : Int))) = false
    rw [decide_eq_true e1]
    rfl
  rw [e2]
  refine ite2 (fun z => by cases z) fun _ => ?_
  have pO := tz.b r hr0
  refine ⟨rfl, rfl, ?_⟩
  show forGo _ _ _ (zipD (r.pls.map pl2) (cutD (.s r.z :: bs.das κ) (some 1) none)) _
  rw [cut_tail]
  refine forGo_of (fun rest S => ∃ (ps : List (Da × Da)) (rb : Bk) (y3 y4 y5 : Slx), rest = zipD (ps.map pl2) (rb.das κ) ∧ (∀ x ∈ ps, x.1.isO = false) ∧ rb.fitsB rows ps ∧ S = ⟨[.val (.r t), .val (.t (.s r.z :: bs.das κ)), .val (.t (r.pls.map pl2)), y3, y4, y5], M⟩)
    (fun d ds S h R hR => ?_) (fun S h => ?_) _ _ ⟨r.pls, bs, _, .no, .no, rfl, pO, hf, rfl⟩
  · obtain ⟨ps, rb, y3, y4, y5, er, hO, hB, rfl⟩ := h
    cases rb with
    | nil =>
      rw [Bk.fitsB] at hB
      subst hB
      cases er
    | cons x xn q0 rb =>
    rw [Bk.fitsB] at hB
    obtain ⟨p, pr, rfl, h1, h2, h3⟩ := hB
    rw [Bk.das, List.map_cons, zipD] at er
    injection er with er1 er2
    subst er1
    subst er2
    have p1O := hO p (by simp)
    have hO' : ∀ y ∈ pr, y.1.isO = false := fun y hy => hO y (by simp [hy])
    obtain ⟨b0, f0⟩ := p
    cases x <;> cases b0 <;> first | (cases p1O; done) | (cases h1; done) | exact ⟨_, atI_nat (j := 0) rfl, .inl ⟨rfl, rfl, rfl, ite2 (fun z => by cases z) fun _ => hR _ ⟨pr, rb, _, _, _, rfl, hO', h3, rfl⟩⟩⟩
  · obtain ⟨ps, rb, y3, y4, y5, er, hO, hB, rfl⟩ := h
    exact q
end
end VL
set_option Elab.async false
set_option linter.all false
set_option maxRecDepth 100000
set_option maxHeartbeats 1000000
namespace VL
open PySem PySem.Spec PyProof.Rows L2
section
variable {P : Program} {w : World} {K : PySem.W.Frag} {mg : Str → Option Value} {base : Heap}
def dc_parted : DC := fun ds M Q _ => ∃ (q : Pt) (κ : Da), ds = [q.da κ] ∧ q.ok ∧ Fk false κ ∧ κ.sz ≤ 1000 ∧ Q (.t [q.core κ, noteD κ q.noted]) M
theorem ok_parted (T : Tx P K mg) (G_is_kind : FnOk P w K mg base (L2.CX P w) 3 T.f_is_kind T.fd_is_kind ["row"] (spOf K dc_is_kind)) : FnOk P w K mg base (L2.CX P w) 4 T.f_parted T.fd_parted ["part"] (spOf K dc_parted) := by
  have sc := scParted
  refine okD T.d_parted.F sc (fun ds M Q X h => ?_) (fun cdv A outer s H E c ds M Qd Xd hn hr h hX => ?_)
  · obtain ⟨q, κ, rfl, _⟩ := h
    rfl
  have tk := takes_of (X := cxOf (L2.CX P w) P w K mg base NParted "_parted" (defScope sParted) T.f_parted cdv A outer s H E) rfl rfl rfl rfl
  refine ⟨_, (ss_cons (s_if (PW.pt (v_or (v_not (vB (v_isi isi_tuple (by rfl) T.n_isinstance (by rfl) T.n_tuple (by decide +kernel) (vv 0)))) (pw_or1 (vt_cmp (op_neA hr.units) lNe (nomark _) (v_sl (vv 0) v_no (v_part vi)) (v_tup (v_cons vs v_nil))))))
  (ss_one (s_ret (v_tup (v_cons (vv 0) (v_cons vn v_nil)))))
  ss_nil)
  (ss_cons (s_if (vt_cmp (op_neA hr.units) lNe (nomark _) (v_cb1 call_lenA lLen (by rfl) T.n_len (by decide +kernel) (vv 0)) vi)
  (ss_one s_dead)
  ss_nil)
  (ss_cons (s_if (v_not (vTr (v_call G_is_kind (hr.mono (by decide)) (by rfl) T.d_is_kind.g T.d_is_kind.F.kp T.d_is_kind.b tk hX (v_cons (v_ix (vv 0) vi (fun _ _ => rfl)) v_nil))))
  (ss_one s_dead)
  ss_nil)
  (ss_one (s_ret (v_tup (v_cons (v_ix (vv 0) vi (fun _ _ => rfl)) (v_cons (v_ix (vv 0) vi (fun _ _ => rfl)) v_nil)))))))), ?_⟩
  obtain ⟨q, κ, rfl, hok, hκ, hz, qq⟩ := h
  have κO : κ.isO = false := by cases hκ <;> rfl
  have ec : (Da.t [.s colon]).eqb = true := pd_s1 (by decide +kernel)
  cases hn : q.noted with
  | true =>
    have e : q.da κ = .t [.s colon, q.core κ, κ] := by rw [Pt.da_eq, hn]; simp
    rw [hn] at qq
    rw [e]
    have : PyData.eqv (Da.t (cutD [.s colon, q.core κ, κ] none (some 1))).py (Da.t [.s colon]).py = true := by rw [cut_head]; exact eqv_self ec
    refine ⟨rfl, by show 1 ≤ sizeLine; decide, .inr ⟨(by rw [cut_head]; exact ec), ec, ite2 (fun z => ?_) (fun _ => ?_)⟩⟩
    · rw [show PyData.eqv (Da.t (cutD [.s colon, q.core κ, κ] none (some 1))).py (Da.t [.s (Str.ofString ":")]).py = true from this] at z
      cases z
    refine .inl ⟨rfl, rfl, rfl, ?_⟩
    refine ⟨_, atI_nat (j := 2) rfl, κO, κ, rfl, hκ, hz, ?_⟩
    exact ⟨_, atI_nat (j := 1) rfl, q.coreO κ, _, atI_nat (j := 2) rfl, κO, by show 2 ≤ sizeLine; decide, rfl, qq⟩
  | false =>
    have e : q.da κ = q.core κ := by rw [Pt.da_eq, hn]; simp
    rw [hn] at qq
    rw [e]
    have fin : ∀ z : Str, Wd z → True := fun _ _ => trivial
    cases q with
    | nm b z =>
      have e2 : (Pt.nm b z).core κ = .s z := by simp [Pt.core]
      rw [e2] at qq ⊢
      exact ⟨rfl, rfl, by show 2 ≤ sizeLine; decide, rfl, qq⟩
    | nd b z bs =>
      have e2 : (Pt.nd b z bs).core κ = .t (.s z :: bs.das κ) := by simp [Pt.core]
      rw [e2] at qq ⊢
      simp only [Pt.ok] at hok
      have hne : PyData.eqv (Da.t (cutD (.s z :: bs.das κ) none (some 1))).py (Da.t [.s colon]).py = false := by
        rw [cut_head, eqv_s1]
        exact decide_eq_false (wd_colon hok.1)
      refine ⟨rfl, by show 1 ≤ sizeLine; decide, .inr ⟨(by rw [cut_head]; exact pd_s1 (wd_ok hok.1)), ec, ite2 (fun _ => ?_) (fun y => ?_)⟩⟩
      · exact ⟨rfl, rfl, by show 2 ≤ sizeLine; decide, rfl, qq⟩
      · refine absurd ?_ y
        rw [show PyData.eqv (Da.t (cutD (.s z :: bs.das κ) none (some 1))).py (Da.t [.s (Str.ofString ":")]).py = false from hne]
        rfl
def dc_check_block : DC := fun ds M Q _ => ∃ (x : Option Str) (xn : Bool) (d κ : Da), ds = [.t [optS x, noteD κ xn, d]] ∧ d.isO = false ∧ (∀ z, x = some z → Wd z) ∧ (x = none → xn = false) ∧ Fk false κ ∧ κ.sz ≤ 1000 ∧ Q .n M
theorem ok_check_block (T : Tx P K mg) (G_is_kind : FnOk P w K mg base (L2.CX P w) 3 T.f_is_kind T.fd_is_kind ["row"] (spOf K dc_is_kind)) (G_is_word : FnOk P w K mg base (L2.CX P w) 1 T.f_is_word T.fd_is_word ["text"] (spOf K dc_is_word)) : FnOk P w K mg base (L2.CX P w) 4 T.f_check_block T.fd_check_block ["block"] (spOf K dc_check_block) := by
  have sc := scCheckBlock
  refine okD T.d_check_block.F sc (fun ds M Q X h => ?_) (fun cdv A outer s H E c ds M Qd Xd hn hr h hX => ?_)
  · obtain ⟨x, xn, d, κ, rfl, _⟩ := h
    rfl
  have tk := takes_of (X := cxOf (L2.CX P w) P w K mg base NCheckBlock "_check_block" (defScope sCheckBlock) T.f_check_block cdv A outer s H E) rfl rfl rfl rfl
  refine ⟨_, (ss_cons (s_if (PW.pt (v_or (v_not (vB (v_isi isi_tuple (by rfl) T.n_isinstance (by rfl) T.n_tuple (by decide +kernel) (vv 0)))) (pw_or1 (vt_cmp (op_neA hr.units) lNe (nomark _) (v_cb1 call_lenA lLen (by rfl) T.n_len (by decide +kernel) (vv 0)) vi))))
  (ss_one s_dead)
  ss_nil)
  (ss_cons (s_asg (vv 0) (pg_tup (by rfl) (pgs_cons (pg_name (i := 1) sc.nd rfl (by first | exact .inl rfl | exact .inr rfl)) (pgs_cons (pg_name (i := 2) sc.nd rfl (by first | exact .inl rfl | exact .inr rfl)) (pgs_cons (pg_name (i := 3) sc.nd rfl (by first | exact .inl rfl | exact .inr rfl)) pgs_nil)))) (lgT (n := 3) (lgs_cons (lgN (i := 1) (by rw [hn]; decide)) (lgs_cons (lgN (i := 2) (by rw [hn]; decide)) (lgs_cons (lgN (i := 3) (by rw [hn]; decide)) lgs_nil))) (lenN (lenN (lenN len0)))))
  (ss_cons (s_if (vt_cmp op_isN lIs (nomark _) (vv 1) vn)
  (ss_cons (s_if (vt_cmp op_notN lIsNot (nomark _) (vv 2) vn)
  (ss_one s_dead)
  ss_nil)
  (ss_one s_retN))
  ss_nil)
  (ss_cons (s_if (v_not (vTr (v_call G_is_word (hr.mono (by decide)) (by rfl) T.d_is_word.g T.d_is_word.F.kp T.d_is_word.b tk hX (v_cons (vv 1) v_nil))))
  (ss_one s_dead)
  ss_nil)
  (ss_one (s_if (PW.pt (v_and (vt_cmp op_notN lIsNot (nomark _) (vv 2) vn) (pw_and1 (v_not (vTr (v_call G_is_kind (hr.mono (by decide)) (by rfl) T.d_is_kind.g T.d_is_kind.F.kp T.d_is_kind.b tk hX (v_cons (vv 2) v_nil)))))))
  (ss_one s_dead)
  ss_nil)))))), ?_⟩
  obtain ⟨x, xn, d, κ, rfl, dO, hw, hx, hκ, hz, qq⟩ := h
  have κO : κ.isO = false := by cases hκ <;> rfl
  refine .inl ⟨rfl, rfl, rfl, ?_⟩
  cases x with
  | none =>
    have := hx rfl
    subst this
    exact ⟨rfl, qq⟩
  | some z =>
    refine ⟨rfl, rfl, z, rfl, .inl ⟨hw z rfl, ?_⟩⟩
    cases xn with
    | false => exact qq
    | true =>
      cases hκ with
      | lt h0 _ _ => cases h0
      | nd h1 h2 h3 => exact ⟨rfl, _, rfl, .nd h1 h2 h3, hz, qq⟩
def dc_check_core : DC := fun ds M Q _ => ∃ (q : Pt) (κ : Da), ds = [q.core κ] ∧ q.ok ∧ Fk false κ ∧ κ.sz ≤ 1000 ∧ Q .n M
theorem ok_check_core (T : Tx P K mg) (G_check_block : FnOk P w K mg base (L2.CX P w) 4 T.f_check_block T.fd_check_block ["block"] (spOf K dc_check_block)) (G_is_word : FnOk P w K mg base (L2.CX P w) 1 T.f_is_word T.fd_is_word ["text"] (spOf K dc_is_word)) : FnOk P w K mg base (L2.CX P w) 5 T.f_check_core T.fd_check_core ["core"] (spOf K dc_check_core) := by
  have sc := scCheckCore
  refine okD T.d_check_core.F sc (fun ds M Q X h => ?_) (fun cdv A outer s H E c ds M Qd Xd hn hr h hX => ?_)
  · obtain ⟨q, κ, rfl, _⟩ := h
    rfl
  have tk := takes_of (X := cxOf (L2.CX P w) P w K mg base NCheckCore "_check_core" (defScope sCheckCore) T.f_check_core cdv A outer s H E) rfl rfl rfl rfl
  refine ⟨_, (ss_cons (s_if (vB (v_isi isi_str (by rfl) T.n_isinstance (by rfl) T.n_str (by decide +kernel) (vv 0)))
  (ss_cons (s_if (v_not (vTr (v_call G_is_word (hr.mono (by decide)) (by rfl) T.d_is_word.g T.d_is_word.F.kp T.d_is_word.b tk hX (v_cons (vv 0) v_nil))))
  (ss_one s_dead)
  ss_nil)
  (ss_one s_retN))
  ss_nil)
  (ss_cons (s_if (PW.pt (v_or (v_not (vB (v_isi isi_tuple (by rfl) T.n_isinstance (by rfl) T.n_tuple (by decide +kernel) (vv 0)))) (v_or (v_not (vTr (vv 0))) (pw_or1 (v_not (vB (v_isi isi_str (by rfl) T.n_isinstance (by rfl) T.n_str (by decide +kernel) (v_ix (vv 0) vi (fun _ _ => rfl)))))))))
  (ss_one s_dead)
  ss_nil)
  (ss_cons (s_if (vt_cmp (op_eqA hr.units) lEq (nomark _) (v_ix (vv 0) vi (fun _ _ => rfl)) vs)
  (ss_one s_dead)
  ss_nil)
  (ss_cons (s_if (v_not (vTr (v_call G_is_word (hr.mono (by decide)) (by rfl) T.d_is_word.g T.d_is_word.F.kp T.d_is_word.b tk hX (v_cons (v_ix (vv 0) vi (fun _ _ => rfl)) v_nil))))
  (ss_one s_dead)
  ss_nil)
  (ss_one (s_for (passes_of rfl) rfl (i_sq (v_sl (vv 0) (v_part vi) v_no)) (pg_name (i := 1) sc.nd rfl (by first | exact .inl rfl | exact .inr rfl)) (lgN (i := 1) (by rw [hn]; decide))
  (ss_one (s_expr (v_call G_check_block (hr.mono (by decide)) (by rfl) T.d_check_block.g T.d_check_block.F.kp T.d_check_block.b tk hX (v_cons (vv 1) v_nil)))))))))), ?_⟩
  obtain ⟨q, κ, rfl, hok, hκ, hz, qq⟩ := h
  have κO : κ.isO = false := by cases hκ <;> rfl
  cases q with
  | nm b z =>
    have e2 : (Pt.nm b z).core κ = .s z := by simp [Pt.core]
    rw [e2]
    simp only [Pt.ok] at hok
    exact ⟨rfl, z, rfl, .inl ⟨hok, qq⟩⟩
  | nd b z bs =>
    have e2 : (Pt.nd b z bs).core κ = .t (.s z :: bs.das κ) := by simp [Pt.core]
    rw [e2]
    simp only [Pt.ok] at hok
    refine ⟨_, atI_nat (j := 0) rfl, _, atI_nat (j := 0) rfl, .inl ⟨rfl, rfl, rfl, ite2 (fun y => ?_) (fun _ => ?_)⟩⟩
    · exact absurd (of_decide_eq_true y) (wd_colon hok.1)
    refine ⟨_, atI_nat (j := 0) rfl, rfl, z, rfl, .inl ⟨hok.1, ?_⟩⟩
    refine forGo_of (fun rest S => ∃ (rb : Bk) (y1 : Slx), rest = rb.das κ ∧ rb.ok ∧ S = ⟨[.val (.t (.s z :: bs.das κ)), y1], M⟩) (fun k ds S h R hR => ?_) (fun S h => ?_) _ _ ⟨bs, .no, cut_tail, hok.2, rfl⟩
    · obtain ⟨rb, y1, er, rok, rfl⟩ := h
      cases rb with
      | nil => simp only [Bk.das] at er; cases er
      | cons x xn q1 rb =>
      simp only [Bk.das] at er
      injection er with er1 er2
      subst er1
      subst er2
      simp only [Bk.ok] at rok
      exact ⟨rfl, x, xn, q1.da κ, κ, rfl, q1.daO κ, rok.1, rok.2.1, hκ, hz, hR _ ⟨rb, _, rfl, rok.2.2.2, rfl⟩⟩
    · obtain ⟨rb, y1, er, rok, rfl⟩ := h
      exact qq
end
end VL
set_option Elab.async false
set_option linter.all false
set_option maxRecDepth 100000
set_option maxHeartbeats 1000000
namespace VL
open PySem PySem.Spec PyProof.Rows L2
section
variable {P : Program} {w : World} {K : PySem.W.Frag} {mg : Str → Option Value} {base : Heap}
def dc_laid_out : DC := fun ds M Q _ => ∃ (q : Pt) (κ : Da), ds = [q.da κ] ∧ q.ok ∧ Fk false κ ∧ κ.sz ≤ 1000 ∧ q.count ≤ 1000 ∧ Q (.l ((q.rows [] none false).map (rwD κ))) M
theorem ok_laid_out (T : Tx P K mg) (G_check_core : FnOk P w K mg base (L2.CX P w) 5 T.f_check_core T.fd_check_core ["core"] (spOf K dc_check_core)) (G_parted : FnOk P w K mg base (L2.CX P w) 4 T.f_parted T.fd_parted ["part"] (spOf K dc_parted)) : FnOk P w K mg base (L2.CX P w) 6 T.f_laid_out T.fd_laid_out ["program"] (spOf K dc_laid_out) := by
  have sc := scLaidOut
  refine okD T.d_laid_out.F sc (fun ds M Q X h => ?_) (fun cdv A outer s H E c ds M Qd Xd hn hr h hX => ?_)
  · obtain ⟨q, κ, rfl, _⟩ := h
    rfl
  have tk := takes_of (X := cxOf (L2.CX P w) P w K mg base NLaidOut "laid_out" (defScope sLaidOut) T.f_laid_out cdv A outer s H E) rfl rfl rfl rfl
  refine ⟨_, (ss_cons (s_own (i := 1) sc.nd rfl (by first | exact .inl rfl | exact .inr rfl) (by rw [hn]; decide) (v_lst v_nil))
  (ss_cons (s_own (i := 2) sc.nd rfl (by first | exact .inl rfl | exact .inr rfl) (by rw [hn]; decide) (v_lst (v_cons (v_tup (v_cons (v_tup v_nil) (v_cons (vv 0) (v_cons vn (v_cons vn v_nil))))) v_nil)))
  (ss_cons (s_while (passes_of rfl) (vTr (vv 2))
  (ss_cons (s_asg (v_pop (by rfl) (by rfl) (vv 2)) (pg_tup (by rfl) (pgs_cons (pg_name (i := 3) sc.nd rfl (by first | exact .inl rfl | exact .inr rfl)) (pgs_cons (pg_name (i := 4) sc.nd rfl (by first | exact .inl rfl | exact .inr rfl)) (pgs_cons (pg_name (i := 5) sc.nd rfl (by first | exact .inl rfl | exact .inr rfl)) (pgs_cons (pg_name (i := 6) sc.nd rfl (by first | exact .inl rfl | exact .inr rfl)) pgs_nil))))) (lgT (n := 4) (lgs_cons (lgN (i := 3) (by rw [hn]; decide)) (lgs_cons (lgN (i := 4) (by rw [hn]; decide)) (lgs_cons (lgN (i := 5) (by rw [hn]; decide)) (lgs_cons (lgN (i := 6) (by rw [hn]; decide)) lgs_nil)))) (lenN (lenN (lenN (lenN len0))))))
  (ss_cons (s_asg (v_call G_parted (hr.mono (by decide)) (by rfl) T.d_parted.g T.d_parted.F.kp T.d_parted.b tk hX (v_cons (vv 4) v_nil)) (pg_tup (by rfl) (pgs_cons (pg_name (i := 7) sc.nd rfl (by first | exact .inl rfl | exact .inr rfl)) (pgs_cons (pg_name (i := 8) sc.nd rfl (by first | exact .inl rfl | exact .inr rfl)) pgs_nil))) (lgT (n := 2) (lgs_cons (lgN (i := 7) (by rw [hn]; decide)) (lgs_cons (lgN (i := 8) (by rw [hn]; decide)) lgs_nil)) (lenN (lenN len0))))
  (ss_cons (s_expr (v_call G_check_core (hr.mono (by decide)) (by rfl) T.d_check_core.g T.d_check_core.F.kp T.d_check_core.b tk hX (v_cons (vv 7) v_nil)))
  (ss_cons (s_expr (v_met PySem.F.plainAttrs_list PySem.F.slot_list_append PySem.F.type_list_append mt_append tyL_ok lAppend (vv 1) (v_tup (v_cons (vv 3) (v_cons (vv 7) (v_cons (vv 8) (v_cons (vv 5) (v_cons (vv 6) v_nil))))))))
  (ss_one (s_if (v_not (vB (v_isi isi_str (by rfl) T.n_isinstance (by rfl) T.n_str (by decide +kernel) (vv 7))))
  (ss_cons (s_valLc (i := 9) rfl sc.nd rfl rfl (by rw [hn]; decide) (sw_true rfl rfl rfl (by decide +kernel)) (i_enum (by rfl) T.n_enumerate (v_sl (vv 7) (v_part vi) v_no)) (blkOk_by (own := [("place", 10), ("block", 11)]) (N := NLaidOut) (sc := defScope sLaidOut) (by decide +kernel)) (fun c1 e1 => (lgT (n := 2) (lgs_cons (lgN (i := 10) (by rw [e1, hn]; decide)) (lgs_cons (lgN (i := 11) (by rw [e1, hn]; decide)) lgs_nil)) (lenN (lenN len0)))) (fun _ _ _ _ _ => (pg_tup (by rfl) (pgs_cons (pg_name (i := 10) sc.nd rfl (by first | exact .inl rfl | exact .inr rfl)) (pgs_cons (pg_name (i := 11) sc.nd rfl (by first | exact .inl rfl | exact .inr rfl)) pgs_nil)))) (fun _ _ _ _ _ _ _ => ts_nil) (fun _ _ _ _ _ c1 e1 => (v_tup (v_cons (v_op op_addA lAdd (vv 3) (v_tup (v_cons (vv 10) v_nil))) (v_cons (v_ix (vv 11) vi (fun _ _ => rfl)) (v_cons (v_ix (vv 11) vi (fun _ _ => rfl)) (v_cons (v_ix (vv 11) vi (fun _ _ => rfl)) v_nil)))))) (by decide))
  (ss_one (s_expr (v_met PySem.F.plainAttrs_list PySem.F.slot_list_extend PySem.F.type_list_extend mt_extA tyL_ok lExtend (vv 2) (v_revl (vv 9))))))
  ss_nil)))))))
  (ss_one (s_ret (vFz (vv 1))))))), ?_⟩
  obtain ⟨q0, κ, rfl, hok, hκ, hz, hc, qq⟩ := h
  have κO : κ.isO = false := by cases hκ <;> rfl
  refine ⟨by show 0 ≤ sizeLine; decide, fun p1 n1 => ⟨by show 0 ≤ sizeLine; decide, rfl, q0.daO κ, rfl, rfl, by show 4 ≤ sizeLine; decide, rfl, by show 1 ≤ sizeLine; decide, fun p2 n2 => ?_⟩⟩
  refine ⟨fun m S => ∃ (rows todo : List Rw) (y3 y4 y5 y6 y7 y8 y9 y10 y11 : Slx), m = cnt todo ∧ rows ++ todo.reverse.flatMap rwRows = q0.rows [] none false ∧ (∀ t ∈ todo, t.q.ok ∧ t.path.length + t.q.count ≤ q0.count) ∧ rows.length + cnt todo = q0.count ∧
      S = ⟨[.val (q0.da κ), .own p1 (rows.map (rwD κ)), .own p2 (todo.map (tdD κ)), y3, y4, y5, y6, y7, y8, y9, y10, y11], M⟩,
    ⟨_, [], [⟨[], q0, none, false⟩], .no, .no, .no, .no, .no, .no, .no, .no, .no, rfl, by simp [rwRows], by simp [hok], by simp [cnt], rfl⟩, ?_⟩
  rintro m S ⟨rows, todo, y3, y4, y5, y6, y7, y8, y9, y10, y11, rfl, he, ht, hl, rfl⟩
  refine ⟨_, rfl, ite2 (fun zt => ?_) (fun zt => ?_)⟩
  · rcases List.eq_nil_or_concat todo with e | ⟨ini, t, e⟩
    · subst e
      cases zt
    rw [List.concat_eq_append] at e
    subst e
    obtain ⟨path, q, x, xn⟩ := t
    obtain ⟨tok, tlen⟩ : q.ok ∧ path.length + q.count ≤ q0.count := ht ⟨path, q, x, xn⟩ (by simp)
    have hi : ∀ y ∈ ini, y.q.ok ∧ y.path.length + y.q.count ≤ q0.count := fun y hy => ht y (by simp [hy])
    have hl2 : rows.length + (cnt ini + q.count) = q0.count := by
      rw [cnt_app] at hl
      simpa [cnt] using hl
    have cl := cnt_len ini
    have cp := count_pos q
    have he2 : (rows ++ [⟨path, q, x, xn⟩]) ++ ((match q with | .nm _ _ => [] | .nd _ _ bs => bs.rows path 0) ++ ini.reverse.flatMap rwRows) = q0.rows [] none false := by
      rw [← he, List.reverse_append]
      simp only [List.reverse_cons, List.reverse_nil, List.nil_append, List.flatMap_append, List.flatMap_singleton, List.append_assoc, rwRows]
      cases q <;> simp [Pt.rows]
    refine ⟨_, tdD κ ⟨path, q, x, xn⟩, ⟨[.val (q0.da κ), .own p1 (rows.map (rwD κ)), .own p2 (ini.map (tdD κ)), y3, y4, y5, y6, y7, y8, y9, y10, y11], M⟩, rfl, by simp, by show some _ = some _; rw [List.map_append, List.map_cons, List.map_nil, List.dropLast_concat]; rfl, ?_⟩
    have rl : (rows.map (rwD κ)).length < sizeLine := by rw [List.length_map, sizeLine_eq]; omega
    refine ⟨rfl, q.daO κ, q, κ, rfl, tok, hκ, hz, rfl, q.coreO κ, q, κ, rfl, tok, hκ, hz, ⟨_, rfl⟩, rfl, q.coreO κ, noteO κO q.noted, optS_O x, noteO κO xn, by show 5 ≤ sizeLine; decide, _, _, rfl, rfl, rl, rfl, ?_⟩
    cases q with
    | nm b z =>
      have e2 : (Pt.nm b z).core κ = .s z := by simp [Pt.core]
      rw [e2]
      have hrw : rows.map (rwD κ) ++ [.t [pathD path, .s z, noteD κ (Pt.nm b z).noted, optS x, noteD κ xn]] = (rows ++ [(⟨path, .nm b z, x, xn⟩ : Rw)]).map (rwD κ) := by
        rw [List.map_append]
        simp [rwD, Pt.core]
      rw [hrw]
      refine ⟨cnt ini, ?_, rows ++ [⟨path, .nm b z, x, xn⟩], ini, _, _, _, _, _, _, _, _, _, rfl, ?_, hi, ?_, rfl⟩
      · rw [cnt_app]
        simp [cnt, Pt.count]
      · simpa using he2
      · rw [List.length_append, List.length_singleton]
        simp only [Pt.count] at hl2
        omega
    | nd b z bs =>
      have e2 : (Pt.nd b z bs).core κ = .t (.s z :: bs.das κ) := by simp [Pt.core]
      rw [e2]
      have hrw : rows.map (rwD κ) ++ [.t [pathD path, .t (.s z :: bs.das κ), noteD κ (Pt.nd b z bs).noted, optS x, noteD κ xn]] = (rows ++ [(⟨path, .nd b z bs, x, xn⟩ : Rw)]).map (rwD κ) := by
        rw [List.map_append]
        simp [rwD, Pt.core]
      rw [hrw]
      simp only [Pt.ok] at tok
      simp only [Pt.count] at hl2 tlen
      have bc := len_count bs
      refine lc_map (kidG path) (fun d hd R1 hR1 => ?_) (fun d hd => ?_) ?_ ?_
      · rw [cut_tail] at hd
        obtain ⟨k, x', xn', q', rfl⟩ := enum_mem κ bs 0 d hd
        have hR := hR1 _ ((Agr.wipe.set (i := 10) (x := .val (.i (k : Int))) (by decide)).set (i := 11) (x := .val (.t [optS x', noteD κ xn', q'.da κ])) (by decide))
        exact ⟨rfl, by show 1 ≤ sizeLine; decide, by rw [List.length_map, List.length_singleton]; show path.length + 1 ≤ sizeLine; rw [sizeLine_eq]; omega, rfl, _, atI_nat (j := 2) rfl, q'.daO κ, _, atI_nat (j := 0) rfl, optS_O x', _, atI_nat (j := 1) rfl, noteO κO xn', by show 4 ≤ sizeLine; decide, hR⟩
      · rw [cut_tail] at hd
        obtain ⟨k, x', xn', q', rfl⟩ := enum_mem κ bs 0 d hd
        rfl
      · rw [cut_tail, enumD_len, das_len]
        exact sz_le (by omega)
      · rw [cut_tail, kids_das]
        have kc := kids_cnt bs path 0
        have kl := cnt_len (bs.kids path 0)
        have hrk : (ini ++ (bs.kids path 0).reverse).map (tdD κ) = ini.map (tdD κ) ++ ((bs.kids path 0).map (tdD κ)).reverse := by rw [List.map_append, List.map_reverse]
        refine ⟨rfl, ⟨_, rfl⟩, _, rfl, _, _, _, rfl, rfl, by rw [List.length_map, List.length_reverse, List.length_map, sizeLine_eq]; omega, rfl, ?_⟩
        rw [← hrk]
        refine ⟨cnt (ini ++ (bs.kids path 0).reverse), ?_, rows ++ [⟨path, .nd b z bs, x, xn⟩], ini ++ (bs.kids path 0).reverse, _, _, _, _, _, _, _, _, _, rfl, ?_, fun t hti => ?_, ?_, rfl⟩
        · rw [cnt_app, cnt_app, cnt_rev, kc]
          simp [cnt, Pt.count]
        · rw [List.reverse_append, List.reverse_reverse, List.flatMap_append, kids_rows]
          simpa using he2
        · rcases List.mem_append.mp hti with hti | hti
          · exact hi t hti
          · obtain ⟨g1, g2, g3⟩ := kids_ok bs path 0 tok.2 t (List.mem_reverse.mp hti)
            exact ⟨g1, by omega⟩
        · rw [List.length_append, List.length_singleton, cnt_app, cnt_rev, kc]
          omega
  · have : todo = [] := by
      cases todo with
      | nil => rfl
      | cons _ _ => exact absurd rfl zt
    subst this
    simp only [List.reverse_nil, List.flatMap_nil, List.append_nil] at he
    rw [he]
    exact ⟨rfl, qq⟩
end
end VL
set_option Elab.async false
set_option linter.all false
set_option maxRecDepth 100000
set_option maxHeartbeats 1000000
namespace VL
open PySem PySem.Spec PyProof.Rows L2
section
variable {P : Program} {w : World} {K : PySem.W.Frag} {mg : Str → Option Value} {base : Heap}
def dc_spots_of : DC := fun ds M Q _ => ∃ (rows : List Rw) (κ : Da), ds = [.l (rows.map (rwD κ))] ∧ (∀ r ∈ rows, r.x ≠ none → r.path ≠ []) ∧ (∀ r ∈ rows, r.path.length ≤ 1000) ∧ Fk false κ ∧ rows.length ≤ 100000 ∧ Q (.l ((rows.flatMap rowSp).map spF)) M
theorem ok_spots_of (T : Tx P K mg)  : FnOk P w K mg base (L2.CX P w) 1 T.f_spots_of T.fd_spots_of ["rows"] (spOf K dc_spots_of) := by
  have sc := scSpotsOf
  refine okD T.d_spots_of.F sc (fun ds M Q X h => ?_) (fun cdv A outer s H E c ds M Qd Xd hn hr h hX => ?_)
  · obtain ⟨rows, κ, rfl, _⟩ := h
    rfl
  have tk := takes_of (X := cxOf (L2.CX P w) P w K mg base NSpotsOf "spots_of" (defScope sSpotsOf) T.f_spots_of cdv A outer s H E) rfl rfl rfl rfl
  refine ⟨_, (ss_cons (s_own (i := 1) sc.nd rfl (by first | exact .inl rfl | exact .inr rfl) (by rw [hn]; decide) (v_lst v_nil))
  (ss_cons (s_for (passes_of rfl) rfl (i_sq (vv 0)) (pg_tup (by rfl) (pgs_cons (pg_name (i := 2) sc.nd rfl (by first | exact .inl rfl | exact .inr rfl)) (pgs_cons (pg_name (i := 3) sc.nd rfl (by first | exact .inl rfl | exact .inr rfl)) (pgs_cons (pg_name (i := 4) sc.nd rfl (by first | exact .inl rfl | exact .inr rfl)) (pgs_cons (pg_name (i := 5) sc.nd rfl (by first | exact .inl rfl | exact .inr rfl)) (pgs_cons (pg_name (i := 6) sc.nd rfl (by first | exact .inl rfl | exact .inr rfl)) pgs_nil)))))) (lgT (n := 5) (lgs_cons (lgN (i := 2) (by rw [hn]; decide)) (lgs_cons (lgN (i := 3) (by rw [hn]; decide)) (lgs_cons (lgN (i := 4) (by rw [hn]; decide)) (lgs_cons (lgN (i := 5) (by rw [hn]; decide)) (lgs_cons (lgN (i := 6) (by rw [hn]; decide)) lgs_nil))))) (lenN (lenN (lenN (lenN (lenN len0))))))
  (ss_cons (s_if (vt_cmp op_notN lIsNot (nomark _) (vv 5) vn)
  (ss_one (s_expr (v_met PySem.F.plainAttrs_list PySem.F.slot_list_append PySem.F.type_list_append mt_append tyL_ok lAppend (vv 1) (v_tup (v_cons (v_tup (v_cons (v_sl (vv 2) v_no (v_part (v_neg vi))) (v_cons (v_ix (vv 2) (v_neg vi) (fun _ _ => rfl)) v_nil))) (v_cons (v_cmp op_notN lIsNot (nomark _) (vv 6) vn) v_nil))))))
  ss_nil)
  (ss_one (s_expr (v_met PySem.F.plainAttrs_list PySem.F.slot_list_append PySem.F.type_list_append mt_append tyL_ok lAppend (vv 1) (v_tup (v_cons (v_tup (v_cons (vv 2) (v_cons vn v_nil))) (v_cons (v_cmp op_notN lIsNot (nomark _) (vv 4) vn) v_nil))))))))
  (ss_one (s_ret (vFz (vv 1)))))), ?_⟩
  obtain ⟨rows, κ, rfl, hp, hl, hκ, hz, qq⟩ := h
  obtain ⟨es, rfl⟩ := fk_t hκ
  refine ⟨by show 0 ≤ sizeLine; decide, fun p1 n1 => ?_⟩
  refine forGo_of (fun rest S => ∃ (done rr : List Rw) (y2 y3 y4 y5 y6 : Slx), rest = rr.map (rwD (.t es)) ∧ rows = done ++ rr ∧ S = ⟨[.val (.l (rows.map (rwD (.t es)))), .own p1 ((done.flatMap rowSp).map spF), y2, y3, y4, y5, y6], M⟩)
    (fun d ds S h R hR => ?_) (fun S h => ?_) _ _ ⟨[], rows, .no, .no, .no, .no, .no, rfl, rfl, rfl⟩
  · obtain ⟨done, rr, y2, y3, y4, y5, y6, e1, e2, rfl⟩ := h
    cases rr with
    | nil => cases e1
    | cons r rr =>
    cases e1
    have hr : r ∈ rows := by rw [e2]; simp
    have dl : done.length < 100000 := by
      have := congrArg List.length e2
      rw [List.length_append, List.length_cons] at this
      omega
    have al := rowsSp_len done
    have ends : ∀ (acc : List (Spot × Bool)), acc.length ≤ 200001 → (done.flatMap rowSp) ++ rowSp r = acc ++ [((r.path, none), r.q.noted)] →
        (wDrop (wMet tyL rdAppend (wVar 1) (wTup (wCons (wTup (wCons (wVar 2) (wCons (wC Da.n) wNil))) (wCons (wOp (rdIs true) (wVar 4) (wC Da.n)) wNil)))))
        { nx := R, rt := fun d S' => Qd d S'.M } ⟨[.val (.l (rows.map (rwD (.t es)))), .own p1 (acc.map spF), .val (pathD r.path), .val (r.q.core (.t es)), .val (noteD (.t es) r.q.noted), .val (optS r.x), .val (noteD (.t es) r.xn)], M⟩ := fun acc hl2 he => by
      have go : R ⟨[.val (.l (rows.map (rwD (.t es)))), .own p1 (acc.map spF ++ [spF ((r.path, none), r.q.noted)]), .val (pathD r.path), .val (r.q.core (.t es)), .val (noteD (.t es) r.q.noted), .val (optS r.x), .val (noteD (.t es) r.xn)], M⟩ :=
        hR _ ⟨done ++ [r], rr, _, _, _, _, _, rfl, by rw [e2, List.append_assoc]; rfl, by rw [List.flatMap_append, List.flatMap_singleton, he, List.map_append]; rfl⟩
      generalize r.q.noted = nb at go ⊢
      have sz : (acc.map spF).length < sizeLine := by rw [List.length_map, sizeLine_eq]; omega
      cases nb with
      | false => exact ⟨⟨_, rfl⟩, rfl, rfl, by show 2 ≤ sizeLine; decide, rfl, rfl, by show 2 ≤ sizeLine; decide, _, _, rfl, rfl, sz, rfl, go⟩
      | true => exact ⟨⟨_, rfl⟩, rfl, rfl, by show 2 ≤ sizeLine; decide, rfl, rfl, by show 2 ≤ sizeLine; decide, _, _, rfl, rfl, sz, rfl, go⟩
    obtain ⟨path, q, x, xn⟩ := r
    cases x with
    | none => exact ends (done.flatMap rowSp) (by omega) rfl
    | some z =>
      have hpl := hl _ hr
      rcases List.eq_nil_or_concat path with e | ⟨p, i, e⟩
      · exact absurd e (hp _ hr (by simp))
      rw [List.concat_eq_append] at e
      subst e
      have hc : cutD ((p ++ [i]).map ixD) none (some (-1)) = p.map ixD := by rw [List.map_append]; exact cut_init
      have hat : atI ((p ++ [i]).map ixD) (-1) = some (ixD i) := by
        rw [List.map_append]
        refine at_last ?_
        rw [List.length_map]
        have : (p ++ [i]).length ≤ 1000 := hpl
        rw [List.length_append] at this
        omega
      have en := ends (done.flatMap rowSp ++ [((p, some i), xn)]) (by rw [List.length_append, List.length_singleton]; omega) (by
        unfold rowSp
        rw [show nameSp ⟨p ++ [i], q, some z, xn⟩ = [((p, some i), xn)] from nameSp_at, List.append_assoc])
      rw [List.map_append, show List.map spF [((p, some i), xn)] = [.t [.t [.t (cutD ((p ++ [i]).map ixD) none (some (-1))), ixD i], .b xn]] from by rw [hc]; rfl] at en
      have sz : ((done.flatMap rowSp).map spF).length < sizeLine := by rw [List.length_map, sizeLine_eq]; omega
      cases xn with
      | false => exact ⟨⟨_, rfl⟩, rfl, _, hat, rfl, by show 2 ≤ sizeLine; decide, rfl, rfl, by show 2 ≤ sizeLine; decide, _, _, rfl, rfl, sz, rfl, en⟩
      | true => exact ⟨⟨_, rfl⟩, rfl, _, hat, rfl, by show 2 ≤ sizeLine; decide, rfl, rfl, by show 2 ≤ sizeLine; decide, _, _, rfl, rfl, sz, rfl, en⟩
  · obtain ⟨done, rr, y2, y3, y4, y5, y6, e1, e2, rfl⟩ := h
    cases rr with
    | cons _ _ => cases e1
    | nil =>
    rw [List.append_nil] at e2
    rw [← e2]
    exact ⟨rfl, qq⟩
end
end VL
set_option Elab.async false
set_option linter.all false
set_option pp.maxSteps 1500
set_option maxRecDepth 100000
set_option maxHeartbeats 1000000
namespace VL
open PySem PySem.Spec PyProof.Rows L2
section
variable {P : Program} {w : World} {K : PySem.W.Frag} {mg : Str → Option Value} {base : Heap}
/-- a kind of a stock -/
structure Knd (sh : List (Str × Str)) (κ : Da) : Prop where
  nd : (sh.map (·.1)).Nodup
  v : ∀ z v, (z, v) ∈ sh → v.length ≤ sizeLine
  k : Fk false κ
  z : κ.sz ≤ 1000
  f : fitB sh κ = true
def dc_built (CT C : Addr) : DC := fun ds M Q _ => ∃ (t tq : Addr) (sh un : List (Str × Str)) (rows : List Tr) (q : Pt) (κ : Da), ds = [.r t, q.da κ] ∧ TbAt CT (stD C sh un) (rows.map Tr.k) M t tq ∧ Trz rows ∧ q.ok ∧ q.fitsT rows ∧ q.count ≤ 1000 ∧ Knd sh κ ∧ Q (.l ((q.rows [] none false).map (rwD κ))) M
theorem ok_built (T : Tx P K mg) (G_check_node : FnOk P w K mg base (L2.CX P w) 5 T.f_check_node T.fd_check_node ["table", "node"] (spOf K (dc_check_node T.C_Table))) (G_check_kind : FnOk P w K mg base (L2.CX P w) 4 T.f_check_kind T.fd_check_kind ["stock", "row"] (spOf K (dc_check_kind T.C_Stock))) (G_laid_out : FnOk P w K mg base (L2.CX P w) 6 T.f_laid_out T.fd_laid_out ["program"] (spOf K dc_laid_out)) : FnOk P w K mg base (L2.CX P w) 7 T.f_built T.fd_built ["table", "program"] (spOf K (dc_built T.C_Table T.C_Stock)) := by
  have sc := scBuilt
  refine okD T.d_built.F sc (fun ds M Q X h => ?_) (fun cdv A outer s H E c ds M Qd Xd hn hr h hX => ?_)
  · obtain ⟨t, tq, sh, un, rows, q, κ, rfl, _⟩ := h
    rfl
  have tk := takes_of (X := cxOf (L2.CX P w) P w K mg base NBuilt "built" (defScope sBuilt) T.f_built cdv A outer s H E) rfl rfl rfl rfl
  refine ⟨_, (ss_cons (s_set (i := 2) sc.nd rfl (by first | exact .inl rfl | exact .inr rfl) (by rw [hn]; decide) (v_call G_laid_out (hr.mono (by decide)) (by rfl) T.d_laid_out.g T.d_laid_out.F.kp T.d_laid_out.b tk hX (v_cons (vv 1) v_nil)))
  (ss_cons (s_for (passes_of rfl) rfl (i_sq (vv 2)) (pg_tup (by rfl) (pgs_cons (pg_name (i := 3) sc.nd rfl (by first | exact .inl rfl | exact .inr rfl)) (pgs_cons (pg_name (i := 4) sc.nd rfl (by first | exact .inl rfl | exact .inr rfl)) (pgs_cons (pg_name (i := 5) sc.nd rfl (by first | exact .inl rfl | exact .inr rfl)) (pgs_cons (pg_name (i := 3) sc.nd rfl (by first | exact .inl rfl | exact .inr rfl)) (pgs_cons (pg_name (i := 6) sc.nd rfl (by first | exact .inl rfl | exact .inr rfl)) pgs_nil)))))) (lgT (n := 5) (lgs_cons (lgN (i := 3) (by rw [hn]; decide)) (lgs_cons (lgN (i := 4) (by rw [hn]; decide)) (lgs_cons (lgN (i := 5) (by rw [hn]; decide)) (lgs_cons (lgN (i := 3) (by rw [hn]; decide)) (lgs_cons (lgN (i := 6) (by rw [hn]; decide)) lgs_nil))))) (lenN (lenN (lenN (lenN (lenN len0))))))
  (ss_cons (s_for (passes_of rfl) rfl (i_sq (vOf (v_lst (v_cons (vv 5) (v_cons (vv 6) v_nil))))) (pg_name (i := 7) sc.nd rfl (by first | exact .inl rfl | exact .inr rfl)) (lgN (i := 7) (by rw [hn]; decide))
  (ss_one (s_if (vt_cmp op_notN lIsNot (nomark _) (vv 7) vn)
  (ss_one (s_expr (v_call G_check_kind (hr.mono (by decide)) (by rfl) T.d_check_kind.g T.d_check_kind.F.kp T.d_check_kind.b tk hX (v_cons (v_fld T.c_Table.cl T.n_Table_stock (vv 0)) (v_cons (vv 7) v_nil)))))
  ss_nil)))
  (ss_one (s_if (v_not (vB (v_isi isi_str (by rfl) T.n_isinstance (by rfl) T.n_str (by decide +kernel) (vv 4))))
  (ss_one (s_expr (v_call G_check_node (hr.mono (by decide)) (by rfl) T.d_check_node.g T.d_check_node.F.kp T.d_check_node.b tk hX (v_cons (vv 0) (v_cons (vv 4) v_nil)))))
  ss_nil))))
  (ss_one (s_ret (vv 2))))), ?_⟩
  obtain ⟨t, tq, sh, un, rows, q, κ, rfl, tb, tz, hok, hfit, hc, hk, qq⟩ := h
  refine ⟨q.daO κ, q, κ, rfl, hok, hk.k, hk.z, hc, rfl, ?_⟩
  obtain ⟨es, rfl⟩ := fk_t hk.k
  have hkO : (Da.t es).isO = false := rfl
  refine forGo_of (fun rest S => ∃ (rs : List Rw) (y3 y4 y5 y6 y7 : Slx), rest = rs.map (rwD (.t es)) ∧ (∀ r ∈ rs, r ∈ q.rows [] none false) ∧ S = ⟨[.val (.r t), .val (q.da (.t es)), .val (.l ((q.rows [] none false).map (rwD (.t es)))), y3, y4, y5, y6, y7], M⟩)
    (fun d ds S h R hR => ?_) (fun S h => ?_) _ _ ⟨q.rows [] none false, .no, .no, .no, .no, .no, rfl, fun _ h => h, rfl⟩
  · obtain ⟨rs, y3, y4, y5, y6, y7, er, hrs, rfl⟩ := h
    cases rs with
    | nil => cases er
    | cons r rs =>
    cases er
    have hr0 := hrs r (by simp)
    have fr := fits_rows rows q [] none false hfit r hr0
    let TO : Sx → Prop := fun S => ∃ y7 : Slx, S = ⟨[.val (.r t), .val (q.da (.t es)), .val (.l ((q.rows [] none false).map (rwD (.t es)))), .val (optS r.x), .val (r.q.core (.t es)), .val (noteD (.t es) r.q.noted), .val (noteD (.t es) r.xn), y7], M⟩
    apply via_tail (TOk := TO)
    case main =>
      intro tail
      refine ⟨noteO hkO _, noteO hkO _, by show 2 ≤ sizeLine; decide, ?_⟩
      refine forGo_of (fun rest S => ∃ (ns : List Bool) (y7 : Slx), rest = ns.map (noteD (.t es)) ∧ S = ⟨[.val (.r t), .val (q.da (.t es)), .val (.l ((q.rows [] none false).map (rwD (.t es)))), .val (optS r.x), .val (r.q.core (.t es)), .val (noteD (.t es) r.q.noted), .val (noteD (.t es) r.xn), y7], M⟩)
        (fun d ds S h R2 hR2 => ?_) (fun S h => ?_) _ _ ⟨[r.q.noted, r.xn], y7, rfl, rfl⟩
      · obtain ⟨ns, y7, en, rfl⟩ := h
        cases ns with
        | nil => cases en
        | cons b ns =>
        cases en
        cases b with
        | false => exact hR2 _ ⟨ns, _, rfl, rfl⟩
        | true => exact ⟨_, _, tb.x, rfl, rfl, rfl, sh, un, .t es, rfl, hk.nd, hk.v, hk.k, hk.z, hk.f, hR2 _ ⟨ns, _, rfl, rfl⟩⟩
      · obtain ⟨ns, y7, en, rfl⟩ := h
        exact tail _ ⟨_, rfl⟩
    case tail =>
      rintro S ⟨y7, rfl⟩
      have next : R ⟨[.val (.r t), .val (q.da (.t es)), .val (.l ((q.rows [] none false).map (rwD (.t es)))), .val (optS r.x), .val (r.q.core (.t es)), .val (noteD (.t es) r.q.noted), .val (noteD (.t es) r.xn), y7], M⟩ := hR _ ⟨rs, _, _, _, _, _, rfl, fun x hx => hrs x (by simp [hx]), rfl⟩
      obtain ⟨path, rq, x, xn⟩ := r
      cases rq with
      | nm n z =>
        have co : ((Pt.nm n z).core (.t es)) = .s z := by simp [Pt.core]
        dsimp only at next ⊢
        rw [co] at next ⊢
        exact next
      | nd n z bs =>
        obtain ⟨r0, h1, rfl, h3⟩ := fr
        have co : ((Pt.nd n r0.z bs).core (.t es)) = .t (.s r0.z :: bs.das (.t es)) := by simp [Pt.core]
        dsimp only at next ⊢
        rw [co] at next ⊢
        refine ⟨rfl, rfl, t, tq, _, rows, r0, .t es, n, bs, by rw [co]; rfl, tb, tz, h1, h3, next⟩
  · obtain ⟨rs, y3, y4, y5, y6, y7, er, hrs, rfl⟩ := h
    exact ⟨rfl, qq⟩
/-- the ways of the rows: all have some -/
structure Wf2 (rows : List Tr) (wk : List (Key × Da)) : Prop where
  g : ∀ r ∈ rows, ∃ d ds, (valD wk (.inr r.z)).getD (.t []) = .t (d :: ds)
  O : ∀ kd ∈ wk, kd.2.isO = false
def dc_check_ways (CB CT : Addr) : DC := fun ds M Q _ => ∃ (b t q tq : Addr) (st : Da) (rows : List Tr) (wk : List (Key × Da)) (rs : List Rw) (κ : Da), ds = [.r b, .l (rs.map (rwD κ))] ∧ BkAt CB wk M b t q ∧ TbAt CT st (rows.map Tr.k) M t tq ∧ Trz rows ∧ Wf2 rows wk ∧ (∀ r ∈ rs, r.q.fitsT rows) ∧ κ.isO = false ∧ Q .n M
theorem ok_check_ways (T : Tx P K mg) (G_Book_getitem : FnOk P w K mg base (L2.CX P w) 3 T.f_Book_getitem T.fd_Book_getitem ["self", "sign"] (spOf K (dc_Book_getitem T.C_Book T.C_Table T.C_UnknownSign))) : FnOk P w K mg base (L2.CX P w) 5 T.f_check_ways T.fd_check_ways ["book", "rows"] (spOf K (dc_check_ways T.C_Book T.C_Table)) := by
  have sc := scCheckWays
  refine okD T.d_check_ways.F sc (fun ds M Q X h => ?_) (fun cdv A outer s H E c ds M Qd Xd hn hr h hX => ?_)
  · obtain ⟨b, t, q, tq, st, rows, wk, rs, κ, rfl, _⟩ := h
    rfl
  have tk := takes_of (X := cxOf (L2.CX P w) P w K mg base NCheckWays "check_ways" (defScope sCheckWays) T.f_check_ways cdv A outer s H E) rfl rfl rfl rfl
  refine ⟨_, (ss_one (s_for (passes_of rfl) rfl (i_sq (vv 1)) (pg_tup (by rfl) (pgs_cons (pg_name (i := 2) sc.nd rfl (by first | exact .inl rfl | exact .inr rfl)) (pgs_cons (pg_name (i := 3) sc.nd rfl (by first | exact .inl rfl | exact .inr rfl)) (pgs_cons (pg_name (i := 2) sc.nd rfl (by first | exact .inl rfl | exact .inr rfl)) (pgs_cons (pg_name (i := 2) sc.nd rfl (by first | exact .inl rfl | exact .inr rfl)) (pgs_cons (pg_name (i := 2) sc.nd rfl (by first | exact .inl rfl | exact .inr rfl)) pgs_nil)))))) (lgT (n := 5) (lgs_cons (lgN (i := 2) (by rw [hn]; decide)) (lgs_cons (lgN (i := 3) (by rw [hn]; decide)) (lgs_cons (lgN (i := 2) (by rw [hn]; decide)) (lgs_cons (lgN (i := 2) (by rw [hn]; decide)) (lgs_cons (lgN (i := 2) (by rw [hn]; decide)) lgs_nil))))) (lenN (lenN (lenN (lenN (lenN len0))))))
  (ss_one (s_if (PW.pt (v_and (v_not (vB (v_isi isi_str (by rfl) T.n_isinstance (by rfl) T.n_str (by decide +kernel) (vv 3)))) (pw_and1 (v_not (vTr (v_ownIx T.d_Book_getitem.own T.d_Book_getitem.ff G_Book_getitem (hr.mono (by decide)) T.d_Book_getitem.b tk hX (vv 0) (v_ix (vv 3) vi (fun _ _ => rfl))))))))
  (ss_one s_dead)
  ss_nil)))), ?_⟩
  obtain ⟨b, t, q, tq, st, rows, wk, rs, κ, rfl, bk, tb, tz, wf, hfit, κO, qq⟩ := h
  refine forGo_of (fun rest S => ∃ (rr : List Rw) (y2 y3 : Slx), rest = rr.map (rwD κ) ∧ (∀ r ∈ rr, r ∈ rs) ∧ S = ⟨[.val (.r b), .val (.l (rs.map (rwD κ))), y2, y3], M⟩)
    (fun d ds S h R hR => ?_) (fun S h => ?_) _ _ ⟨rs, .no, .no, rfl, fun _ h => h, rfl⟩
  · obtain ⟨rr, y2, y3, er, hrs, rfl⟩ := h
    cases rr with
    | nil => cases er
    | cons r rr =>
    cases er
    have fr := hfit r (hrs r (by simp))
    have next : ∀ y2 y3, R ⟨[.val (.r b), .val (.l (rs.map (rwD κ))), y2, y3], M⟩ := fun y2 y3 => hR _ ⟨rr, _, _, rfl, fun x hx => hrs x (by simp [hx]), rfl⟩
    obtain ⟨path, rq, x, xn⟩ := r
    cases rq with
    | nm n z =>
      have co : rwD κ ⟨path, .nm n z, x, xn⟩ = .t [pathD path, .s z, noteD κ n, optS x, noteD κ xn] := by simp [rwD, Pt.core, Pt.noted]
      rw [co]
      exact next _ _
    | nd n z bs =>
      obtain ⟨r0, h1, rfl, h3⟩ := fr
      have co : rwD κ ⟨path, .nd n r0.z bs, x, xn⟩ = .t [pathD path, .t (.s r0.z :: bs.das κ), noteD κ n, optS x, noteD κ xn] := by simp [rwD, Pt.core, Pt.noted]
      rw [co]
      have hv := tr_val tz.nd h1
      refine ⟨_, atI_nat (j := 0) rfl, _, bk.b, rfl, b, t, q, tq, _, _, _, r0.z, rfl, bk, tb.rd, tz.z _ h1, wf.O, fun _ => ?_, fun e => by rw [hv] at e; cases e⟩
      obtain ⟨d0, ds0, e0⟩ := wf.g _ h1
      rw [e0]
      exact next _ _
  · obtain ⟨rr, y2, y3, er, hrs, rfl⟩ := h
    exact qq
end
end VL
set_option Elab.async false
set_option linter.all false
set_option pp.maxSteps 1500
set_option maxRecDepth 100000
set_option maxHeartbeats 1000000
namespace VL
open PySem PySem.Spec PyProof.Rows L2
section
variable {P : Program} {w : World} {K : PySem.W.Frag} {mg : Str → Option Value} {base : Heap}
def dirS (d : Bool) : Str := if d then Str.ofString "found" else Str.ofString "told"
structure Wn where
  whole : Bool
  steps : List (Nat × Bool)
  noted : List Nat
def snD (s : Nat × Bool) : Da := .t [.i (s.1 : Int), .s (dirS s.2)]
def nnD (k : Nat) : Da := .i (k : Int)
def wnD (w : Wn) : Da := .t [.s (dirS w.whole), .t (w.steps.map snD), .t (w.noted.map nnD)]
structure Wn.ok (w : Wn) (n : Nat) : Prop where
  st : ∀ s ∈ w.steps, s.1 < n
  nt : ∀ k ∈ w.noted, k < n
  l1 : w.steps.length ≤ 3
  l2 : w.noted.length ≤ 3
theorem dirS_found (d : Bool) : decide (dirS d = Str.ofString "found") = d := by cases d <;> decide +kernel
theorem dirS_told (d : Bool) : decide (dirS d = Str.ofString "told") = !d := by cases d <;> decide +kernel
end
end VL
set_option Elab.async false
set_option linter.all false
set_option pp.maxSteps 1500
set_option maxRecDepth 100000
set_option maxHeartbeats 1000000
namespace VL
open PySem PySem.Spec PyProof.Rows L2
def numK (k : Nat) : NestedKey := .num (k : Int)
theorem nks_path : ∀ (p : List Nat), nks (p.map ixD) = p.map numK
  | [] => by simp [nks]
  | k :: p => by simp only [List.map_cons, nks, nks_path p]; rfl
theorem nkBs_path : ∀ (p : List Nat), nkBs (p.map ixD) = true
  | [] => by simp [nkBs]
  | k :: p => by simp only [List.map_cons, nkBs, nkBs_path p]; rfl
theorem dep_nums : ∀ (p : List Nat), NestedKey.depthAll (p.map numK) = 0
  | [] => by simp [NestedKey.depthAll]
  | k :: p => by simp only [List.map_cons, NestedKey.depthAll, dep_nums p, numK, NestedKey.depth]; rfl
theorem nk_path (p : List Nat) : (pathD p).nk = .tup (p.map numK) := by
  unfold pathD
  rw [Da.nk, nks_path]
theorem key8_path (p : List Nat) : (pathD p).key8 = true := by
  have h1 : (pathD p).nkB = true := by unfold pathD; rw [Da.nkB, nkBs_path]
  have h2 : (pathD p).nk.depth ≤ 8 := by rw [nk_path, NestedKey.depth, dep_nums]; decide
  unfold Da.key8
  rw [h1, decide_eq_true h2]
  rfl
def onK : Option Nat → NestedKey
  | none => .none
  | some k => .num (k : Int)
theorem nk_on (o : Option Nat) : (onD o).nk = onK o := by cases o <;> rfl
theorem nk_sp (s : Spot) : (spD s).nk = .tup [.tup (s.1.map numK), onK s.2] := by
  unfold spD
  rw [Da.nk, nks, nks, nks, nk_path, nk_on]
theorem key8_sp (s : Spot) : (spD s).key8 = true := by
  have h0 : (pathD s.1).nkB = true := by unfold pathD; rw [Da.nkB, nkBs_path]
  have h01 : (onD s.2).nkB = true := by cases s.2 <;> rfl
  have h1 : (spD s).nkB = true := by unfold spD; rw [Da.nkB, nkBs, nkBs, nkBs, h0, h01]; rfl
  have h2 : (spD s).nk.depth ≤ 8 := by
    rw [nk_sp, NestedKey.depth, NestedKey.depthAll, NestedKey.depthAll, NestedKey.depthAll, NestedKey.depth, dep_nums]
    have : (onK s.2).depth = 0 := by cases s.2 <;> rfl
    rw [this]
    decide
  unfold Da.key8
  rw [h1, decide_eq_true h2]
  rfl
theorem nums_inj : ∀ (p q : List Nat), (p.map numK) = (q.map numK) → p = q
  | [], [], _ => rfl
  | [], _ :: _, h => by simp at h
  | _ :: _, [], h => by simp at h
  | a :: p, b :: q, h => by
    rw [List.map_cons, List.map_cons] at h
    injection h with h1 h2
    have h1' : NestedKey.num (a : Int) = NestedKey.num (b : Int) := h1
    injection h1' with h1'
    rw [nums_inj p q h2, show a = b by omega]
theorem nk_path_inj {p q : List Nat} (h : (pathD p).nk = (pathD q).nk) : p = q := by
  rw [nk_path, nk_path] at h
  injection h with h
  exact nums_inj p q h
theorem nk_sp_inj {s t : Spot} (h : (spD s).nk = (spD t).nk) : s = t := by
  obtain ⟨p, a⟩ := s
  obtain ⟨p', a'⟩ := t
  rw [nk_sp, nk_sp] at h
  injection h with h
  injection h with h1 h2
  injection h1 with h1
  injection h2 with h2 _
  rw [nums_inj p p' h1]
  have : a = a' := by
    cases a <;> cases a' <;> first | rfl | (cases h2; done) | (injection h2 with h2; rw [show _ = _ from Int.ofNat.inj h2])
  rw [this]
theorem valN_cons {kd : Da × Da} {kds : List (Da × Da)} {k : Da} : valN (kd :: kds) k = if kd.1.nk = k.nk then some kd.2 else valN kds k := by
  unfold valN
  by_cases h : kd.1.nk = k.nk
  · rw [if_pos h, List.find?_cons_of_pos (by simpa using h)]; rfl
  · rw [if_neg h, List.find?_cons_of_neg (by simpa using h)]
theorem valN_map (k : Da) (d : Da) (k' : Da) : ∀ kds : List (Da × Da), valN (kds.map fun kd => if kd.1.nk = k.nk then (kd.1, d) else kd) k' = if k'.nk = k.nk then (valN kds k').map (fun _ => d) else valN kds k'
  | [] => by simp [valN]
  | (a, x) :: l => by
    rw [List.map_cons, valN_cons, valN_cons, valN_map k d k' l]
    by_cases h : a.nk = k.nk
    · rw [if_pos h]
      by_cases h2 : a.nk = k'.nk
      · rw [if_pos h2, if_pos h2, if_pos (h2.symm.trans h)]; rfl
      · rw [if_neg h2, if_neg h2]
    · rw [if_neg h]
      by_cases h2 : a.nk = k'.nk
      · rw [if_pos h2, if_pos h2, if_neg (fun e => h (h2.trans e))]
      · rw [if_neg h2, if_neg h2]
theorem valN_snoc (k d k' : Da) : ∀ kds : List (Da × Da), valN (kds ++ [(k, d)]) k' = match valN kds k' with | some x => some x | none => if k.nk = k'.nk then some d else none
  | [] => by rw [List.nil_append, valN_cons]; rfl
  | kd :: l => by
    rw [List.cons_append, valN_cons, valN_cons, valN_snoc k d k' l]
    by_cases h : kd.1.nk = k'.nk
    · rw [if_pos h, if_pos h]
    · rw [if_neg h, if_neg h]
theorem valN_eq {kds : List (Da × Da)} {k k' : Da} (h : k.nk = k'.nk) : valN kds k = valN kds k' := by unfold valN; rw [h]
theorem valN_put (kds : List (Da × Da)) (k k' d : Da) : valN (putN kds k d) k' = if k'.nk = k.nk then some d else valN kds k' := by
  unfold putN
  by_cases h : (valN kds k).isSome = true
  · rw [if_pos h, valN_map]
    by_cases e : k'.nk = k.nk
    · rw [if_pos e, if_pos e, valN_eq e]
      obtain ⟨x, hx⟩ := Option.isSome_iff_exists.mp h
      rw [hx]; rfl
    · rw [if_neg e, if_neg e]
  · rw [if_neg h, valN_snoc]
    have hn : valN kds k = none := by cases hv : valN kds k with | none => rfl | some x => rw [hv] at h; exact absurd rfl h
    by_cases e : k'.nk = k.nk
    · rw [if_pos e, valN_eq e, hn, if_pos e.symm]
    · rw [if_neg e, if_neg (fun x => e x.symm)]
      cases valN kds k' <;> rfl
theorem putN_le {kds : List (Da × Da)} {k d : Da} : (putN kds k d).length ≤ kds.length + 1 := by
  unfold putN
  split
  · rw [List.length_map]; omega
  · rw [List.length_append]; exact Nat.le_refl _
/-- the rows below a row are behind it -/
def kidsIn (path : List Nat) : Nat → Bk → List Rw → Prop
  | _, .nil, _ => True
  | i, .cons _ _ q r, l => (∃ x xn, (⟨path ++ [i], q, x, xn⟩ : Rw) ∈ l) ∧ kidsIn path (i + 1) r l
def kidsOf (r : Rw) (l : List Rw) : Prop := match r.q with
  | .nm _ _ => True
  | .nd _ _ bs => kidsIn r.path 0 bs l
def closedL : List Rw → Prop
  | [] => True
  | r :: l => kidsOf r l ∧ closedL l
theorem kidsIn_mono {path : List Nat} {l l' : List Rw} (h : ∀ r ∈ l, r ∈ l') : ∀ (b : Bk) (i : Nat), kidsIn path i b l → kidsIn path i b l'
  | .nil, _, _ => trivial
  | .cons _ _ _ r, i, ⟨⟨x, xn, hm⟩, h2⟩ => ⟨⟨x, xn, h _ hm⟩, kidsIn_mono h r (i + 1) h2⟩
theorem kidsOf_mono {r : Rw} {l l' : List Rw} (h : ∀ r ∈ l, r ∈ l') (hk : kidsOf r l) : kidsOf r l' := by
  obtain ⟨path, q, x, xn⟩ := r
  cases q with
  | nm n z => trivial
  | nd n z bs => exact kidsIn_mono h _ _ hk
theorem closed_app : ∀ {a b : List Rw}, closedL a → closedL b → closedL (a ++ b)
  | [], b, _, hb => hb
  | r :: a, b, ha, hb => ⟨kidsOf_mono (fun x hx => List.mem_append_left _ hx) ha.1, closed_app ha.2 hb⟩
mutual
theorem rows_head : ∀ (q : Pt) (path : List Nat) (x : Option Str) (xn : Bool), (⟨path, q, x, xn⟩ : Rw) ∈ q.rows path x xn
  | .nm n z, path, x, xn => by rw [Pt.rows]; simp
  | .nd n z bs, path, x, xn => by rw [Pt.rows]; simp
end
theorem kids_rows' (path : List Nat) : ∀ (b : Bk) (i : Nat), kidsIn path i b (b.rows path i)
  | .nil, _ => trivial
  | .cons x xn q r, i => by
    rw [Bk.rows]
    exact ⟨⟨x, xn, List.mem_append_left _ (rows_head q _ x xn)⟩, kidsIn_mono (fun y hy => List.mem_append_right _ hy) r (i + 1) (kids_rows' path r (i + 1))⟩
mutual
theorem rows_closed : ∀ (q : Pt) (path : List Nat) (x : Option Str) (xn : Bool), closedL (q.rows path x xn)
  | .nm n z, path, x, xn => by rw [Pt.rows]; exact ⟨trivial, trivial⟩
  | .nd n z bs, path, x, xn => by rw [Pt.rows]; exact ⟨kids_rows' path bs 0, brows_closed bs path 0⟩
theorem brows_closed : ∀ (b : Bk) (path : List Nat) (i : Nat), closedL (b.rows path i)
  | .nil, path, i => by rw [Bk.rows]; trivial
  | .cons x xn q b, path, i => by rw [Bk.rows]; exact closed_app (rows_closed q _ x xn) (brows_closed b path (i + 1))
end
mutual
theorem rows_pre : ∀ (q : Pt) (path : List Nat) (x : Option Str) (xn : Bool), ∀ r ∈ q.rows path x xn, ∃ t, r.path = path ++ t
  | .nm n z, path, x, xn, r, hr => by
    rw [Pt.rows] at hr
    rw [List.mem_singleton.mp hr]
    exact ⟨[], by simp⟩
  | .nd n z bs, path, x, xn, r, hr => by
    rw [Pt.rows] at hr
    rcases List.mem_cons.mp hr with rfl | hr
    · exact ⟨[], by simp⟩
    · obtain ⟨j, t, _, h⟩ := brows_pre bs path 0 r hr
      exact ⟨j :: t, h⟩
theorem brows_pre : ∀ (b : Bk) (path : List Nat) (i : Nat), ∀ r ∈ b.rows path i, ∃ j t, i ≤ j ∧ r.path = path ++ j :: t
  | .nil, path, i, r, hr => by rw [Bk.rows] at hr; cases hr
  | .cons x xn q b, path, i, r, hr => by
    rw [Bk.rows] at hr
    rcases List.mem_append.mp hr with hr | hr
    · obtain ⟨t, h⟩ := rows_pre q _ x xn r hr
      exact ⟨i, t, Nat.le_refl _, by rw [h]; simp⟩
    · obtain ⟨j, t, hj, h⟩ := brows_pre b path (i + 1) r hr
      exact ⟨j, t, by omega, h⟩
end
mutual
theorem rows_nodup : ∀ (q : Pt) (path : List Nat) (x : Option Str) (xn : Bool), ((q.rows path x xn).map Rw.path).Nodup
  | .nm n z, path, x, xn => by rw [Pt.rows]; simp
  | .nd n z bs, path, x, xn => by
    rw [Pt.rows, List.map_cons, List.nodup_cons]
    refine ⟨fun hm => ?_, brows_nodup bs path 0⟩
    obtain ⟨r, hr, e⟩ := List.mem_map.mp hm
    obtain ⟨j, t, _, h⟩ := brows_pre bs path 0 r hr
    rw [h] at e
    have := congrArg List.length e
    simp at this
theorem brows_nodup : ∀ (b : Bk) (path : List Nat) (i : Nat), ((b.rows path i).map Rw.path).Nodup
  | .nil, path, i => by rw [Bk.rows]; simp
  | .cons x xn q b, path, i => by
    rw [Bk.rows, List.map_append, List.nodup_append]
    refine ⟨rows_nodup q _ x xn, brows_nodup b path (i + 1), fun a h1 a' h2 e => ?_⟩
    obtain ⟨r, hr, e1⟩ := List.mem_map.mp h1
    obtain ⟨r', hr', e2⟩ := List.mem_map.mp h2
    obtain ⟨t, h⟩ := rows_pre q _ x xn r hr
    obtain ⟨j, t', hj, h'⟩ := brows_pre b path (i + 1) r' hr'
    rw [← e1, ← e2, h, h', List.append_assoc] at e
    have := List.append_cancel_left e
    simp at this
    omega
end
end VL
set_option Elab.async false
set_option linter.all false
set_option pp.maxSteps 1500
set_option maxRecDepth 100000
set_option maxHeartbeats 1000000
namespace VL
open PySem PySem.Spec PyProof.Rows L2
mutual
theorem rows_path : ∀ (q : Pt) (path : List Nat) (x : Option Str) (xn : Bool), (x ≠ none → path ≠ []) → ∀ r ∈ q.rows path x xn, (r.x ≠ none → r.path ≠ []) ∧ r.path.length ≤ path.length + q.count
  | .nm n z, path, x, xn, h, r, hr => by
    simp only [Pt.rows, List.mem_singleton] at hr
    subst hr
    exact ⟨h, Nat.le_add_right _ _⟩
  | .nd n z bs, path, x, xn, h, r, hr => by
    simp only [Pt.rows] at hr
    simp only [Pt.count]
    rcases List.mem_cons.mp hr with hr | hr
    · subst hr
      exact ⟨h, Nat.le_add_right _ _⟩
    · obtain ⟨h1, h2⟩ := brows_path bs path 0 r hr
      exact ⟨h1, by omega⟩
theorem brows_path : ∀ (b : Bk) (path : List Nat) (i : Nat), ∀ r ∈ b.rows path i, (r.x ≠ none → r.path ≠ []) ∧ r.path.length ≤ path.length + 1 + b.count
  | .nil, path, i, r, hr => by simp [Bk.rows] at hr
  | .cons x xn q b, path, i, r, hr => by
    simp only [Bk.rows] at hr
    simp only [Bk.count]
    rcases List.mem_append.mp hr with hr | hr
    · obtain ⟨h1, h2⟩ := rows_path q (path ++ [i]) x xn (fun _ => by simp) r hr
      rw [List.length_append, List.length_singleton] at h2
      exact ⟨h1, by omega⟩
    · obtain ⟨h1, h2⟩ := brows_path b path (i + 1) r hr
      exact ⟨h1, by omega⟩
end
section
variable {P : Program} {w : World} {K : PySem.W.Frag} {mg : Str → Option Value} {base : Heap}
/-- the ways of the rows, as numbers -/
structure WfN (rows : List Tr) (wk : List (Key × Da)) (W : Str → List Wn) : Prop where
  g : ∀ r ∈ rows, (valD wk (.inr r.z)).getD (.t []) = .t ((W r.z).map wnD)
  O : ∀ kd ∈ wk, kd.2.isO = false
  n : ∀ r ∈ rows, W r.z ≠ []
  k : ∀ r ∈ rows, ∀ x ∈ W r.z, x.ok r.pls.length
theorem rng_len (n : Nat) : (rngD 0 n).length = n := by unfold rngD; rw [List.length_map, List.length_range]
theorem szl {n : Nat} (h : n ≤ 1000) : n ≤ sizeLine := by rw [sizeLine_eq]; omega
theorem szl3 {n : Nat} (h : n ≤ 3) : n ≤ sizeLine := by rw [sizeLine_eq]; omega
theorem closed_drop : ∀ {a b : List Rw}, closedL (a ++ b) → closedL b
  | [], _, h => h
  | _ :: a, _, h => closed_drop (a := a) h.2
end
end VL
set_option Elab.async false
set_option linter.all false
set_option pp.maxSteps 1500
set_option maxRecDepth 100000
set_option maxHeartbeats 1000000
namespace VL
open PySem PySem.Spec PyProof.Rows L2
/-- a list of integers, as it stands or in the heap -/
def IntL (M : Mx) (d : Da) (ks : List Int) : Prop := d = .l (ks.map .i) ∨ ∃ p, d = .r p ∧ M p = some (.lst (ks.map .i))
def priB (k : Int) : Bool := decide (1 ≤ k ∧ k ≤ 99)
def prisB (ks : List Int) (n : Nat) : Bool := decide (ks.length = n) && ks.all priB
section
variable {P : Program} {w : World} {K : PySem.W.Frag} {mg : Str → Option Value} {base : Heap}
def dc_is_price : DC := fun ds M Q _ => ∃ k : Int, ds = [.i k] ∧ Q (.b (priB k)) M
theorem ok_is_price (T : Tx P K mg)  : FnOk P w K mg base (L2.CX P w) 1 T.f_is_price T.fd_is_price ["price"] (spOf K dc_is_price) := by
  have sc := scIsPrice
  refine okD T.d_is_price.F sc (fun ds M Q X h => ?_) (fun cdv A outer s H E c ds M Qd Xd hn hr h hX => ?_)
  · obtain ⟨k, rfl, _⟩ := h
    rfl
  have tk := takes_of (X := cxOf (L2.CX P w) P w K mg base NIsPrice "_is_price" (defScope sIsPrice) T.f_is_price cdv A outer s H E) rfl rfl rfl rfl
  refine ⟨_, (ss_one (s_ret (ve_and (v_isi isi_int (by rfl) T.n_isinstance (by rfl) T.n_int (by decide +kernel) (vv 0)) (ve_and (ve_not (v_isi isi_bool (by rfl) T.n_isinstance (by rfl) T.n_bool (by decide +kernel) (vv 0))) (pe_one (v_chain op_le lC op_le lC vi (vv 0) vi)))))), ?_⟩
  obtain ⟨k, rfl, q⟩ := h
  unfold priB at q
  refine ite2 (fun h => ?_) (fun h => ?_)
  · have h1 : (1 : Int) ≤ k := of_decide_eq_true h
    refine ⟨rfl, ?_⟩
    show Qd (.b (decide (k ≤ 99))) M
    by_cases h2 : k ≤ 99
    · rw [decide_eq_true ⟨h1, h2⟩] at q
      rw [decide_eq_true h2]
      exact q
    · rw [decide_eq_false (fun z => h2 z.2)] at q
      rw [decide_eq_false h2]
      exact q
  · have h1 : ¬ (1 : Int) ≤ k := fun z => h (decide_eq_true z)
    rw [decide_eq_false (fun z => h1 z.1)] at q
    exact ⟨rfl, q⟩
def dc_check_prices (CB : Addr) : DC := fun ds M Q X => ∃ (d : Da) (ks : List Int) (n : Nat), ds = [d, .i (n : Nat)] ∧ IntL M d ks ∧ ks.length ≤ 2000 ∧ (prisB ks n = true → Q .n M) ∧ (prisB ks n = false → X (.ref CB) none M)
theorem ok_check_prices (T : Tx P K mg) (G_is_price : FnOk P w K mg base (L2.CX P w) 1 T.f_is_price T.fd_is_price ["price"] (spOf K dc_is_price)) : FnOk P w K mg base (L2.CX P w) 2 T.f_check_prices T.fd_check_prices ["prices", "count"] (spOf K (dc_check_prices T.C_BadPrices)) := by
  have sc := scCheckPrices
  refine okD T.d_check_prices.F sc (fun ds M Q X h => ?_) (fun cdv A outer s H E c ds M Qd Xd hn hr h hX => ?_)
  · obtain ⟨d, ks, n, rfl, _⟩ := h
    rfl
  have tk := takes_of (X := cxOf (L2.CX P w) P w K mg base NCheckPrices "_check_prices" (defScope sCheckPrices) T.f_check_prices cdv A outer s H E) rfl rfl rfl rfl
  refine ⟨_, (ss_one (s_if (PW.pt (v_or (v_not (vB (v_isiLT (by rfl) T.n_isinstance (by rfl) T.n_list (by rfl) T.n_tuple (vv 0)))) (v_or (vt_cmp (op_neA hr.units) lNe (nomark _) (v_cb1 call_lenA lLen (by rfl) T.n_len (by decide +kernel) (vv 0)) (vv 1)) (pw_or1 (v_not (vB (v_cb1 (cr_all rfl) lAll (by rfl) T.n_all (by decide +kernel) (vEi (vOf (v_lc rfl sc.nd (i_sq (vv 0)) (blkOk_by (own := [("price", 2)]) (N := NCheckPrices) (sc := defScope sCheckPrices) (by decide +kernel)) (fun c1 e1 => (lgN (i := 2) (by rw [e1, hn]; decide))) (fun _ _ _ _ _ => (pg_name (i := 2) sc.nd rfl (by first | exact .inl rfl | exact .inr rfl))) (fun _ _ _ _ _ _ _ => ts_nil) (fun _ _ _ _ _ c1 e1 => (v_call G_is_price (hr.mono (by decide)) (by rfl) T.d_is_price.g T.d_is_price.F.kp T.d_is_price.b takes0 xno (v_cons (vv 2) v_nil))) (by decide))) (vOf (v_lcR rfl sc.nd (vv 0) (blkOk_by (own := [("price", 2)]) (N := NCheckPrices) (sc := defScope sCheckPrices) (by decide +kernel)) (fun c1 e1 => (lgN (i := 2) (by rw [e1, hn]; decide))) (fun _ _ _ _ _ => (pg_name (i := 2) sc.nd rfl (by first | exact .inl rfl | exact .inr rfl))) (fun _ _ _ _ _ _ _ => ts_nil) (fun _ _ _ _ _ c1 e1 => (v_call G_is_price (hr.mono (by decide)) (by rfl) T.d_is_price.g T.d_is_price.F.kp T.d_is_price.b takes0 xno (v_cons (vv 2) v_nil))) (by decide)))))))))))
  (ss_one (s_raise rfl tk hX PySem.F.excBase_ValueError T.x_BadPrices.ex T.x_BadPrices.g T.x_BadPrices.kp (raises_own T.x_BadPrices.sb T.x_BadPrices.ty) rfl))
  ss_nil)), ?_⟩
  obtain ⟨d, ks, n, rfl, hd, hl, q1, q2⟩ := h
  have eg : (ks.map Da.i).map (fun d => match d with | .i k => .b (priB k) | d => d) = (ks.map priB).map Da.b := by
    rw [List.map_map, List.map_map]
    rfl
  have eall : (ks.map priB).all id = ks.all priB := by rw [List.all_map]; rfl
  have bad : ks.length ≠ n → prisB ks n = false := fun h => by unfold prisB; rw [decide_eq_false h]; rfl
  have ok : ks.length = n → prisB ks n = ks.all priB := fun h => by unfold prisB; rw [decide_eq_true h]; rfl
  have ln : ∀ {b : Bool}, b = eqF (.i ((ks.map Da.i).length : Nat)) (.i (n : Nat)) → (b = true ↔ ks.length = n) := fun e => by
    have e2 : eqF (.i ((ks.map Da.i).length : Nat)) (.i (n : Nat)) = decide (((ks.map Da.i).length : Int) = (n : Int)) := rfl
    rw [e, e2, List.length_map, decide_eq_true_iff]
    omega
  rcases hd with rfl | ⟨p, rfl, mp⟩
  · refine ⟨_, rfl, ?_⟩
    refine .inl ⟨rfl, rfl, rfl, ite2 (fun h => ?_) (fun h => ?_)⟩
    · refine q2 (bad fun e => ?_)
      have := (ln rfl).mpr e
      rw [this] at h
      cases h
    · have hle : ks.length = n := Classical.byContradiction fun e => h (by
        cases q : eqF (.i ((ks.map Da.i).length : Nat)) (.i (n : Nat)) with
        | false => rfl
        | true => exact absurd ((ln rfl).mp q) e)
      refine .inl ?_
      show lcGo _ _ _ _ _ (ks.map Da.i) [] _
      refine lc_map (fun d => match d with | .i k => .b (priB k) | d => d) (fun d hd R1 hR1 => ?_) (fun d hd => ?_) (by rw [List.length_map, sizeLine_eq]; omega) ?_
      · obtain ⟨k, _, rfl⟩ := List.mem_map.mp hd
        exact ⟨rfl, k, rfl, hR1 _ (Agr.wipe.set (i := 2) (by decide))⟩
      · obtain ⟨k, _, rfl⟩ := List.mem_map.mp hd
        rfl
      · rw [eg]
        refine ⟨_, _, rfl, bools_map _, ?_⟩
        rw [eall, ← ok hle]
        cases e : prisB ks n with
        | true => exact q1 e
        | false => exact q2 e
  · have lr : ∀ ρ, (Sx.mk ρ M).lst (.r p) = some (ks.map .i) := fun ρ => by
      show (match M p with | some (.lst ds) => some ds | _ => none) = _
      rw [mp]
    refine ⟨_, lr _, ?_⟩
    refine ⟨_, lr _, .inl ⟨rfl, rfl, rfl, ite2 (fun h => ?_) (fun h => ?_)⟩⟩
    · refine q2 (bad fun e => ?_)
      have := (ln rfl).mpr e
      rw [this] at h
      cases h
    · have hle : ks.length = n := Classical.byContradiction fun e => h (by
        cases q : eqF (.i ((ks.map Da.i).length : Nat)) (.i (n : Nat)) with
        | false => rfl
        | true => exact absurd ((ln rfl).mp q) e)
      refine .inr ⟨p, ks.map .i, ⟨rfl, mp⟩, ?_⟩
      refine lcR_map (fun d => match d with | .i k => .b (priB k) | d => d) ⟨rfl, mp⟩ (fun d hd R1 hR1 => ?_) (fun d hd => ?_) (by rw [List.length_map, sizeLine_eq]; omega) ?_
      · obtain ⟨k, _, rfl⟩ := List.mem_map.mp hd
        exact ⟨rfl, k, rfl, hR1 _ (Agr.wipe.set (i := 2) (by decide))⟩
      · obtain ⟨k, _, rfl⟩ := List.mem_map.mp hd
        rfl
      · rw [eg]
        refine ⟨_, _, rfl, bools_map _, ?_⟩
        rw [eall, ← ok hle]
        cases e : prisB ks n with
        | true => exact q1 e
        | false => exact q2 e
end
end VL
set_option Elab.async false
set_option linter.all false
set_option pp.maxSteps 1500
set_option maxRecDepth 100000
set_option maxHeartbeats 1000000
namespace VL
open PySem PySem.Spec PyProof.Rows L2
mutual
theorem sps_pre : ∀ (q : Pt) (path : List Nat), ∀ s ∈ (q.sps path).map (·.1), ∃ t, s.1 = path ++ t
  | .nm n z, path, s, hs => by
    simp [Pt.sps] at hs
    subst hs
    exact ⟨[], by simp⟩
  | .nd n z bs, path, s, hs => by
    rw [Pt.sps, List.map_cons] at hs
    rcases List.mem_cons.mp hs with hs | hs
    · subst hs
      exact ⟨[], by simp⟩
    · rcases bsps_pre bs path 0 s hs with ⟨h, _⟩ | ⟨j, t, _, h⟩
      · exact ⟨[], by simp [h]⟩
      · exact ⟨j :: t, h⟩
theorem bsps_pre : ∀ (b : Bk) (path : List Nat) (i : Nat), ∀ s ∈ (b.sps path i).map (·.1), (s.1 = path ∧ ∃ j, i ≤ j ∧ s.2 = some j) ∨ (∃ j t, i ≤ j ∧ s.1 = path ++ j :: t)
  | .nil, path, i, s, hs => by simp [Bk.sps] at hs
  | .cons x xn q b, path, i, s, hs => by
    rw [Bk.sps, List.map_append, List.map_append] at hs
    rcases List.mem_append.mp hs with hs | hs
    · rcases List.mem_append.mp hs with hs | hs
      · cases x with
        | none => simp [ofName] at hs
        | some z =>
          simp [ofName] at hs
          subst hs
          exact .inl ⟨rfl, i, Nat.le_refl _, rfl⟩
      · obtain ⟨t, h⟩ := sps_pre q (path ++ [i]) s hs
        exact .inr ⟨i, t, Nat.le_refl _, by rw [h]; simp⟩
    · rcases bsps_pre b path (i + 1) s hs with ⟨h, j, hj, e⟩ | ⟨j, t, hj, h⟩
      · exact .inl ⟨h, j, by omega, e⟩
      · exact .inr ⟨j, t, by omega, h⟩
end
mutual
theorem sps_nodup : ∀ (q : Pt) (path : List Nat), ((q.sps path).map (·.1)).Nodup
  | .nm n z, path => by simp [Pt.sps]
  | .nd n z bs, path => by
    rw [Pt.sps, List.map_cons, List.nodup_cons]
    refine ⟨fun hm => ?_, bsps_nodup bs path 0⟩
    rcases bsps_pre bs path 0 _ hm with ⟨_, j, _, e⟩ | ⟨j, t, _, h⟩
    · cases e
    · have := congrArg List.length h
      simp at this
theorem bsps_nodup : ∀ (b : Bk) (path : List Nat) (i : Nat), ((b.sps path i).map (·.1)).Nodup
  | .nil, path, i => by simp [Bk.sps]
  | .cons x xn q b, path, i => by
    rw [Bk.sps, List.map_append, List.map_append, List.nodup_append, List.nodup_append]
    refine ⟨⟨by cases x <;> simp [ofName], sps_nodup q (path ++ [i]), fun s h1 s' h2 e => ?_⟩, bsps_nodup b path (i + 1), fun s h1 s' h2 e => ?_⟩
    · subst e
      cases x with
      | none => simp [ofName] at h1
      | some z =>
        simp [ofName] at h1
        subst h1
        obtain ⟨t, h⟩ := sps_pre q (path ++ [i]) _ h2
        have := congrArg List.length h
        simp at this
    · subst e
      rcases List.mem_append.mp h1 with h1 | h1
      · cases x with
        | none => simp [ofName] at h1
        | some z =>
          simp [ofName] at h1
          subst h1
          rcases bsps_pre b path (i + 1) _ h2 with ⟨_, j, hj, e⟩ | ⟨j, t, hj, h⟩
          · simp at e
            omega
          · have := congrArg List.length h
            simp at this
      · obtain ⟨t, h⟩ := sps_pre q (path ++ [i]) s h1
        rcases bsps_pre b path (i + 1) s h2 with ⟨h', j, hj, e⟩ | ⟨j, t', hj, h'⟩
        · rw [h'] at h
          have := congrArg List.length h
          simp at this
        · rw [h, List.append_assoc] at h'
          have := List.append_cancel_left h'
          simp at this
          omega
end
end VL
set_option Elab.async false
set_option linter.all false
set_option pp.maxSteps 1500
set_option maxRecDepth 100000
set_option maxHeartbeats 1000000
namespace VL
open PySem PySem.Spec PyProof.Rows L2
def notesF (b : Addr) (rows spots prices : Da) : List (Str × Da) := [("book", .r b), ("rows", rows), ("spots", spots), ("prices", prices)]
structure NotesAt (CN : Addr) (M : Mx) (x b : Addr) (p : Pt) (κ : Da) (ks : List Int) : Prop where
  x : M x = some (.ins CN (notesF b (.l ((p.rows [] none false).map (rwD κ))) (.l ((p.sps []).map spF)) (.l (ks.map .i))))
/-- a Book, its Table, a program that fits them -/
structure PrgOk (CB CT CS : Addr) (M : Mx) (b t q tq : Addr) (sh un : List (Str × Str)) (rows : List Tr) (wk : List (Key × Da)) (W : Str → List Wn) (p : Pt) (κ : Da) : Prop where
  bk : BkAt CB wk M b t q
  tb : TbAt CT (stD CS sh un) (rows.map Tr.k) M t tq
  tz : Trz rows
  wf : WfN rows wk W
  ok : p.ok
  fit : p.fitsT rows
  cnt : p.count ≤ 1000
  knd : Knd sh κ
theorem wSeqIf_yesN {wt : WT} {wa wb w2 : WS} {D : Dn} {S : Sx} (h : ∀ Q : Bool → Sx → Prop, Q true S → wt S Q) (ha : wa { D with nx := w2 D } S) : wSeq (wIf wt wa wb) w2 D S := h _ ha
theorem wSeqIf_noN {wt : WT} {wa wb w2 : WS} {D : Dn} {S : Sx} (h : ∀ Q : Bool → Sx → Prop, Q false S → wt S Q) (hb : wb { D with nx := w2 D } S) : wSeq (wIf wt wa wb) w2 D S := h _ hb
section
variable {P : Program} {w : World} {K : PySem.W.Frag} {mg : Str → Option Value} {base : Heap}
def dc_Notes_init (CN CB CT CS CE : Addr) : DC := fun ds M Q X => ∃ (x b t q tq : Addr) (sh un : List (Str × Str)) (rows : List Tr) (wk : List (Key × Da)) (W : Str → List Wn) (p : Pt) (κ : Da) (pv : Da) (ks : List Int),
  ds = [.r x, .r b, p.da κ, pv] ∧ M x = some (.ins CN []) ∧ PrgOk CB CT CS M b t q tq sh un rows wk W p κ ∧ ((pv = .n ∧ ks = List.replicate (p.sps []).length 1) ∨ IntL M pv ks) ∧ ks.length ≤ 2000 ∧
  (prisB ks (p.sps []).length = true → ∀ M', NotesAt CN M' x b p κ ks → (∀ y m, y ≠ x → M y = some m → M' y = some m) → Q .n M') ∧
  (prisB ks (p.sps []).length = false → ∀ M', (∀ y m, y ≠ x → M y = some m → M' y = some m) → X (.ref CE) none M')
theorem ok_Notes_init (T : Tx P K mg) (G_check_prices : FnOk P w K mg base (L2.CX P w) 2 T.f_check_prices T.fd_check_prices ["prices", "count"] (spOf K (dc_check_prices T.C_BadPrices))) (G_built : FnOk P w K mg base (L2.CX P w) 7 T.f_built T.fd_built ["table", "program"] (spOf K (dc_built T.C_Table T.C_Stock))) (G_check_ways : FnOk P w K mg base (L2.CX P w) 5 T.f_check_ways T.fd_check_ways ["book", "rows"] (spOf K (dc_check_ways T.C_Book T.C_Table))) (G_spots_of : FnOk P w K mg base (L2.CX P w) 1 T.f_spots_of T.fd_spots_of ["rows"] (spOf K dc_spots_of)) : FnOk P w K mg base (L2.CX P w) 8 T.f_Notes_init T.fd_Notes_init ["self", "book", "program", "prices"] (spOf K (dc_Notes_init T.C_Notes T.C_Book T.C_Table T.C_Stock T.C_BadPrices)) := by
  have sc := scNotes_init
  refine okDD T.d_Notes_init.F sc (fun ds M Q X h => ?_) (fun cdv A outer s H E c ds M Qd Xd hn hr h hX => ?_)
  · obtain ⟨x, b, t, q, tq, sh, un, rows, wk, W, p, κ, pv, ks, rfl, _⟩ := h
    rfl
  have tk := takes_of (X := cxOf (L2.CX P w) P w K mg base NNotes_init "Notes.__init__" (defScope sNotes_init) T.f_Notes_init cdv A outer s H E) rfl rfl rfl rfl
  refine ⟨_, (ss_cons (s_fld T.c_Notes.cl T.n_Notes_book (vv 1) (vv 0))
  (ss_cons (s_fld T.c_Notes.cl T.n_Notes_rows (v_call G_built (hr.mono (by decide)) (by rfl) T.d_built.g T.d_built.F.kp T.d_built.b tk hX (v_cons (v_fld T.c_Book.cl T.n_Book_table (vv 1)) (v_cons (vv 2) v_nil))) (vv 0))
  (ss_cons (s_expr (v_call G_check_ways (hr.mono (by decide)) (by rfl) T.d_check_ways.g T.d_check_ways.F.kp T.d_check_ways.b tk hX (v_cons (vv 1) (v_cons (v_fld T.c_Notes.cl T.n_Notes_rows (vv 0)) v_nil))))
  (ss_cons (s_fld T.c_Notes.cl T.n_Notes_spots (v_call G_spots_of (hr.mono (by decide)) (by rfl) T.d_spots_of.g T.d_spots_of.F.kp T.d_spots_of.b tk hX (v_cons (v_fld T.c_Notes.cl T.n_Notes_rows (vv 0)) v_nil)) (vv 0))
  (ss_cons (s_if (vt_cmp op_isN lIs (nomark _) (vv 3) vn)
  (ss_one (s_valLc (i := 3) rfl sc.nd rfl rfl (by rw [hn]; decide) (sw_true rfl rfl rfl (by decide +kernel)) (i_sq (v_fld T.c_Notes.cl T.n_Notes_spots (vv 0))) (blkOk_by (own := [("_", 4)]) (N := NNotes_init) (sc := defScope sNotes_init) (by decide +kernel)) (fun c1 e1 => (lgN (i := 4) (by rw [e1, hn]; decide))) (fun _ _ _ _ _ => (pg_name (i := 4) sc.nd rfl (by first | exact .inl rfl | exact .inr rfl))) (fun _ _ _ _ _ _ _ => ts_nil) (fun _ _ _ _ _ c1 e1 => vi) (by decide)))
  ss_nil)
  (ss_cons (s_expr (v_call G_check_prices (hr.mono (by decide)) (by rfl) T.d_check_prices.g T.d_check_prices.F.kp T.d_check_prices.b tk hX (v_cons (vv 3) (v_cons (v_cb1 call_lenA lLen (by rfl) T.n_len (by decide +kernel) (v_fld T.c_Notes.cl T.n_Notes_spots (vv 0))) v_nil))))
  (ss_one (s_fld T.c_Notes.cl T.n_Notes_prices (vOf (v_list (by rfl) T.n_list (by decide +kernel) (vv 3))) (vv 0))))))))), ?_⟩
  obtain ⟨x, b, t, q, tq, sh, un, rows, wk, W, p, κ, pv, ks, rfl, mx, pk, hpv, hks, q1, q2⟩ := h
  have κO : κ.isO = false := by cases pk.knd.k <;> rfl
  have hl := rows_len p [] none false
  have hlen := rows_path p [] none false (fun h => absurd rfl h)
  have hfr := fits_rows rows p [] none false pk.fit
  have bx : b ≠ x := fun e => by have := pk.bk.b; rw [e, mx] at this; injection this with h; injection h with _ h2; cases h2
  have qx : q ≠ x := fun e => by have := pk.bk.q; rw [e, mx] at this; cases this
  have tx : t ≠ x := fun e => by have := pk.tb.x; rw [e, mx] at this; injection this with h; injection h with _ h2; cases h2
  have tqx : tq ≠ x := fun e => by have := pk.tb.q; rw [e, mx] at this; cases this
  have wf2 : Wf2 rows wk := ⟨fun r hr => by
    have h1 := pk.wf.g r hr
    have h2 := pk.wf.n r hr
    cases hW : W r.z with
    | nil => exact absurd hW h2
    | cons a l => exact ⟨wnD a, l.map wnD, by rw [h1, hW]; rfl⟩, pk.wf.O⟩
  have kp : ∀ (fs : List (Str × Da)) (N : Mx), (∀ y, y ≠ x → N y = M y) → ∀ y, y ≠ x → updM N x (.ins T.C_Notes fs) y = M y := fun fs N h y hy => by rw [updM_ne hy, h y hy]
  refine ⟨rfl, x, [], rfl, mx, by decide, ?_⟩
  let M1 : Mx := updM M x (.ins T.C_Notes [("book", .r b)])
  have g1 : ∀ y, y ≠ x → M1 y = M y := kp _ M fun y _ => rfl
  have bk1 : BkAt T.C_Book wk M1 b t q := ⟨(g1 b bx).trans pk.bk.b, (g1 q qx).trans pk.bk.q⟩
  have tb1 : TbAt T.C_Table (stD T.C_Stock sh un) (rows.map Tr.k) M1 t tq := ⟨(g1 t tx).trans pk.tb.x, (g1 tq tqx).trans pk.tb.q⟩
  refine ⟨_, _, bk1.b, rfl, rfl, p.daO κ, t, tq, sh, un, rows, p, κ, rfl, tb1, pk.tz, pk.ok, pk.fit, pk.cnt, pk.knd, ?_⟩
  generalize hrs : p.rows [] none false = rs at hl hlen hfr
  refine ⟨rfl, x, [("book", .r b)], rfl, updM_same, by show (1 : Nat) < 1000; decide, ?_⟩
  let M2 : Mx := updM M1 x (.ins T.C_Notes [("book", .r b), ("rows", .l (rs.map (rwD κ)))])
  have x2 : M2 x = some (.ins T.C_Notes [("book", .r b), ("rows", .l (rs.map (rwD κ)))]) := updM_same
  have g2 : ∀ y, y ≠ x → M2 y = M y := kp _ M1 g1
  have bk2 : BkAt T.C_Book wk M2 b t q := ⟨(g2 b bx).trans pk.bk.b, (g2 q qx).trans pk.bk.q⟩
  have tb2 : TbAt T.C_Table (stD T.C_Stock sh un) (rows.map Tr.k) M2 t tq := ⟨(g2 t tx).trans pk.tb.x, (g2 tq tqx).trans pk.tb.q⟩
  refine ⟨rfl, _, _, x2, rfl, rfl, b, t, q, tq, _, rows, wk, rs, κ, rfl, bk2, tb2, pk.tz, wf2, hfr, κO, ?_⟩
  refine ⟨_, _, x2, rfl, rfl, rs, κ, rfl, fun r hr => (hlen r hr).1, fun r hr => ?_, pk.knd.k, by rw [hl]; have := pk.cnt; omega, ?_⟩
  · have h2 := (hlen r hr).2
    have := pk.cnt
    simp at h2
    omega
  have esp : rs.flatMap rowSp = p.sps [] := by rw [← hrs, rows_sps]; rfl
  have hsl : (p.sps []).length ≤ 2 * rs.length := by rw [← esp]; exact rowsSp_len _
  rw [esp]
  have hcnt := pk.cnt
  generalize hsp : p.sps [] = sps at hpv q1 q2 hsl
  refine ⟨rfl, x, [("book", .r b), ("rows", .l (rs.map (rwD κ)))], rfl, x2, by show (2 : Nat) < 1000; decide, ?_⟩
  let F3 : List (Str × Da) := [("book", .r b), ("rows", .l (rs.map (rwD κ))), ("spots", .l (sps.map spF))]
  let M3 : Mx := updM M2 x (.ins T.C_Notes F3)
  have x3 : M3 x = some (.ins T.C_Notes F3) := updM_same
  have g3 : ∀ y, y ≠ x → M3 y = M y := kp _ M2 g2
  let T0 : Sx → Prop := fun S => ∃ (pv' : Da) (y4 : Slx), IntL M3 pv' ks ∧ S = ⟨[.val (.r x), .val (.r b), .val (p.da κ), .val pv', y4], M3⟩
  apply via_tail (TOk := T0)
  case main =>
    intro tail
    rcases hpv with ⟨rfl, ek⟩ | hpv | ⟨a, rfl, ma⟩
    · dsimp only
      refine wSeqIf_yesN ?_ ?_
      · exact fun Q h => h
      refine ⟨_, _, x3, rfl, ?_⟩
      refine lc_map (fun _ => .i 1) (fun d hd R1 hR1 => ?_) (fun d hd => rfl) (by rw [List.length_map, sizeLine_eq]; omega) ?_
      · exact hR1 _ (Agr.wipe.set (i := 4) (by decide))
      · have e : (sps.map spF).map (fun _ => Da.i 1) = ks.map .i := by
          rw [ek, List.map_map, List.map_replicate]
          show sps.map (fun _ => Da.i 1) = _
          exact List.map_const'
        rw [e]
        exact ⟨rfl, tail _ ⟨_, _, .inl rfl, rfl⟩⟩
    · subst hpv
      dsimp only
      refine wSeqIf_noN ?_ ?_
      · exact fun Q h => h
      exact tail _ ⟨_, _, .inl rfl, rfl⟩
    · dsimp only
      refine wSeqIf_noN ?_ ?_
      · exact fun Q h => h
      exact tail _ ⟨_, _, .inr ⟨a, rfl, (g3 a (fun e => by rw [e, mx] at ma; cases ma)).trans ma⟩, rfl⟩
  case tail =>
    rintro S ⟨pv', y4, hi, rfl⟩
    have lis : ∀ (N : Mx) ρ, (∀ y, N y = M3 y) → (Sx.mk ρ N).sq pv' = some (ks.map .i) := fun N ρ h => by
      rcases hi with rfl | ⟨a, rfl, ma⟩
      · rfl
      · show (match N a with | some (.lst ds) => some ds | _ => none) = _
        rw [h, ma]
    have pO : pv'.isO = false := by rcases hi with rfl | ⟨a, rfl, _⟩ <;> rfl
    refine ⟨pO, _, _, x3, rfl, rfl, pv', ks, sps.length, ?_, hi, hks, fun e => ?_, fun e => ?_⟩
    · show [pv', Da.i ((sps.map spF).length : Nat)] = _
      rw [List.length_map]
    · refine ⟨_, lis _ _ fun _ => rfl, by rw [List.length_map, sizeLine_eq]; omega, rfl, x, F3, rfl, x3, by show (3 : Nat) < 1000; decide, ?_⟩
      refine q1 e _ ⟨?_⟩ fun y m hy e => ?_
      · rw [hrs, hsp]
        exact updM_same
      · show updM M3 x _ y = _
        rw [updM_ne hy, g3 y hy]
        exact e
    · exact q2 e _ fun y m hy e => by show M3 y = _; rw [g3 y hy]; exact e
end
end VL
set_option Elab.async false
set_option linter.all false
set_option pp.maxSteps 1500
set_option maxRecDepth 100000
set_option maxHeartbeats 1000000
namespace VL
open PySem PySem.Spec PyProof.Rows L2
structure Tr.okP (r : Tr) : Prop where
  wd : Wd r.z
  ar : r.pls.length ≤ 3
  bd : ∀ x ∈ r.pls, Bd x.1
theorem fitsB_app {rows : List Tr} : ∀ {a b : Bk} {ps qs : List (Da × Da)}, a.fitsB rows ps → b.fitsB rows qs → (Bk.app a b).fitsB rows (ps ++ qs)
  | .nil, b, ps, qs, h, h2 => by rw [Bk.fitsB] at h; subst h; rw [Bk.app]; exact h2
  | .cons x xn q r, b, ps, qs, h, h2 => by
    rw [Bk.fitsB] at h
    obtain ⟨p, pr, rfl, h3, h4, h5⟩ := h
    rw [Bk.app]
    exact ⟨p, pr ++ qs, rfl, h3, h4, fitsB_app h5 h2⟩
section
variable {P : Program} {w : World} {K : PySem.W.Frag} {mg : Str → Option Value} {base : Heap}
def dc_l_part : Nat → DC
  | 0 => fun _ _ _ _ => False
  | n + 1 => fun ds M Q _ => ∃ (p : Addr) (rs : List Tr) (ns : List Str) (d : Nat), ds = [.r p, .l (rs.map Tr.d), .l (ns.map .s), .i d] ∧ Tp M p ∧ (∀ r ∈ rs, Tr.okP r) ∧ rs.length ≤ 1000 ∧ 1 ≤ ns.length ∧ ns.length ≤ 1000 ∧ (∀ z ∈ ns, Wd z) ∧ d ≤ n ∧
      ∀ (q : Pt) (M' : Mx), Tto p M M' → q.ok → q.strip = q → q.count ≤ bnd d → q.ht ≤ d → q.fitsT rs → Q (q.da .n) M'
theorem step_l_part (T : Tx P K mg) (G_l_take : FnOk P w K mg base (L2.CX P w) 1 T.f_l_take T.fd_l_take ["_law_tape_here", "_law_many"] (spOf K dc_l_take)) (n : Nat) (G_l_part : FnOk P w K mg base (L2.CX P w) (1 + n) T.f_l_part T.fd_l_part ["_law_tape_here", "_law_rules", "_law_names", "_law_depth"] (spOf K (dc_l_part n))) : FnOk P w K mg base (L2.CX P w) (1 + n + 1) T.f_l_part T.fd_l_part ["_law_tape_here", "_law_rules", "_law_names", "_law_depth"] (spOf K (dc_l_part (n + 1))) := by
  have sc := scLPart
  refine okD T.d_l_part.F sc (fun ds M Q X h => ?_) (fun cdv A outer s H E c ds M Qd Xd hn hr h hX => ?_)
  · obtain ⟨p, rs, ns, d, rfl, _⟩ := h
    rfl
  have tk := takes_of (X := cxOf (L2.CX P w) P w K mg base NLPart "_law_part" (defScope sLPart) T.f_l_part cdv A outer s H E) rfl rfl rfl rfl
  refine ⟨_, (ss_cons (s_set (i := 4) sc.nd rfl (by first | exact .inl rfl | exact .inr rfl) (by rw [hn]; decide) (v_call G_l_take (hr.mono (by omega)) (by rfl) T.d_l_take.g T.d_l_take.F.kp T.d_l_take.b tk hX (v_cons (vv 0) (v_cons (v_op op_addA lAdd (v_cb1 call_lenA lLen (by rfl) T.n_len (by decide +kernel) (vv 1)) vi) v_nil))))
  (ss_cons (s_if (PW.pt (v_or (vt_cmp (op_eqA hr.units) lEq (nomark _) (vv 3) vi) (pw_or1 (vt_cmp (op_eqA hr.units) lEq (nomark _) (vv 4) (v_cb1 call_lenA lLen (by rfl) T.n_len (by decide +kernel) (vv 1))))))
  (ss_one (s_ret (v_ix (vv 2) (v_call G_l_take (hr.mono (by omega)) (by rfl) T.d_l_take.g T.d_l_take.F.kp T.d_l_take.b tk hX (v_cons (vv 0) (v_cons (v_cb1 call_lenA lLen (by rfl) T.n_len (by decide +kernel) (vv 2)) v_nil))) (fun _ _ => rfl))))
  ss_nil)
  (ss_cons (s_own (i := 5) sc.nd rfl (by first | exact .inl rfl | exact .inr rfl) (by rw [hn]; decide) (v_lst v_nil))
  (ss_cons (s_for (passes_of rfl) rfl (i_sq (v_ix (v_ix (v_ix (vv 1) (vv 4) (fun _ _ => rfl)) vi (fun _ _ => rfl)) vi (fun _ _ => rfl))) (pg_name (i := 6) sc.nd rfl (by first | exact .inl rfl | exact .inr rfl)) (lgN (i := 6) (by rw [hn]; decide))
  (ss_cons (s_set (i := 7) sc.nd rfl (by first | exact .inl rfl | exact .inr rfl) (by rw [hn]; decide) vn)
  (ss_cons (s_if (vt_cmp op_notN lIsNot (nomark _) (v_ix (vv 6) vi (fun _ _ => rfl)) vn)
  (ss_one (s_set (i := 7) sc.nd rfl (by first | exact .inl rfl | exact .inr rfl) (by rw [hn]; decide) (v_ix (vv 2) (v_call G_l_take (hr.mono (by omega)) (by rfl) T.d_l_take.g T.d_l_take.F.kp T.d_l_take.b tk hX (v_cons (vv 0) (v_cons (v_cb1 call_lenA lLen (by rfl) T.n_len (by decide +kernel) (vv 2)) v_nil))) (fun _ _ => rfl))))
  ss_nil)
  (ss_one (s_expr (v_met PySem.F.plainAttrs_list PySem.F.slot_list_append PySem.F.type_list_append mt_append tyL_ok lAppend (vv 5) (v_tup (v_cons (vv 7) (v_cons vn (v_cons (v_call G_l_part (hr.mono (by omega)) (by rfl) T.d_l_part.g T.d_l_part.F.kp T.d_l_part.b tk hX (v_cons (vv 0) (v_cons (vv 1) (v_cons (vv 2) (v_cons (v_op op_sub lI0 (vv 3) vi) v_nil))))) v_nil))))))))))
  (ss_one (s_ret (v_op op_addA lAdd (v_tup (v_cons (v_ix (v_ix (vv 1) (vv 4) (fun _ _ => rfl)) vi (fun _ _ => rfl)) v_nil)) (v_ct1 call_tupleA lTuple (by rfl) T.n_tuple (by decide +kernel) (vv 5))))))))), ?_⟩
  obtain ⟨p, rs, ns, d, rfl, hp, hrs, hr1, hn1, hn2, hns, hd, qq⟩ := h
  have ret : ∀ (M1 : Mx) (y4 y5 y6 y7 : Slx), Tto p M M1 → (wRet (wOp rdIx (wVar 2) (wCall dc_l_take [] (fun cls ofs S' => Xd cls ofs S'.M) (wCons (wVar 0) (wCons (wUn rdLen (wVar 2)) wNil)))))
      { nx := fun S' => Qd Da.n S'.M, rt := fun d S' => Qd d S'.M } ⟨[.val (.r p), .val (.l (rs.map Tr.d)), .val (.l (ns.map .s)), .val (.i d), y4, y5, y6, y7], M1⟩ := fun M1 y4 y5 y6 y7 t1 => by
    refine ⟨rfl, rfl, p, ns.length, by rw [← ln_s ns]; rfl, t1.tp, hn1, fun r M2 hr t2 => ⟨_, _, rfl, at_s hr, rfl, ?_⟩⟩
    exact qq (.nm false ns[r]) M2 (t1.trans t2) (by simp only [Pt.ok]; exact hns _ (List.getElem_mem hr)) (by simp [Pt.strip]) (by simp only [Pt.count]; exact bnd_pos d) (by simp [Pt.ht]) trivial
  refine ⟨rfl, rfl, p, rs.length + 1, by rw [← List.length_map (f := Tr.d) (as := rs)]; rfl, hp, by omega, fun pk M1 hpk t1 => ?_⟩
  have lr : (((rs.map Tr.d).length : Nat) : Int) = (rs.length : Int) := by rw [List.length_map]
  refine ⟨rfl, .inl ⟨rfl, rfl, rfl, ite2 (fun _ => ret M1 _ _ _ _ t1) (fun z => .inl ⟨rfl, rfl, rfl, ite2 (fun _ => ret M1 _ _ _ _ t1) (fun z2 => ?_)⟩)⟩⟩
  have d0 : d ≠ 0 := fun e => z (decide_eq_true (by rw [e]; rfl))
  obtain ⟨n', rfl⟩ : ∃ n', n = n' + 1 := ⟨n - 1, by omega⟩
  obtain ⟨d', rfl⟩ : ∃ d', d = d' + 1 := ⟨d - 1, by omega⟩
  have hpk' : pk < rs.length := by
    have : ¬ (pk : Int) = ((rs.map Tr.d).length : Int) := fun e => z2 (decide_eq_true e)
    omega
  have ok := hrs _ (List.getElem_mem hpk')
  have hmem := List.getElem_mem hpk'
  have hat : atI (rs.map Tr.d) (pk : Int) = some rs[pk].d := by rw [atI_nat (v := rs[pk].d) (by simp [hpk'])]
  generalize rs[pk] = rl at ok hat hmem
  have e1 : ((d' + 1 : Nat) : Int) - 1 = (d' : Int) := by omega
  refine ⟨by show 0 ≤ sizeLine; decide, fun p5 n5 => ⟨_, _, rfl, hat, _, atI_nat (j := 1) rfl, _, atI_nat (j := 0) rfl, ?_⟩⟩
  refine forGo_of (fun rest S => ∃ (dn rp : List (Da × Da)) (b : Bk) (y6 y7 : Slx) (M2 : Mx), rest = rp.map pl2 ∧ rl.pls = dn ++ rp ∧ b.fitsB rs dn ∧ (∀ x ∈ rp, Bd x.1) ∧ b.len + rp.length = rl.pls.length ∧ b.ok ∧ b.strip = b ∧ b.count ≤ b.len * bnd d' ∧ b.ht ≤ d' ∧ Tto p M M2 ∧
      S = ⟨[.val (.r p), .val (.l (rs.map Tr.d)), .val (.l (ns.map .s)), .val (.i ((d' + 1 : Nat) : Int)), .val (.i pk), .own p5 (b.das .n), y6, y7], M2⟩)
    (fun k ds S h R hR => ?_) (fun S h => ?_) _ _ ⟨[], rl.pls, .nil, .no, .no, M1, rfl, rfl, rfl, ok.bd, by simp [Bk.len], by simp [Bk.ok], by simp [Bk.strip], by simp [Bk.count], by simp [Bk.ht], t1, by simp only [Bk.das]; rfl⟩
  · obtain ⟨dn, rp, b, y6, y7, M2, e, edn, hfb, hb, hl, hok, hst, hc, hh, t2, rfl⟩ := h
    cases rp with
    | nil => cases e
    | cons x rp =>
    cases e
    have ends : ∀ (bx : Option Str) (M3 : Mx), x.1.isN = bx.isNone → (∀ z, bx = some z → Wd z) → Tto p M M3 →
        (wDrop (wMet tyL rdAppend (wVar 5) (wTup (wCons (wVar 7) (wCons (wC Da.n) (wCons (wCall (dc_l_part (n' + 1)) [] (fun cls ofs S' => Xd cls ofs S'.M) (wCons (wVar 0) (wCons (wVar 1) (wCons (wVar 2) (wCons (wOp (rdI0 HSub.hSub) (wVar 3) (wC (Da.i 1))) wNil))))) wNil))))))
        { nx := R, rt := fun d S' => Qd d S'.M } ⟨[.val (.r p), .val (.l (rs.map Tr.d)), .val (.l (ns.map .s)), .val (.i ((d' + 1 : Nat) : Int)), .val (.i pk), .own p5 (b.das .n), .val (pl2 x), .val (optS bx)], M3⟩ := fun bx M3 hxn hbx t3 => by
      refine ⟨⟨_, rfl⟩, optS_O bx, rfl, rfl, rfl, rfl, rfl, p, rs, ns, d', by rw [← e1]; rfl, t3.tp, hrs, hr1, hn1, hn2, hns, by omega, fun q M4 t4 h1 h2 h3 h4 h5 => ?_⟩
      have hl' : (b.das .n).length < sizeLine := by
        rw [das_len, sizeLine_eq]
        have := ok.ar
        omega
      refine ⟨q.daO .n, by show 3 ≤ sizeLine; decide, _, _, rfl, rfl, hl', rfl, ?_⟩
      refine hR _ ⟨dn ++ [x], rp, Bk.app b (.cons bx false q .nil), .val (pl2 x), .val (optS bx), M4, rfl, by rw [edn]; simp, fitsB_app hfb ⟨x, [], rfl, hxn, h5, rfl⟩, fun y hy => hb y (by simp [hy]), ?_, ?_, ?_, ?_, (by rw [ht_app]; simp only [Bk.ht]; omega), t3.trans t4, ?_⟩
      · rw [len_app]
        simp only [Bk.len]
        rw [List.length_cons] at hl
        omega
      · rw [ok_app]
        exact ⟨hok, by simp only [Bk.ok]; exact ⟨hbx, fun _ => trivial, h1, trivial⟩⟩
      · rw [strip_app, hst]
        simp only [Bk.strip, h2]
      · rw [count_app, len_app]
        simp only [Bk.count, Bk.len]
        rw [Nat.add_mul]
        omega
      · rw [das_app]
        simp only [Bk.das, noteD]
        rfl
    refine ⟨rfl, _, atI_nat (j := 0) rfl, ?_⟩
    have yes : x.1.isN = false → (wSet 7 (wOp rdIx (wVar 2) (wCall dc_l_take [] (fun cls ofs S' => Xd cls ofs S'.M) (wCons (wVar 0) (wCons (wUn rdLen (wVar 2)) wNil)))))
        { nx := wDrop (wMet tyL rdAppend (wVar 5) (wTup (wCons (wVar 7) (wCons (wC Da.n) (wCons (wCall (dc_l_part (n' + 1)) [] (fun cls ofs S' => Xd cls ofs S'.M) (wCons (wVar 0) (wCons (wVar 1) (wCons (wVar 2) (wCons (wOp (rdI0 HSub.hSub) (wVar 3) (wC (Da.i 1))) wNil))))) wNil))))) { nx := R, rt := fun d S' => Qd d S'.M }, rt := fun d S' => Qd d S'.M }
        ⟨[.val (.r p), .val (.l (rs.map Tr.d)), .val (.l (ns.map .s)), .val (.i ((d' + 1 : Nat) : Int)), .val (.i pk), .own p5 (b.das .n), .val (pl2 x), .val .n], M2⟩ := fun HXN => by
      refine ⟨rfl, rfl, p, ns.length, by rw [← ln_s ns]; rfl, t2.tp, hn1, fun r M3 hr t3 => ⟨_, _, rfl, at_s hr, rfl, ?_⟩⟩
      exact ends (some ns[r]) M3 HXN (fun z e => by cases e; exact hns _ (List.getElem_mem hr)) (t2.trans t3)
    obtain ⟨x1, x2⟩ := x
    rcases hb (x1, x2) (by simp) with e | ⟨z, e⟩ | ⟨es, e⟩
    · have e' : x1 = .n := e
      subst e'
      exact ends none M2 rfl (fun z e => by cases e) t2
    · have e' : x1 = .s z := e
      subst e'
      exact yes rfl
    · have e' : x1 = .t es := e
      subst e'
      exact yes rfl
  · obtain ⟨dn, rp, b, y6, y7, M2, e, edn, hfb, hb, hl, hok, hst, hc, hh, t2, rfl⟩ := h
    cases rp with
    | cons _ _ => cases e
    | nil =>
    rw [List.length_nil, Nat.add_zero] at hl
    have := ok.ar
    refine ⟨_, _, rfl, hat, _, atI_nat (j := 0) rfl, rfl, by show 1 ≤ sizeLine; decide, _, rfl, by rw [das_len, sizeLine_eq, List.length_singleton]; omega, rfl, ?_⟩
    rw [List.append_nil] at edn
    have hq := qq (.nd false rl.z b) M2 t2 (by simp only [Pt.ok]; exact ⟨ok.wd, hok⟩) (by simp only [Pt.strip, hst]) (by
      simp only [Pt.count, bnd]
      have : b.len * bnd d' ≤ 3 * bnd d' := Nat.mul_le_mul_right _ (by omega)
      omega) (by simp only [Pt.ht]; omega) ⟨rl, hmem, rfl, by rw [edn]; exact hfb⟩
    simp only [Pt.da] at hq
    exact hq
theorem ok_l_part (T : Tx P K mg) (G_l_take : FnOk P w K mg base (L2.CX P w) 1 T.f_l_take T.fd_l_take ["_law_tape_here", "_law_many"] (spOf K dc_l_take)) : ∀ n, FnOk P w K mg base (L2.CX P w) (1 + n) T.f_l_part T.fd_l_part ["_law_tape_here", "_law_rules", "_law_names", "_law_depth"] (spOf K (dc_l_part n))
  | 0 => fn_no fun _ _ _ _ h => h
  | n + 1 => step_l_part T G_l_take n (ok_l_part T G_l_take n)
end
end VL
set_option Elab.async false
set_option linter.all false
set_option pp.maxSteps 1500
set_option maxRecDepth 100000
set_option maxHeartbeats 1000000
namespace VL
open PySem PySem.Spec PyProof.Rows L2
/-- a way for n places, its notes at names that are bound -/
structure WnGood (pls : List (Da × Da)) (w : Wn) : Prop where
  pm : (w.steps.map (·.1)).Perm (List.range pls.length)
  nt : ∀ k ∈ w.noted, ∃ x, pls[k]? = some x ∧ x.1.isN = false
  nl : w.noted.length ≤ 3
  nd : w.noted.Nodup
theorem WnGood.lt {pls : List (Da × Da)} {w : Wn} (h : WnGood pls w) : ∀ s ∈ w.steps, s.1 < pls.length := fun s hs => by
  have := h.pm.mem_iff.mp (List.mem_map.mpr ⟨s, hs, rfl⟩)
  exact List.mem_range.mp this
theorem WnGood.len {pls : List (Da × Da)} {w : Wn} (h : WnGood pls w) : w.steps.length = pls.length := by
  have := h.pm.length_eq
  rwa [List.length_map, List.length_range] at this
/-- the ways of the rows are good -/
structure WsGood (rows : List Tr) (W : Str → List Wn) : Prop where
  n : ∀ r ∈ rows, W r.z ≠ []
  g : ∀ r ∈ rows, ∀ w ∈ W r.z, WnGood r.pls w
  l : ∀ r ∈ rows, r.pls.length ≤ 3
end VL
set_option Elab.async false
set_option linter.all false
set_option pp.maxSteps 1500
set_option maxRecDepth 100000
set_option maxHeartbeats 1000000
namespace VL
open PySem PySem.Spec PyProof.Rows L2
def Bk.xns : Bk → List Bool
  | .nil => []
  | .cons _ xn _ r => xn :: Bk.xns r
theorem das_xn (κ : Da) : ∀ (b : Bk) (j : Nat), j < b.len → ∃ (x : Option Str) (q : Pt), (b.das κ)[j]? = some (.t [optS x, noteD κ (b.xns.getD j false), q.da κ])
  | .nil, j, h => by rw [Bk.len] at h; omega
  | .cons x xn q r, j, h => by
    rw [Bk.das, Bk.xns]
    cases j with
    | zero => exact ⟨x, q, rfl⟩
    | succ j =>
      rw [Bk.len] at h
      obtain ⟨x', q', e⟩ := das_xn κ r j (by omega)
      exact ⟨x', q', by rw [List.getElem?_cons_succ, e, List.getD_cons_succ]⟩
mutual
def Pt.fu : Pt → Nat
  | .nm n _ => if n then 2 else 1
  | .nd n _ bs => if n then Bk.fu bs + 2 else Bk.fu bs + 1
def Bk.fu : Bk → Nat
  | .nil => 0
  | .cons _ _ q r => max (Pt.fu q + 1) (Bk.fu r)
end
mutual
theorem fu_ht : ∀ q : Pt, q.fu ≤ 3 * q.ht + 2
  | .nm n _ => by rw [Pt.fu]; cases n <;> simp only [Bool.false_eq_true, if_false, if_true] <;> omega
  | .nd n _ bs => by
    have := bfu_ht bs
    rw [Pt.fu, Pt.ht]
    cases n
    · simp only [Bool.false_eq_true, if_false]; omega
    · simp only [if_true]; omega
theorem bfu_ht : ∀ b : Bk, b.fu ≤ 3 * b.ht + 3
  | .nil => by rw [Bk.fu]; omega
  | .cons _ _ q r => by
    have := fu_ht q
    have := bfu_ht r
    rw [Bk.fu, Bk.ht]
    omega
end
end VL
set_option Elab.async false
set_option linter.all false
set_option pp.maxSteps 1500
set_option maxRecDepth 100000
set_option maxHeartbeats 1000000
namespace VL
open PySem PySem.Spec PyProof.Rows L2
section
variable {P : Program} {w : World} {K : PySem.W.Frag} {mg : Str → Option Value} {base : Heap}
/-- a Book over the table, its ways, and the dict of the ways as the law keeps it -/
structure Agr1 (CB CT C : Addr) (M : Mx) (b t q tq qw : Addr) (sh un : List (Str × Str)) (rows : List Tr) (wk wz : List (Key × Da)) (W : Str → List Wn) : Prop where
  bk : BkAt CB wk M b t q
  tb : TbAt CT (stD C sh un) (rows.map Tr.k) M t tq
  tz : Trz rows
  wf : WfN rows wk W
  dz : M qw = some (.dk none wz)
  wg : WsGood rows W
  dv : ∀ r ∈ rows, valD wz (.inr r.z) = some (.l ((W r.z).map wnD))
structure Prg (sh : List (Str × Str)) (rows : List Tr) (p : Pt) (es : List Da) : Prop where
  ok : p.ok
  ft : p.fitsT rows
  ct : p.count ≤ 1000
  ht : p.ht ≤ 11
  kn : Knd sh (.t es)
theorem Agr1.mono {CB CT C : Addr} {M M' : Mx} {b t q tq qw : Addr} {sh un : List (Str × Str)} {rows : List Tr} {wk wz : List (Key × Da)} {W : Str → List Wn} (a : Agr1 CB CT C M b t q tq qw sh un rows wk wz W) (k : ∀ b m, M b = some m → M' b = some m) : Agr1 CB CT C M' b t q tq qw sh un rows wk wz W :=
  ⟨⟨k _ _ a.bk.b, k _ _ a.bk.q⟩, ⟨k _ _ a.tb.x, k _ _ a.tb.q⟩, a.tz, a.wf, k _ _ a.dz, a.wg, a.dv⟩
end
end VL
set_option Elab.async false
set_option linter.all false
set_option pp.maxSteps 1500
set_option maxRecDepth 100000
set_option maxHeartbeats 1000000
namespace VL
open PySem PySem.Spec PyProof.Rows L2
def wn (y : Wy) : Wn := ⟨decide (y.z = Str.ofString "found"), y.st.map fun p => (p.1.toNat, decide (p.2 = Str.ofString "found")), y.nt.map Int.toNat⟩
theorem dirB_S {z : Str} (h : dirB z = true) : dirS (decide (z = Str.ofString "found")) = z := by
  unfold dirB at h
  by_cases e : z = Str.ofString "found"
  · rw [decide_eq_true e, e]; rfl
  · rw [decide_eq_false e] at h ⊢
    rw [Bool.or_false] at h
    rw [of_decide_eq_true h]
    rfl
structure GoodY (pls : List (Da × Da)) (y : Wy) : Prop where
  b : Bdw y
  w : WOk y.z y.st y.nt
  k : Wy.ok pls y = true
theorem GoodY.chk {pls : List (Da × Da)} {y : Wy} (h : GoodY pls y) : dirsB y.z y.st = true ∧ ascN y.st y.nt = y.nt ∧ y.st.length = pls.length ∧ y.nt.all (bndB pls) = true := by
  have k := h.k
  unfold Wy.ok chkB wayB at k
  simp only [Bool.and_eq_true] at k
  exact ⟨k.1.1.1.1.1, of_decide_eq_true k.1.1.2, of_decide_eq_true k.1.2, k.2⟩
theorem wn_d {pls : List (Da × Da)} {y : Wy} (h : GoodY pls y) : wnD (wn y) = y.d := by
  obtain ⟨c1, c2, c3, c4⟩ := h.chk
  unfold dirsB at c1
  rw [List.all_eq_true] at c1
  have hz := dirB_S (c1 _ (List.mem_cons_self ..))
  unfold wnD wn Wy.d wD
  rw [hz, List.map_map, List.map_map]
  have e1 : y.st.map (snD ∘ fun p => (p.1.toNat, decide (p.2 = Str.ofString "found"))) = y.st.map stD1 := List.map_congr_left fun p hp => by
    have h1 := (h.b.s p hp).1.1
    have h2 := dirB_S (c1 p.2 (List.mem_cons_of_mem _ (List.mem_map.mpr ⟨p, hp, rfl⟩)))
    show Da.t [.i ((p.1.toNat : Nat) : Int), .s (dirS _)] = Da.t [.i p.1, .s p.2]
    rw [h2, Int.toNat_of_nonneg h1]
  have e2 : y.nt.map (nnD ∘ Int.toNat) = y.nt.map .i := List.map_congr_left fun k hk => by
    show Da.i ((k.toNat : Nat) : Int) = .i k
    rw [Int.toNat_of_nonneg (h.b.n k hk).1]
  rw [e1, e2]
theorem wn_good {pls : List (Da × Da)} {y : Wy} (h : GoodY pls y) : WnGood pls (wn y) := by
  obtain ⟨c1, c2, c3, c4⟩ := h.chk
  refine ⟨?_, fun k hk => ?_, ?_, ?_⟩
  · have p := h.b.pm.map Int.toNat
    unfold listed at p
    rw [List.map_map, c3] at p
    unfold wn
    show ((y.st.map _).map _).Perm _
    rw [List.map_map]
    have e : (rngI pls.length).map Int.toNat = List.range pls.length := by
      unfold rngI
      rw [List.map_map]
      exact List.map_id'' (fun x => rfl) _
    rw [e] at p
    exact p
  · obtain ⟨n, hn, rfl⟩ := List.mem_map.mp hk
    obtain ⟨j, rfl, hj⟩ := asc_lt c2 n hn
    rw [List.all_eq_true] at c4
    have := c4 _ hn
    rw [c3] at hj
    unfold bndB at this
    rw [atI_some hj] at this
    refine ⟨pls[j], List.getElem?_eq_getElem hj, ?_⟩
    simpa using this
  · show (y.nt.map _).length ≤ 3
    rw [List.length_map]
    exact h.b.nl
  · have n1 : y.nt.Nodup := by
      rw [← c2]
      unfold ascN
      exact (rngI_nodup _).sublist List.filter_sublist
    show (y.nt.map Int.toNat).Nodup
    rw [List.nodup_iff_pairwise_ne] at n1 ⊢
    rw [List.pairwise_map]
    refine List.Pairwise.imp_of_mem (fun {a b} ha hb hne e => hne ?_) n1
    have h1 := (h.b.n a ha).1
    have h2 := (h.b.n b hb).1
    omega
theorem wn_ok {pls : List (Da × Da)} {w : Wn} (h : WnGood pls w) (h3 : pls.length ≤ 3) : w.ok pls.length := by
  refine ⟨h.lt, fun k hk => ?_, by rw [h.len]; exact h3, h.nl⟩
  obtain ⟨x, hx, _⟩ := h.nt k hk
  exact (List.getElem?_eq_some_iff.mp hx).1
structure GoodWs (r : Tr) (ws : List Wy) : Prop where
  n : ws ≠ []
  l : ws.length ≤ 3
  y : ∀ y ∈ ws, GoodY r.pls y
structure Wd20 (m : Nat) (dn : List Tr) (wk wz : List (Key × Da)) (f : Str → List Wy) : Prop where
  g : ∀ r ∈ dn, valD wk (.inr r.z) = some (.t ((f r.z).map Wy.d))
  v : ∀ r ∈ dn, valD wz (.inr r.z) = some (.l ((f r.z).map Wy.d))
  O : ∀ kd ∈ wk, kd.2.isO = false
  lk : wk.length ≤ m
  lz : wz.length ≤ m
  w : ∀ r ∈ dn, GoodWs r (f r.z)
theorem putD_len {kds : List (Key × Da)} {k : Key} {d : Da} : (putD kds k d).length ≤ kds.length + 1 := by
  unfold putD
  split
  · rw [List.length_map]; omega
  · rw [List.length_append]; exact Nat.le_refl _
theorem inr_inj {a b : Str} : ((.inr a : Key) = .inr b) ↔ a = b := ⟨fun h => Sum.inr.inj h, fun h => by rw [h]⟩
theorem Wd20.put {m : Nat} {dn dn' : List Tr} {wk wz : List (Key × Da)} {f : Str → List Wy} (h : Wd20 m dn wk wz f) {z0 : Str} {ws : List Wy} (h1 : ∀ r ∈ dn', r.z ≠ z0 → r ∈ dn) (h2 : ∀ r ∈ dn', r.z = z0 → GoodWs r ws) :
    Wd20 (m + 1) dn' (putD wk (.inr z0) (.t (ws.map Wy.d))) (putD wz (.inr z0) (.l (ws.map Wy.d))) (fun z => if z = z0 then ws else f z) := by
  refine ⟨fun r hr => ?_, fun r hr => ?_, putD_O h.O rfl, Nat.le_trans putD_len (by have := h.lk; omega), Nat.le_trans putD_len (by have := h.lz; omega), fun r hr => ?_⟩
  · rw [valD_put]
    by_cases e : r.z = z0
    · rw [if_pos (inr_inj.mpr e), if_pos e]
    · rw [if_neg (fun x => e (inr_inj.mp x)), if_neg e]
      exact h.g r (h1 r hr e)
  · rw [valD_put]
    by_cases e : r.z = z0
    · rw [if_pos (inr_inj.mpr e), if_pos e]
    · rw [if_neg (fun x => e (inr_inj.mp x)), if_neg e]
      exact h.v r (h1 r hr e)
  · by_cases e : r.z = z0
    · rw [if_pos e]; exact h2 r hr e
    · rw [if_neg e]; exact h.w r (h1 r hr e)
structure Ad where
  b1 : Addr
  q1 : Addr
  w1 : Addr
  b2 : Addr
  q2 : Addr
  w2 : Addr
  t : Addr
  tq : Addr
def Ad.swap (A : Ad) : Ad := ⟨A.b2, A.q2, A.w2, A.b1, A.q1, A.w1, A.t, A.tq⟩
structure Mem20 (CB CT : Addr) (st : Da) (rk : List (Key × Da)) (N : Mx) (A : Ad) (wk1 wz1 wk2 wz2 : List (Key × Da)) : Prop where
  k1 : BkAt CB wk1 N A.b1 A.t A.q1
  z1 : N A.w1 = some (.dk none wz1)
  k2 : BkAt CB wk2 N A.b2 A.t A.q2
  z2 : N A.w2 = some (.dk none wz2)
  tb : TbAt CT st rk N A.t A.tq
  d1 : A.q1 ≠ A.w1
  d2 : A.q1 ≠ A.q2
  d3 : A.q1 ≠ A.w2
  d4 : A.q1 ≠ A.tq
  d5 : A.w1 ≠ A.q2
  d6 : A.w1 ≠ A.w2
  d7 : A.w1 ≠ A.tq
  d8 : A.q2 ≠ A.w2
  d9 : A.q2 ≠ A.tq
  d10 : A.w2 ≠ A.tq
section
variable {CB CT : Addr} {st : Da} {rk : List (Key × Da)} {N N' : Mx} {A : Ad} {wk1 wz1 wk2 wz2 : List (Key × Da)}
theorem Mem20.swap (h : Mem20 CB CT st rk N A wk1 wz1 wk2 wz2) : Mem20 CB CT st rk N A.swap wk2 wz2 wk1 wz1 :=
  ⟨h.k2, h.z2, h.k1, h.z1, h.tb, h.d8, h.d2.symm, h.d5.symm, h.d9, h.d3.symm, h.d6.symm, h.d10, h.d1, h.d4, h.d7⟩
theorem Mem20.mono (h : Mem20 CB CT st rk N A wk1 wz1 wk2 wz2) (k : ∀ b m, N b = some m → N' b = some m) : Mem20 CB CT st rk N' A wk1 wz1 wk2 wz2 :=
  ⟨⟨k _ _ h.k1.b, k _ _ h.k1.q⟩, k _ _ h.z1, ⟨k _ _ h.k2.b, k _ _ h.k2.q⟩, k _ _ h.z2, ⟨k _ _ h.tb.x, k _ _ h.tb.q⟩, h.d1, h.d2, h.d3, h.d4, h.d5, h.d6, h.d7, h.d8, h.d9, h.d10⟩
theorem Mem20.putQ (h : Mem20 CB CT st rk N A wk1 wz1 wk2 wz2) (wk : List (Key × Da)) : Mem20 CB CT st rk (updM N A.q1 (.dk none wk)) A wk wz1 wk2 wz2 := by
  have ins : ∀ {x : Addr} {C : Addr} {gs : List (Str × Da)}, N x = some (.ins C gs) → x ≠ A.q1 := fun hx e => by rw [e, h.k1.q] at hx; cases hx
  exact ⟨⟨(updM_ne (ins h.k1.b)).trans h.k1.b, updM_same⟩, (updM_ne h.d1.symm).trans h.z1, ⟨(updM_ne (ins h.k2.b)).trans h.k2.b, (updM_ne h.d2.symm).trans h.k2.q⟩, (updM_ne h.d3.symm).trans h.z2, ⟨(updM_ne (ins h.tb.x)).trans h.tb.x, (updM_ne h.d4.symm).trans h.tb.q⟩, h.d1, h.d2, h.d3, h.d4, h.d5, h.d6, h.d7, h.d8, h.d9, h.d10⟩
theorem Mem20.putW (h : Mem20 CB CT st rk N A wk1 wz1 wk2 wz2) (wz : List (Key × Da)) : Mem20 CB CT st rk (updM N A.w1 (.dk none wz)) A wk1 wz wk2 wz2 := by
  have ins : ∀ {x : Addr} {C : Addr} {gs : List (Str × Da)}, N x = some (.ins C gs) → x ≠ A.w1 := fun hx e => by rw [e, h.z1] at hx; cases hx
  exact ⟨⟨(updM_ne (ins h.k1.b)).trans h.k1.b, (updM_ne h.d1).trans h.k1.q⟩, updM_same, ⟨(updM_ne (ins h.k2.b)).trans h.k2.b, (updM_ne h.d5.symm).trans h.k2.q⟩, (updM_ne h.d6.symm).trans h.z2, ⟨(updM_ne (ins h.tb.x)).trans h.tb.x, (updM_ne h.d7.symm).trans h.tb.q⟩, h.d1, h.d2, h.d3, h.d4, h.d5, h.d6, h.d7, h.d8, h.d9, h.d10⟩
/-- a tape that is not among them -/
structure Ad.out (A : Ad) (p : Addr) : Prop where
  b1 : A.b1 ≠ p
  q1 : A.q1 ≠ p
  w1 : A.w1 ≠ p
  b2 : A.b2 ≠ p
  q2 : A.q2 ≠ p
  w2 : A.w2 ≠ p
  t : A.t ≠ p
  tq : A.tq ≠ p
theorem Ad.out.swap {A : Ad} {p : Addr} (o : A.out p) : A.swap.out p := ⟨o.b2, o.q2, o.w2, o.b1, o.q1, o.w1, o.t, o.tq⟩
theorem Mem20.new (h : Mem20 CB CT st rk N A wk1 wz1 wk2 wz2) {p : Addr} (hp : N p = none) : A.out p := by
  have ne : ∀ {x : Addr} {m : MO}, N x = some m → x ≠ p := fun hx e => by rw [e, hp] at hx; cases hx
  exact ⟨ne h.k1.b, ne h.k1.q, ne h.z1, ne h.k2.b, ne h.k2.q, ne h.z2, ne h.tb.x, ne h.tb.q⟩
theorem Mem20.tto (h : Mem20 CB CT st rk N A wk1 wz1 wk2 wz2) {p : Addr} (o : A.out p) (t : Tto p N N') : Mem20 CB CT st rk N' A wk1 wz1 wk2 wz2 :=
  ⟨⟨(t.out _ o.b1).trans h.k1.b, (t.out _ o.q1).trans h.k1.q⟩, (t.out _ o.w1).trans h.z1, ⟨(t.out _ o.b2).trans h.k2.b, (t.out _ o.q2).trans h.k2.q⟩, (t.out _ o.w2).trans h.z2, ⟨(t.out _ o.t).trans h.tb.x, (t.out _ o.tq).trans h.tb.q⟩, h.d1, h.d2, h.d3, h.d4, h.d5, h.d6, h.d7, h.d8, h.d9, h.d10⟩
end
structure Row20 (sh : List (Str × Str)) (r : Tr) : Prop where
  ok : Tr.ok sh r
  p3 : r.pls.length ≤ 3
  bd : ∀ x ∈ r.pls, Bd x.1
theorem trz20 {sh : List (Str × Str)} {rows : List Tr} (nd : (rows.map Tr.z).Nodup) (h : ∀ r ∈ rows, Row20 sh r) : Trz rows :=
  ⟨nd, fun r hr => Nat.le_trans (h r hr).ok.wd.hi (by decide), fun r hr => (h r hr).p3, fun r hr => (h r hr).ok.rl.b⟩
theorem map_wn {pls : List (Da × Da)} {ws : List Wy} (h : ∀ y ∈ ws, GoodY pls y) : (ws.map wn).map wnD = ws.map Wy.d := by
  rw [List.map_map]
  exact List.map_congr_left fun y hy => wn_d (h y hy)
theorem agr_of {CB CT C : Addr} {N : Mx} {b t q tq qw : Addr} {sh un : List (Str × Str)} {rows : List Tr} {m : Nat} {wk wz : List (Key × Da)} {f : Str → List Wy} (nd : (rows.map Tr.z).Nodup) (hr : ∀ r ∈ rows, Row20 sh r) (bk : BkAt CB wk N b t q) (tb : TbAt CT (stD C sh un) (rows.map Tr.k) N t tq) (dz : N qw = some (.dk none wz)) (h : Wd20 m rows wk wz f) :
    Agr1 CB CT C N b t q tq qw sh un rows wk wz (fun z => (f z).map wn) := by
  refine ⟨bk, tb, trz20 nd hr, ⟨fun r hm => ?_, h.O, fun r hm => ?_, fun r hm x hx => ?_⟩, dz, ⟨fun r hm => ?_, fun r hm x hx => ?_, fun r hm => (hr r hm).p3⟩, fun r hm => ?_⟩
  · rw [h.g r hm, map_wn (h.w r hm).y]; rfl
  · exact fun e => (h.w r hm).n (List.map_eq_nil_iff.mp e)
  · obtain ⟨y, hy, rfl⟩ := List.mem_map.mp hx
    exact wn_ok (wn_good ((h.w r hm).y y hy)) (hr r hm).p3
  · exact fun e => (h.w r hm).n (List.map_eq_nil_iff.mp e)
  · obtain ⟨y, hy, rfl⟩ := List.mem_map.mp hx
    exact wn_good ((h.w r hm).y y hy)
  · rw [h.v r hm, map_wn (h.w r hm).y]
end VL
set_option Elab.async false
set_option linter.all false
set_option maxRecDepth 100000
set_option maxHeartbeats 1000000
namespace VL
open PySem PySem.Spec PyProof.Rows L2
section
variable {P : Program} {w : World} {K : PySem.W.Frag} {mg : Str → Option Value} {base : Heap}
def dc_l_annotated : Nat → DC
  | 0 => fun _ _ _ _ => False
  | n + 1 => fun ds M Q _ => ∃ (p : Addr) (q : Pt) (κ : Da), ds = [.r p, q.da .n, κ] ∧ Tp M p ∧ q.ok ∧ q.strip = q ∧ q.ht ≤ n ∧ q.count ≤ 1000 ∧ κ.isO = false ∧
      ∀ (q' : Pt) (M' : Mx), Tto p M M' → q'.strip = q → q'.ok → Q (q'.da κ) M'
theorem step_l_annotated (T : Tx P K mg) (G_l_take : FnOk P w K mg base (L2.CX P w) 1 T.f_l_take T.fd_l_take ["_law_tape_here", "_law_many"] (spOf K dc_l_take)) (n : Nat) (G_l_annotated : FnOk P w K mg base (L2.CX P w) (1 + n) T.f_l_annotated T.fd_l_annotated ["_law_tape_here", "_law_part_here", "_law_kind"] (spOf K (dc_l_annotated n))) : FnOk P w K mg base (L2.CX P w) (1 + n + 1) T.f_l_annotated T.fd_l_annotated ["_law_tape_here", "_law_part_here", "_law_kind"] (spOf K (dc_l_annotated (n + 1))) := by
  have sc := scLAnnotated
  refine okD T.d_l_annotated.F sc (fun ds M Q X h => ?_) (fun cdv A outer s H E c ds M Qd Xd hn hr h hX => ?_)
  · obtain ⟨p, q, κ, rfl, _⟩ := h
    rfl
  have tk := takes_of (X := cxOf (L2.CX P w) P w K mg base NLAnnotated "_law_annotated" (defScope sLAnnotated) T.f_l_annotated cdv A outer s H E) rfl rfl rfl rfl
  refine ⟨_, (ss_cons (s_set (i := 3) sc.nd rfl (by first | exact .inl rfl | exact .inr rfl) (by rw [hn]; decide) (vv 1))
  (ss_cons (s_if (v_not (vB (v_isi isi_str (by rfl) T.n_isinstance (by rfl) T.n_str (by decide +kernel) (vv 1))))
  (ss_cons (s_own (i := 4) sc.nd rfl (by first | exact .inl rfl | exact .inr rfl) (by rw [hn]; decide) (v_lst v_nil))
  (ss_cons (s_for (passes_of rfl) rfl (i_sq (v_sl (vv 1) (v_part vi) v_no)) (pg_name (i := 5) sc.nd rfl (by first | exact .inl rfl | exact .inr rfl)) (lgN (i := 5) (by rw [hn]; decide))
  (ss_cons (s_set (i := 6) sc.nd rfl (by first | exact .inl rfl | exact .inr rfl) (by rw [hn]; decide) vn)
  (ss_cons (s_if (PW.pt (v_and (vt_cmp op_notN lIsNot (nomark _) (v_ix (vv 5) vi (fun _ _ => rfl)) vn) (pw_and1 (vt_cmp (op_eqA hr.units) lEq (nomark _) (v_call G_l_take (hr.mono (by omega)) (by rfl) T.d_l_take.g T.d_l_take.F.kp T.d_l_take.b tk hX (v_cons (vv 0) (v_cons vi v_nil))) vi))))
  (ss_one (s_set (i := 6) sc.nd rfl (by first | exact .inl rfl | exact .inr rfl) (by rw [hn]; decide) (vv 2)))
  ss_nil)
  (ss_one (s_expr (v_met PySem.F.plainAttrs_list PySem.F.slot_list_append PySem.F.type_list_append mt_append tyL_ok lAppend (vv 4) (v_tup (v_cons (v_ix (vv 5) vi (fun _ _ => rfl)) (v_cons (vv 6) (v_cons (v_call G_l_annotated (hr.mono (by omega)) (by rfl) T.d_l_annotated.g T.d_l_annotated.F.kp T.d_l_annotated.b tk hX (v_cons (vv 0) (v_cons (v_ix (vv 5) vi (fun _ _ => rfl)) (v_cons (vv 2) v_nil)))) v_nil))))))))))
  (ss_one (s_set (i := 3) sc.nd rfl (by first | exact .inl rfl | exact .inr rfl) (by rw [hn]; decide) (v_op op_addA lAdd (v_tup (v_cons (v_ix (vv 1) vi (fun _ _ => rfl)) v_nil)) (v_ct1 call_tupleA lTuple (by rfl) T.n_tuple (by decide +kernel) (vv 4)))))))
  ss_nil)
  (ss_cons (s_if (vt_cmp (op_eqA hr.units) lEq (nomark _) (v_call G_l_take (hr.mono (by omega)) (by rfl) T.d_l_take.g T.d_l_take.F.kp T.d_l_take.b tk hX (v_cons (vv 0) (v_cons vi v_nil))) vi)
  (ss_one (s_set (i := 3) sc.nd rfl (by first | exact .inl rfl | exact .inr rfl) (by rw [hn]; decide) (v_tup (v_cons vs (v_cons (vv 3) (v_cons (vv 2) v_nil))))))
  ss_nil)
  (ss_one (s_ret (vv 3)))))), ?_⟩
  obtain ⟨p, q, κ, rfl, hp, hok, hst, hht, hcn, hκ, qq⟩ := h
  have last : ∀ (q' : Pt) (M1 : Mx) (y4 y5 y6 : Slx), Tto p M M1 → q'.strip = q → q'.ok →
      (wSeq (wIf (wB (wOp rdEq (wCall dc_l_take [] (fun cls ofs S' => Xd cls ofs S'.M) (wCons (wVar 0) (wCons (wC (Da.i 4)) wNil))) (wC (Da.i 1)))) (wSet 3 (wTup (wCons (wC (Da.s (Str.ofString ":"))) (wCons (wVar 3) (wCons (wVar 2) wNil))))) wNx) (wRet (wVar 3)))
      { nx := fun S' => Qd Da.n S'.M, rt := fun d S' => Qd d S'.M } ⟨[.val (.r p), .val (q.da .n), .val κ, .val (q'.core κ), y4, y5, y6], M1⟩ := fun q' M1 y4 y5 y6 t1 h1 h2 => by
    refine ⟨rfl, rfl, p, 4, rfl, t1.tp, by decide, fun r M2 hr t2 => .inl ⟨rfl, rfl, rfl, ite2 (fun _ => ?_) (fun _ => ?_)⟩⟩
    · refine ⟨rfl, q'.coreO κ, hκ, by show 3 ≤ sizeLine; decide, rfl, rfl, ?_⟩
      have := qq (q'.setn true) M2 (t1.trans t2) (by rw [setn_strip, h1]) ((setn_ok _ _).mpr h2)
      rw [setn_da1] at this
      exact this
    · refine ⟨q'.coreO κ, ?_⟩
      have := qq (q'.setn false) M2 (t1.trans t2) (by rw [setn_strip, h1]) ((setn_ok _ _).mpr h2)
      rw [setn_da0] at this
      exact this
  cases q with
  | nm b z =>
    have hb : b = false := by
      simp only [Pt.strip] at hst
      injection hst with h1 h2
      exact h1.symm
    subst hb
    have e : (Pt.nm false z).da .n = (Pt.nm false z).core κ := by simp [Pt.da, Pt.core]
    rw [e] at last ⊢
    have lz := last (.nm false z) M
    have e2 : (Pt.nm false z).core κ = .s z := by simp [Pt.core]
    rw [e2] at lz last ⊢
    exact ⟨rfl, lz .no .no .no (.refl hp) hst hok⟩
  | nd b z bs =>
    have hb : b = false ∧ bs.strip = bs := by
      simp only [Pt.strip] at hst
      injection hst with h1 h2 h3
      exact ⟨h1.symm, h3⟩
    obtain ⟨rfl, hbs⟩ := hb
    have e : (Pt.nd false z bs).da .n = .t (.s z :: bs.das .n) := by simp [Pt.da]
    rw [e] at last ⊢
    obtain ⟨n', rfl⟩ : ∃ n', n = n' + 1 := ⟨n - 1, by simp only [Pt.ht] at hht; omega⟩
    have hbk : bs.ok ∧ Wd z := by simp only [Pt.ok] at hok; exact ⟨hok.2, hok.1⟩
    have hh : bs.ht ≤ n' := by simp only [Pt.ht] at hht; omega
    have hcn2 : bs.count ≤ 1000 := by simp only [Pt.count] at hcn; omega
    refine ⟨rfl, by show 0 ≤ sizeLine; decide, fun p4 n4 => ?_⟩
    refine forGo_of (fun rest S => ∃ (rb b' : Bk) (y5 y6 : Slx) (M2 : Mx), rest = rb.das .n ∧ rb.ok ∧ rb.strip = rb ∧ rb.ht ≤ n' ∧ Bk.app b'.strip rb = bs ∧ b'.ok ∧ Tto p M M2 ∧
        S = ⟨[.val (.r p), .val (.t (.s z :: bs.das .n)), .val κ, .val (.t (.s z :: bs.das .n)), .own p4 (b'.das κ), y5, y6], M2⟩)
      (fun k ds S h R hR => ?_) (fun S h => ?_) _ _ ⟨bs, .nil, .no, .no, M, cut_tail, hbk.1, hbs, hh, by simp [Bk.strip, Bk.app], by simp [Bk.ok], .refl hp, by simp only [Bk.das]; rfl⟩
    · obtain ⟨rb, b', y5, y6, M2, er, rok, rst, rht, rap, bok, t2, rfl⟩ := h
      cases rb with
      | nil => simp only [Bk.das] at er; cases er
      | cons x xn q1 rb =>
      simp only [Bk.das] at er
      injection er with er1 er2
      subst er1
      subst er2
      simp only [Bk.strip] at rst
      injection rst with g1 g2 g3 g4
      subst g2
      simp only [Bk.ok] at rok
      simp only [Bk.ht] at rht
      have q1c : q1.count ≤ 1000 := by
        have := congrArg Bk.count rap
        rw [count_app] at this
        simp only [Bk.count] at this
        omega
      have bl : b'.len ≤ 1000 := by
        have := congrArg Bk.len rap
        rw [len_app, strip_blen] at this
        have := len_count bs
        omega
      have ends : ∀ (nb : Bool) (M3 : Mx), (x = none → nb = false) → Tto p M M3 → (wDrop (wMet tyL rdAppend (wVar 4) (wTup (wCons (wOp rdIx (wVar 5) (wC (Da.i 0))) (wCons (wVar 6) (wCons (wCall (dc_l_annotated (n' + 1)) [] (fun cls ofs S' => Xd cls ofs S'.M) (wCons (wVar 0) (wCons (wOp rdIx (wVar 5) (wC (Da.i 2))) (wCons (wVar 2) wNil)))) wNil))))))
          { nx := R, rt := fun d S' => Qd d S'.M } ⟨[.val (.r p), .val (.t (.s z :: bs.das .n)), .val κ, .val (.t (.s z :: bs.das .n)), .own p4 (b'.das κ), .val (.t [optS x, noteD .n false, q1.da .n]), .val (noteD κ nb)], M3⟩ := fun nb M3 hnb t3 => by
        refine ⟨⟨_, rfl⟩, _, atI_nat (j := 0) rfl, optS_O x, noteO hκ nb, rfl, _, atI_nat (j := 2) rfl, q1.daO .n, hκ, p, q1, κ, rfl, t3.tp, rok.2.2.1, g3, by omega, q1c, hκ, fun q' M4 t4 h1 h2 => ?_⟩
        refine ⟨q'.daO κ, by show 3 ≤ sizeLine; decide, _, _, rfl, rfl, by rw [das_len, sizeLine_eq]; omega, rfl, ?_⟩
        refine hR _ ⟨rb, Bk.app b' (.cons x nb q' .nil), .val (.t [optS x, noteD .n false, q1.da .n]), .val (noteD κ nb), M4, rfl, rok.2.2.2, g4, by omega, ?_, ?_, t3.trans t4, ?_⟩
        · rw [strip_app, app_assoc]
          simp only [Bk.strip, Bk.app, h1]
          exact rap
        · rw [ok_app]
          exact ⟨bok, by simp only [Bk.ok]; exact ⟨rok.1, hnb, h2, trivial⟩⟩
        · rw [das_app]
          simp only [Bk.das]
          rfl
      refine ⟨rfl, _, atI_nat (j := 0) rfl, ?_⟩
      cases x with
      | none => exact ends false M2 (fun _ => rfl) t2
      | some zz =>
        refine ⟨rfl, rfl, p, 3, rfl, t2.tp, by decide, fun r M3 hr t3 => .inl ⟨rfl, rfl, rfl, ite2 (fun _ => ?_) (fun _ => ?_)⟩⟩
        · exact ⟨hκ, ends true M3 (fun e => by cases e) (t2.trans t3)⟩
        · exact ends false M3 (fun _ => rfl) (t2.trans t3)
    · obtain ⟨rb, b', y5, y6, M2, er, rok, rst, rht, rap, bok, t2, rfl⟩ := h
      cases rb with
      | cons _ _ _ _ => simp only [Bk.das] at er; cases er
      | nil =>
      rw [app_nil] at rap
      have bl : b'.len ≤ 1000 := by
        have := congrArg Bk.len rap
        rw [strip_blen] at this
        have := len_count bs
        omega
      have lz := last (.nd false z b') M2 (.own p4 (b'.das κ)) y5 y6 t2 (by simp only [Pt.strip, rap]) (by simp only [Pt.ok]; exact ⟨hbk.2, bok⟩)
      have e2 : (Pt.nd false z b').core κ = .t (.s z :: b'.das κ) := by simp [Pt.core]
      rw [e2] at lz
      exact ⟨_, atI_nat (j := 0) rfl, rfl, by show 1 ≤ sizeLine; decide, _, rfl, by rw [das_len, sizeLine_eq, List.length_singleton]; omega, rfl, lz⟩
theorem ok_l_annotated (T : Tx P K mg) (G_l_take : FnOk P w K mg base (L2.CX P w) 1 T.f_l_take T.fd_l_take ["_law_tape_here", "_law_many"] (spOf K dc_l_take)) : ∀ n, FnOk P w K mg base (L2.CX P w) (1 + n) T.f_l_annotated T.fd_l_annotated ["_law_tape_here", "_law_part_here", "_law_kind"] (spOf K (dc_l_annotated n))
  | 0 => fn_no fun _ _ _ _ h => h
  | n + 1 => step_l_annotated T G_l_take n (ok_l_annotated T G_l_take n)
end
end VL
set_option Elab.async false
set_option linter.all false
set_option pp.maxSteps 1500
set_option maxRecDepth 100000
set_option maxHeartbeats 1000000
namespace VL
open PySem PySem.Spec PyProof.Rows L2
theorem fu_app : ∀ a b : Bk, Bk.fu (Bk.app a b) = max a.fu b.fu
  | .nil, b => by rw [Bk.app, Bk.fu]; omega
  | .cons x xn q r, b => by rw [Bk.app, Bk.fu, Bk.fu, fu_app r b]; omega
section
variable {P : Program} {w : World} {K : PySem.W.Frag} {mg : Str → Option Value} {base : Heap}
def dc_l_spots : Nat → DC
  | 0 => fun _ _ _ _ => False
  | n + 1 => fun ds M Q _ => ∃ (q : Pt) (es : List Da) (path : List Nat), ds = [q.da (.t es), pathD path] ∧ q.ok ∧ q.fu ≤ n + 1 ∧ q.count ≤ 1000 ∧ path.length + q.ht ≤ 1000 ∧ Q (.l (((q.sps path).map (·.1)).map spD)) M
theorem step_l_spots (T : Tx P K mg)  (n : Nat) (G_l_spots : FnOk P w K mg base (L2.CX P w) (0 + n) T.f_l_spots T.fd_l_spots ["_law_part_here", "_law_path"] (spOf K (dc_l_spots n))) : FnOk P w K mg base (L2.CX P w) (0 + n + 1) T.f_l_spots T.fd_l_spots ["_law_part_here", "_law_path"] (spOf K (dc_l_spots (n + 1))) := by
  have sc := scLSpots
  refine okD T.d_l_spots.F sc (fun ds M Q X h => ?_) (fun cdv A outer s H E c ds M Qd Xd hn hr h hX => ?_)
  · obtain ⟨q, es, path, rfl, _⟩ := h
    rfl
  have tk := takes_of (X := cxOf (L2.CX P w) P w K mg base NLSpots "_law_spots" (defScope sLSpots) T.f_l_spots cdv A outer s H E) rfl rfl rfl rfl
  refine ⟨_, (ss_cons (s_if (PW.pt (v_and (v_not (vB (v_isi isi_str (by rfl) T.n_isinstance (by rfl) T.n_str (by decide +kernel) (vv 0)))) (pw_and1 (vt_cmp (op_eqA hr.units) lEq (nomark _) (v_ix (vv 0) vi (fun _ _ => rfl)) vs))))
  (ss_one (s_ret (v_call G_l_spots (hr.mono (by omega)) (by rfl) T.d_l_spots.g T.d_l_spots.F.kp T.d_l_spots.b tk hX (v_cons (v_ix (vv 0) vi (fun _ _ => rfl)) (v_cons (vv 1) v_nil)))))
  ss_nil)
  (ss_cons (s_own (i := 2) sc.nd rfl (by first | exact .inl rfl | exact .inr rfl) (by rw [hn]; decide) (v_lst (v_cons (v_tup (v_cons (vv 1) (v_cons vn v_nil))) v_nil)))
  (ss_cons (s_if (v_not (vB (v_isi isi_str (by rfl) T.n_isinstance (by rfl) T.n_str (by decide +kernel) (vv 0))))
  (ss_one (s_for (passes_of rfl) rfl (i_rng2 (by rfl) T.n_range vi (v_cb1 call_lenA lLen (by rfl) T.n_len (by decide +kernel) (vv 0))) (pg_name (i := 3) sc.nd rfl (by first | exact .inl rfl | exact .inr rfl)) (lgN (i := 3) (by rw [hn]; decide))
  (ss_cons (s_if (vt_cmp op_notN lIsNot (nomark _) (v_ix (v_ix (vv 0) (vv 3) (fun _ _ => rfl)) vi (fun _ _ => rfl)) vn)
  (ss_one (s_expr (v_met PySem.F.plainAttrs_list PySem.F.slot_list_append PySem.F.type_list_append mt_append tyL_ok lAppend (vv 2) (v_tup (v_cons (vv 1) (v_cons (v_op op_sub lI0 (vv 3) vi) v_nil))))))
  ss_nil)
  (ss_one (s_own (i := 2) sc.nd rfl (by first | exact .inl rfl | exact .inr rfl) (by rw [hn]; decide) (v_catL (vv 2) (v_call G_l_spots (hr.mono (by omega)) (by rfl) T.d_l_spots.g T.d_l_spots.F.kp T.d_l_spots.b tk hX (v_cons (v_ix (v_ix (vv 0) (vv 3) (fun _ _ => rfl)) vi (fun _ _ => rfl)) (v_cons (v_op op_addA lAdd (vv 1) (v_tup (v_cons (v_op op_sub lI0 (vv 3) vi) v_nil))) v_nil)))))))))
  ss_nil)
  (ss_one (s_ret (vFz (vv 2))))))), ?_⟩
  obtain ⟨q, es, path, rfl, hok, hht, hcn, hpl, qq⟩ := h
  cases q with
  | nm b z =>
    have e2 : ((Pt.nm b z).sps path).map (·.1) = [(path, none)] := by simp [Pt.sps]
    cases b with
    | false =>
      have e : (Pt.nm false z).da (.t es) = .s z := by simp [Pt.da]
      rw [e2] at qq
      rw [e]
      exact ⟨rfl, rfl, by show 2 ≤ sizeLine; decide, rfl, by show 1 ≤ sizeLine; decide, fun p2 n2 => ⟨rfl, qq⟩⟩
    | true =>
      have e : (Pt.nm true z).da (.t es) = .t [.s colon, .s z, .t es] := by simp [Pt.da]
      rw [Pt.fu] at hht
      obtain ⟨m, rfl⟩ : ∃ m, n = m + 1 := ⟨n - 1, by simp only [if_true] at hht; omega⟩
      rw [e]
      refine ⟨_, atI_nat (j := 0) rfl, .inl ⟨rfl, rfl, rfl, ite2 (fun y => ?_) (fun y => absurd (show eqF (Da.s colon) (Da.s (Str.ofString ":")) = true by decide +kernel) y)⟩⟩
      refine ⟨_, atI_nat (j := 1) rfl, rfl, rfl, .nm false z, es, path, by simp [Pt.da], by simp only [Pt.ok] at hok ⊢; exact hok, by rw [Pt.fu]; simp, by simp [Pt.count], by simp only [Pt.ht] at hpl ⊢; exact hpl, rfl, ?_⟩
      rw [show ((Pt.nm false z).sps path).map (·.1) = [(path, none)] by simp [Pt.sps], ← e2]
      exact qq
  | nd b z bs =>
    have e2 : ((Pt.nd b z bs).sps path).map (·.1) = (path, none) :: (bs.sps path 0).map (·.1) := by simp [Pt.sps]
    rw [Pt.fu] at hht
    cases b with
    | true =>
      have e : (Pt.nd true z bs).da (.t es) = .t [.s colon, .t (.s z :: bs.das (.t es)), .t es] := by simp [Pt.da]
      obtain ⟨m, rfl⟩ : ∃ m, n = m + 1 := ⟨n - 1, by simp only [if_true] at hht; omega⟩
      rw [e]
      refine ⟨_, atI_nat (j := 0) rfl, .inl ⟨rfl, rfl, rfl, ite2 (fun y => ?_) (fun y => absurd (show eqF (Da.s colon) (Da.s (Str.ofString ":")) = true by decide +kernel) y)⟩⟩
      refine ⟨_, atI_nat (j := 1) rfl, rfl, rfl, .nd false z bs, es, path, by simp [Pt.da], by simp only [Pt.ok] at hok ⊢; exact hok, by rw [Pt.fu]; simp only [Bool.false_eq_true, if_false, if_true] at hht ⊢; omega, by simp only [Pt.count] at hcn ⊢; exact hcn, by simp only [Pt.ht] at hpl ⊢; exact hpl, rfl, ?_⟩
      rw [show ((Pt.nd false z bs).sps path).map (·.1) = (path, none) :: (bs.sps path 0).map (·.1) by simp [Pt.sps], ← e2]
      exact qq
    | false =>
    have e : (Pt.nd false z bs).da (.t es) = .t (.s z :: bs.das (.t es)) := by simp [Pt.da]
    rw [e2] at qq
    rw [e]
    simp only [Pt.ok] at hok
    simp only [Bool.false_eq_true, if_false] at hht
    simp only [Pt.ht] at hpl
    simp only [Pt.count] at hcn
    have ln : ((Da.s z :: bs.das (.t es)).length : Int) = (bs.len : Int) + 1 := by simp [das_len]
    have bl := len_count bs
    refine ⟨_, atI_nat (j := 0) rfl, .inl ⟨rfl, rfl, rfl, ite2 (fun y => absurd (of_decide_eq_true y) (wd_colon hok.1)) (fun _ => ?_)⟩⟩
    refine ⟨rfl, rfl, by show 2 ≤ sizeLine; decide, rfl, by show 1 ≤ sizeLine; decide, fun p2 n2 => ?_⟩
    refine ⟨⟨by omega, by omega, by omega, by omega⟩, ?_⟩
    rw [show (((Da.s z :: bs.das (.t es)).length : Int) - 1).toNat = bs.len by omega]
    have bsl := bsps_len bs path 0
    refine forGo_rng (fun k S => ∃ (b1 b2 : Bk) (p2 : Addr) (y3 : Slx), bs = Bk.app b1 b2 ∧ b1.len = k ∧ S = ⟨[.val (.t (.s z :: bs.das (.t es))), .val (pathD path), .own p2 (((path, none) :: (b1.sps path 0).map (·.1)).map spD), y3], M⟩)
      (fun k S hk h R hR => ?_) (fun S h => ?_) _ ⟨.nil, bs, p2, .no, by simp [Bk.app], rfl, by simp only [Bk.sps]; rfl⟩
    · obtain ⟨b1, b2, p2, y3, hb, hl, rfl⟩ := h
      cases b2 with
      | nil =>
        rw [app_nil] at hb
        rw [hb] at hk
        omega
      | cons x xn q1 rb =>
      have hok1 := hok.2
      rw [hb, ok_app] at hok1
      have hok2 := hok1.2
      simp only [Bk.ok] at hok2
      have hfu : q1.fu + 1 ≤ n := by
        rw [hb, fu_app] at hht
        rw [Bk.fu] at hht
        omega
      obtain ⟨n', rfl⟩ : ∃ n', n = n' + 1 := ⟨n - 1, by omega⟩
      have hh2 : (path ++ [k]).length + q1.ht ≤ 1000 := by
        rw [hb, ht_app] at hpl
        simp only [Bk.ht] at hpl
        rw [List.length_append, List.length_singleton]
        omega
      have hc1 : q1.count + b1.count ≤ 1000 := by
        rw [hb, count_app] at hcn
        simp only [Bk.count] at hcn
        omega
      have hat : atI (Da.s z :: bs.das (.t es)) (1 + (k : Int)) = some (.t [optS x, noteD (.t es) xn, q1.da (.t es)]) := by
        rw [show (1 : Int) + (k : Int) = ((k + 1 : Nat) : Int) by omega]
        refine atI_nat ?_
        rw [List.getElem?_cons_succ, hb, das_app]
        simp only [Bk.das]
        rw [← hl]
        exact das_at
      have ek : (1 : Int) + (k : Int) - 1 = (k : Int) := by omega
      have s1 := sps_len q1 (path ++ [k])
      have s2 := bsps_len b1 path 0
      have cat : ∀ (acc : List Spot), acc.length ≤ 3000 → (path, none) :: (Bk.sps path 0 (Bk.app b1 (.cons x xn q1 .nil))).map (·.1) = acc ++ (q1.sps (path ++ [k])).map (·.1) →
          (wOwn 2 (wCatL (wVar 2) (wCall (dc_l_spots (n' + 1)) [] (fun cls ofs S' => Xd cls ofs S'.M) (wCons (wOp rdIx (wOp rdIx (wVar 0) (wVar 3)) (wC (Da.i 2))) (wCons (wOp rdAdd (wVar 1) (wTup (wCons (wOp (rdI0 HSub.hSub) (wVar 3) (wC (Da.i 1))) wNil))) wNil)))))
          { nx := R, rt := fun d S' => Qd d S'.M } ⟨[.val (.t (.s z :: bs.das (.t es))), .val (pathD path), .own p2 (acc.map spD), .val (.i (1 + (k : Int)))], M⟩ := fun acc hacc he => by
        refine ⟨_, hat, _, atI_nat (j := 2) rfl, q1.daO _, rfl, by show 1 ≤ sizeLine; decide, by rw [List.length_map, List.length_singleton, sizeLine_eq]; omega, rfl, q1, es, path ++ [k], ?_, hok2.2.2.1, by omega, by omega, hh2, _, _, rfl, rfl, ?_, fun q hq => ?_⟩
        · show [q1.da (.t es), Da.t (path.map ixD ++ [.i ((1 : Int) + (k : Int) - 1)])] = _
          rw [ek]
          unfold pathD
          rw [List.map_append]
          rfl
        · rw [List.length_map, List.length_map, List.length_map, sizeLine_eq]
          omega
        · refine hR _ ⟨Bk.app b1 (.cons x xn q1 .nil), rb, q, .val (.i (1 + (k : Int))), ?_, ?_, ?_⟩
          · rw [app_assoc]
            simp only [Bk.app]
            exact hb
          · rw [len_app, hl]
            simp only [Bk.len]
          · rw [he, List.map_append]
            rfl
      have base : (path, none) :: (Bk.sps path 0 (Bk.app b1 (.cons x xn q1 .nil))).map (·.1) = ((path, none) :: (b1.sps path 0).map (·.1)) ++ (ofName x ((path, some k), xn)).map (·.1) ++ (q1.sps (path ++ [k])).map (·.1) := by
        rw [sps_app, hl, Nat.zero_add]
        simp only [Bk.sps]
        rw [List.append_nil, List.map_append, List.map_append]
        simp only [List.cons_append, List.append_assoc]
      refine ⟨_, hat, _, atI_nat (j := 0) rfl, ?_⟩
      have lb : ((path, (none : Option Nat)) :: (b1.sps path 0).map (·.1)).length ≤ 2500 := by
        rw [List.length_cons, List.length_map]
        omega
      cases x with
      | none => exact cat ((path, none) :: (b1.sps path 0).map (·.1)) (by omega) (by rw [base]; simp [ofName])
      | some zz =>
        have cz := cat (((path, none) :: (b1.sps path 0).map (·.1)) ++ [(path, some k)]) (by rw [List.length_append, List.length_singleton]; omega) (by rw [base]; simp [ofName])
        rw [List.map_append, show List.map spD [(path, some k)] = [.t [pathD path, .i ((1 : Int) + (k : Int) - 1)]] from by rw [ek]; rfl] at cz
        exact ⟨⟨_, rfl⟩, rfl, rfl, by show 2 ≤ sizeLine; decide, _, _, rfl, rfl, by rw [List.length_map, sizeLine_eq]; omega, rfl, cz⟩
    · obtain ⟨b1, b2, p2, y3, hb, hl, rfl⟩ := h
      have : b2 = .nil := by
        have := congrArg Bk.len hb
        rw [len_app] at this
        cases b2 with
        | nil => rfl
        | cons _ _ _ _ => simp only [Bk.len] at this; omega
      subst this
      rw [app_nil] at hb
      subst hb
      exact ⟨rfl, qq⟩
theorem ok_l_spots (T : Tx P K mg)  : ∀ n, FnOk P w K mg base (L2.CX P w) (0 + n) T.f_l_spots T.fd_l_spots ["_law_part_here", "_law_path"] (spOf K (dc_l_spots n))
  | 0 => fn_no fun _ _ _ _ h => h
  | n + 1 => step_l_spots T  n (ok_l_spots T  n)
end
end VL
set_option Elab.async false
set_option linter.all false
set_option pp.maxSteps 1500
set_option maxRecDepth 100000
set_option maxHeartbeats 1000000
namespace VL
open PySem PySem.Spec PyProof.Rows L2
def flD (x : Bool × Bool) : Da := .t [.b x.1, .b x.2]
def isP (x : Bool × Bool) (told : Bool) : Bool := if told then x.1 else x.2
def bareN (gv : Spot → Bool) (path : List Nat) (x : Wn) : List Nat := x.noted.filter fun k => !gv (path, some k)
def stuckN (fs : List (Bool × Bool)) (x : Wn) : List (Nat × Bool) := x.steps.filter fun s => !isP (fs.getD s.1 (true, true)) (!s.2)
def passB (gv : Spot → Bool) (path : List Nat) (fs : List (Bool × Bool)) (x : Wn) : Bool := (bareN gv path x).isEmpty && (stuckN fs x).isEmpty
def ptD (path : List Nat) (s : Nat × Bool) : Da := .t [pathD (path ++ [s.1]), .b (!s.2)]
def NoteOf (nkds : List (Da × Da)) (gv : Spot → Bool) : Prop := ∀ s, (valN nkds (spD s)).isSome = gv s
theorem path_snoc (path : List Nat) (k : Nat) : Da.t (path.map ixD ++ [.i (k : Int)]) = pathD (path ++ [k]) := by
  unfold pathD
  rw [List.map_append]
  rfl
theorem told_eq (d : Bool) : eqF (.s (dirS d)) (.s (Str.ofString "told")) = !d := dirS_told d
theorem found_eq (d : Bool) : eqF (.s (dirS d)) (.s (Str.ofString "found")) = d := dirS_found d
section
variable {P : Program} {w : World} {K : PySem.W.Frag} {mg : Str → Option Value} {base : Heap}
def dc_is_passed : DC := fun ds M Q _ => ∃ (x : Bool × Bool) (told : Bool), ds = [flD x, .b told] ∧ Q (.b (isP x told)) M
theorem ok_is_passed (T : Tx P K mg)  : FnOk P w K mg base (L2.CX P w) 1 T.f_is_passed T.fd_is_passed ["flags", "told"] (spOf K dc_is_passed) := by
  have sc := scIsPassed
  refine okD T.d_is_passed.F sc (fun ds M Q X h => ?_) (fun cdv A outer s H E c ds M Qd Xd hn hr h hX => ?_)
  · obtain ⟨x, told, rfl, _⟩ := h
    rfl
  have tk := takes_of (X := cxOf (L2.CX P w) P w K mg base NIsPassed "_is_passed" (defScope sIsPassed) T.f_is_passed cdv A outer s H E) rfl rfl rfl rfl
  refine ⟨_, (ss_one (s_ret (v_ite (vTr (vv 1)) (v_ix (vv 0) vi (fun _ _ => rfl)) (v_ix (vv 0) vi (fun _ _ => rfl))))), ?_⟩
  obtain ⟨x, told, rfl, q⟩ := h
  cases told with
  | true => exact ⟨_, atI_nat (j := 0) rfl, rfl, q⟩
  | false => exact ⟨_, atI_nat (j := 1) rfl, rfl, q⟩
def dc_fitting (CB CT : Addr) : DC := fun ds M Q _ => ∃ (b t q tq : Addr) (st : Da) (rows : List Tr) (wk : List (Key × Da)) (W : Str → List Wn) (r : Tr) (es : List Da) (told : Bool),
  ds = [.r b, .t (.s r.z :: es), .b told] ∧ BkAt CB wk M b t q ∧ TbAt CT st (rows.map Tr.k) M t tq ∧ Trz rows ∧ WfN rows wk W ∧ r ∈ rows ∧ (W r.z).length ≤ 1000 ∧ Q (.l (((W r.z).filter fun x => told || x.whole).map wnD)) M
theorem ok_fitting (T : Tx P K mg) (G_Book_getitem : FnOk P w K mg base (L2.CX P w) 3 T.f_Book_getitem T.fd_Book_getitem ["self", "sign"] (spOf K (dc_Book_getitem T.C_Book T.C_Table T.C_UnknownSign))) : FnOk P w K mg base (L2.CX P w) 5 T.f_fitting T.fd_fitting ["book", "node", "told"] (spOf K (dc_fitting T.C_Book T.C_Table)) := by
  have sc := scFitting
  refine okD T.d_fitting.F sc (fun ds M Q X h => ?_) (fun cdv A outer s H E c ds M Qd Xd hn hr h hX => ?_)
  · obtain ⟨b, t, q, tq, st, rows, wk, W, r, es, told, rfl, _⟩ := h
    rfl
  have tk := takes_of (X := cxOf (L2.CX P w) P w K mg base NFitting "_fitting" (defScope sFitting) T.f_fitting cdv A outer s H E) rfl rfl rfl rfl
  refine ⟨_, (ss_one (s_ret (vOf (v_lc rfl sc.nd (i_sq (v_ownIx T.d_Book_getitem.own T.d_Book_getitem.ff G_Book_getitem (hr.mono (by decide)) T.d_Book_getitem.b tk hX (vv 0) (v_ix (vv 1) vi (fun _ _ => rfl)))) (blkOk_by (own := [("way", 3)]) (N := NFitting) (sc := defScope sFitting) (by decide +kernel)) (fun c1 e1 => (lgN (i := 3) (by rw [e1, hn]; decide))) (fun _ _ _ _ _ => (pg_name (i := 3) sc.nd rfl (by first | exact .inl rfl | exact .inr rfl))) (fun _ _ _ _ _ c1 e1 => ts_one (PW.pt (v_or (vTr (vv 2)) (pw_or1 (vt_cmp (op_eqA hr.units) lEq (nomark _) (v_ix (vv 3) vi (fun _ _ => rfl)) vs))))) (fun _ _ _ _ _ c1 e1 => (vv 3)) (by decide))))), ?_⟩
  obtain ⟨b, t, q, tq, st, rows, wk, W, r, es, told, rfl, bk, tb, tz, wf, hr0, hwl, qq⟩ := h
  have hv := tr_val tz.nd hr0
  have tb' : TbRd T.C_Table st (rows.map Tr.k) M t tq := ⟨tb.x, none, tb.q⟩
  refine ⟨_, atI_nat (j := 0) rfl, _, bk.b, rfl, b, t, q, tq, _, _, _, r.z, rfl, bk, tb', tz.z _ hr0, wf.O, fun _ => ?_, fun e => by rw [hv] at e; cases e⟩
  rw [wf.g _ hr0]
  refine lc_onF wnD (fun x => told || x.whole) (fun x hx R1 R2 hR => ?_) (fun x hx => rfl) (szl hwl) ⟨rfl, qq⟩
  have hR' := hR _ (Agr.wipe.set (i := 3) (x := .val (wnD x)) (by decide))
  cases told with
  | true => exact hR'
  | false =>
    refine ⟨_, atI_nat (j := 0) rfl, .inl ⟨rfl, rfl, rfl, ?_⟩⟩
    rw [found_eq]
    exact hR'
def dc_parts : DC := fun ds M Q _ => ∃ (x : Wn) (path : List Nat), ds = [wnD x, pathD path] ∧ x.steps.length ≤ 3 ∧ path.length ≤ 10000 ∧ Q (.l (x.steps.map (ptD path))) M
theorem ok_parts (T : Tx P K mg)  : FnOk P w K mg base (L2.CX P w) 1 T.f_parts T.fd_parts ["way", "path"] (spOf K dc_parts) := by
  have sc := scParts
  refine okD T.d_parts.F sc (fun ds M Q X h => ?_) (fun cdv A outer s H E c ds M Qd Xd hn hr h hX => ?_)
  · obtain ⟨x, path, rfl, _⟩ := h
    rfl
  have tk := takes_of (X := cxOf (L2.CX P w) P w K mg base NParts "_parts" (defScope sParts) T.f_parts cdv A outer s H E) rfl rfl rfl rfl
  refine ⟨_, (ss_one (s_ret (vOf (v_lc rfl sc.nd (i_sq (v_ix (vv 0) vi (fun _ _ => rfl))) (blkOk_by (own := [("place", 2), ("direction", 3)]) (N := NParts) (sc := defScope sParts) (by decide +kernel)) (fun c1 e1 => (lgT (n := 2) (lgs_cons (lgN (i := 2) (by rw [e1, hn]; decide)) (lgs_cons (lgN (i := 3) (by rw [e1, hn]; decide)) lgs_nil)) (lenN (lenN len0)))) (fun _ _ _ _ _ => (pg_tup (by rfl) (pgs_cons (pg_name (i := 2) sc.nd rfl (by first | exact .inl rfl | exact .inr rfl)) (pgs_cons (pg_name (i := 3) sc.nd rfl (by first | exact .inl rfl | exact .inr rfl)) pgs_nil)))) (fun _ _ _ _ _ _ _ => ts_nil) (fun _ _ _ _ _ c1 e1 => (v_tup (v_cons (v_op op_addA lAdd (vv 1) (v_tup (v_cons (vv 2) v_nil))) (v_cons (v_cmp (op_eqA hr.units) lEq (nomark _) (vv 3) vs) v_nil)))) (by decide))))), ?_⟩
  obtain ⟨x, path, rfl, h3, hp, qq⟩ := h
  refine ⟨_, atI_nat (j := 1) rfl, ?_⟩
  refine lc_onM snD (ptD path) (fun s hs R1 hR => ?_) (fun s hs => rfl) (szl3 h3) ⟨rfl, qq⟩
  refine ⟨rfl, by show 1 ≤ sizeLine; decide, by rw [List.length_map, List.length_singleton, sizeLine_eq]; omega, rfl, .inl ⟨rfl, rfl, rfl, rfl, by show 2 ≤ sizeLine; decide, ?_⟩⟩
  rw [path_snoc, told_eq]
  exact hR _ ((Agr.wipe.set (i := 2) (x := .val (.i (s.1 : Int))) (by decide)).set (i := 3) (x := .val (.s (dirS s.2))) (by decide))
def dc_names_without_note (P : Program) (w : World) : DC := fun ds M Q _ => ∃ (x : Wn) (path : List Nat) (pn : Addr) (lk : Option Obj) (nkds : List (Da × Da)) (gv : Spot → Bool),
  ds = [wnD x, pathD path, .r pn] ∧ x.noted.length ≤ 3 ∧ M pn = some (.dn P w lk nkds) ∧ NoteOf nkds gv ∧ Q (.l ((bareN gv path x).map nnD)) M
theorem ok_names_without_note (T : Tx P K mg)  : FnOk P w K mg base (L2.CX P w) 1 T.f_names_without_note T.fd_names_without_note ["way", "path", "noted"] (spOf K (dc_names_without_note P w)) := by
  have sc := scNamesWithoutNote
  refine okD T.d_names_without_note.F sc (fun ds M Q X h => ?_) (fun cdv A outer s H E c ds M Qd Xd hn hr h hX => ?_)
  · obtain ⟨x, path, pn, lk, nkds, gv, rfl, _⟩ := h
    rfl
  have tk := takes_of (X := cxOf (L2.CX P w) P w K mg base NNamesWithoutNote "_names_without_note" (defScope sNamesWithoutNote) T.f_names_without_note cdv A outer s H E) rfl rfl rfl rfl
  refine ⟨_, (ss_one (s_ret (vOf (v_lc rfl sc.nd (i_sq (v_ix (vv 0) vi (fun _ _ => rfl))) (blkOk_by (own := [("place", 3)]) (N := NNamesWithoutNote) (sc := defScope sNamesWithoutNote) (by decide +kernel)) (fun c1 e1 => (lgN (i := 3) (by rw [e1, hn]; decide))) (fun _ _ _ _ _ => (pg_name (i := 3) sc.nd rfl (by first | exact .inl rfl | exact .inr rfl))) (fun _ _ _ _ _ c1 e1 => ts_one (vt_nnin (P := P) (w := w) rfl rfl (hu9 hr) (by rfl) (v_tup (v_cons (vv 1) (v_cons (vv 3) v_nil))) (vv 2))) (fun _ _ _ _ _ c1 e1 => (vv 3)) (by decide))))), ?_⟩
  obtain ⟨x, path, pn, lk, nkds, gv, rfl, h3, mn, ng, qq⟩ := h
  refine ⟨_, atI_nat (j := 2) rfl, ?_⟩
  refine lc_onF nnD (fun k => !gv (path, some k)) (fun k hk R1 R2 hR => ?_) (fun s hs => rfl) (szl3 h3) ⟨rfl, qq⟩
  have hR' := hR _ (Agr.wipe.set (i := 3) (x := .val (nnD k)) (by decide))
  refine ⟨rfl, rfl, by show 2 ≤ sizeLine; decide, pn, lk, nkds, rfl, mn, key8_sp (path, some k), ?_⟩
  have e := ng (path, some k)
  show if (!(valN nkds (spD (path, some k))).isSome) = true then _ else _
  rw [e]
  exact hR'
def dc_stuck_parts (P : Program) (w : World) : DC := fun ds M Q _ => ∃ (x : Wn) (path : List Nat) (pf : Addr) (lk : Option Obj) (fkds : List (Da × Da)) (fs : List (Bool × Bool)),
  ds = [wnD x, pathD path, .r pf] ∧ x.steps.length ≤ 3 ∧ path.length ≤ 10000 ∧ M pf = some (.dn P w lk fkds) ∧ (∀ s ∈ x.steps, valN fkds (pathD (path ++ [s.1])) = some (flD (fs.getD s.1 (true, true)))) ∧ Q (.l ((stuckN fs x).map (ptD path))) M
theorem ok_stuck_parts (T : Tx P K mg) (G_is_passed : FnOk P w K mg base (L2.CX P w) 1 T.f_is_passed T.fd_is_passed ["flags", "told"] (spOf K dc_is_passed)) (G_parts : FnOk P w K mg base (L2.CX P w) 1 T.f_parts T.fd_parts ["way", "path"] (spOf K dc_parts)) : FnOk P w K mg base (L2.CX P w) 2 T.f_stuck_parts T.fd_stuck_parts ["way", "path", "flags"] (spOf K (dc_stuck_parts P w)) := by
  have sc := scStuckParts
  refine okD T.d_stuck_parts.F sc (fun ds M Q X h => ?_) (fun cdv A outer s H E c ds M Qd Xd hn hr h hX => ?_)
  · obtain ⟨x, path, pf, lk, fkds, fs, rfl, _⟩ := h
    rfl
  have tk := takes_of (X := cxOf (L2.CX P w) P w K mg base NStuckParts "_stuck_parts" (defScope sStuckParts) T.f_stuck_parts cdv A outer s H E) rfl rfl rfl rfl
  refine ⟨_, (ss_one (s_ret (vOf (v_lc rfl sc.nd (i_sq (v_call G_parts (hr.mono (by decide)) (by rfl) T.d_parts.g T.d_parts.F.kp T.d_parts.b tk hX (v_cons (vv 0) (v_cons (vv 1) v_nil)))) (blkOk_by (own := [("below", 3), ("told", 4)]) (N := NStuckParts) (sc := defScope sStuckParts) (by decide +kernel)) (fun c1 e1 => (lgT (n := 2) (lgs_cons (lgN (i := 3) (by rw [e1, hn]; decide)) (lgs_cons (lgN (i := 4) (by rw [e1, hn]; decide)) lgs_nil)) (lenN (lenN len0)))) (fun _ _ _ _ _ => (pg_tup (by rfl) (pgs_cons (pg_name (i := 3) sc.nd rfl (by first | exact .inl rfl | exact .inr rfl)) (pgs_cons (pg_name (i := 4) sc.nd rfl (by first | exact .inl rfl | exact .inr rfl)) pgs_nil)))) (fun _ _ _ _ _ c1 e1 => ts_one (v_not (vTr (v_call G_is_passed (hr.mono (by decide)) (by rfl) T.d_is_passed.g T.d_is_passed.F.kp T.d_is_passed.b takes0 xno (v_cons (v_nget (P := P) (w := w) rfl rfl (hu9 hr) (vv 2) (vv 3) (fun _ _ => rfl)) (v_cons (vv 4) v_nil)))))) (fun _ _ _ _ _ c1 e1 => (v_tup (v_cons (vv 3) (v_cons (vv 4) v_nil)))) (by decide))))), ?_⟩
  obtain ⟨x, path, pf, lk, fkds, fs, rfl, h3, hp, mf, hf, qq⟩ := h
  refine ⟨rfl, rfl, x, path, rfl, h3, hp, ?_⟩
  refine lc_onF (ptD path) (fun s => !isP (fs.getD s.1 (true, true)) (!s.2)) (fun s hs R1 R2 hR => ?_) (fun s hs => rfl) (szl3 h3) ⟨rfl, qq⟩
  have hR' := hR _ ((Agr.wipe.set (i := 3) (x := .val (pathD (path ++ [s.1]))) (by decide)).set (i := 4) (x := .val (.b (!s.2))) (by decide))
  refine ⟨pf, lk, fkds, _, rfl, mf, key8_path _, hf s hs, rfl, rfl, _, _, rfl, ?_⟩
  generalize isP (fs.getD s.1 (true, true)) (!s.2) = b at hR' ⊢
  cases b with
  | true => exact hR'
  | false => exact ⟨rfl, rfl, by show 2 ≤ sizeLine; decide, hR'⟩
def dc_passes (P : Program) (w : World) : DC := fun ds M Q _ => ∃ (x : Wn) (path : List Nat) (pn pf : Addr) (lk1 lk2 : Option Obj) (nkds fkds : List (Da × Da)) (gv : Spot → Bool) (fs : List (Bool × Bool)),
  ds = [wnD x, pathD path, .r pn, .r pf] ∧ x.noted.length ≤ 3 ∧ x.steps.length ≤ 3 ∧ path.length ≤ 10000 ∧ M pn = some (.dn P w lk1 nkds) ∧ NoteOf nkds gv ∧ M pf = some (.dn P w lk2 fkds) ∧ (∀ s ∈ x.steps, valN fkds (pathD (path ++ [s.1])) = some (flD (fs.getD s.1 (true, true)))) ∧ Q (.b (passB gv path fs x)) M
theorem ok_passes (T : Tx P K mg) (G_names_without_note : FnOk P w K mg base (L2.CX P w) 1 T.f_names_without_note T.fd_names_without_note ["way", "path", "noted"] (spOf K (dc_names_without_note P w))) (G_stuck_parts : FnOk P w K mg base (L2.CX P w) 2 T.f_stuck_parts T.fd_stuck_parts ["way", "path", "flags"] (spOf K (dc_stuck_parts P w))) : FnOk P w K mg base (L2.CX P w) 3 T.f_passes T.fd_passes ["way", "path", "noted", "flags"] (spOf K (dc_passes P w)) := by
  have sc := scPasses
  refine okD T.d_passes.F sc (fun ds M Q X h => ?_) (fun cdv A outer s H E c ds M Qd Xd hn hr h hX => ?_)
  · obtain ⟨x, path, pn, pf, lk1, lk2, nkds, fkds, gv, fs, rfl, _⟩ := h
    rfl
  have tk := takes_of (X := cxOf (L2.CX P w) P w K mg base NPasses "_passes" (defScope sPasses) T.f_passes cdv A outer s H E) rfl rfl rfl rfl
  refine ⟨_, (ss_one (s_ret (ve_and (v_notT (v_call G_names_without_note (hr.mono (by decide)) (by rfl) T.d_names_without_note.g T.d_names_without_note.F.kp T.d_names_without_note.b tk hX (v_cons (vv 0) (v_cons (vv 1) (v_cons (vv 2) v_nil))))) (pe_one (v_notT (v_call G_stuck_parts (hr.mono (by decide)) (by rfl) T.d_stuck_parts.g T.d_stuck_parts.F.kp T.d_stuck_parts.b tk hX (v_cons (vv 0) (v_cons (vv 1) (v_cons (vv 3) v_nil))))))))), ?_⟩
  obtain ⟨x, path, pn, pf, lk1, lk2, nkds, fkds, gv, fs, rfl, h3, h4, hp, mn, ng, mf, hf, qq⟩ := h
  refine ⟨rfl, rfl, rfl, x, path, pn, lk1, nkds, gv, rfl, h3, mn, ng, ?_⟩
  unfold passB at qq
  show if (!(!((bareN gv path x).map nnD).isEmpty)) = true then _ else _
  rw [Bool.not_not, List.isEmpty_map]
  cases e : (bareN gv path x).isEmpty with
  | false =>
    rw [e] at qq
    exact ⟨rfl, qq⟩
  | true =>
    rw [e] at qq
    refine ⟨rfl, rfl, rfl, x, path, pf, lk2, fkds, fs, rfl, h4, hp, mf, hf, ?_⟩
    show _ ∧ Qd (.b (!(!((stuckN fs x).map (ptD path)).isEmpty))) M
    rw [Bool.not_not, List.isEmpty_map]
    exact ⟨rfl, qq⟩
end
end VL
set_option Elab.async false
set_option linter.all false
set_option pp.maxSteps 1500
set_option maxRecDepth 100000
set_option maxHeartbeats 1000000
namespace VL
open PySem PySem.Spec PyProof.Rows L2
abbrev So := Option Spot
def spO : So → Da
  | none => .n
  | some s => spD s
def isS (b : So × So) (found : Bool) : So := if found then b.2 else b.1
def stepS (below : List (So × So)) (s : Nat × Bool) : So := isS (below.getD s.1 (none, none)) s.2
def stillIn (gv : Spot → Bool) (path : List Nat) (below : List (So × So)) (x : Wn) : So := match bareN gv path x with
  | k :: _ => some (path, some k)
  | [] => x.steps.findSome? (stepS below)
def firstSp (path : List Nat) (l : List So) : So := if l.any Option.isNone then none else match l with
  | [] => some (path, none)
  | a :: _ => a
def nodeS (ws : List Wn) (gv : Spot → Bool) (path : List Nat) (below : List (So × So)) (nb : Bool) : So × So :=
  (firstSp path (ws.map (stillIn gv path below)), if nb then firstSp path (ws.map (stillIn gv path below)) else firstSp path ((ws.filter (·.whole)).map (stillIn gv path below)))
mutual
def Pt.stl (W : Str → List Wn) (gv : Spot → Bool) (path : List Nat) : Pt → So × So
  | .nm _ _ => (none, none)
  | .nd _ z bs => nodeS (W z) gv path (Bk.stls W gv path 0 bs) (gv (path, none))
def Bk.stls (W : Str → List Wn) (gv : Spot → Bool) (path : List Nat) (i : Nat) : Bk → List (So × So)
  | .nil => []
  | .cons _ _ q r => Pt.stl W gv (path ++ [i]) q :: Bk.stls W gv path (i + 1) r
end
def flO (b : So × So) : Bool × Bool := (b.1.isNone, b.2.isNone)
theorem isP_flO (b : So × So) (found : Bool) : isP (flO b) (!found) = (isS b found).isNone := by cases found <;> rfl
theorem flO_getD (l : List (So × So)) (k : Nat) : (l.map flO).getD k (true, true) = flO (l.getD k (none, none)) := by
  rw [List.getD_eq_getElem?_getD, List.getD_eq_getElem?_getD, List.getElem?_map]
  cases l[k]? <;> rfl
theorem stuck_eq (below : List (So × So)) (x : Wn) : stuckN (below.map flO) x = x.steps.filter fun s => (stepS below s).isSome := by
  unfold stuckN
  refine List.filter_congr fun s _ => ?_
  rw [flO_getD, isP_flO]
  unfold stepS
  cases isS (below.getD s.1 (none, none)) s.2 <;> rfl
theorem findSome_filter {α β : Type} (f : α → Option β) : ∀ l : List α, l.findSome? f = match l.filter fun s => (f s).isSome with | [] => none | s :: _ => f s
  | [] => rfl
  | a :: l => by
    rw [List.findSome?_cons, List.filter_cons]
    cases e : f a with
    | none => simp only [Option.isSome_none, Bool.false_eq_true, if_false]; exact findSome_filter f l
    | some y => simp only [Option.isSome_some, if_true]; exact e.symm
theorem filter_some {α β : Type} (f : α → Option β) (l : List α) {s : α} {r : List α} (h : (l.filter fun s => (f s).isSome) = s :: r) : ∃ y, f s = some y := by
  have : s ∈ l.filter fun s => (f s).isSome := by rw [h]; simp
  exact Option.isSome_iff_exists.mp (List.mem_filter.mp this).2
theorem pass_still (gv : Spot → Bool) (path : List Nat) (below : List (So × So)) (x : Wn) : passB gv path (below.map flO) x = (stillIn gv path below x).isNone := by
  unfold passB stillIn
  rw [stuck_eq]
  cases bareN gv path x with
  | cons k l => rfl
  | nil =>
    show (true && _) = (x.steps.findSome? (stepS below)).isNone
    rw [Bool.true_and, findSome_filter]
    cases e : x.steps.filter fun s => (stepS below s).isSome with
    | nil => rfl
    | cons s r =>
      obtain ⟨y, hy⟩ := filter_some _ _ e
      show false = (stepS below s).isNone
      rw [hy]
      rfl
theorem first_none (path : List Nat) (l : List So) : (firstSp path l).isNone = l.any Option.isNone := by
  unfold firstSp
  cases e : l.any Option.isNone with
  | true => rfl
  | false =>
    simp only [Bool.false_eq_true, if_false]
    cases l with
    | nil => rfl
    | cons a r =>
      rw [List.any_cons, Bool.or_eq_false_iff] at e
      exact e.1
theorem node_fl (ws : List Wn) (gv : Spot → Bool) (path : List Nat) (below : List (So × So)) (nb : Bool) :
    flO (nodeS ws gv path below nb) = (ws.any (passB gv path (below.map flO)), if nb then ws.any (passB gv path (below.map flO)) else (ws.filter (passB gv path (below.map flO))).any (·.whole)) := by
  have e1 : ∀ l : List Wn, (firstSp path (l.map (stillIn gv path below))).isNone = l.any (passB gv path (below.map flO)) := fun l => by
    rw [first_none, List.any_map]
    congr 1
    funext x
    exact (pass_still gv path below x).symm
  unfold flO nodeS
  simp only
  rw [e1]
  cases nb with
  | true => simp only [if_true]; rw [e1]; rfl
  | false =>
    simp only [Bool.false_eq_true, if_false]
    rw [e1]
    congr 1
    rw [List.any_filter, List.any_filter]
    congr 1
    funext x
    exact Bool.and_comm _ _
theorem isS_node (ws : List Wn) (gv : Spot → Bool) (path : List Nat) (below : List (So × So)) (nb told : Bool) :
    isS (nodeS ws gv path below nb) (!told) = firstSp path ((ws.filter fun x => (told || nb) || x.whole).map (stillIn gv path below)) := by
  have e : ws.filter (fun _ => true) = ws := List.filter_eq_self.mpr fun _ _ => rfl
  unfold isS nodeS
  cases told <;> cases nb <;> simp [e]
theorem filter_any {ws : List Wn} {p : Wn → Bool} : decide (0 < (ws.filter p).length) = ws.any p := by
  induction ws with
  | nil => rfl
  | cons a l ih =>
    rw [List.filter_cons, List.any_cons]
    cases p a with
    | true => simp
    | false => simpa using ih
theorem inD_found : ∀ l : List Wn, inD (.s (Str.ofString "found")) (l.map fun x => .s (dirS x.whole)) = l.any (·.whole)
  | [] => rfl
  | a :: l => by
    have ih := inD_found l
    unfold inD inV at ih ⊢
    rw [List.map_cons, List.map_cons, List.any_cons, List.any_cons, ih]
    congr 1
    exact found_eq a.whole
theorem stls_len (W : Str → List Wn) (gv : Spot → Bool) (path : List Nat) : ∀ (b : Bk) (i : Nat), (b.stls W gv path i).length = b.len
  | .nil, i => by rw [Bk.stls]; rfl
  | .cons x xn q r, i => by rw [Bk.stls, Bk.len, List.length_cons, stls_len W gv path r]
/-- the kid at a place -/
theorem kids_at {W : Str → List Wn} {gv : Spot → Bool} {path : List Nat} {l : List Rw} : ∀ (b : Bk) (i : Nat), kidsIn path i b l → ∀ k, k < b.len → ∃ (q : Pt) (x : Option Str) (xn : Bool), (⟨path ++ [i + k], q, x, xn⟩ : Rw) ∈ l ∧ (b.stls W gv path i)[k]? = some (q.stl W gv (path ++ [i + k])) ∧ q.count ≤ b.count
  | .nil, i, _, k, hk => by rw [Bk.len] at hk; omega
  | .cons y yn q r, i, ⟨⟨x, xn, hm⟩, h2⟩, k, hk => by
    rw [Bk.stls, Bk.count]
    cases k with
    | zero => exact ⟨q, x, xn, hm, by rw [List.getElem?_cons_zero, Nat.add_zero], by omega⟩
    | succ k =>
      rw [Bk.len] at hk
      obtain ⟨q', x', xn', h1, h3, h4⟩ := kids_at (W := W) (gv := gv) r (i + 1) h2 k (by omega)
      refine ⟨q', x', xn', ?_, ?_, by omega⟩
      · rw [show i + (k + 1) = i + 1 + k by omega]; exact h1
      · rw [List.getElem?_cons_succ, h3, show i + (k + 1) = i + 1 + k by omega]
theorem closed_at : ∀ {l : List Rw}, closedL l → ∀ r ∈ l, kidsOf r l
  | [], _, r, h => by cases h
  | a :: l, hc, r, h => by
    rcases List.mem_cons.mp h with rfl | h
    · exact kidsOf_mono (fun x hx => List.mem_cons_of_mem _ hx) hc.1
    · exact kidsOf_mono (fun x hx => List.mem_cons_of_mem _ hx) (closed_at hc.2 r h)
end VL
set_option Elab.async false
set_option linter.all false
set_option pp.maxSteps 1500
set_option maxRecDepth 100000
set_option maxHeartbeats 1000000
namespace VL
open PySem PySem.Spec PyProof.Rows L2
section
variable {P : Program} {w : World} {K : PySem.W.Frag} {mg : Str → Option Value} {base : Heap}
/-- a Book and a program that fits it, for those who walk over the rows -/
structure BkPr (CB CT : Addr) (M : Mx) (b t q tq : Addr) (st : Da) (rows : List Tr) (wk : List (Key × Da)) (W : Str → List Wn) (p : Pt) : Prop where
  bk : BkAt CB wk M b t q
  tb : TbAt CT st (rows.map Tr.k) M t tq
  tz : Trz rows
  wf : WfN rows wk W
  wl : ∀ r ∈ rows, (W r.z).length ≤ 1000
  fit : p.fitsT rows
  cnt : p.count ≤ 1000
theorem BkPr.mono {CB CT : Addr} {M M' : Mx} {b t q tq : Addr} {st : Da} {rows : List Tr} {wk : List (Key × Da)} {W : Str → List Wn} {p : Pt} (h : BkPr CB CT M b t q tq st rows wk W p) (k : ∀ b m, M b = some m → M' b = some m) : BkPr CB CT M' b t q tq st rows wk W p :=
  ⟨⟨k _ _ h.bk.b, k _ _ h.bk.q⟩, ⟨k _ _ h.tb.x, k _ _ h.tb.q⟩, h.tz, h.wf, h.wl, h.fit, h.cnt⟩
def flagsOk (W : Str → List Wn) (gv : Spot → Bool) (fkds : List (Da × Da)) (l : List Rw) : Prop := ∀ r ∈ l, valN fkds (pathD r.path) = some (flD (flO (r.q.stl W gv r.path)))
theorem kids_fl {W : Str → List Wn} {gv : Spot → Bool} {fkds : List (Da × Da)} {l : List Rw} (h : flagsOk W gv fkds l) {path : List Nat} {b : Bk} (hk : kidsIn path 0 b l) {k : Nat} (hb : k < b.len) : valN fkds (pathD (path ++ [k])) = some (flD (((b.stls W gv path 0).map flO).getD k (true, true))) := by
  obtain ⟨q, x, xn, h1, h2, _⟩ := kids_at (W := W) (gv := gv) b 0 hk k hb
  rw [Nat.zero_add] at h1 h2
  have := h _ h1
  rw [flO_getD, List.getD_eq_getElem?_getD, h2]
  exact this
def dc_passing (P : Program) (w : World) (CB CT : Addr) : DC := fun ds M Q _ => ∃ (b t q tq : Addr) (st : Da) (rows : List Tr) (wk : List (Key × Da)) (W : Str → List Wn) (p : Pt) (κ : Da) (pn : Addr) (lk : Option Obj) (nkds : List (Da × Da)) (gv : Spot → Bool),
  ds = [.r b, .l ((p.rows [] none false).map (rwD κ)), .r pn] ∧ BkPr CB CT M b t q tq st rows wk W p ∧ κ.isO = false ∧ M pn = some (.dn P w lk nkds) ∧ NoteOf nkds gv ∧
  ∀ (pf : Addr) (fkds : List (Da × Da)) (M' : Mx), M' pf = some (.dn P w none fkds) → flagsOk W gv fkds (p.rows [] none false) → (∀ b m, M b = some m → M' b = some m) → M pf = none → Q (.r pf) M'
theorem ok_passing (T : Tx P K mg) (G_Book_getitem : FnOk P w K mg base (L2.CX P w) 3 T.f_Book_getitem T.fd_Book_getitem ["self", "sign"] (spOf K (dc_Book_getitem T.C_Book T.C_Table T.C_UnknownSign))) (G_passes : FnOk P w K mg base (L2.CX P w) 3 T.f_passes T.fd_passes ["way", "path", "noted", "flags"] (spOf K (dc_passes P w))) : FnOk P w K mg base (L2.CX P w) 5 T.f_passing T.fd_passing ["book", "rows", "noted"] (spOf K (dc_passing P w T.C_Book T.C_Table)) := by
  have sc := scPassing
  refine okD T.d_passing.F sc (fun ds M Q X h => ?_) (fun cdv A outer s H E c ds M Qd Xd hn hr h hX => ?_)
  · obtain ⟨b, t, q, tq, st, rows, wk, W, p, κ, pn, lk, nkds, gv, rfl, _⟩ := h
    rfl
  have tk := takes_of (X := cxOf (L2.CX P w) P w K mg base NPassing "passing" (defScope sPassing) T.f_passing cdv A outer s H E) rfl rfl rfl rfl
  refine ⟨_, (ss_cons (s_set (i := 3) sc.nd rfl (by first | exact .inl rfl | exact .inr rfl) (by rw [hn]; decide) (v_dnewN (P := P) (w := w) rfl rfl))
  (ss_cons (s_for (passes_of rfl) rfl (i_rev (by rfl) T.n_reversed (vOf (v_list (by rfl) T.n_list (by decide +kernel) (vv 1)))) (pg_tup (by rfl) (pgs_cons (pg_name (i := 4) sc.nd rfl (by first | exact .inl rfl | exact .inr rfl)) (pgs_cons (pg_name (i := 5) sc.nd rfl (by first | exact .inl rfl | exact .inr rfl)) (pgs_cons (pg_name (i := 6) sc.nd rfl (by first | exact .inl rfl | exact .inr rfl)) (pgs_cons (pg_name (i := 6) sc.nd rfl (by first | exact .inl rfl | exact .inr rfl)) (pgs_cons (pg_name (i := 6) sc.nd rfl (by first | exact .inl rfl | exact .inr rfl)) pgs_nil)))))) (lgT (n := 5) (lgs_cons (lgN (i := 4) (by rw [hn]; decide)) (lgs_cons (lgN (i := 5) (by rw [hn]; decide)) (lgs_cons (lgN (i := 6) (by rw [hn]; decide)) (lgs_cons (lgN (i := 6) (by rw [hn]; decide)) (lgs_cons (lgN (i := 6) (by rw [hn]; decide)) lgs_nil))))) (lenN (lenN (lenN (lenN (lenN len0))))))
  (ss_one (s_if (vB (v_isi isi_str (by rfl) T.n_isinstance (by rfl) T.n_str (by decide +kernel) (vv 5)))
  (ss_one (s_putN (P := P) (w := w) rfl rfl (hu9 hr) (v_tup (v_cons vb (v_cons vb v_nil))) (vv 3) (vv 4)))
  (ss_cons (s_valLc (i := 7) rfl sc.nd rfl rfl (by rw [hn]; decide) (sw_true rfl rfl rfl (by decide +kernel)) (i_sq (v_ownIx T.d_Book_getitem.own T.d_Book_getitem.ff G_Book_getitem (hr.mono (by decide)) T.d_Book_getitem.b tk hX (vv 0) (v_ix (vv 5) vi (fun _ _ => rfl)))) (blkOk_by (own := [("way", 9)]) (N := NPassing) (sc := defScope sPassing) (by decide +kernel)) (fun c1 e1 => (lgN (i := 9) (by rw [e1, hn]; decide))) (fun _ _ _ _ _ => (pg_name (i := 9) sc.nd rfl (by first | exact .inl rfl | exact .inr rfl))) (fun _ _ _ _ _ c1 e1 => ts_one (vTr (v_call G_passes (hr.mono (by decide)) (by rfl) T.d_passes.g T.d_passes.F.kp T.d_passes.b takes0 xno (v_cons (vv 9) (v_cons (vv 4) (v_cons (vv 2) (v_cons (vv 3) v_nil))))))) (fun _ _ _ _ _ c1 e1 => (v_ix (vv 9) vi (fun _ _ => rfl))) (by decide))
  (ss_cons (s_set (i := 8) sc.nd rfl (by first | exact .inl rfl | exact .inr rfl) (by rw [hn]; decide) (v_cmp op_inA lIn (by rfl) vs (vv 7)))
  (ss_one (s_putN (P := P) (w := w) rfl rfl (hu9 hr) (v_tup (v_cons (v_cmp op_gt lC (nomark _) (v_cb1 call_lenA lLen (by rfl) T.n_len (by decide +kernel) (vv 7)) vi) (v_cons (v_ite (vt_nin (P := P) (w := w) rfl rfl (hu9 hr) (by rfl) (v_tup (v_cons (vv 4) (v_cons vn v_nil))) (vv 2)) (v_cmp op_gt lC (nomark _) (v_cb1 call_lenA lLen (by rfl) T.n_len (by decide +kernel) (vv 7)) vi) (vv 8)) v_nil))) (vv 3) (vv 4))))))))
  (ss_one (s_ret (vv 3))))), ?_⟩
  obtain ⟨b, t, q, tq, st, rows, wk, W, p, κ, pn, lk, nkds, gv, rfl, bp, κO, mn, ng, qq⟩ := h
  refine fun pf nf => ⟨rfl, ?_⟩
  have nf : M pf = none := nf
  have hc := bp.cnt
  have hl := rows_len p [] none false
  have hlen := rows_path p [] none false (fun h => absurd rfl h)
  have hcl := rows_closed p [] none false
  have hnd := rows_nodup p [] none false
  have hfr := fits_rows rows p [] none false bp.fit
  generalize hR0 : p.rows [] none false = rws at hl hlen hcl hnd hfr qq ⊢
  refine ⟨_, rfl, by rw [List.length_map, hl]; exact szl hc, ?_⟩
  show forGo _ _ _ ((rws.map (rwD κ)).reverse) _
  rw [← List.map_reverse]
  refine forGo_of (fun rest S => ∃ (pre done : List Rw) (fkds : List (Da × Da)) (N : Mx) (y4 y5 y6 y7 y8 y9 : Slx), rest = pre.reverse.map (rwD κ) ∧ rws = pre ++ done ∧ N pf = some (.dn P w none fkds) ∧ flagsOk W gv fkds done ∧ fkds.length ≤ done.length ∧ (∀ b m, M b = some m → N b = some m) ∧ S = ⟨[.val (.r b), .val (.l (rws.map (rwD κ))), .val (.r pn), .val (.r pf), y4, y5, y6, y7, y8, y9], N⟩)
    (fun d ds S h R hR => ?_) (fun S h => ?_) _ _ ⟨rws, [], [], _, .no, .no, .no, .no, .no, .no, rfl, by simp, updM_same, (by intro r hr; cases hr), by simp, fun b m h => (updM_ne (fun e => by rw [e, nf] at h; cases h)).trans h, rfl⟩
  · obtain ⟨pre, done, fkds, N, y4, y5, y6, y7, y8, y9, er, es, hk, hok, hkl, kp, rfl⟩ := h
    rcases List.eq_nil_or_concat pre with e | ⟨pre', r, e⟩
    · subst e; cases er
    rw [List.concat_eq_append] at e
    subst e
    rw [List.reverse_append, List.reverse_cons, List.reverse_nil, List.nil_append, List.cons_append, List.map_cons] at er
    injection er with er1 er2
    subst er1
    subst er2
    have hr0 : r ∈ rws := by rw [es]; simp
    have hcr : closedL (r :: done) := closed_drop (a := pre') (by rw [es, List.append_assoc] at hcl; exact hcl)
    have hlr := (hlen r hr0).2
    have kids := hcr.1
    have kb : ∀ {x : Addr} {m : MO}, M x = some m → x ≠ pf := fun h e => by rw [e, nf] at h; cases h
    have ldn : done.length < 1000 := by
      have := congrArg List.length es
      rw [List.length_append, List.length_append, hl, List.length_singleton] at this
      omega
    have next : ∀ (v : Bool × Bool), v = flO (r.q.stl W gv r.path) → flagsOk W gv (putN fkds (pathD r.path) (flD v)) (r :: done) := fun v hv r' hr' => by
      rw [valN_put]
      rcases List.mem_cons.mp hr' with rfl | hr'
      · rw [if_pos rfl, hv]
      · have hne : r'.path ≠ r.path := fun e => by
          rw [es, List.append_assoc, List.map_append, List.nodup_append] at hnd
          have h2 := hnd.2.1
          rw [List.singleton_append, List.map_cons, List.nodup_cons] at h2
          exact h2.1 (by rw [← e]; exact List.mem_map.mpr ⟨r', hr', rfl⟩)
        rw [if_neg (fun e => hne (nk_path_inj e))]
        exact hok r' hr'
    have cO : (r.q.core κ).isO = false := r.q.coreO κ
    have kl : ∀ v, (putN fkds (pathD r.path) (flD v)).length ≤ (r :: done).length := fun v => by
      have := putN_le (kds := fkds) (k := pathD r.path) (d := flD v)
      rw [List.length_cons]
      omega
    obtain ⟨path, rq, rx, rxn⟩ := r
    cases rq with
    | nm n z =>
      have co : (Pt.nm n z).core κ = .s z := by simp [Pt.core]
      show wgT _ (rwD κ ⟨path, .nm n z, rx, rxn⟩) _ _
      unfold rwD
      rw [co]
      refine ⟨rfl, rfl, by show 2 ≤ sizeLine; decide, rfl, pf, fkds, rfl, hk, key8_path _, by rw [sizeLine_eq]; omega, ?_⟩
      refine hR _ ⟨pre', ⟨path, .nm n z, rx, rxn⟩ :: done, _, _, _, _, _, _, _, _, rfl, by rw [es]; simp, updM_same, next (true, true) (by rw [Pt.stl]; rfl), kl (true, true), fun x m h => (updM_ne (kb h)).trans (kp _ _ h), rfl⟩
    | nd n z bs =>
      have co : (Pt.nd n z bs).core κ = .t (.s z :: bs.das κ) := by simp [Pt.core]
      obtain ⟨r0, h1, h2, h3⟩ := hfr _ hr0
      have h2 : r0.z = z := h2
      subst h2
      have h3 : bs.fitsB rows r0.pls := h3
      have kids : kidsIn path 0 bs done := kids
      have hbl := fitsB_len rows bs _ h3
      have h33 := bp.tz.p _ h1
      have bk' : BkAt T.C_Book wk N b t q := ⟨kp _ _ bp.bk.b, kp _ _ bp.bk.q⟩
      have tb' : TbRd T.C_Table st (rows.map Tr.k) N t tq := ⟨kp _ _ bp.tb.x, none, kp _ _ bp.tb.q⟩
      have hv := tr_val bp.tz.nd h1
      have hpl : path.length ≤ 10000 := by simp at hlr; omega
      show wgT _ (rwD κ ⟨path, .nd n r0.z bs, rx, rxn⟩) _ _
      unfold rwD
      rw [co]
      refine ⟨_, atI_nat (j := 0) rfl, _, bk'.b, rfl, b, t, q, tq, _, _, _, r0.z, rfl, bk', tb', bp.tz.z _ h1, bp.wf.O, fun _ => ?_, fun e => by rw [hv] at e; cases e⟩
      rw [bp.wf.g _ h1]
      let below := bs.stls W gv path 0
      refine lc_on wnD (fun x => if passB gv path (below.map flO) x = true then some (Da.s (dirS x.whole)) else none) (fun x hx R1 R2 hR2 => ?_) (fun x hx y e => ?_) (szl (bp.wl _ h1)) ?_
      · have ok := bp.wf.k _ h1 x hx
        have hR3 := hR2 _ (Agr.wipe.set (i := 9) (x := .val (wnD x)) (by decide))
        refine ⟨rfl, rfl, rfl, rfl, x, path, pn, pf, lk, none, nkds, fkds, gv, below.map flO, rfl, ok.l2, ok.l1, hpl, kp _ _ mn, ng, hk, fun s hs => ?_, ?_⟩
        · have := ok.st s hs
          exact kids_fl hok kids (by omega)
        · generalize passB gv path (below.map flO) x = pb at hR3 ⊢
          cases pb with
          | true => exact ⟨_, atI_nat (j := 0) rfl, hR3⟩
          | false => exact hR3
      · by_cases h : passB gv path (below.map flO) x = true
        · rw [if_pos h] at e; cases e; rfl
        · rw [if_neg h] at e; cases e
      · have e7 : (W r0.z).filterMap (fun x => if passB gv path (below.map flO) x = true then some (Da.s (dirS x.whole)) else none) = ((W r0.z).filter (passB gv path (below.map flO))).map fun x => Da.s (dirS x.whole) := by
          clear next kl
          generalize W r0.z = ws
          induction ws with
          | nil => rfl
          | cons a l ih =>
            rw [List.filterMap_cons, List.filter_cons]
            cases passB gv path (below.map flO) a with
            | true => simp only [if_true, List.map_cons]; rw [ih]
            | false => simp only [Bool.false_eq_true, if_false]; exact ih
        have stl_e := node_fl (W r0.z) gv path below (gv (path, none))
        rw [show nodeS (W r0.z) gv path below (gv (path, none)) = (Pt.nd n r0.z bs).stl W gv path by rw [Pt.stl]] at stl_e
        rw [e7]
        have efl : (((W r0.z).filter (passB gv path (below.map flO))).map fun x => Da.s (dirS x.whole)).all Da.fl = true := by
          rw [List.all_map, List.all_eq_true]
          intro x _
          rfl
        have ea := inD_found ((W r0.z).filter (passB gv path (below.map flO)))
        have eb : decide ((0 : Int) < (((((W r0.z).filter (passB gv path (below.map flO))).map fun x => Da.s (dirS x.whole)).length : Nat) : Int)) = (W r0.z).any (passB gv path (below.map flO)) := by
          rw [← filter_any, List.length_map]
          by_cases h : 0 < ((W r0.z).filter (passB gv path (below.map flO))).length
          · rw [decide_eq_true h, decide_eq_true (by omega)]
          · rw [decide_eq_false h, decide_eq_false (by omega)]
        generalize (((W r0.z).filter (passB gv path (below.map flO))).map fun x => Da.s (dirS x.whole)) = l7 at efl ea eb ⊢
        refine ⟨rfl, _, rfl, rfl, efl, rfl, ?_⟩
        generalize (W r0.z).any (passB gv path (below.map flO)) = B1 at eb stl_e
        generalize (List.filter (passB gv path (below.map flO)) (W r0.z)).any (·.whole) = B2 at ea stl_e
        have eg := ng (path, none)
        subst eb
        subst ea
        have fin : ∀ (v : Bool × Bool) (y4 y5 y6 y7 y8 y9 : Slx), v = flO ((Pt.nd n r0.z bs).stl W gv path) → R ⟨[.val (.r b), .val (.l (rws.map (rwD κ))), .val (.r pn), .val (.r pf), y4, y5, y6, y7, y8, y9], updM N pf (.dn P w none (putN fkds (pathD path) (flD v)))⟩ := fun v y4 y5 y6 y7 y8 y9 hv => hR _ ⟨pre', ⟨path, .nd n r0.z bs, rx, rxn⟩ :: done, putN fkds (pathD path) (flD v), updM N pf (.dn P w none (putN fkds (pathD path) (flD v))), y4, y5, y6, y7, y8, y9, rfl, by rw [es]; simp, updM_same, next v hv, kl v, fun x m h => (updM_ne (kb h)).trans (kp _ _ h), rfl⟩
        refine ⟨rfl, rfl, rfl, by show 2 ≤ sizeLine; decide, pn, lk, nkds, rfl, kp _ _ mn, key8_sp (path, none), ?_⟩
        show if (valN nkds (spD (path, none))).isSome = true then _ else _
        rw [eg]
        cases eq : gv (path, none) with
        | true =>
          rw [eq] at stl_e
          refine ⟨rfl, by show 2 ≤ sizeLine; decide, rfl, pf, fkds, rfl, hk, key8_path _, by rw [sizeLine_eq]; omega, ?_⟩
          exact fin (_, _) _ _ _ _ _ _ (by rw [stl_e]; rfl)
        | false =>
          rw [eq] at stl_e
          refine ⟨rfl, by show 2 ≤ sizeLine; decide, rfl, pf, fkds, rfl, hk, key8_path _, by rw [sizeLine_eq]; omega, ?_⟩
          exact fin (_, _) _ _ _ _ _ _ (by rw [stl_e]; rfl)
  · obtain ⟨pre, done, fkds, N, y4, y5, y6, y7, y8, y9, er, es, hk, hok, hkl, kp, rfl⟩ := h
    have e0 : pre = [] := by
      cases pre with
      | nil => rfl
      | cons a l => simp at er
    subst e0
    rw [List.nil_append] at es
    subst es
    exact ⟨rfl, qq pf fkds N hk hok kp nf⟩
end
end VL
set_option Elab.async false
set_option linter.all false
set_option pp.maxSteps 1500
set_option maxRecDepth 100000
set_option maxHeartbeats 1000000
namespace VL
open PySem PySem.Spec PyProof.Rows L2
theorem dcN_of {wg : WG} {wt : WT} {wk wv : WE} {vs : List Nat} {Q : List (Da × Da) → Sx → Prop} {S : Sx} (I : List Da → List (Da × Da) → Prop)
    (step : ∀ d ds acc, I (d :: ds) acc → ∀ R : List (Da × Da) → Sx → Prop, ∀ R2 : Sx → Prop, (∀ acc' S4, I ds acc' → Agr (S.norm vs) S4 vs → R acc' S4) → (∀ S4, I ds acc → Agr (S.norm vs) S4 vs → R2 S4) → wg d ((S.norm vs).wipe vs) fun S2 => wt S2 fun b S3 => if b = true then wk S3 fun y S4 => wv S4 fun z S5 => y.key8 = true ∧ z.isO = false ∧ acc.length < sizeLine ∧ R (putN acc y z) S5 else R2 S3)
    (stop : ∀ acc, I [] acc → Q acc (S.norm vs)) : ∀ ds acc, I ds acc → dcGoN wg wt wk wv vs Q ds acc (S.norm vs)
  | [], acc, h => stop acc h
  | d :: ds, acc, h => step d ds acc h (fun acc' S4 => dcGoN wg wt wk wv vs Q ds acc' ((S.norm vs).back S4 vs)) (fun S4 => dcGoN wg wt wk wv vs Q ds acc ((S.norm vs).back S4 vs)) (fun acc' S4 h' ag => by
    rw [ag.back]
    exact dcN_of I step stop ds acc' h') fun S4 h' ag => by
    rw [ag.back]
    exact dcN_of I step stop ds acc h'
section
variable {P : Program} {w : World} {K : PySem.W.Frag} {mg : Str → Option Value} {base : Heap}
def dc_standing_still (P : Program) (w : World) (CB CT : Addr) : DC := fun ds M Q _ => ∃ (b t q tq : Addr) (st : Da) (rows : List Tr) (wk : List (Key × Da)) (W : Str → List Wn) (p : Pt) (κ : Da) (pn : Addr) (lk : Option Obj) (nkds : List (Da × Da)) (gv : Spot → Bool) (told : Bool),
  ds = [.r b, .l ((p.rows [] none false).map (rwD κ)), .r pn, .b told] ∧ BkPr CB CT M b t q tq st rows wk W p ∧ κ.isO = false ∧ M pn = some (.dn P w lk nkds) ∧ NoteOf nkds gv ∧
  ∀ (M' : Mx), (∀ b m, M b = some m → M' b = some m) → Q (spO (isS (p.stl W gv []) (!told))) M'
theorem ok_standing_still (T : Tx P K mg) (G_fitting : FnOk P w K mg base (L2.CX P w) 5 T.f_fitting T.fd_fitting ["book", "node", "told"] (spOf K (dc_fitting T.C_Book T.C_Table))) (G_is_passed : FnOk P w K mg base (L2.CX P w) 1 T.f_is_passed T.fd_is_passed ["flags", "told"] (spOf K dc_is_passed)) (G_names_without_note : FnOk P w K mg base (L2.CX P w) 1 T.f_names_without_note T.fd_names_without_note ["way", "path", "noted"] (spOf K (dc_names_without_note P w))) (G_stuck_parts : FnOk P w K mg base (L2.CX P w) 2 T.f_stuck_parts T.fd_stuck_parts ["way", "path", "flags"] (spOf K (dc_stuck_parts P w))) (G_passing : FnOk P w K mg base (L2.CX P w) 5 T.f_passing T.fd_passing ["book", "rows", "noted"] (spOf K (dc_passing P w T.C_Book T.C_Table))) : FnOk P w K mg base (L2.CX P w) 6 T.f_standing_still T.fd_standing_still ["book", "rows", "noted", "told"] (spOf K (dc_standing_still P w T.C_Book T.C_Table)) := by
  have sc := scStandingStill
  refine okD T.d_standing_still.F sc (fun ds M Q X h => ?_) (fun cdv A outer s H E c ds M Qd Xd hn hr h hX => ?_)
  · obtain ⟨b, t, q, tq, st, rows, wk, W, p, κ, pn, lk, nkds, gv, told, rfl, _⟩ := h
    rfl
  have tk := takes_of (X := cxOf (L2.CX P w) P w K mg base NStandingStill "standing_still" (defScope sStandingStill) T.f_standing_still cdv A outer s H E) rfl rfl rfl rfl
  refine ⟨_, (ss_cons (s_set (i := 4) sc.nd rfl (by first | exact .inl rfl | exact .inr rfl) (by rw [hn]; decide) (v_call G_passing (hr.mono (by decide)) (by rfl) T.d_passing.g T.d_passing.F.kp T.d_passing.b tk hX (v_cons (vv 0) (v_cons (vv 1) (v_cons (vv 2) v_nil)))))
  (ss_cons (s_valDcN (i := 5) (P := P) (w := w) rfl rfl (hu9 hr) rfl sc.nd rfl rfl (by rw [hn]; decide) (sw_trueD rfl rfl rfl (by decide +kernel)) (i_sq (vv 1)) (blkOk_by (own := [("row", 9)]) (N := NStandingStill) (sc := defScope sStandingStill) (by decide +kernel)) (fun c1 e1 => (lgN (i := 9) (by rw [e1, hn]; decide))) (fun _ _ _ _ _ => (pg_name (i := 9) sc.nd rfl (by first | exact .inl rfl | exact .inr rfl))) (fun _ _ _ _ _ _ _ => ts_nil) (fun _ _ _ _ _ c1 e1 => (v_ix (vv 9) vi (fun _ _ => rfl))) (fun _ _ _ _ _ c1 e1 => (v_ix (vv 9) vi (fun _ _ => rfl))) (by decide))
  (ss_cons (s_set (i := 6) sc.nd rfl (by first | exact .inl rfl | exact .inr rfl) (by rw [hn]; decide) (v_tup v_nil))
  (ss_cons (s_while (passes_of rfl) (v_not (vTr (v_call G_is_passed (hr.mono (by decide)) (by rfl) T.d_is_passed.g T.d_is_passed.F.kp T.d_is_passed.b tk hX (v_cons (v_nget (P := P) (w := w) rfl rfl (hu9 hr) (vv 4) (vv 6) (fun _ _ => rfl)) (v_cons (vv 3) v_nil)))))
  (ss_cons (s_set (i := 7) sc.nd rfl (by first | exact .inl rfl | exact .inr rfl) (by rw [hn]; decide) (v_call G_fitting (hr.mono (by decide)) (by rfl) T.d_fitting.g T.d_fitting.F.kp T.d_fitting.b tk hX (v_cons (vv 0) (v_cons (v_nget (P := P) (w := w) rfl rfl (hu9 hr) (vv 5) (vv 6) (fun _ _ => rfl)) (v_cons (ve_or (vv 3) (pe_one (v_nin (P := P) (w := w) rfl rfl (hu9 hr) (by rfl) (v_tup (v_cons (vv 6) (v_cons vn v_nil))) (vv 2)))) v_nil)))))
  (ss_cons (s_if (v_not (vTr (vv 7)))
  (ss_one (s_ret (v_tup (v_cons (vv 6) (v_cons vn v_nil)))))
  ss_nil)
  (ss_cons (s_set (i := 8) sc.nd rfl (by first | exact .inl rfl | exact .inr rfl) (by rw [hn]; decide) (v_call G_names_without_note (hr.mono (by decide)) (by rfl) T.d_names_without_note.g T.d_names_without_note.F.kp T.d_names_without_note.b tk hX (v_cons (v_ix (vv 7) vi (fun _ _ => rfl)) (v_cons (vv 6) (v_cons (vv 2) v_nil)))))
  (ss_cons (s_if (vTr (vv 8))
  (ss_one (s_ret (v_tup (v_cons (vv 6) (v_cons (v_ix (vv 8) vi (fun _ _ => rfl)) v_nil)))))
  ss_nil)
  (ss_one (s_asg (v_ix (v_call G_stuck_parts (hr.mono (by decide)) (by rfl) T.d_stuck_parts.g T.d_stuck_parts.F.kp T.d_stuck_parts.b tk hX (v_cons (v_ix (vv 7) vi (fun _ _ => rfl)) (v_cons (vv 6) (v_cons (vv 4) v_nil)))) vi (fun _ _ => rfl)) (pg_tup (by rfl) (pgs_cons (pg_name (i := 6) sc.nd rfl (by first | exact .inl rfl | exact .inr rfl)) (pgs_cons (pg_name (i := 3) sc.nd rfl (by first | exact .inl rfl | exact .inr rfl)) pgs_nil))) (lgT (n := 2) (lgs_cons (lgN (i := 6) (by rw [hn]; decide)) (lgs_cons (lgN (i := 3) (by rw [hn]; decide)) lgs_nil)) (lenN (lenN len0))))))))))
  (ss_one (s_ret vn)))))), ?_⟩
  obtain ⟨b, t, q, tq, st, rows, wk, W, p, κ, pn, lk, nkds, gv, told, rfl, bp, κO, mn, ng, qq⟩ := h
  refine ⟨rfl, rfl, rfl, b, t, q, tq, st, rows, wk, W, p, κ, pn, lk, nkds, gv, rfl, bp, κO, mn, ng, fun pf fkds N mf hfl kN nf => ⟨rfl, ?_⟩⟩
  have hc := bp.cnt
  have hl := rows_len p [] none false
  have hlen := rows_path p [] none false (fun h => absurd rfl h)
  have hcl := rows_closed p [] none false
  have hfr := fits_rows rows p [] none false bp.fit
  have hnd := rows_nodup p [] none false
  have hroot : (⟨[], p, none, false⟩ : Rw) ∈ p.rows [] none false := rows_head p [] none false
  have bpN := bp.mono kN
  have mnN := kN _ _ mn
  generalize hR0 : p.rows [] none false = rws at hl hlen hcl hfr hnd hroot hfl ⊢
  refine dcN_of (fun rest acc => ∃ (a bb : List Rw), rws = a ++ bb ∧ rest = bb.map (rwD κ) ∧ acc.length ≤ a.length ∧ ∀ r ∈ a, valN acc (pathD r.path) = some (r.q.core κ)) (fun d ds acc h R R2 hR hR2 => ?_) (fun acc h => ?_) _ _ ⟨[], rws, rfl, rfl, Nat.le_refl _, by simp⟩
  · obtain ⟨a, bb, el, e, hac, hv⟩ := h
    cases bb with
    | nil => cases e
    | cons r bb =>
    injection e with e1 e2
    subst e1
    subst e2
    have cO : (r.q.core κ).isO = false := r.q.coreO κ
    have al : a.length < 1000 := by
      have := congrArg List.length el
      rw [List.length_append, List.length_cons, hl] at this
      omega
    refine ⟨_, atI_nat (j := 0) rfl, _, atI_nat (j := 1) rfl, key8_path r.path, cO, by rw [sizeLine_eq]; omega, ?_⟩
    refine hR _ _ ⟨a ++ [r], bb, by rw [el, List.append_assoc]; rfl, rfl, ?_, fun y hy => ?_⟩ (Agr.wipe.set (i := 9) (by decide))
    · rw [List.length_append]
      exact Nat.le_trans putN_le (by show _ ≤ a.length + 1; omega)
    · rw [valN_put]
      rcases List.mem_append.mp hy with hy | hy
      · have hne : y.path ≠ r.path := fun e => by
          rw [el, List.map_append, List.nodup_append] at hnd
          exact hnd.2.2 _ (List.mem_map.mpr ⟨y, hy, rfl⟩) _ (by rw [List.map_cons]; exact List.mem_cons_self ..) e
        rw [if_neg (fun e => hne (nk_path_inj e))]
        exact hv y hy
      · rw [List.mem_singleton.mp hy, if_pos rfl]
  · obtain ⟨a, bb, el, e, hac, hv⟩ := h
    have e0 : bb = [] := List.map_eq_nil_iff.mp e.symm
    subst e0
    rw [List.append_nil] at el
    subst el
    refine fun pc nc => ?_
    have nc' : N pc = none := nc
    have kN2 : ∀ b m, N b = some m → updM N pc (.dn P w none acc) b = some m := fun b m h => (updM_ne (fun e => by rw [e, nc'] at h; cases h)).trans h
    have mc : updM N pc (.dn P w none acc) pc = some (.dn P w none acc) := updM_same
    let N2 : Mx := updM N pc (.dn P w none acc)
    have kN2 : ∀ b m, N b = some m → N2 b = some m := kN2
    have mc : N2 pc = some (.dn P w none acc) := mc
    have bp2 := bpN.mono kN2
    have mn2 := kN2 _ _ mnN
    have mf2 := kN2 _ _ mf
    have hk := closed_at hcl
    have kAll : ∀ b m, M b = some m → N2 b = some m := fun b m h => kN2 _ _ (kN _ _ h)
    have fin : ∀ {so : So}, so = isS (p.stl W gv []) (!told) → Qd (spO so) N2 := fun h => by
      rw [h]
      exact qq N2 kAll
    refine ⟨rfl, by show 0 ≤ sizeLine; decide, rfl, ?_⟩
    refine ⟨fun m S => ∃ (r : Rw) (tl : Bool) (y7 y8 y9 : Slx), r ∈ rws ∧ m = r.q.count ∧ isS (r.q.stl W gv r.path) (!tl) = isS (p.stl W gv []) (!told) ∧ S = ⟨[.val (.r b), .val (.l (rws.map (rwD κ))), .val (.r pn), .val (.b tl), .val (.r pf), .val (.r pc), .val (pathD r.path), y7, y8, y9], N2⟩, ⟨_, ⟨[], p, none, false⟩, told, _, _, _, hroot, rfl, rfl, rfl⟩, ?_⟩
    rintro m S ⟨r, tl, y7, y8, y9, hr0, rfl, hans, rfl⟩
    have hlr := (hlen r hr0).2
    have hkr := hk r hr0
    have hfr0 := hfr r hr0
    have hvr := hv r hr0
    have hflr := hfl r hr0
    obtain ⟨path, rq, rx, rxn⟩ := r
    have hpl : path.length ≤ 10000 := by simp at hlr; omega
    have hans2 : isS (rq.stl W gv path) (!tl) = isS (p.stl W gv []) (!told) := hans
    have eP : isP (flO (rq.stl W gv path)) tl = (isS (rq.stl W gv path) (!tl)).isNone := by
      have := isP_flO (rq.stl W gv path) (!tl)
      rwa [Bool.not_not] at this
    refine ⟨pf, none, fkds, _, rfl, mf2, key8_path _, hflr, rfl, rfl, _, tl, rfl, ?_⟩
    show if (!(isP (flO (rq.stl W gv path)) tl)) = true then _ else _
    rw [eP]
    cases esv : isS (rq.stl W gv path) (!tl) with
    | none => exact ⟨rfl, fin (so := none) (by rw [← hans2, esv])⟩
    | some sp =>
    rw [esv] at hans2
    cases rq with
    | nm n z => rw [Pt.stl] at esv; cases tl <;> cases esv
    | nd n z bs =>
    obtain ⟨r0, h1, h2, h3⟩ := hfr0
    subst h2
    have hkr : kidsIn path 0 bs rws := hkr
    have hbl := fitsB_len rows bs _ h3
    have co : (Pt.nd n r0.z bs).core κ = .t (.s r0.z :: bs.das κ) := by simp [Pt.core]
    rw [Pt.stl, isS_node] at esv
    obtain ⟨L, hL⟩ : ∃ L, L = (W r0.z).filter fun x => (tl || gv (path, none)) || x.whole := ⟨_, rfl⟩
    rw [← hL] at esv
    have hLm : ∀ x ∈ L, x ∈ W r0.z := fun x hx => by rw [hL] at hx; exact (List.mem_filter.mp hx).1
    have bpf : ∀ tl', dc_fitting T.C_Book T.C_Table [.r b, .t (.s r0.z :: bs.das κ), .b tl'] N2 (fun d M' => d = .l (((W r0.z).filter fun x => tl' || x.whole).map wnD) ∧ M' = N2) (fun _ _ _ => False) := fun tl' => ⟨b, t, q, tq, st, rows, wk, W, r0, bs.das κ, tl', rfl, bp2.bk, bp2.tb, bp2.tz, bp2.wf, h1, bp2.wl _ h1, rfl, rfl⟩
    apply via_tail (TOk := fun S => S = ⟨[.val (.r b), .val (.l (rws.map (rwD κ))), .val (.r pn), .val (.b tl), .val (.r pf), .val (.r pc), .val (pathD path), .val (.l (L.map wnD)), y8, y9], N2⟩)
    case main =>
      intro tail
      refine ⟨rfl, pc, none, acc, _, rfl, mc, key8_path _, hvr, by rw [co]; rfl, ?_⟩
      rw [co]
      cases tl with
      | true => exact ⟨rfl, b, t, q, tq, st, rows, wk, W, r0, bs.das κ, true, rfl, bp2.bk, bp2.tb, bp2.tz, bp2.wf, h1, bp2.wl _ h1, rfl, tail _ (by rw [hL]; rfl)⟩
      | false =>
        refine ⟨rfl, rfl, by show 2 ≤ sizeLine; decide, pn, lk, nkds, rfl, mn2, key8_sp (path, none), rfl, b, t, q, tq, st, rows, wk, W, r0, bs.das κ, _, rfl, bp2.bk, bp2.tb, bp2.tz, bp2.wf, h1, bp2.wl _ h1, rfl, tail _ ?_⟩
        have e := ng (path, none)
        rw [hL, ← e]
        rfl
    case tail =>
    rintro S rfl
    show if (!(!(L.map wnD).isEmpty)) = true then _ else _
    cases L with
    | nil =>
      refine ⟨rfl, rfl, by show 2 ≤ sizeLine; decide, rfl, ?_⟩
      exact fin (so := some (path, none)) (by rw [← hans2, ← esv]; rfl)
    | cons x0 L =>
    have hx0 := hLm x0 (by simp)
    have ok := bp.wf.k _ h1 x0 hx0
    have e0 : stillIn gv path (bs.stls W gv path 0) x0 = some sp := by
      unfold firstSp at esv
      rw [List.map_cons] at esv
      split at esv
      · cases esv
      · exact esv
    refine ⟨_, _, rfl, atI_nat (j := 0) rfl, rfl, rfl, rfl, x0, path, pn, lk, nkds, gv, rfl, ok.l2, mn2, ng, rfl, ?_⟩
    show if (!((bareN gv path x0).map nnD).isEmpty) = true then _ else _
    unfold stillIn at e0
    cases hb : bareN gv path x0 with
    | cons k l =>
      rw [hb] at e0
      refine ⟨rfl, _, _, rfl, atI_nat (j := 0) rfl, rfl, by show 2 ≤ sizeLine; decide, rfl, ?_⟩
      exact fin (so := some (path, some k)) (by rw [← hans2]; exact e0)
    | nil =>
      rw [hb] at e0
      have e1 : x0.steps.findSome? (stepS (bs.stls W gv path 0)) = some sp := e0
      rw [findSome_filter] at e1
      have e2 := stuck_eq (bs.stls W gv path 0) x0
      cases e3 : x0.steps.filter fun s => (stepS (bs.stls W gv path 0) s).isSome with
      | nil => rw [e3] at e1; cases e1
      | cons s rest =>
      rw [e3] at e1 e2
      have e1 : stepS (bs.stls W gv path 0) s = some sp := e1
      have hs : s ∈ x0.steps := by
        have : s ∈ x0.steps.filter fun s => (stepS (bs.stls W gv path 0) s).isSome := by rw [e3]; simp
        exact (List.mem_filter.mp this).1
      have hs1 := ok.st s hs
      obtain ⟨q', x', xn', g1, g2, g3⟩ := kids_at (W := W) (gv := gv) bs 0 hkr s.1 (by omega)
      rw [Nat.zero_add] at g1 g2
      have eq' : isS (q'.stl W gv (path ++ [s.1])) (!(!s.2)) = some sp := by
        rw [Bool.not_not, ← e1]
        unfold stepS
        rw [List.getD_eq_getElem?_getD, g2]
        rfl
      refine ⟨_, _, rfl, atI_nat (j := 0) rfl, rfl, rfl, rfl, x0, path, pf, none, fkds, (bs.stls W gv path 0).map flO, rfl, ok.l1, hpl, mf2, fun s' hs' => kids_fl hfl hkr (by have := ok.st s' hs'; omega), ?_⟩
      rw [e2]
      refine ⟨_, _, rfl, atI_nat (j := 0) rfl, rfl, ?_⟩
      have cc : (Pt.nd n r0.z bs).count = 1 + bs.count := by rw [Pt.count]
      exact ⟨q'.count, by show q'.count < (Pt.nd n r0.z bs).count; omega, ⟨path ++ [s.1], q', x', xn'⟩, !s.2, _, _, _, g1, rfl, by rw [← hans2]; exact eq', rfl⟩
end
end VL
set_option Elab.async false
set_option linter.all false
set_option pp.maxSteps 1500
set_option maxRecDepth 100000
set_option maxHeartbeats 1000000
namespace VL
open PySem PySem.Spec PyProof.Rows L2
def gvL (sps : List (Spot × Bool)) (ex : List Spot) (s : Spot) : Bool := (sps.any fun x => x.2 && decide (x.1 = s)) || decide (s ∈ ex)
def spK (sps : List (Spot × Bool)) (k : Nat) : Spot := (sps.map (·.1)).getD k ([], none)
def exL (sps : List (Spot × Bool)) (lot : List Nat) : List Spot := lot.map (spK sps)
theorem spO_O (a : So) : (spO a).isO = false := by cases a <;> rfl
theorem any_sp : ∀ {sps : List (Spot × Bool)}, (sps.map (·.1)).Nodup → ∀ x ∈ sps, (sps.any fun y => y.2 && decide (y.1 = x.1)) = x.2
  | [], _, x, hx => by cases hx
  | a :: l, nd, x, hx => by
    rw [List.map_cons, List.nodup_cons] at nd
    rw [List.any_cons]
    rcases List.mem_cons.mp hx with rfl | hx
    · have : (l.any fun y => y.2 && decide (y.1 = x.1)) = false := by
        rw [List.any_eq_false]
        intro y hy e
        simp only [Bool.and_eq_true, decide_eq_true_iff] at e
        exact nd.1 (List.mem_map.mpr ⟨y, hy, e.2⟩)
      rw [this]
      simp
    · have hne : a.1 ≠ x.1 := fun e => nd.1 (List.mem_map.mpr ⟨x, hx, e.symm⟩)
      rw [any_sp nd.2 x hx, decide_eq_false hne, Bool.and_false, Bool.false_or]
theorem gvL_sp {sps : List (Spot × Bool)} (nd : (sps.map (·.1)).Nodup) (ex : List Spot) : ∀ x ∈ sps, gvL sps ex x.1 = (x.2 || decide (x.1 ∈ ex)) := fun x hx => by
  unfold gvL
  rw [any_sp nd x hx]
theorem spK_at {sps : List (Spot × Bool)} {k : Nat} (h : k < sps.length) : ∃ x, sps[k]? = some x ∧ x.1 = spK sps k := by
  refine ⟨sps[k], List.getElem?_eq_getElem h, ?_⟩
  unfold spK
  rw [List.getD_eq_getElem?_getD, List.getElem?_map, List.getElem?_eq_getElem h]
  rfl
section
variable {P : Program} {w : World} {K : PySem.W.Frag} {mg : Str → Option Value} {base : Heap}
def dc_Notes_still (P : Program) (w : World) (CN CB CT CS : Addr) : DC := fun ds M Q _ => ∃ (x b t q tq : Addr) (st : Da) (rows : List Tr) (wk : List (Key × Da)) (W : Str → List Wn) (p : Pt) (κ : Da) (ks : List Int) (lot : List Nat) (told : Bool),
  ds = [.r x, .t (lot.map nnD), .b told] ∧ NotesAt CN M x b p κ ks ∧ BkPr CB CT M b t q tq st rows wk W p ∧ κ.isO = false ∧ (∀ k ∈ lot, k < (p.sps []).length) ∧ lot.length ≤ 10000 ∧
  ∀ (M' : Mx), (∀ b m, M b = some m → M' b = some m) → Q (spO (isS (p.stl W (gvL (p.sps []) (exL (p.sps []) lot)) []) (!told))) M'
theorem ok_Notes_still (T : Tx P K mg) (G_check_ways : FnOk P w K mg base (L2.CX P w) 5 T.f_check_ways T.fd_check_ways ["book", "rows"] (spOf K (dc_check_ways T.C_Book T.C_Table))) (G_standing_still : FnOk P w K mg base (L2.CX P w) 6 T.f_standing_still T.fd_standing_still ["book", "rows", "noted", "told"] (spOf K (dc_standing_still P w T.C_Book T.C_Table))) : FnOk P w K mg base (L2.CX P w) 7 T.f_Notes_still T.fd_Notes_still ["self", "lot", "told"] (spOf K (dc_Notes_still P w T.C_Notes T.C_Book T.C_Table T.C_Stock)) := by
  have sc := scNotes_still
  refine okDD T.d_Notes_still.F sc (fun ds M Q X h => ?_) (fun cdv A outer s H E c ds M Qd Xd hn hr h hX => ?_)
  · obtain ⟨x, b, t, q, tq, st, rows, wk, W, p, κ, ks, lot, told, rfl, _⟩ := h
    rfl
  have tk := takes_of (X := cxOf (L2.CX P w) P w K mg base NNotes_still "Notes.still" (defScope sNotes_still) T.f_Notes_still cdv A outer s H E) rfl rfl rfl rfl
  refine ⟨_, (ss_cons (s_expr (v_call G_check_ways (hr.mono (by decide)) (by rfl) T.d_check_ways.g T.d_check_ways.F.kp T.d_check_ways.b tk hX (v_cons (v_fld T.c_Notes.cl T.n_Notes_book (vv 0)) (v_cons (v_fld T.c_Notes.cl T.n_Notes_rows (vv 0)) v_nil))))
  (ss_cons (s_valDcN (i := 3) (P := P) (w := w) rfl rfl (hu9 hr) rfl sc.nd rfl rfl (by rw [hn]; decide) (sw_trueD rfl rfl rfl (by decide +kernel)) (i_sq (v_fld T.c_Notes.cl T.n_Notes_spots (vv 0))) (blkOk_by (own := [("spot", 5), ("stands", 6)]) (N := NNotes_still) (sc := defScope sNotes_still) (by decide +kernel)) (fun c1 e1 => (lgT (n := 2) (lgs_cons (lgN (i := 5) (by rw [e1, hn]; decide)) (lgs_cons (lgN (i := 6) (by rw [e1, hn]; decide)) lgs_nil)) (lenN (lenN len0)))) (fun _ _ _ _ _ => (pg_tup (by rfl) (pgs_cons (pg_name (i := 5) sc.nd rfl (by first | exact .inl rfl | exact .inr rfl)) (pgs_cons (pg_name (i := 6) sc.nd rfl (by first | exact .inl rfl | exact .inr rfl)) pgs_nil)))) (fun _ _ _ _ _ c1 e1 => ts_one (vTr (vv 6))) (fun _ _ _ _ _ c1 e1 => (vv 5)) (fun _ _ _ _ _ c1 e1 => vb) (by decide))
  (ss_cons (s_for (passes_of rfl) rfl (i_sq (vv 1)) (pg_name (i := 4) sc.nd rfl (by first | exact .inl rfl | exact .inr rfl)) (lgN (i := 4) (by rw [hn]; decide))
  (ss_one (s_putN (P := P) (w := w) rfl rfl (hu9 hr) vb (vv 3) (v_ix (v_ix (v_fld T.c_Notes.cl T.n_Notes_spots (vv 0)) (vv 4) (fun _ _ => rfl)) vi (fun _ _ => rfl)))))
  (ss_one (s_ret (v_call G_standing_still (hr.mono (by decide)) (by rfl) T.d_standing_still.g T.d_standing_still.F.kp T.d_standing_still.b tk hX (v_cons (v_fld T.c_Notes.cl T.n_Notes_book (vv 0)) (v_cons (v_fld T.c_Notes.cl T.n_Notes_rows (vv 0)) (v_cons (vFz (vv 3)) (v_cons (vv 2) v_nil)))))))))), ?_⟩
  obtain ⟨x, b, t, q, tq, st, rows, wk, W, p, κ, ks, lot, told, rfl, nt, bp, κO, hlot, hll, qq⟩ := h
  have hfr := fits_rows rows p [] none false bp.fit
  have hsl := sps_len p []
  have hc := bp.cnt
  have wf2 : Wf2 rows wk := ⟨fun r hr => by
    have h1 := bp.wf.g r hr
    have h2 := bp.wf.n r hr
    cases hW : W r.z with
    | nil => exact absurd hW h2
    | cons a l => exact ⟨wnD a, l.map wnD, by rw [h1, hW]; rfl⟩, bp.wf.O⟩
  refine ⟨_, _, nt.x, rfl, rfl, _, _, nt.x, rfl, rfl, b, t, q, tq, _, rows, wk, p.rows [] none false, κ, rfl, bp.bk, bp.tb, bp.tz, wf2, hfr, κO, ?_⟩
  refine ⟨_, _, nt.x, rfl, ?_⟩
  refine dcN_of (fun rest acc => ∃ (a bb : List (Spot × Bool)), p.sps [] = a ++ bb ∧ rest = bb.map spF ∧ acc.length ≤ a.length ∧ ∀ s, (valN acc (spD s)).isSome = (a.any fun y => y.2 && decide (y.1 = s))) (fun d ds acc h R R2 hR hR2 => ?_) (fun acc h => ?_) _ _ ⟨[], p.sps [], rfl, rfl, Nat.le_refl _, fun s => rfl⟩
  · obtain ⟨a, bb, el, e, hac, hv⟩ := h
    cases bb with
    | nil => cases e
    | cons y bb =>
    injection e with e1 e2
    subst e1
    subst e2
    have al : a.length < 2000 := by
      have := congrArg List.length el
      rw [List.length_append, List.length_cons] at this
      omega
    obtain ⟨sp, fl⟩ := y
    cases fl with
    | true =>
      refine ⟨key8_sp sp, rfl, by rw [sizeLine_eq]; omega, hR _ _ ⟨a ++ [(sp, true)], bb, by rw [el, List.append_assoc]; rfl, rfl, ?_, fun s => ?_⟩ ((Agr.wipe.set (i := 5) (by decide)).set (i := 6) (by decide))⟩
      · rw [List.length_append]
        exact Nat.le_trans putN_le (by show _ ≤ a.length + 1; omega)
      · rw [valN_put, List.any_append, ← hv s]
        by_cases e : s = sp
        · subst e
          rw [if_pos rfl]
          simp
        · rw [if_neg (fun h => e (nk_sp_inj h))]
          have : sp ≠ s := fun h => e h.symm
          simp [this]
    | false =>
      refine hR2 _ ⟨a ++ [(sp, false)], bb, by rw [el, List.append_assoc]; rfl, rfl, by rw [List.length_append]; omega, fun s => ?_⟩ ((Agr.wipe.set (i := 5) (by decide)).set (i := 6) (by decide))
      rw [hv s, List.any_append]
      simp
  · obtain ⟨a, bb, el, e, hac, hv⟩ := h
    have e0 : bb = [] := List.map_eq_nil_iff.mp e.symm
    subst e0
    rw [List.append_nil] at el
    refine fun pn nn => ?_
    have nn' : M pn = none := nn
    have kM : ∀ (o : MO) b m, M b = some m → updM M pn o b = some m := fun o b m h => (updM_ne (fun e => by rw [e, nn'] at h; cases h)).trans h
    have hal : acc.length ≤ 2000 := by rw [el] at hsl; omega
    refine ⟨rfl, ?_⟩
    refine forGo_of (fun rest S => ∃ (dn rl : List Nat) (nkds : List (Da × Da)) (N : Mx) (y4 : Slx), rest = rl.map nnD ∧ lot = dn ++ rl ∧ N pn = some (.dn P w none nkds) ∧ nkds.length ≤ acc.length + dn.length ∧ (∀ s, (valN nkds (spD s)).isSome = gvL (p.sps []) (exL (p.sps []) dn) s) ∧ (∀ b m, M b = some m → N b = some m) ∧ S = ⟨[.val (.r x), .val (.t (lot.map nnD)), .val (.b told), .val (.r pn), y4, .no, .no], N⟩)
      (fun d ds S h R hR => ?_) (fun S h => ?_) _ _ ⟨[], lot, acc, _, .no, rfl, rfl, updM_same, Nat.le_refl _, fun s => ?_, kM _, rfl⟩
    · obtain ⟨dn, rl, nkds, N, y4, er, elot, mn, hnl, hng, kN, rfl⟩ := h
      cases rl with
      | nil => cases er
      | cons k rl =>
      injection er with er1 er2
      subst er1
      subst er2
      have hk := hlot k (by rw [elot]; simp)
      obtain ⟨y, hy, ey⟩ := spK_at hk
      have ldn : dn.length < 10000 := by
        have := congrArg List.length elot
        rw [List.length_append, List.length_cons] at this
        omega
      have hix : atI ((p.sps []).map spF) (k : Int) = some (spF y) := by
        rw [atI_some (by rw [List.length_map]; exact hk), List.getElem_map]
        rw [List.getElem?_eq_getElem hk] at hy
        injection hy with hy
        rw [hy]
      have ntN := kN _ _ nt.x
      refine ⟨_, _, ntN, rfl, _, _, rfl, hix, _, atI_nat (j := 0) rfl, rfl, pn, nkds, rfl, mn, key8_sp _, by rw [sizeLine_eq]; omega, ?_⟩
      refine hR _ ⟨dn ++ [k], rl, putN nkds (spD y.1) (.b true), _, _, rfl, by rw [elot, List.append_assoc]; rfl, updM_same, ?_, fun s => ?_, fun b m h => ?_, rfl⟩
      · rw [List.length_append]
        exact Nat.le_trans putN_le (by show _ ≤ acc.length + (dn.length + 1); omega)
      · rw [valN_put]
        have es : gvL (p.sps []) (exL (p.sps []) (dn ++ [k])) s = (gvL (p.sps []) (exL (p.sps []) dn) s || decide (s = y.1)) := by
          unfold gvL exL
          rw [List.map_append, List.map_cons, List.map_nil, ← ey, Bool.or_assoc]
          congr 1
          simp [List.mem_append]
        rw [es, ← hng s]
        by_cases e : s = y.1
        · subst e
          rw [if_pos rfl]
          simp
        · rw [if_neg (fun h => e (nk_sp_inj h))]
          simp [e]
      · show updM N pn _ b = _
        rw [updM_ne (fun e => by rw [e, nn'] at h; cases h)]
        exact kN b m h
    · obtain ⟨dn, rl, nkds, N, y4, er, elot, mn, hnl, hng, kN, rfl⟩ := h
      have e0 : rl = [] := List.map_eq_nil_iff.mp er.symm
      subst e0
      rw [List.append_nil] at elot
      subst elot
      have ntN := kN _ _ nt.x
      exact ⟨_, _, ntN, rfl, rfl, _, _, ntN, rfl, rfl, rfl, rfl, b, t, q, tq, st, rows, wk, W, p, κ, pn, none, nkds, _, told, rfl, bp.mono kN, κO, mn, hng, fun M' k' => ⟨spO_O _, qq M' fun b m h => k' b m (kN b m h)⟩⟩
    · rw [hv s, ← el]
      unfold gvL exL
      simp
end
end VL
set_option Elab.async false
set_option linter.all false
set_option pp.maxSteps 1500
set_option maxRecDepth 100000
set_option maxHeartbeats 1000000
namespace VL
open PySem PySem.Spec PyProof.Rows L2
theorem eqvAll_ix : ∀ (a b : List Nat), PyData.eqvAll (pys (a.map ixD)) (pys (b.map ixD)) = true → a = b
  | [], [], _ => rfl
  | [], _ :: _, h => by simp [pys, PyData.eqvAll] at h
  | _ :: _, [], h => by simp [pys, PyData.eqvAll] at h
  | x :: a, y :: b, h => by
    simp only [List.map_cons, pys, PyData.eqvAll, ixD, Da.py, PyData.eqv, Bool.and_eq_true] at h
    have h1 : (x : Int) = y := by simpa using h.1
    rw [eqvAll_ix a b h.2, show x = y by omega]
theorem eqv_sp {s t : Spot} (h : PyData.eqv (spD s).py (spD t).py = true) : s = t := by
  obtain ⟨p, a⟩ := s
  obtain ⟨p', a'⟩ := t
  simp only [spD, pathD, Da.py, pys, PyData.eqv, PyData.eqvAll, Bool.and_eq_true, Bool.and_true] at h
  have h1 := eqvAll_ix _ _ h.1
  subst h1
  have h2 : a = a' := by
    have h3 := h.2
    cases a <;> cases a' <;> simp [onD, ixD, Da.py, PyData.eqv] at h3 ⊢
    omega
  rw [h2]
theorem any_pys {ds : List Da} {f : PyData → Bool} : (pys ds).any f = ds.any fun d => f d.py := by
  induction ds with
  | nil => rfl
  | cons d ds ih => rw [pys, List.any_cons, List.any_cons, ih]
theorem sp_pd (s : Spot) : Pd (spD s) 2 := by
  refine .t fun d hd => ?_
  rcases List.mem_cons.mp hd with rfl | hd
  · refine .t fun d hd => ?_
    obtain ⟨k, _, rfl⟩ := List.mem_map.mp hd
    exact .i
  · rw [List.mem_singleton.mp hd]
    cases s.2
    · exact .n
    · exact .i
theorem sp_eqb (s : Spot) : (spD s).eqb = true := (sp_pd s).eqb (by decide)
theorem ex_eqb (ex : List Spot) : (Da.l (ex.map spD)).eqb = true := (Pd.l (n := 2) fun d hd => by
  obtain ⟨s, _, rfl⟩ := List.mem_map.mp hd
  exact sp_pd s).eqb (by decide)
theorem in_ex (s : Spot) (ex : List Spot) : ((pys (ex.map spD)).any fun z => PyData.eqv z (spD s).py) = decide (s ∈ ex) := by
  rw [any_pys, List.any_map, Bool.eq_iff_iff, List.any_eq_true, decide_eq_true_iff]
  constructor
  · rintro ⟨t, ht, e⟩
    have : t = s := eqv_sp e
    rwa [← this]
  · intro h
    exact ⟨s, h, eqv_self (sp_eqb s)⟩
theorem so_eqb (a : So) : (spO a).eqb = true := by
  cases a with
  | none => exact (Pd.n (n := 0)).eqb (by decide)
  | some s => exact sp_eqb s
/-- the note of a bound name stands among the spots -/
theorem name_sp {rows : List Tr} (path : List Nat) : ∀ (b : Bk) (ps : List (Da × Da)) (i k : Nat) (y : Da × Da), b.fitsB rows ps → ps[k]? = some y → y.1.isN = false → ((path, some (i + k)), b.xns.getD k false) ∈ b.sps path i
  | .nil, ps, i, k, y, h, hx, _ => by rw [Bk.fitsB] at h; subst h; simp at hx
  | .cons x xn q r, ps, i, k, y, h, hx, hn => by
    rw [Bk.fitsB] at h
    obtain ⟨p, pr', rfl, h1, h2, h3⟩ := h
    rw [Bk.sps, Bk.xns]
    cases k with
    | zero =>
      rw [List.getElem?_cons_zero] at hx
      cases hx
      rw [h1] at hn
      refine List.mem_append_left _ (List.mem_append_left _ ?_)
      cases x with
      | none => cases hn
      | some z => simp [ofName]
    | succ k =>
      rw [List.getElem?_cons_succ] at hx
      have ih := name_sp path r pr' (i + 1) k y h3 hx hn
      rw [List.getD_cons_succ]
      refine List.mem_append_right _ ?_
      rw [show i + (k + 1) = i + 1 + k by omega]
      exact ih
def sosD (b : So × So) : Da := .l [spO b.1, spO b.2]
section
variable {P : Program} {w : World} {K : PySem.W.Frag} {mg : Str → Option Value} {base : Heap}
def dc_l_still_in : DC := fun ds M Q _ => ∃ (z : Str) (bs : Bk) (es : List Da) (path : List Nat) (x : Wn) (below : List (So × So)) (ex : List Spot) (gv : Spot → Bool),
  ds = [.t (.s z :: bs.das (.t es)), pathD path, wnD x, .l (below.map sosD), .l (ex.map spD)] ∧ x.noted.length ≤ 3 ∧ x.steps.length ≤ 3 ∧ below.length = bs.len ∧ bs.len ≤ 3 ∧ (∀ s ∈ x.steps, s.1 < bs.len) ∧ (∀ k ∈ x.noted, k < bs.len ∧ gv (path, some k) = (bs.xns.getD k false || decide ((path, some k) ∈ ex))) ∧ Q (spO (stillIn gv path below x)) M
theorem ok_l_still_in (T : Tx P K mg)  : FnOk P w K mg base (L2.CX P w) 1 T.f_l_still_in T.fd_l_still_in ["_law_part_here", "_law_path", "_law_chosen", "_law_below", "_law_extra"] (spOf K dc_l_still_in) := by
  have sc := scLStillIn
  refine okD T.d_l_still_in.F sc (fun ds M Q X h => ?_) (fun cdv A outer s H E c ds M Qd Xd hn hr h hX => ?_)
  · obtain ⟨z, bs, es, path, x, below, ex, gv, rfl, _⟩ := h
    rfl
  have tk := takes_of (X := cxOf (L2.CX P w) P w K mg base NLStillIn "_law_still_in" (defScope sLStillIn) T.f_l_still_in cdv A outer s H E) rfl rfl rfl rfl
  refine ⟨_, (ss_cons (s_for (passes_of rfl) rfl (i_sq (v_ix (vv 2) vi (fun _ _ => rfl))) (pg_name (i := 5) sc.nd rfl (by first | exact .inl rfl | exact .inr rfl)) (lgN (i := 5) (by rw [hn]; decide))
  (ss_one (s_if (PW.pt (v_and (vt_cmp op_isN lIs (nomark _) (v_ix (v_ix (vv 0) (v_op op_addA lAdd (vv 5) vi) (fun _ _ => rfl)) vi (fun _ _ => rfl)) vn) (pw_and1 (vt_cmp (op_notInD (hu65 hr)) lNotInR (by rfl) (v_tup (v_cons (vv 1) (v_cons (vv 5) v_nil))) (vv 4)))))
  (ss_one (s_ret (v_tup (v_cons (vv 1) (v_cons (vv 5) v_nil)))))
  ss_nil)))
  (ss_cons (s_for (passes_of rfl) rfl (i_sq (v_ix (vv 2) vi (fun _ _ => rfl))) (pg_name (i := 6) sc.nd rfl (by first | exact .inl rfl | exact .inr rfl)) (lgN (i := 6) (by rw [hn]; decide))
  (ss_cons (s_set (i := 7) sc.nd rfl (by first | exact .inl rfl | exact .inr rfl) (by rw [hn]; decide) (v_ix (v_ix (vv 3) (v_ix (vv 6) vi (fun _ _ => rfl)) (fun _ _ => rfl)) (v_ct1 call_int1 lInt (by rfl) T.n_int (by decide +kernel) (v_cmp (op_eqA hr.units) lEq (nomark _) (v_ix (vv 6) vi (fun _ _ => rfl)) vs)) (fun _ _ => rfl)))
  (ss_one (s_if (vt_cmp op_notN lIsNot (nomark _) (vv 7) vn)
  (ss_one (s_ret (vv 7)))
  ss_nil))))
  (ss_one (s_ret vn)))), ?_⟩
  obtain ⟨z, bs, es, path, x, below, ex, gv, rfl, h3, h4, hbl, hl3, hst, hnt, qq⟩ := h
  refine ⟨_, atI_nat (j := 2) rfl, ?_⟩
  refine forGo_of (fun rest S => ∃ (rl : List Nat) (y5 : Slx), rest = rl.map nnD ∧ (∀ k ∈ rl, k ∈ x.noted) ∧ rl.length ≤ 3 ∧ bareN gv path x = rl.filter (fun k => !gv (path, some k)) ∧ S = ⟨[.val (.t (.s z :: bs.das (.t es))), .val (pathD path), .val (wnD x), .val (.l (below.map sosD)), .val (.l (ex.map spD)), y5, .no, .no], M⟩) (fun d ds S h R hR => ?_) (fun S h => ?_) _ _ ⟨x.noted, .no, rfl, fun k hk => hk, h3, rfl, rfl⟩
  · obtain ⟨rl, y5, e, hm, hrl, hb, rfl⟩ := h
    cases rl with
    | nil => cases e
    | cons k rl =>
    injection e with e1 e2
    subst e1
    subst e2
    obtain ⟨hk, hg⟩ := hnt k (hm k (by simp))
    obtain ⟨nx, nq, hd⟩ := das_xn (.t es) bs k hk
    rw [List.length_cons] at hrl
    have hix : atI (.s z :: bs.das (.t es)) ((k : Int) + 1) = some (.t [optS nx, noteD (.t es) (bs.xns.getD k false), nq.da (.t es)]) := by
      rw [show (k : Int) + 1 = ((k + 1 : Nat) : Int) by omega]
      exact atI_nat (j := k + 1) (by rw [List.getElem?_cons_succ]; exact hd)
    refine ⟨_, hix, _, atI_nat (j := 1) rfl, ?_⟩
    have go : gv (path, some k) = true → R ⟨[.val (.t (.s z :: bs.das (.t es))), .val (pathD path), .val (wnD x), .val (.l (below.map sosD)), .val (.l (ex.map spD)), .val (nnD k), .no, .no], M⟩ := fun g => hR _ ⟨rl, _, rfl, fun k' hk' => hm k' (by simp [hk']), by omega, by rw [hb, List.filter_cons_of_neg (by simp [g])], rfl⟩
    cases hb2 : bs.xns.getD k false with
    | true =>
      rw [hb2] at hg
      exact go (by rw [hg]; rfl)
    | false =>
      rw [hb2, Bool.false_or] at hg
      refine ⟨rfl, rfl, by show 2 ≤ sizeLine; decide, ex.map spD, rfl, sp_eqb (path, some k), ex_eqb ex, ?_⟩
      have ei := in_ex (path, some k) ex
      show if (!((pys (ex.map spD)).any fun z => PyData.eqv z (spD (path, some k)).py)) = true then _ else _
      rw [ei]
      cases hd2 : decide ((path, some k) ∈ ex) with
      | true => exact go (by rw [hg, hd2])
      | false =>
        rw [hd2] at hg
        refine ⟨rfl, rfl, by show 2 ≤ sizeLine; decide, rfl, ?_⟩
        have e1 : bareN gv path x = k :: rl.filter (fun k => !gv (path, some k)) := by rw [hb, List.filter_cons_of_pos (by simp [hg])]
        have := qq
        unfold stillIn at this
        rw [e1] at this
        exact this
  · obtain ⟨rl, y5, e, hm, hrl, hb, rfl⟩ := h
    have e0 : rl = [] := List.map_eq_nil_iff.mp e.symm
    subst e0
    have qq' := qq
    unfold stillIn at qq'
    rw [hb] at qq'
    have qq2 : Qd (spO (x.steps.findSome? (stepS below))) M := qq'
    refine ⟨_, atI_nat (j := 1) rfl, ?_⟩
    refine forGo_of (fun rest S => ∃ (rl : List (Nat × Bool)) (y6 y7 : Slx), rest = rl.map snD ∧ (∀ s ∈ rl, s ∈ x.steps) ∧ x.steps.findSome? (stepS below) = rl.findSome? (stepS below) ∧ S = ⟨[.val (.t (.s z :: bs.das (.t es))), .val (pathD path), .val (wnD x), .val (.l (below.map sosD)), .val (.l (ex.map spD)), y5, y6, y7], M⟩) (fun d ds S h R hR => ?_) (fun S h => ?_) _ _ ⟨x.steps, .no, .no, rfl, fun s hs => hs, rfl, rfl⟩
    · obtain ⟨rl, y6, y7, e, hm, hfs, rfl⟩ := h
      cases rl with
      | nil => cases e
      | cons s rl =>
      injection e with e1 e2
      subst e1
      subst e2
      have hs := hst s (hm s (by simp))
      have hlt : s.1 < below.length := by omega
      have hbx : atI (below.map sosD) (s.1 : Int) = some (sosD (below.getD s.1 (none, none))) := by
        rw [atI_some (by rw [List.length_map]; exact hlt), List.getElem_map, List.getD_eq_getElem?_getD, List.getElem?_eq_getElem hlt]
        rfl
      refine ⟨_, atI_nat (j := 0) rfl, _, _, rfl, hbx, _, atI_nat (j := 1) rfl, .inl ⟨rfl, rfl, rfl, ?_⟩⟩
      rw [found_eq]
      have hsx : stepS below s = isS (below.getD s.1 (none, none)) s.2 := rfl
      have fin : ∀ (so : So), so = stepS below s → (match so with | none => R ⟨[.val (.t (.s z :: bs.das (.t es))), .val (pathD path), .val (wnD x), .val (.l (below.map sosD)), .val (.l (ex.map spD)), y5, .val (snD s), .val .n], M⟩ | some a => Qd (spD a) M) := fun so hso => by
        rw [List.findSome?_cons, ← hso] at hfs
        cases so with
        | none => exact hR _ ⟨rl, _, _, rfl, fun s' hs' => hm s' (by simp [hs']), hfs, rfl⟩
        | some a =>
          rw [hfs] at qq2
          exact qq2
      cases e2 : s.2 with
      | true =>
        obtain ⟨so, hso⟩ : ∃ so, so = (below.getD s.1 (none, none)).2 := ⟨_, rfl⟩
        refine ⟨_, spO so, rfl, by rw [hso]; exact atI_nat (j := 1) rfl, spO_O _, ?_⟩
        have h2 := fin so (by rw [hso, hsx, e2]; rfl)
        cases so with
        | none => exact h2
        | some a => exact ⟨rfl, h2⟩
      | false =>
        obtain ⟨so, hso⟩ : ∃ so, so = (below.getD s.1 (none, none)).1 := ⟨_, rfl⟩
        refine ⟨_, spO so, rfl, by rw [hso]; exact atI_nat (j := 0) rfl, spO_O _, ?_⟩
        have h2 := fin so (by rw [hso, hsx, e2]; rfl)
        cases so with
        | none => exact h2
        | some a => exact ⟨rfl, h2⟩
    · obtain ⟨rl, y6, y7, e, hm, hfs, rfl⟩ := h
      have e0 : rl = [] := List.map_eq_nil_iff.mp e.symm
      subst e0
      rw [hfs] at qq2
      exact ⟨rfl, qq2⟩
def dc_l_first_spot : DC := fun ds M Q _ => ∃ (l : List So) (path : List Nat), ds = [.l (l.map spO), pathD path] ∧ l.length ≤ 1000 ∧ Q (spO (firstSp path l)) M
theorem ok_l_first_spot (T : Tx P K mg)  : FnOk P w K mg base (L2.CX P w) 1 T.f_l_first_spot T.fd_l_first_spot ["_law_rows", "_law_path"] (spOf K dc_l_first_spot) := by
  have sc := scLFirstSpot
  refine okD T.d_l_first_spot.F sc (fun ds M Q X h => ?_) (fun cdv A outer s H E c ds M Qd Xd hn hr h hX => ?_)
  · obtain ⟨l, path, rfl, _⟩ := h
    rfl
  have tk := takes_of (X := cxOf (L2.CX P w) P w K mg base NLFirstSpot "_law_first_spot" (defScope sLFirstSpot) T.f_l_first_spot cdv A outer s H E) rfl rfl rfl rfl
  refine ⟨_, (ss_cons (s_if (vt_cmp op_gt lC (nomark _) (v_cb1 call_lenA lLen (by rfl) T.n_len (by decide +kernel) (vOf (v_lc rfl sc.nd (i_sq (vv 0)) (blkOk_by (own := [("_law_spot", 2)]) (N := NLFirstSpot) (sc := defScope sLFirstSpot) (by decide +kernel)) (fun c1 e1 => (lgN (i := 2) (by rw [e1, hn]; decide))) (fun _ _ _ _ _ => (pg_name (i := 2) sc.nd rfl (by first | exact .inl rfl | exact .inr rfl))) (fun _ _ _ _ _ c1 e1 => ts_one (vt_cmp op_isN lIs (nomark _) (vv 2) vn)) (fun _ _ _ _ _ c1 e1 => (vv 2)) (by decide)))) vi)
  (ss_one (s_ret vn))
  ss_nil)
  (ss_cons (s_if (vt_cmp (op_eqA hr.units) lEq (nomark _) (v_cb1 call_lenA lLen (by rfl) T.n_len (by decide +kernel) (vv 0)) vi)
  (ss_one (s_ret (v_tup (v_cons (vv 1) (v_cons vn v_nil)))))
  ss_nil)
  (ss_one (s_ret (v_ix (vv 0) vi (fun _ _ => rfl)))))), ?_⟩
  obtain ⟨l, path, rfl, hl, qq⟩ := h
  refine lc_onF spO (fun a => a.isNone) (fun a ha R1 R2 hR => ?_) (fun a ha => by cases a <;> rfl) (szl hl) ?_
  · have hR' := hR _ (Agr.wipe.set (i := 2) (x := .val (spO a)) (by decide))
    cases a with
    | none => exact hR'
    | some s => exact hR'
  · have ef : decide ((0 : Int) < ((((l.filter fun a => a.isNone).map spO).length : Nat) : Int)) = l.any Option.isNone := by
      rw [List.length_map]
      clear qq hl
      induction l with
      | nil => rfl
      | cons a l ih =>
        rw [List.any_cons, ← ih, List.filter_cons]
        cases a with
        | none => simp
        | some s => simp
    show if decide ((0 : Int) < ((((l.filter fun a => a.isNone).map spO).length : Nat) : Int)) = true then _ else _
    rw [ef]
    unfold firstSp at qq
    cases ea : l.any Option.isNone with
    | true =>
      rw [ea] at qq
      exact ⟨rfl, qq⟩
    | false =>
      rw [ea] at qq
      cases l with
      | nil => exact .inl ⟨rfl, rfl, rfl, rfl, rfl, by show 2 ≤ sizeLine; decide, rfl, qq⟩
      | cons a l =>
        refine .inl ⟨rfl, rfl, rfl, ite2 (fun y => ?_) (fun _ => ⟨_, _, rfl, atI_nat (j := 0) rfl, spO_O a, qq⟩)⟩
        have y' : ((((a :: l).map spO).length : Nat) : Int) = 0 := of_decide_eq_true y
        rw [List.map_cons, List.length_cons] at y'
        omega
end
end VL
set_option Elab.async false
set_option linter.all false
set_option pp.maxSteps 1500
set_option maxRecDepth 100000
set_option maxHeartbeats 1000000
namespace VL
open PySem PySem.Spec PyProof.Rows L2
def Pt.stN (W : Str → List Wn) (gv : Spot → Bool) (path : List Nat) (nb : Bool) : Pt → So × So
  | .nm _ _ => (none, none)
  | .nd _ z bs => nodeS (W z) gv path (Bk.stls W gv path 0 bs) nb
theorem stN_eq (W : Str → List Wn) (gv : Spot → Bool) (path : List Nat) (q : Pt) {nb : Bool} (h : gv (path, none) = nb) : q.stN W gv path nb = q.stl W gv path := by
  cases q with
  | nm n z => rw [Pt.stN, Pt.stl]
  | nd n z bs => rw [Pt.stN, Pt.stl, h]
/-- the spots below a part -/
def Pt.belowS (path : List Nat) : Pt → List (Spot × Bool)
  | .nm _ _ => []
  | .nd _ _ bs => bs.sps path 0
theorem below_sub (path : List Nat) (q : Pt) : ∀ x ∈ q.belowS path, x ∈ q.sps path := by
  cases q with
  | nm n z => intro x hx; cases hx
  | nd n z bs => intro x hx; rw [Pt.sps]; exact List.mem_cons_of_mem _ hx
theorem root_sp (path : List Nat) (q : Pt) : ((path, none), q.noted) ∈ q.sps path := by
  cases q with
  | nm n z => rw [Pt.sps]; simp [Pt.noted]
  | nd n z bs => rw [Pt.sps]; simp [Pt.noted]
theorem kid_law {rows : List Tr} {W : Str → List Wn} {gv : Spot → Bool} (κ : Da) (path : List Nat) : ∀ (b : Bk) (ps : List (Da × Da)) (i j : Nat), j < b.len → b.ok → b.fitsB rows ps →
    ∃ (x : Option Str) (xn : Bool) (q : Pt), (b.das κ)[j]? = some (.t [optS x, noteD κ xn, q.da κ]) ∧ (b.stls W gv path i)[j]? = some (q.stl W gv (path ++ [i + j])) ∧ q.ok ∧ q.fitsT rows ∧ q.fu + 1 ≤ b.fu ∧ (∀ s ∈ q.sps (path ++ [i + j]), s ∈ b.sps path i)
  | .nil, ps, i, j, hj, _, _ => by rw [Bk.len] at hj; omega
  | .cons x xn q r, ps, i, j, hj, hok, hf => by
    rw [Bk.fitsB] at hf
    obtain ⟨p, pr', rfl, h1, h2, h3⟩ := hf
    simp only [Bk.ok] at hok
    rw [Bk.das, Bk.stls, Bk.fu, Bk.sps]
    cases j with
    | zero => exact ⟨x, xn, q, rfl, rfl, hok.2.2.1, h2, by omega, fun s hs => List.mem_append_left _ (List.mem_append_right _ hs)⟩
    | succ j =>
      rw [Bk.len] at hj
      obtain ⟨x', xn', q', a1, a2, a3, a4, a5, a6⟩ := kid_law (W := W) (gv := gv) κ path r pr' (i + 1) j (by omega) hok.2.2.2 h3
      rw [show i + 1 + j = i + (j + 1) by omega] at a2 a6
      exact ⟨x', xn', q', by rw [List.getElem?_cons_succ]; exact a1, by rw [List.getElem?_cons_succ]; exact a2, a3, a4, by omega, fun s hs => List.mem_append_right _ (a6 s hs)⟩
theorem range_get {α : Type} (l : List α) (d : α) : (List.range l.length).map (fun j => l.getD j d) = l := by
  refine List.ext_getElem? fun i => ?_
  rw [List.getElem?_map]
  by_cases hi : i < l.length
  · rw [List.getElem?_range hi, List.getElem?_eq_getElem hi]
    show some (l.getD i d) = _
    rw [List.getD_eq_getElem?_getD, List.getElem?_eq_getElem hi]
    rfl
  · rw [List.getElem?_eq_none (by rw [List.length_range]; omega), List.getElem?_eq_none (by omega)]
    rfl
section
variable {P : Program} {w : World} {K : PySem.W.Frag} {mg : Str → Option Value} {base : Heap}
def dc_l_stills : Nat → DC
  | 0 => fun _ _ _ _ => False
  | n + 1 => fun ds M Q _ => ∃ (q : Addr) (p : Pt) (es : List Da) (path : List Nat) (ex : List Spot) (gv : Spot → Bool) (wz : List (Key × Da)) (W : Str → List Wn) (rows : List Tr), ds = [.r q, p.da (.t es), pathD path, .l (ex.map spD)] ∧ M q = some (.dk none wz) ∧ p.ok ∧ p.fitsT rows ∧ WsGood rows W ∧ (∀ r ∈ rows, valD wz (.inr r.z) = some (.l ((W r.z).map wnD))) ∧
    (∀ r ∈ rows, (W r.z).length ≤ 1000) ∧ p.fu ≤ n + 1 ∧ path.length ≤ 1000 - p.fu ∧ p.fu ≤ 100 ∧ (∀ x ∈ p.belowS path, gv x.1 = (x.2 || decide (x.1 ∈ ex))) ∧ Q (sosD (p.stN W gv path (p.noted || decide ((path, none) ∈ ex)))) M
theorem step_l_stills (T : Tx P K mg) (G_l_first_spot : FnOk P w K mg base (L2.CX P w) 1 T.f_l_first_spot T.fd_l_first_spot ["_law_rows", "_law_path"] (spOf K dc_l_first_spot)) (G_l_still_in : FnOk P w K mg base (L2.CX P w) 1 T.f_l_still_in T.fd_l_still_in ["_law_part_here", "_law_path", "_law_chosen", "_law_below", "_law_extra"] (spOf K dc_l_still_in)) (n : Nat) (G_l_stills : FnOk P w K mg base (L2.CX P w) (1 + n) T.f_l_stills T.fd_l_stills ["_law_ways", "_law_part_here", "_law_path", "_law_extra"] (spOf K (dc_l_stills n))) : FnOk P w K mg base (L2.CX P w) (1 + n + 1) T.f_l_stills T.fd_l_stills ["_law_ways", "_law_part_here", "_law_path", "_law_extra"] (spOf K (dc_l_stills (n + 1))) := by
  have sc := scLStills
  refine okD T.d_l_stills.F sc (fun ds M Q X h => ?_) (fun cdv A outer s H E c ds M Qd Xd hn hr h hX => ?_)
  · obtain ⟨q, p, es, path, ex, gv, wz, W, rows, rfl, _⟩ := h
    rfl
  have tk := takes_of (X := cxOf (L2.CX P w) P w K mg base NLStills "_law_stills" (defScope sLStills) T.f_l_stills cdv A outer s H E) rfl rfl rfl rfl
  refine ⟨_, (ss_cons (s_if (vB (v_isi isi_str (by rfl) T.n_isinstance (by rfl) T.n_str (by decide +kernel) (vv 1)))
  (ss_one (s_ret (vOf (v_lst (v_cons vn (v_cons vn v_nil))))))
  ss_nil)
  (ss_cons (s_if (vt_cmp (op_eqA hr.units) lEq (nomark _) (v_ix (vv 1) vi (fun _ _ => rfl)) vs)
  (ss_cons (s_set (i := 4) sc.nd rfl (by first | exact .inl rfl | exact .inr rfl) (by rw [hn]; decide) (v_ix (v_call G_l_stills (hr.mono (by omega)) (by rfl) T.d_l_stills.g T.d_l_stills.F.kp T.d_l_stills.b tk hX (v_cons (vv 0) (v_cons (v_ix (vv 1) vi (fun _ _ => rfl)) (v_cons (vv 2) (v_cons (vv 3) v_nil))))) vi (fun _ _ => rfl)))
  (ss_one (s_ret (vOf (v_lst (v_cons (vv 4) (v_cons (vv 4) v_nil)))))))
  ss_nil)
  (ss_cons (s_valLc (i := 5) rfl sc.nd rfl rfl (by rw [hn]; decide) (sw_true rfl rfl rfl (by decide +kernel)) (i_rng2 (by rfl) T.n_range vi (v_cb1 call_lenA lLen (by rfl) T.n_len (by decide +kernel) (vv 1))) (blkOk_by (own := [("_law_k", 10)]) (N := NLStills) (sc := defScope sLStills) (by decide +kernel)) (fun c1 e1 => (lgN (i := 10) (by rw [e1, hn]; decide))) (fun _ _ _ _ _ => (pg_name (i := 10) sc.nd rfl (by first | exact .inl rfl | exact .inr rfl))) (fun _ _ _ _ _ _ _ => ts_nil) (fun _ _ _ _ _ c1 e1 => (v_call G_l_stills (hr.mono (by omega)) (by rfl) T.d_l_stills.g T.d_l_stills.F.kp T.d_l_stills.b takes0 xno (v_cons (vv 0) (v_cons (v_ix (v_ix (vv 1) (vv 10) (fun _ _ => rfl)) vi (fun _ _ => rfl)) (v_cons (v_op op_addA lAdd (vv 2) (v_tup (v_cons (v_op op_sub lI0 (vv 10) vi) v_nil))) (v_cons (vv 3) v_nil)))))) (by decide))
  (ss_cons (s_own (i := 6) sc.nd rfl (by first | exact .inl rfl | exact .inr rfl) (by rw [hn]; decide) (v_lst v_nil))
  (ss_cons (s_for (passes_of rfl) rfl (i_sq (v_dgetV (hu_of hr) (vv 0) (v_ix (vv 1) vi (fun _ _ => rfl)) (fun _ _ => rfl))) (pg_name (i := 7) sc.nd rfl (by first | exact .inl rfl | exact .inr rfl)) (lgN (i := 7) (by rw [hn]; decide))
  (ss_one (s_expr (v_met PySem.F.plainAttrs_list PySem.F.slot_list_append PySem.F.type_list_append mt_append tyL_ok lAppend (vv 6) (v_tup (v_cons (v_ix (vv 7) vi (fun _ _ => rfl)) (v_cons (v_call G_l_still_in (hr.mono (by omega)) (by rfl) T.d_l_still_in.g T.d_l_still_in.F.kp T.d_l_still_in.b tk hX (v_cons (vv 1) (v_cons (vv 2) (v_cons (vv 7) (v_cons (vv 5) (v_cons (vv 3) v_nil)))))) v_nil)))))))
  (ss_cons (s_set (i := 8) sc.nd rfl (by first | exact .inl rfl | exact .inr rfl) (by rw [hn]; decide) (v_call G_l_first_spot (hr.mono (by omega)) (by rfl) T.d_l_first_spot.g T.d_l_first_spot.F.kp T.d_l_first_spot.b tk hX (v_cons (vOf (v_lc rfl sc.nd (i_sq (vFz (vv 6))) (blkOk_by (own := [("_law_row", 11)]) (N := NLStills) (sc := defScope sLStills) (by decide +kernel)) (fun c1 e1 => (lgN (i := 11) (by rw [e1, hn]; decide))) (fun _ _ _ _ _ => (pg_name (i := 11) sc.nd rfl (by first | exact .inl rfl | exact .inr rfl))) (fun _ _ _ _ _ _ _ => ts_nil) (fun _ _ _ _ _ c1 e1 => (v_ix (vv 11) vi (fun _ _ => rfl))) (by decide))) (v_cons (vv 2) v_nil))))
  (ss_cons (s_set (i := 9) sc.nd rfl (by first | exact .inl rfl | exact .inr rfl) (by rw [hn]; decide) (v_call G_l_first_spot (hr.mono (by omega)) (by rfl) T.d_l_first_spot.g T.d_l_first_spot.F.kp T.d_l_first_spot.b tk hX (v_cons (vOf (v_lc rfl sc.nd (i_sq (vFz (vv 6))) (blkOk_by (own := [("_law_row", 11)]) (N := NLStills) (sc := defScope sLStills) (by decide +kernel)) (fun c1 e1 => (lgN (i := 11) (by rw [e1, hn]; decide))) (fun _ _ _ _ _ => (pg_name (i := 11) sc.nd rfl (by first | exact .inl rfl | exact .inr rfl))) (fun _ _ _ _ _ c1 e1 => ts_one (vt_cmp (op_eqA hr.units) lEq (nomark _) (v_ix (vv 11) vi (fun _ _ => rfl)) vs)) (fun _ _ _ _ _ c1 e1 => (v_ix (vv 11) vi (fun _ _ => rfl))) (by decide))) (v_cons (vv 2) v_nil))))
  (ss_cons (s_if (vt_cmp (op_inD (hu65 hr)) lInR (by rfl) (v_tup (v_cons (vv 2) (v_cons vn v_nil))) (vv 3))
  (ss_one (s_set (i := 9) sc.nd rfl (by first | exact .inl rfl | exact .inr rfl) (by rw [hn]; decide) (vv 8)))
  ss_nil)
  (ss_one (s_ret (vOf (v_lst (v_cons (vv 8) (v_cons (vv 9) v_nil)))))))))))))), ?_⟩
  obtain ⟨q, p, es, path, ex, gv, wz, W, rows, rfl, hM, hok, hfit, hW, hv, hwl, hh, hpl, hf9, hg, qq⟩ := h
  cases p with
  | nm b z =>
    cases b with
    | false =>
      rw [show (Pt.nm false z).da (.t es) = .s z by simp [Pt.da]]
      rw [Pt.stN] at qq
      exact ⟨rfl, rfl, by show 2 ≤ sizeLine; decide, rfl, qq⟩
    | true =>
      rw [Pt.fu] at hh
      obtain ⟨m, rfl⟩ : ∃ m, n = m + 1 := ⟨n - 1, by simp only [if_true] at hh; omega⟩
      rw [show (Pt.nm true z).da (.t es) = .t [.s colon, .s z, .t es] by simp [Pt.da]]
      rw [Pt.stN] at qq
      refine ⟨_, atI_nat (j := 0) rfl, .inl ⟨rfl, rfl, rfl, ite2 (fun y => ?_) (fun y => absurd (show eqF (Da.s colon) (Da.s (Str.ofString ":")) = true by decide +kernel) y)⟩⟩
      refine ⟨rfl, _, atI_nat (j := 1) rfl, rfl, rfl, rfl, q, .nm false z, es, path, ex, gv, wz, W, rows, by simp [Pt.da], hM, by simp only [Pt.ok] at hok ⊢; exact hok, hfit, hW, hv, hwl, by rw [Pt.fu]; simp, by rw [Pt.fu] at hpl ⊢; simp only [if_true, Bool.false_eq_true, if_false] at hpl ⊢; omega, by rw [Pt.fu]; simp, fun x hx => (by cases hx), ?_⟩
      rw [Pt.stN]
      exact ⟨_, _, rfl, atI_nat (j := 0) rfl, rfl, rfl, rfl, by show 2 ≤ sizeLine; decide, rfl, qq⟩
  | nd b z bs =>
    rw [Pt.fu] at hh hpl hf9
    cases b with
    | true =>
      obtain ⟨m, rfl⟩ : ∃ m, n = m + 1 := ⟨n - 1, by simp only [if_true] at hh; omega⟩
      rw [show (Pt.nd true z bs).da (.t es) = .t [.s colon, .t (.s z :: bs.das (.t es)), .t es] by simp [Pt.da]]
      rw [Pt.stN] at qq
      refine ⟨_, atI_nat (j := 0) rfl, .inl ⟨rfl, rfl, rfl, ite2 (fun y => ?_) (fun y => absurd (show eqF (Da.s colon) (Da.s (Str.ofString ":")) = true by decide +kernel) y)⟩⟩
      refine ⟨rfl, _, atI_nat (j := 1) rfl, rfl, rfl, rfl, q, .nd false z bs, es, path, ex, gv, wz, W, rows, by simp [Pt.da], hM, by simp only [Pt.ok] at hok ⊢; exact hok, hfit, hW, hv, hwl, by rw [Pt.fu]; simp only [Bool.false_eq_true, if_false, if_true] at hh ⊢; omega, by rw [Pt.fu]; simp only [if_true, Bool.false_eq_true, if_false] at hpl ⊢; omega, by rw [Pt.fu]; simp only [if_true, Bool.false_eq_true, if_false] at hf9 ⊢; omega, hg, ?_⟩
      rw [Pt.stN]
      exact ⟨_, _, rfl, atI_nat (j := 0) rfl, spO_O _, spO_O _, spO_O _, by show 2 ≤ sizeLine; decide, rfl, qq⟩
    | false =>
      rw [show (Pt.nd false z bs).da (.t es) = .t (.s z :: bs.das (.t es)) by simp [Pt.da]]
      simp only [Bool.false_eq_true, if_false] at hh hpl hf9
      simp only [Pt.ok] at hok
      obtain ⟨r0, h1, h2, hf⟩ := hfit
      subst h2
      have hlen := fitsB_len rows bs _ hf
      have le3 := hW.l _ h1
      have hl3 : bs.len ≤ 3 := by omega
      have hg : ∀ x ∈ bs.sps path 0, gv x.1 = (x.2 || decide (x.1 ∈ ex)) := hg
      refine ⟨_, atI_nat (j := 0) rfl, .inl ⟨rfl, rfl, rfl, ite2 (fun y => absurd (of_decide_eq_true y) (wd_colon hok.1)) (fun _ => ?_)⟩⟩
      have lk : ((((Da.s r0.z :: bs.das (.t es)).length : Nat) : Int) - 1).toNat = bs.len := by rw [List.length_cons, das_len]; omega
      let below := bs.stls W gv path 0
      have bl : below.length = bs.len := stls_len W gv path bs 0
      let D : Nat → Da := fun k => .i (1 + (k : Int))
      refine ⟨⟨by decide, by decide, by rw [List.length_cons, das_len]; omega, by rw [List.length_cons, das_len]; omega⟩, ?_⟩
      show lcGo _ _ _ _ _ (rngD 1 ((((Da.s r0.z :: bs.das (.t es)).length : Nat) : Int) - 1).toNat) [] _
      rw [lk]
      refine lc_onM D (fun k => sosD (below.getD k (none, none))) (l := List.range bs.len) (fun k hk R1 hR1 => ?_) (fun k hk => rfl) (by rw [List.length_range]; exact szl3 hl3) ?_
      · have hk' := List.mem_range.mp hk
        obtain ⟨x, xn, q1, a1, a2, a3, a4, a5, a6⟩ := kid_law (W := W) (gv := gv) (.t es) path bs _ 0 k hk' hok.2 hf
        rw [Nat.zero_add] at a2 a6
        obtain ⟨m, rfl⟩ : ∃ m, n = m + 1 := ⟨n - 1, by omega⟩
        have hix : atI (.s r0.z :: bs.das (.t es)) (1 + (k : Int)) = some (.t [optS x, noteD (.t es) xn, q1.da (.t es)]) := by
          rw [show (1 : Int) + (k : Int) = ((k + 1 : Nat) : Int) by omega]
          exact atI_nat (j := k + 1) (by rw [List.getElem?_cons_succ]; exact a1)
        refine ⟨rfl, _, hix, _, atI_nat (j := 2) rfl, q1.daO _, rfl, by show 1 ≤ sizeLine; decide, by rw [List.length_map, List.length_singleton, sizeLine_eq]; omega, rfl, rfl, ?_⟩
        have ep : Da.t (path.map ixD ++ [.i (1 + (k : Int) - 1)]) = pathD (path ++ [k]) := by
          rw [show (1 : Int) + (k : Int) - 1 = (k : Int) by omega]
          exact path_snoc path k
        rw [ep]
        refine ⟨q, q1, es, path ++ [k], ex, gv, wz, W, rows, rfl, hM, a3, a4, hW, hv, hwl, by omega, by rw [List.length_append, List.length_singleton]; omega, by omega, fun x hx => hg x (a6 x (below_sub _ _ x hx)), ?_⟩
        rw [stN_eq W gv (path ++ [k]) q1 (hg _ (a6 _ (root_sp (path ++ [k]) q1)))]
        have e2 : below.getD k (none, none) = q1.stl W gv (path ++ [k]) := by
          rw [List.getD_eq_getElem?_getD, a2]
          rfl
        rw [← e2]
        exact hR1 _ (Agr.wipe.set (i := 10) (x := .val (D k)) (by decide))
      · have e5 : (List.range bs.len).map (fun k => sosD (below.getD k (none, none))) = below.map sosD := by
          rw [← bl, show (List.range below.length).map (fun k => sosD (below.getD k (none, none))) = ((List.range below.length).map (fun k => below.getD k (none, none))).map sosD by rw [List.map_map]; rfl, range_get]
        rw [e5]
        let rwL : Wn → Da := fun x => .t [.s (dirS x.whole), spO (stillIn gv path below x)]
        refine ⟨rfl, by show 0 ≤ sizeLine; decide, fun q6 n6 => ?_⟩
        refine ⟨_, atI_nat (j := 0) rfl, wz, .inr r0.z, .l ((W r0.z).map wnD), dk_r hM, rfl, hv _ h1, ?_⟩
        have hw1 := hwl _ h1
        refine forGo_of (fun rest S => ∃ (dn rl : List Wn) (y4 y7 y10 : Slx), rest = rl.map wnD ∧ W r0.z = dn ++ rl ∧ S = ⟨[.val (.r q), .val (.t (.s r0.z :: bs.das (.t es))), .val (pathD path), .val (.l (ex.map spD)), y4, .val (.l (below.map sosD)), .own q6 (dn.map rwL), y7, .no, .no, y10, .no], M⟩) (fun d ds S h R hR => ?_) (fun S h => ?_) _ _ ⟨[], W r0.z, _, _, _, rfl, rfl, rfl⟩
        · obtain ⟨dn, rl, y4, y7, y10, e, ew, rfl⟩ := h
          cases rl with
          | nil => cases e
          | cons x rl =>
          injection e with e1 e2
          subst e1
          subst e2
          have hx : x ∈ W r0.z := by rw [ew]; simp
          have G := hW.g _ h1 x hx
          have ldn : dn.length < 1000 := by
            have := congrArg List.length ew
            rw [List.length_append, List.length_cons] at this
            omega
          have hnt : ∀ k ∈ x.noted, k < bs.len ∧ gv (path, some k) = (bs.xns.getD k false || decide ((path, some k) ∈ ex)) := fun k hk => by
            obtain ⟨y, hy, hn⟩ := G.nt k hk
            have h5 := name_sp path bs _ 0 k y hf hy hn
            rw [Nat.zero_add] at h5
            have := (List.getElem?_eq_some_iff.mp hy).1
            exact ⟨by omega, hg _ h5⟩
          refine ⟨⟨_, rfl⟩, _, atI_nat (j := 0) rfl, rfl, rfl, rfl, rfl, rfl, rfl, r0.z, bs, es, path, x, below, ex, gv, rfl, G.nl, by rw [G.len]; omega, bl, hl3, fun s hs => by have := G.lt s hs; omega, hnt, spO_O _, by show 2 ≤ sizeLine; decide, _, _, rfl, rfl, by rw [List.length_map, sizeLine_eq]; omega, rfl, ?_⟩
          exact hR _ ⟨dn ++ [x], rl, _, _, _, rfl, by rw [ew, List.append_assoc]; rfl, by rw [List.map_append]; rfl⟩
        · obtain ⟨dn, rl, y4, y7, y10, e, ew, rfl⟩ := h
          have e0 : rl = [] := List.map_eq_nil_iff.mp e.symm
          subst e0
          rw [List.append_nil] at ew
          rw [← ew]
          have hO : ∀ x : Wn, (rwL x).isO = false := fun _ => rfl
          have hlen : ((W r0.z).map (stillIn gv path below)).length ≤ 1000 := by rw [List.length_map]; exact hw1
          refine lc_onM rwL (fun x => spO (stillIn gv path below x)) (fun x hx R1 hR1 => ?_) (fun x hx => spO_O _) (szl hw1) ?_
          · exact ⟨_, atI_nat (j := 1) rfl, hR1 _ (Agr.wipe.set (i := 11) (x := .val (rwL x)) (by decide))⟩
          refine ⟨rfl, rfl, (W r0.z).map (stillIn gv path below), path, by rw [List.map_map]; rfl, hlen, spO_O _, ?_⟩
          refine lc_on rwL (fun x => if x.whole = true then some (spO (stillIn gv path below x)) else none) (fun x hx R1 R2 hR => ?_) (fun x hx y e => ?_) (szl hw1) ?_
          · have h2 := hR _ (Agr.wipe.set (i := 11) (x := .val (rwL x)) (by decide))
            refine ⟨_, atI_nat (j := 0) rfl, .inl ⟨rfl, rfl, rfl, ?_⟩⟩
            rw [found_eq]
            cases ex' : x.whole with
            | true =>
              rw [ex'] at h2
              exact ⟨_, atI_nat (j := 1) rfl, h2⟩
            | false =>
              rw [ex'] at h2
              exact h2
          · cases ex' : x.whole with
            | true => rw [ex'] at e; cases e; exact spO_O _
            | false => rw [ex'] at e; cases e
          have e7 : (W r0.z).filterMap (fun x => if x.whole = true then some (spO (stillIn gv path below x)) else none) = (((W r0.z).filter (·.whole)).map (stillIn gv path below)).map spO := by
            generalize W r0.z = ws
            induction ws with
            | nil => rfl
            | cons a l ih =>
              rw [List.filterMap_cons, List.filter_cons]
              cases a.whole with
              | true => simp only [if_true, List.map_cons]; rw [ih]
              | false => simp only [Bool.false_eq_true, if_false]; exact ih
          rw [e7]
          have hlen2 : (((W r0.z).filter (·.whole)).map (stillIn gv path below)).length ≤ 1000 := by
            rw [List.length_map]
            exact Nat.le_trans (List.length_filter_le _ _) hw1
          refine ⟨rfl, rfl, ((W r0.z).filter (·.whole)).map (stillIn gv path below), path, rfl, hlen2, spO_O _, ?_⟩
          refine ⟨rfl, rfl, by show 2 ≤ sizeLine; decide, ex.map spD, rfl, sp_eqb (path, none), ex_eqb ex, ?_⟩
          have ei := in_ex (path, none) ex
          show if ((pys (ex.map spD)).any fun z => PyData.eqv z (spD (path, none)).py) = true then _ else _
          rw [ei]
          have qq' : Qd (sosD (nodeS (W r0.z) gv path below (false || decide ((path, none) ∈ ex)))) M := qq
          rw [Bool.false_or] at qq'
          cases hd2 : decide ((path, none) ∈ ex) with
          | true =>
            rw [hd2] at qq'
            exact ⟨spO_O _, spO_O _, spO_O _, by show 2 ≤ sizeLine; decide, rfl, qq'⟩
          | false =>
            rw [hd2] at qq'
            exact ⟨spO_O _, spO_O _, by show 2 ≤ sizeLine; decide, rfl, qq'⟩
theorem ok_l_stills (T : Tx P K mg) (G_l_first_spot : FnOk P w K mg base (L2.CX P w) 1 T.f_l_first_spot T.fd_l_first_spot ["_law_rows", "_law_path"] (spOf K dc_l_first_spot)) (G_l_still_in : FnOk P w K mg base (L2.CX P w) 1 T.f_l_still_in T.fd_l_still_in ["_law_part_here", "_law_path", "_law_chosen", "_law_below", "_law_extra"] (spOf K dc_l_still_in)) : ∀ n, FnOk P w K mg base (L2.CX P w) (1 + n) T.f_l_stills T.fd_l_stills ["_law_ways", "_law_part_here", "_law_path", "_law_extra"] (spOf K (dc_l_stills n))
  | 0 => fn_no fun _ _ _ _ h => h
  | n + 1 => step_l_stills T G_l_first_spot G_l_still_in n (ok_l_stills T G_l_first_spot G_l_still_in n)
def dc_l_still : DC := fun ds M Q _ => ∃ (q : Addr) (p : Pt) (es : List Da) (ex : List Spot) (gv : Spot → Bool) (wz : List (Key × Da)) (W : Str → List Wn) (rows : List Tr) (told : Bool), ds = [.r q, p.da (.t es), .t [], .b told, .l (ex.map spD)] ∧ M q = some (.dk none wz) ∧ p.ok ∧ p.fitsT rows ∧ WsGood rows W ∧ (∀ r ∈ rows, valD wz (.inr r.z) = some (.l ((W r.z).map wnD))) ∧
    (∀ r ∈ rows, (W r.z).length ≤ 1000) ∧ p.fu ≤ 40 ∧ (∀ x ∈ p.sps [], gv x.1 = (x.2 || decide (x.1 ∈ ex))) ∧ Q (spO (isS (p.stl W gv []) (!told))) M
theorem ok_l_still (T : Tx P K mg) (G_l_stills : FnOk P w K mg base (L2.CX P w) 41 T.f_l_stills T.fd_l_stills ["_law_ways", "_law_part_here", "_law_path", "_law_extra"] (spOf K (dc_l_stills 40))) : FnOk P w K mg base (L2.CX P w) 42 T.f_l_still T.fd_l_still ["_law_ways", "_law_part_here", "_law_path", "_law_heard", "_law_extra"] (spOf K dc_l_still) := by
  have sc := scLStill
  refine okD T.d_l_still.F sc (fun ds M Q X h => ?_) (fun cdv A outer s H E c ds M Qd Xd hn hr h hX => ?_)
  · obtain ⟨q, p, es, ex, gv, wz, W, rows, told, rfl, _⟩ := h
    rfl
  have tk := takes_of (X := cxOf (L2.CX P w) P w K mg base NLStill "_law_still" (defScope sLStill) T.f_l_still cdv A outer s H E) rfl rfl rfl rfl
  refine ⟨_, (ss_one (s_ret (v_ix (v_call G_l_stills (hr.mono (by decide)) (by rfl) T.d_l_stills.g T.d_l_stills.F.kp T.d_l_stills.b tk hX (v_cons (vv 0) (v_cons (vv 1) (v_cons (vv 2) (v_cons (vv 4) v_nil))))) (v_ct1 call_int1 lInt (by rfl) T.n_int (by decide +kernel) (ve_not (vv 3))) (fun _ _ => rfl)))), ?_⟩
  obtain ⟨q, p, es, ex, gv, wz, W, rows, told, rfl, hM, hok, hfit, hW, hv, hwl, hh, hg, qq⟩ := h
  refine ⟨rfl, p.daO _, rfl, rfl, q, p, es, [], ex, gv, wz, W, rows, rfl, hM, hok, hfit, hW, hv, hwl, hh, by simp, by omega, fun x hx => hg x (below_sub [] p x hx), ?_⟩
  rw [stN_eq W gv [] p (hg _ (root_sp [] p))]
  cases told with
  | true => exact ⟨_, _, rfl, atI_nat (j := 0) rfl, spO_O _, qq⟩
  | false => exact ⟨_, _, rfl, atI_nat (j := 1) rfl, spO_O _, qq⟩
end
end VL
set_option Elab.async false
set_option linter.all false
set_option pp.maxSteps 1500
set_option maxRecDepth 100000
set_option maxHeartbeats 1000000
namespace VL
open PySem PySem.Spec PyProof.Rows L2
theorem node_none {ws : List Wn} {gv : Spot → Bool} {path : List Nat} {below : List (So × So)} (hne : ws ≠ []) (h : ∀ x ∈ ws, stillIn gv path below x = none) : nodeS ws gv path below true = (none, none) := by
  have : firstSp path (ws.map (stillIn gv path below)) = none := by
    unfold firstSp
    have e : (ws.map (stillIn gv path below)).any Option.isNone = true := by
      cases ws with
      | nil => exact absurd rfl hne
      | cons a l =>
        rw [List.map_cons, List.any_cons, h a (by simp)]
        rfl
    rw [if_pos e]
  unfold nodeS
  rw [this]
  rfl
mutual
theorem all_noted {rows : List Tr} {W : Str → List Wn} {gv : Spot → Bool} (G : WsGood rows W) : ∀ (q : Pt) (path : List Nat), q.fitsT rows → (∀ x ∈ q.sps path, gv x.1 = true) → q.stl W gv path = (none, none)
  | .nm n z, path, _, _ => by rw [Pt.stl]
  | .nd n z bs, path, hf, h => by
    obtain ⟨r, h1, rfl, h3⟩ := hf
    rw [Pt.sps] at h
    have h4 : ∀ x ∈ bs.sps path 0, gv x.1 = true := fun x hx => h x (List.mem_cons_of_mem _ hx)
    have h5 := all_notedB G bs _ path 0 h3 h4
    rw [Pt.stl, h ((path, none), n) (List.mem_cons_self ..)]
    refine node_none (G.n _ h1) fun x hx => ?_
    have g := G.g _ h1 x hx
    have e1 : bareN gv path x = [] := by
      unfold bareN
      rw [List.filter_eq_nil_iff]
      intro k hk
      obtain ⟨y, hy, hn⟩ := g.nt k hk
      have h6 := name_sp path bs _ 0 k y h3 hy hn
      rw [Nat.zero_add] at h6
      rw [h4 _ h6]
      decide
    unfold stillIn
    rw [e1]
    show x.steps.findSome? (stepS (bs.stls W gv path 0)) = none
    rw [List.findSome?_eq_none_iff]
    intro s _
    unfold stepS
    have : (bs.stls W gv path 0).getD s.1 (none, none) = (none, none) := by
      rw [List.getD_eq_getElem?_getD]
      cases e : (bs.stls W gv path 0)[s.1]? with
      | none => rfl
      | some y => exact h5 y (List.mem_of_getElem? e)
    rw [this]
    cases s.2 <;> rfl
theorem all_notedB {rows : List Tr} {W : Str → List Wn} {gv : Spot → Bool} (G : WsGood rows W) : ∀ (b : Bk) (ps : List (Da × Da)) (path : List Nat) (i : Nat), b.fitsB rows ps → (∀ x ∈ b.sps path i, gv x.1 = true) → ∀ y ∈ b.stls W gv path i, y = (none, none)
  | .nil, ps, path, i, _, _, y, hy => by rw [Bk.stls] at hy; cases hy
  | .cons x xn q r, ps, path, i, hf, h, y, hy => by
    rw [Bk.fitsB] at hf
    obtain ⟨p, pr', rfl, h1, h2, h3⟩ := hf
    rw [Bk.sps] at h
    rw [Bk.stls] at hy
    rcases List.mem_cons.mp hy with rfl | hy
    · exact all_noted G q _ h2 fun x hx => h x (List.mem_append_left _ (List.mem_append_right _ hx))
    · exact all_notedB G r pr' path (i + 1) h3 (fun x hx => h x (List.mem_append_right _ hx)) y hy
end
theorem gvL_full (sps : List (Spot × Bool)) : ∀ x ∈ sps, gvL sps (exL sps (List.range sps.length)) x.1 = true := fun x hx => by
  unfold gvL exL
  obtain ⟨k, hk, e⟩ := List.mem_iff_getElem.mp hx
  have : x.1 ∈ (List.range sps.length).map (spK sps) := by
    refine List.mem_map.mpr ⟨k, List.mem_range.mpr hk, ?_⟩
    unfold spK
    rw [List.getD_eq_getElem?_getD, List.getElem?_map, List.getElem?_eq_getElem hk, e]
    rfl
  rw [decide_eq_true this, Bool.or_true]
def lotD (l : List Nat) : Da := .l (l.map nnD)
section
variable {P : Program} {w : World} {K : PySem.W.Frag} {mg : Str → Option Value} {base : Heap}
def dc_l_agrees (P : Program) (w : World) (CN CB CT CS : Addr) : DC := fun ds M Q _ => ∃ (x b t q tq qw : Addr) (st : Da) (rows : List Tr) (wk wz : List (Key × Da)) (W : Str → List Wn) (p : Pt) (es : List Da) (ks : List Int) (lots : List (List Nat)),
  ds = [.r x, .r qw, p.da (.t es), .l (lots.map lotD), .l ((p.sps []).map fun y => spD y.1)] ∧ NotesAt CN M x b p (.t es) ks ∧ BkPr CB CT M b t q tq st rows wk W p ∧ M qw = some (.dk none wz) ∧ p.ok ∧ WsGood rows W ∧ (∀ r ∈ rows, valD wz (.inr r.z) = some (.l ((W r.z).map wnD))) ∧ p.fu ≤ 40 ∧ lots.length ≤ 100 ∧ (∀ l ∈ lots, l.length ≤ 2000 ∧ ∀ k ∈ l, k < (p.sps []).length) ∧
  ∀ (M' : Mx), (∀ b m, M b = some m → M' b = some m) → Q (.b true) M'
theorem ok_l_agrees (T : Tx P K mg) (G_Notes_still : FnOk P w K mg base (L2.CX P w) 7 T.f_Notes_still T.fd_Notes_still ["self", "lot", "told"] (spOf K (dc_Notes_still P w T.C_Notes T.C_Book T.C_Table T.C_Stock))) (G_l_still : FnOk P w K mg base (L2.CX P w) 42 T.f_l_still T.fd_l_still ["_law_ways", "_law_part_here", "_law_path", "_law_heard", "_law_extra"] (spOf K dc_l_still)) : FnOk P w K mg base (L2.CX P w) 43 T.f_l_agrees T.fd_l_agrees ["_law_notes", "_law_ways", "_law_program", "_law_lots", "_law_every"] (spOf K (dc_l_agrees P w T.C_Notes T.C_Book T.C_Table T.C_Stock)) := by
  have sc := scLAgrees
  refine okD T.d_l_agrees.F sc (fun ds M Q X h => ?_) (fun cdv A outer s H E c ds M Qd Xd hn hr h hX => ?_)
  · obtain ⟨x, b, t, q, tq, qw, st, rows, wk, wz, W, p, es, ks, lots, rfl, _⟩ := h
    rfl
  have tk := takes_of (X := cxOf (L2.CX P w) P w K mg base NLAgrees "_law_agrees" (defScope sLAgrees) T.f_l_agrees cdv A outer s H E) rfl rfl rfl rfl
  refine ⟨_, (ss_cons (s_for (passes_of rfl) rfl (i_sq (vv 3)) (pg_name (i := 5) sc.nd rfl (by first | exact .inl rfl | exact .inr rfl)) (lgN (i := 5) (by rw [hn]; decide))
  (ss_cons (s_valLc (i := 6) rfl sc.nd rfl rfl (by rw [hn]; decide) (sw_true rfl rfl rfl (by decide +kernel)) (i_sq (vv 5)) (blkOk_by (own := [("_law_k", 8)]) (N := NLAgrees) (sc := defScope sLAgrees) (by decide +kernel)) (fun c1 e1 => (lgN (i := 8) (by rw [e1, hn]; decide))) (fun _ _ _ _ _ => (pg_name (i := 8) sc.nd rfl (by first | exact .inl rfl | exact .inr rfl))) (fun _ _ _ _ _ _ _ => ts_nil) (fun _ _ _ _ _ c1 e1 => (v_ix (vv 4) (vv 8) (fun _ _ => rfl))) (by decide))
  (ss_cons (s_if (vt_cmp (op_neA hr.units) lNe (nomark _) (v_methE G_Notes_still (hr.mono (by decide)) T.c_Notes.cl T.d_Notes_still.m T.d_Notes_still.b rpa_bl tk hX (vv 0) (v_cons (v_ct1 call_tupleA lTuple (by rfl) T.n_tuple (by decide +kernel) (vv 5)) v_nil)) (v_call G_l_still (hr.mono (by decide)) (by rfl) T.d_l_still.g T.d_l_still.F.kp T.d_l_still.b tk hX (v_cons (vv 1) (v_cons (vv 2) (v_cons (v_tup v_nil) (v_cons vb (v_cons (vv 6) v_nil)))))))
  (ss_one (s_ret vb))
  ss_nil)
  (ss_one (s_if (vt_cmp (op_neA hr.units) lNe (nomark _) (v_methK G_Notes_still (hr.mono (by decide)) T.c_Notes.cl T.d_Notes_still.m T.d_Notes_still.kb tk hX (vv 0) (v_cons (v_ct1 call_tupleA lTuple (by rfl) T.n_tuple (by decide +kernel) (vv 5)) v_nil) (v_kcons vb v_knil)) (v_call G_l_still (hr.mono (by decide)) (by rfl) T.d_l_still.g T.d_l_still.F.kp T.d_l_still.b tk hX (v_cons (vv 1) (v_cons (vv 2) (v_cons (v_tup v_nil) (v_cons vb (v_cons (vv 6) v_nil)))))))
  (ss_one (s_ret vb))
  ss_nil)))))
  (ss_cons (s_set (i := 7) sc.nd rfl (by first | exact .inl rfl | exact .inr rfl) (by rw [hn]; decide) (v_ct1 call_tupleA lTuple (by rfl) T.n_tuple (by decide +kernel) (vOf (v_lc rfl sc.nd (i_rng1 (by rfl) T.n_range (v_cb1 call_lenA lLen (by rfl) T.n_len (by decide +kernel) (vv 4))) (blkOk_by (own := [("_law_k", 8)]) (N := NLAgrees) (sc := defScope sLAgrees) (by decide +kernel)) (fun c1 e1 => (lgN (i := 8) (by rw [e1, hn]; decide))) (fun _ _ _ _ _ => (pg_name (i := 8) sc.nd rfl (by first | exact .inl rfl | exact .inr rfl))) (fun _ _ _ _ _ _ _ => ts_nil) (fun _ _ _ _ _ c1 e1 => (vv 8)) (by decide)))))
  (ss_one (s_ret (ve_and (v_cmp op_isN lIs (nomark _) (v_methE G_Notes_still (hr.mono (by decide)) T.c_Notes.cl T.d_Notes_still.m T.d_Notes_still.b rpa_bl tk hX (vv 0) (v_cons (vv 7) v_nil)) vn) (pe_one (v_cmp op_isN lIs (nomark _) (v_methK G_Notes_still (hr.mono (by decide)) T.c_Notes.cl T.d_Notes_still.m T.d_Notes_still.kb tk hX (vv 0) (v_cons (vv 7) v_nil) (v_kcons vb v_knil)) vn))))))), ?_⟩
  obtain ⟨x, b, t, q, tq, qw, st, rows, wk, wz, W, p, es, ks, lots, rfl, nt, bp, mz, hok, hW, hv, hfu, hll, hlots, qq⟩ := h
  have hsl := sps_len p []
  have hc := bp.cnt
  have hnd : ((p.sps []).map (·.1)).Nodup := sps_nodup p []
  have pO := p.daO (.t es)
  refine forGo_of (fun rest S => ∃ (rl : List (List Nat)) (N : Mx) (y5 y6 y8 : Slx), rest = rl.map lotD ∧ (∀ l ∈ rl, l ∈ lots) ∧ (∀ b m, M b = some m → N b = some m) ∧ S = ⟨[.val (.r x), .val (.r qw), .val (p.da (.t es)), .val (.l (lots.map lotD)), .val (.l ((p.sps []).map fun y => spD y.1)), y5, y6, .no, y8], N⟩) (fun d ds S h R hR => ?_) (fun S h => ?_) _ _ ⟨lots, M, .no, .no, .no, rfl, fun l hl => hl, fun _ _ h => h, rfl⟩
  · obtain ⟨rl, N, y5, y6, y8, e, hm, kN, rfl⟩ := h
    cases rl with
    | nil => cases e
    | cons lot rl =>
    injection e with e1 e2
    subst e1
    subst e2
    obtain ⟨h1, h2⟩ := hlots lot (hm lot (by simp))
    refine lc_onM nnD (fun k => spD (spK (p.sps []) k)) (l := lot) (fun k hk R1 hR1 => ?_) (fun k hk => rfl) (by rw [sizeLine_eq]; omega) ?_
    · have hk := h2 k hk
      have hix : atI ((p.sps []).map fun y => spD y.1) (k : Int) = some (spD (spK (p.sps []) k)) := by
        rw [atI_some (by rw [List.length_map]; exact hk), List.getElem_map]
        unfold spK
        rw [List.getD_eq_getElem?_getD, List.getElem?_map, List.getElem?_eq_getElem hk]
        rfl
      exact ⟨_, _, rfl, hix, hR1 _ (Agr.wipe.set (i := 8) (x := .val (nnD k)) (by decide))⟩
    · have e6 : lot.map (fun k => spD (spK (p.sps []) k)) = (exL (p.sps []) lot).map spD := by
        unfold exL
        rw [List.map_map]
        rfl
      rw [e6]
      have nt1 : NotesAt T.C_Notes N x b p (.t es) ks := ⟨kN _ _ nt.x⟩
      have bp1 := bp.mono kN
      have hg := gvL_sp hnd (exL (p.sps []) lot)
      refine ⟨rfl, _, nt1.x, rfl, rfl, x, b, t, q, tq, st, rows, wk, W, p, .t es, ks, lot, false, rfl, nt1, bp1, rfl, h2, by omega, fun N2 k2 => ?_⟩
      have k02 : ∀ b m, M b = some m → N2 b = some m := fun b m h => k2 _ _ (kN _ _ h)
      refine ⟨rfl, pO, by show 0 ≤ sizeLine; decide, rfl, rfl, rfl, qw, p, es, exL (p.sps []) lot, gvL (p.sps []) (exL (p.sps []) lot), wz, W, rows, false, rfl, k02 _ _ mz, hok, bp.fit, hW, hv, bp.wl, hfu, hg, ?_⟩
      refine rdNe_self (so_eqb _) ?_
      have nt2 : NotesAt T.C_Notes N2 x b p (.t es) ks := ⟨k02 _ _ nt.x⟩
      refine ⟨_, nt2.x, rfl, rfl, rfl, rfl, rfl, x, b, t, q, tq, st, rows, wk, W, p, .t es, ks, lot, true, rfl, nt2, bp.mono k02, rfl, h2, by omega, fun N3 k3 => ?_⟩
      have k03 : ∀ b m, M b = some m → N3 b = some m := fun b m h => k3 _ _ (k02 _ _ h)
      refine ⟨rfl, pO, by show 0 ≤ sizeLine; decide, rfl, rfl, rfl, qw, p, es, exL (p.sps []) lot, gvL (p.sps []) (exL (p.sps []) lot), wz, W, rows, true, rfl, k03 _ _ mz, hok, bp.fit, hW, hv, bp.wl, hfu, hg, ?_⟩
      refine rdNe_self (so_eqb _) ?_
      exact hR _ ⟨rl, N3, _, _, _, rfl, fun l hl => hm l (by simp [hl]), k03, rfl⟩
  · obtain ⟨rl, N, y5, y6, y8, e, hm, kN, rfl⟩ := h
    have el : ((p.sps []).map fun y => spD y.1).length = (p.sps []).length := List.length_map _
    let n := (p.sps []).length
    have nb : n ≤ 2000 := by show (p.sps []).length ≤ 2000; omega
    have h2 : ∀ k ∈ List.range n, k < (p.sps []).length := fun k hk => List.mem_range.mp hk
    have hg := gvL_full (p.sps [])
    have hnone := all_noted (gv := gvL (p.sps []) (exL (p.sps []) (List.range n))) hW p [] bp.fit hg
    refine ⟨by rw [el]; omega, by rw [el]; omega, ?_⟩
    rw [el]
    show lcGo _ _ _ _ _ (rngD 0 n) [] _
    have er : rngD 0 n = (List.range n).map nnD := by
      unfold rngD
      refine List.map_congr_left fun k _ => ?_
      show Da.i (0 + (k : Int)) = .i (k : Int)
      rw [Int.zero_add]
    rw [er]
    refine lc_onM nnD nnD (l := List.range n) (fun k hk R1 hR1 => ?_) (fun k hk => rfl) (by rw [List.length_range, sizeLine_eq]; omega) ?_
    · exact hR1 _ (Agr.wipe.set (i := 8) (x := .val (nnD k)) (by decide))
    have nt1 : NotesAt T.C_Notes N x b p (.t es) ks := ⟨kN _ _ nt.x⟩
    refine ⟨rfl, _, nt1.x, rfl, rfl, x, b, t, q, tq, st, rows, wk, W, p, .t es, ks, List.range n, false, rfl, nt1, bp.mono kN, rfl, h2, by rw [List.length_range]; omega, fun N2 k2 => ?_⟩
    have k02 : ∀ b m, M b = some m → N2 b = some m := fun b m h => k2 _ _ (kN _ _ h)
    rw [hnone]
    have nt2 : NotesAt T.C_Notes N2 x b p (.t es) ks := ⟨k02 _ _ nt.x⟩
    refine ⟨_, nt2.x, rfl, rfl, rfl, rfl, rfl, x, b, t, q, tq, st, rows, wk, W, p, .t es, ks, List.range n, true, rfl, nt2, bp.mono k02, rfl, h2, by rw [List.length_range]; omega, fun N3 k3 => ?_⟩
    have k03 : ∀ b m, M b = some m → N3 b = some m := fun b m h => k3 _ _ (k02 _ _ h)
    rw [hnone]
    exact ⟨rfl, qq N3 k03⟩
end
end VL
set_option Elab.async false
set_option linter.all false
set_option pp.maxSteps 60
set_option maxRecDepth 100000
set_option maxHeartbeats 1000000
namespace VL
open PySem PySem.Spec PyProof.Rows L2
structure Ad1 where
  b : Addr
  q : Addr
  w : Addr
  t : Addr
  tq : Addr
structure Mem29 (CB CT : Addr) (st : Da) (rk : List (Key × Da)) (N : Mx) (A : Ad1) (wk wz : List (Key × Da)) : Prop where
  k : BkAt CB wk N A.b A.t A.q
  z : N A.w = some (.dk none wz)
  tb : TbAt CT st rk N A.t A.tq
  d1 : A.q ≠ A.w
  d2 : A.q ≠ A.tq
  d3 : A.w ≠ A.tq
section
variable {CB CT : Addr} {st : Da} {rk : List (Key × Da)} {N N' : Mx} {A : Ad1} {wk wz : List (Key × Da)}
theorem Mem29.mono (h : Mem29 CB CT st rk N A wk wz) (k : ∀ b m, N b = some m → N' b = some m) : Mem29 CB CT st rk N' A wk wz :=
  ⟨⟨k _ _ h.k.b, k _ _ h.k.q⟩, k _ _ h.z, ⟨k _ _ h.tb.x, k _ _ h.tb.q⟩, h.d1, h.d2, h.d3⟩
theorem Mem29.putQ (h : Mem29 CB CT st rk N A wk wz) (wk' : List (Key × Da)) : Mem29 CB CT st rk (updM N A.q (.dk none wk')) A wk' wz := by
  have ins : ∀ {x : Addr} {C : Addr} {gs : List (Str × Da)}, N x = some (.ins C gs) → x ≠ A.q := fun hx e => by rw [e, h.k.q] at hx; cases hx
  exact ⟨⟨(updM_ne (ins h.k.b)).trans h.k.b, updM_same⟩, (updM_ne h.d1.symm).trans h.z, ⟨(updM_ne (ins h.tb.x)).trans h.tb.x, (updM_ne h.d2.symm).trans h.tb.q⟩, h.d1, h.d2, h.d3⟩
theorem Mem29.putW (h : Mem29 CB CT st rk N A wk wz) (wz' : List (Key × Da)) : Mem29 CB CT st rk (updM N A.w (.dk none wz')) A wk wz' := by
  have ins : ∀ {x : Addr} {C : Addr} {gs : List (Str × Da)}, N x = some (.ins C gs) → x ≠ A.w := fun hx e => by rw [e, h.z] at hx; cases hx
  exact ⟨⟨(updM_ne (ins h.k.b)).trans h.k.b, (updM_ne h.d1).trans h.k.q⟩, updM_same, ⟨(updM_ne (ins h.tb.x)).trans h.tb.x, (updM_ne h.d3.symm).trans h.tb.q⟩, h.d1, h.d2, h.d3⟩
structure Ad1.out (A : Ad1) (p : Addr) : Prop where
  b : A.b ≠ p
  q : A.q ≠ p
  w : A.w ≠ p
  t : A.t ≠ p
  tq : A.tq ≠ p
theorem Mem29.new (h : Mem29 CB CT st rk N A wk wz) {p : Addr} (hp : N p = none) : A.out p := by
  have ne : ∀ {x : Addr} {m : MO}, N x = some m → x ≠ p := fun hx e => by rw [e, hp] at hx; cases hx
  exact ⟨ne h.k.b, ne h.k.q, ne h.z, ne h.tb.x, ne h.tb.q⟩
theorem Mem29.tto (h : Mem29 CB CT st rk N A wk wz) {p : Addr} (o : A.out p) (t : Tto p N N') : Mem29 CB CT st rk N' A wk wz :=
  ⟨⟨(t.out _ o.b).trans h.k.b, (t.out _ o.q).trans h.k.q⟩, (t.out _ o.w).trans h.z, ⟨(t.out _ o.t).trans h.tb.x, (t.out _ o.tq).trans h.tb.q⟩, h.d1, h.d2, h.d3⟩
end
section
variable {P : Program} {w : World} {K : PySem.W.Frag} {mg : Str → Option Value} {base : Heap}
theorem fo_up {sh : List (Str × Str)} {lt : Str} {n : Nat} {f : Da} (h : Fo sh lt n f) : Fo sh lt (n + 1) f := by
  induction h with
  | lt h => exact .lt h
  | nd a b _ ih => exact .nd a b ih
theorem fo_bd {sh : List (Str × Str)} {lt : Str} {n : Nat} {f : Da} (h : Fo sh lt n f) : Bd f := by
  cases h with
  | lt h => exact .inr (.inl ⟨_, rfl⟩)
  | nd a b c => exact .inr (.inr ⟨_, rfl⟩)
theorem menu_pm : ∀ v ∈ [Str.ofString "+", Str.ofString "-+"], v.cps.toList.length ≤ 3 ∧ ∀ c ∈ v.cps.toList, c = 43 ∨ c = 45 := by decide +kernel
mutual
theorem fits_strip (rows : List Tr) : ∀ q : Pt, q.strip.fitsT rows → q.fitsT rows
  | .nm n z, h => trivial
  | .nd n z bs, h => by
    rw [Pt.strip] at h
    obtain ⟨r, h1, h2, h3⟩ := h
    exact ⟨r, h1, h2, fitsB_strip rows bs _ h3⟩
theorem fitsB_strip (rows : List Tr) : ∀ (b : Bk) (ps : List (Da × Da)), b.strip.fitsB rows ps → b.fitsB rows ps
  | .nil, ps, h => by rw [Bk.strip] at h; exact h
  | .cons x xn q r, ps, h => by
    rw [Bk.strip, Bk.fitsB] at h
    obtain ⟨p, pr, e, h1, h2, h3⟩ := h
    rw [Bk.fitsB]
    exact ⟨p, pr, e, h1, fits_strip rows q h2, fitsB_strip rows r pr h3⟩
end
mutual
theorem strip_ht1 : ∀ q : Pt, q.strip.ht = q.ht
  | .nm n z => by simp [Pt.strip, Pt.ht]
  | .nd n z bs => by rw [Pt.strip, Pt.ht, Pt.ht, strip_bht1 bs]
theorem strip_bht1 : ∀ b : Bk, b.strip.ht = b.ht
  | .nil => by simp [Bk.strip, Bk.ht]
  | .cons x xn q r => by rw [Bk.strip, Bk.ht, Bk.ht, strip_ht1 q, strip_bht1 r]
end
theorem empty_str0 : (Str.ofString "").cps.toList = [] := by decide +kernel
theorem fo_fk0 {sh : List (Str × Str)} (hs : Shp sh) : ∀ {n : Nat} {f : Da}, Fo sh (Str.ofString "") n f → Fk false f := by
  intro n f h
  induction h with
  | @lt n c hc =>
    rw [empty_str0] at hc
    simp at hc
  | @nd n z v fs hz hl _ ih => exact .nd (hs.wd _ hz) (by rw [hl]; exact hs.ar _ hz) ih
theorem tr_uniq : ∀ {rows : List Tr}, (rows.map Tr.z).Nodup → ∀ x ∈ rows, ∀ y ∈ rows, x.z = y.z → x = y
  | [], _, x, hx, _, _, _ => by cases hx
  | a :: l, nd, x, hx, y, hy, e => by
    rw [List.map_cons, List.nodup_cons] at nd
    rcases List.mem_cons.mp hx with hx | hx
    · rcases List.mem_cons.mp hy with hy | hy
      · rw [hx, hy]
      · exact absurd (List.mem_map.mpr ⟨y, hy, by rw [← e, hx]⟩) nd.1
    · rcases List.mem_cons.mp hy with hy | hy
      · exact absurd (List.mem_map.mpr ⟨x, hx, by rw [e, hy]⟩) nd.1
      · exact tr_uniq nd.2 x hx y hy e
theorem ok_law (T : Tx P K mg) (G_Book_init : FnOk P w K mg base (L2.CX P w) 1 T.f_Book_init T.fd_Book_init ["self", "table"] (spOf K (dc_Book_init T.C_Book))) (G_Book_setitem : FnOk P w K mg base (L2.CX P w) 5 T.f_Book_setitem T.fd_Book_setitem ["self", "sign", "ways"] (spOf K (dc_Book_setitem T.C_Book T.C_Table T.C_UnknownSign T.C_BadWay))) (G_Notes_init : FnOk P w K mg base (L2.CX P w) 8 T.f_Notes_init T.fd_Notes_init ["self", "book", "program", "prices"] (spOf K (dc_Notes_init T.C_Notes T.C_Book T.C_Table T.C_Stock T.C_BadPrices))) (G_l_agrees : FnOk P w K mg base (L2.CX P w) 43 T.f_l_agrees T.fd_l_agrees ["_law_notes", "_law_ways", "_law_program", "_law_lots", "_law_every"] (spOf K (dc_l_agrees P w T.C_Notes T.C_Book T.C_Table T.C_Stock))) (G_l_annotated : FnOk P w K mg base (L2.CX P w) 6 T.f_l_annotated T.fd_l_annotated ["_law_tape_here", "_law_part_here", "_law_kind"] (spOf K (dc_l_annotated 5))) (G_l_form : FnOk P w K mg base (L2.CX P w) 3 T.f_l_form T.fd_l_form ["_law_tape_here", "_law_shapes", "_law_letters", "_law_depth"] (spOf K (dc_l_form 2))) (G_l_part : FnOk P w K mg base (L2.CX P w) 5 T.f_l_part T.fd_l_part ["_law_tape_here", "_law_rules", "_law_names", "_law_depth"] (spOf K (dc_l_part 4))) (G_l_rule : FnOk P w K mg base (L2.CX P w) 4 T.f_l_rule T.fd_l_rule ["_law_tape_here", "_law_shapes", "_law_letters", "_law_most", "_law_depth"] (spOf K dc_l_rule)) (G_l_spots : FnOk P w K mg base (L2.CX P w) 14 T.f_l_spots T.fd_l_spots ["_law_part_here", "_law_path"] (spOf K (dc_l_spots 14))) (G_l_stock : FnOk P w K mg base (L2.CX P w) 3 T.f_l_stock T.fd_l_stock ["_law_tape_here", "_law_flat", "_law_menu"] (spOf K dc_l_stock)) (G_l_table : FnOk P w K mg base (L2.CX P w) 5 T.f_l_table T.fd_l_table ["_law_shapes", "_law_under", "_law_rules"] (spOf K (dc_l_table T.C_Table T.C_Stock))) (G_l_take : FnOk P w K mg base (L2.CX P w) 1 T.f_l_take T.fd_l_take ["_law_tape_here", "_law_many"] (spOf K dc_l_take)) (G_l_tape : FnOk P w K mg base (L2.CX P w) 2 T.f_l_tape T.fd_l_tape ["_law_script", "_law_k", "_law_size"] (spOf K dc_l_tape)) (G_l_way : FnOk P w K mg base (L2.CX P w) 2 T.f_l_way T.fd_l_way ["_law_tape_here", "_law_one"] (spOf K dc_l_way)) (G_l_words : FnOk P w K mg base (L2.CX P w) 2 T.f_l_words T.fd_l_words ["_law_tape_here", "_law_many"] (spOf K dc_l_words)) : FnOk P w K mg base (L2.CX P w) 44 T.f_law T.fd_law ["_law_script"] (spOf K dc_law) := by
  have sc := scLaw
  refine okD T.d_law.F sc (fun ds M Q X h => ?_) (fun cdv A outer s H E c ds M Qd Xd hn hr h hX => ?_)
  · obtain ⟨d, ns, rfl, _⟩ := h
    rfl
  have tk := takes_of (X := cxOf (L2.CX P w) P w K mg base NLaw "law" (defScope sLaw) T.f_law cdv A outer s H E) rfl rfl rfl rfl
  refine ⟨_, (ss_cons (s_set (i := 1) sc.nd rfl (by first | exact .inl rfl | exact .inr rfl) (by rw [hn]; decide) (v_call G_l_tape (hr.mono (by decide)) (by rfl) T.d_l_tape.g T.d_l_tape.F.kp T.d_l_tape.b tk hX (v_cons (vv 0) (v_cons vi (v_cons vi v_nil)))))
  (ss_cons (s_set (i := 2) sc.nd rfl (by first | exact .inl rfl | exact .inr rfl) (by rw [hn]; decide) (v_call G_l_stock (hr.mono (by decide)) (by rfl) T.d_l_stock.g T.d_l_stock.F.kp T.d_l_stock.b tk hX (v_cons (vv 1) (v_cons vb (v_cons (vOf (v_lst (v_cons vs (v_cons vs v_nil)))) v_nil)))))
  (ss_cons (s_set (i := 3) sc.nd rfl (by first | exact .inl rfl | exact .inr rfl) (by rw [hn]; decide) (v_call G_l_form (hr.mono (by decide)) (by rfl) T.d_l_form.g T.d_l_form.F.kp T.d_l_form.b tk hX (v_cons (vv 1) (v_cons (v_ix (vv 2) vi (fun _ _ => rfl)) (v_cons vs (v_cons vi v_nil))))))
  (ss_cons (s_set (i := 4) sc.nd rfl (by first | exact .inl rfl | exact .inr rfl) (by rw [hn]; decide) (v_call G_l_words (hr.mono (by decide)) (by rfl) T.d_l_words.g T.d_l_words.F.kp T.d_l_words.b tk hX (v_cons (v_call G_l_tape (hr.mono (by decide)) (by rfl) T.d_l_tape.g T.d_l_tape.F.kp T.d_l_tape.b tk hX (v_cons (vv 0) (v_cons vi (v_cons vi v_nil)))) (v_cons vi v_nil))))
  (ss_cons (s_set (i := 5) sc.nd rfl (by first | exact .inl rfl | exact .inr rfl) (by rw [hn]; decide) (v_call G_l_tape (hr.mono (by decide)) (by rfl) T.d_l_tape.g T.d_l_tape.F.kp T.d_l_tape.b tk hX (v_cons (vv 0) (v_cons vi (v_cons vi v_nil)))))
  (ss_cons (s_valLc (i := 6) rfl sc.nd rfl rfl (by rw [hn]; decide) (sw_true rfl rfl rfl (by decide +kernel)) (i_rng1 (by rfl) T.n_range (v_op op_addA lAdd vi (v_call G_l_take (hr.mono (by decide)) (by rfl) T.d_l_take.g T.d_l_take.F.kp T.d_l_take.b tk hX (v_cons (vv 5) (v_cons vi v_nil))))) (blkOk_by (own := [("_law_k", 19)]) (N := NLaw) (sc := defScope sLaw) (by decide +kernel)) (fun c1 e1 => (lgN (i := 19) (by rw [e1, hn]; decide))) (fun _ _ _ _ _ => (pg_name (i := 19) sc.nd rfl (by first | exact .inl rfl | exact .inr rfl))) (fun _ _ _ _ _ _ _ => ts_nil) (fun _ _ _ _ _ c1 e1 => (v_tup (v_cons (v_ix (vv 4) (vv 19) (fun _ _ => rfl)) (v_cons (v_call G_l_rule (hr.mono (by decide)) (by rfl) T.d_l_rule.g T.d_l_rule.F.kp T.d_l_rule.b takes0 xno (v_cons (vv 5) (v_cons (v_ix (vv 2) vi (fun _ _ => rfl)) (v_cons vs (v_cons (v_op op_addA lAdd vi (v_ct1 call_int1 lInt (by rfl) T.n_int (by decide +kernel) (v_cmp (op_eqA hr.units) lEq (nomark _) (vv 19) vi))) (v_cons vi v_nil)))))) v_nil)))) (by decide))
  (ss_cons (s_set (i := 7) sc.nd rfl (by first | exact .inl rfl | exact .inr rfl) (by rw [hn]; decide) (v_make G_Book_init (hr.mono (by decide)) T.m_Book_init (by rfl) T.c_Book.g T.d_Book_init.b tk hX (v_cons (v_call G_l_table (hr.mono (by decide)) (by rfl) T.d_l_table.g T.d_l_table.F.kp T.d_l_table.b tk hX (v_cons (v_ix (vv 2) vi (fun _ _ => rfl)) (v_cons (v_ix (vv 2) vi (fun _ _ => rfl)) (v_cons (vv 6) v_nil)))) v_nil)))
  (ss_cons (s_set (i := 8) sc.nd rfl (by first | exact .inl rfl | exact .inr rfl) (by rw [hn]; decide) (v_call G_l_tape (hr.mono (by decide)) (by rfl) T.d_l_tape.g T.d_l_tape.F.kp T.d_l_tape.b tk hX (v_cons (vv 0) (v_cons vi (v_cons vi v_nil)))))
  (ss_cons (s_set (i := 9) sc.nd rfl (by first | exact .inl rfl | exact .inr rfl) (by rw [hn]; decide) v_dnew)
  (ss_cons (s_for (passes_of rfl) rfl (i_sq (vv 6)) (pg_name (i := 10) sc.nd rfl (by first | exact .inl rfl | exact .inr rfl)) (lgN (i := 10) (by rw [hn]; decide))
  (ss_cons (s_set (i := 11) sc.nd rfl (by first | exact .inl rfl | exact .inr rfl) (by rw [hn]; decide) (v_op op_addA lAdd vi (v_call G_l_take (hr.mono (by decide)) (by rfl) T.d_l_take.g T.d_l_take.F.kp T.d_l_take.b tk hX (v_cons (vv 8) (v_cons vi v_nil)))))
  (ss_cons (s_putD (hu_of hr) (vOf (v_lc rfl sc.nd (i_rng1 (by rfl) T.n_range (vv 11)) (blkOk_by (own := [("_law_j", 17)]) (N := NLaw) (sc := defScope sLaw) (by decide +kernel)) (fun c1 e1 => (lgN (i := 17) (by rw [e1, hn]; decide))) (fun _ _ _ _ _ => (pg_name (i := 17) sc.nd rfl (by first | exact .inl rfl | exact .inr rfl))) (fun _ _ _ _ _ _ _ => ts_nil) (fun _ _ _ _ _ c1 e1 => (v_call G_l_way (hr.mono (by decide)) (by rfl) T.d_l_way.g T.d_l_way.F.kp T.d_l_way.b takes0 xno (v_cons (vv 8) (v_cons (v_ix (vv 10) vi (fun _ _ => rfl)) v_nil)))) (by decide))) (vv 9) (v_ix (vv 10) vi (fun _ _ => rfl)))
  (ss_one (s_ownPut T.d_Book_setitem.own T.c_Book.nq G_Book_setitem (hr.mono (by decide)) T.d_Book_setitem.b tk hX (vOf (v_list (by rfl) T.n_list (by decide +kernel) (v_dgetV (hu_of hr) (vv 9) (v_ix (vv 10) vi (fun _ _ => rfl)) (fun _ _ => rfl)))) (vv 7) (v_ix (vv 10) vi (fun _ _ => rfl)))))))
  (ss_cons (s_set (i := 8) sc.nd rfl (by first | exact .inl rfl | exact .inr rfl) (by rw [hn]; decide) (v_call G_l_tape (hr.mono (by decide)) (by rfl) T.d_l_tape.g T.d_l_tape.F.kp T.d_l_tape.b tk hX (v_cons (vv 0) (v_cons vi (v_cons vi v_nil)))))
  (ss_cons (s_set (i := 12) sc.nd rfl (by first | exact .inl rfl | exact .inr rfl) (by rw [hn]; decide) (v_call G_l_part (hr.mono (by decide)) (by rfl) T.d_l_part.g T.d_l_part.F.kp T.d_l_part.b tk hX (v_cons (vv 8) (v_cons (vv 6) (v_cons (v_call G_l_words (hr.mono (by decide)) (by rfl) T.d_l_words.g T.d_l_words.F.kp T.d_l_words.b tk hX (v_cons (v_call G_l_tape (hr.mono (by decide)) (by rfl) T.d_l_tape.g T.d_l_tape.F.kp T.d_l_tape.b tk hX (v_cons (vv 0) (v_cons vi (v_cons vi v_nil)))) (v_cons vi v_nil))) (v_cons (v_op op_addA lAdd vi (v_call G_l_take (hr.mono (by decide)) (by rfl) T.d_l_take.g T.d_l_take.F.kp T.d_l_take.b tk hX (v_cons (vv 8) (v_cons vi v_nil)))) v_nil))))))
  (ss_cons (s_set (i := 13) sc.nd rfl (by first | exact .inl rfl | exact .inr rfl) (by rw [hn]; decide) (v_call G_l_annotated (hr.mono (by decide)) (by rfl) T.d_l_annotated.g T.d_l_annotated.F.kp T.d_l_annotated.b tk hX (v_cons (vv 8) (v_cons (vv 12) (v_cons (vv 3) v_nil)))))
  (ss_cons (s_set (i := 14) sc.nd rfl (by first | exact .inl rfl | exact .inr rfl) (by rw [hn]; decide) (v_call G_l_spots (hr.mono (by decide)) (by rfl) T.d_l_spots.g T.d_l_spots.F.kp T.d_l_spots.b tk hX (v_cons (vv 13) (v_cons (v_tup v_nil) v_nil))))
  (ss_cons (s_set (i := 15) sc.nd rfl (by first | exact .inl rfl | exact .inr rfl) (by rw [hn]; decide) (v_call G_l_tape (hr.mono (by decide)) (by rfl) T.d_l_tape.g T.d_l_tape.F.kp T.d_l_tape.b tk hX (v_cons (vv 0) (v_cons vi (v_cons vi v_nil)))))
  (ss_cons (s_own (i := 16) sc.nd rfl (by first | exact .inl rfl | exact .inr rfl) (by rw [hn]; decide) (v_lst (v_cons (vOf (v_lst v_nil)) v_nil)))
  (ss_cons (s_for (passes_of rfl) rfl (i_rng1 (by rfl) T.n_range (v_call G_l_take (hr.mono (by decide)) (by rfl) T.d_l_take.g T.d_l_take.F.kp T.d_l_take.b tk hX (v_cons (vv 15) (v_cons vi v_nil)))) (pg_name (i := 17) sc.nd rfl (by first | exact .inl rfl | exact .inr rfl)) (lgN (i := 17) (by rw [hn]; decide))
  (ss_one (s_expr (v_met PySem.F.plainAttrs_list PySem.F.slot_list_append PySem.F.type_list_append mt_append tyL_ok lAppend (vv 16) (vOf (v_lc rfl sc.nd (i_rng1 (by rfl) T.n_range (v_cb1 call_lenA lLen (by rfl) T.n_len (by decide +kernel) (vv 14))) (blkOk_by (own := [("_law_k", 19)]) (N := NLaw) (sc := defScope sLaw) (by decide +kernel)) (fun c1 e1 => (lgN (i := 19) (by rw [e1, hn]; decide))) (fun _ _ _ _ _ => (pg_name (i := 19) sc.nd rfl (by first | exact .inl rfl | exact .inr rfl))) (fun _ _ _ _ _ c1 e1 => ts_one (vt_cmp (op_eqA hr.units) lEq (nomark _) (v_call G_l_take (hr.mono (by decide)) (by rfl) T.d_l_take.g T.d_l_take.F.kp T.d_l_take.b takes0 xno (v_cons (vv 15) (v_cons vi v_nil))) vi)) (fun _ _ _ _ _ c1 e1 => (vv 19)) (by decide)))))))
  (ss_cons (s_set (i := 18) sc.nd rfl (by first | exact .inl rfl | exact .inr rfl) (by rw [hn]; decide) (v_makeE G_Notes_init (hr.mono (by decide)) T.m_Notes_init (by rfl) T.c_Notes.g T.de_Notes_init (fun _ _ => rpa_n _ _) tk hX (v_cons (vv 7) (v_cons (vv 13) v_nil))))
  (ss_cons (s_if (v_not (vTr (v_call G_l_agrees (hr.mono (by decide)) (by rfl) T.d_l_agrees.g T.d_l_agrees.F.kp T.d_l_agrees.b tk hX (v_cons (vv 18) (v_cons (vv 9) (v_cons (vv 13) (v_cons (vFz (vv 16)) (v_cons (vv 14) v_nil))))))))
  (ss_one (s_ret vb))
  ss_nil)
  (ss_cons (s_set (i := 10) sc.nd rfl (by first | exact .inl rfl | exact .inr rfl) (by rw [hn]; decide) (v_ix (vv 6) (v_call G_l_take (hr.mono (by decide)) (by rfl) T.d_l_take.g T.d_l_take.F.kp T.d_l_take.b tk hX (v_cons (vv 15) (v_cons (v_cb1 call_lenA lLen (by rfl) T.n_len (by decide +kernel) (vv 6)) v_nil))) (fun _ _ => rfl)))
  (ss_cons (s_putD (hu_of hr) (vOf (v_catL (v_revl (v_dgetV (hu_of hr) (vv 9) (v_ix (vv 10) vi (fun _ _ => rfl)) (fun _ _ => rfl))) (vOf (v_lst (v_cons (v_call G_l_way (hr.mono (by decide)) (by rfl) T.d_l_way.g T.d_l_way.F.kp T.d_l_way.b tk hX (v_cons (vv 15) (v_cons (v_ix (vv 10) vi (fun _ _ => rfl)) v_nil))) v_nil))))) (vv 9) (v_ix (vv 10) vi (fun _ _ => rfl)))
  (ss_cons (s_ownPut T.d_Book_setitem.own T.c_Book.nq G_Book_setitem (hr.mono (by decide)) T.d_Book_setitem.b tk hX (vOf (v_list (by rfl) T.n_list (by decide +kernel) (v_dgetV (hu_of hr) (vv 9) (v_ix (vv 10) vi (fun _ _ => rfl)) (fun _ _ => rfl)))) (vv 7) (v_ix (vv 10) vi (fun _ _ => rfl)))
  (ss_one (s_ret (v_call G_l_agrees (hr.mono (by decide)) (by rfl) T.d_l_agrees.g T.d_l_agrees.F.kp T.d_l_agrees.b tk hX (v_cons (vv 18) (v_cons (vv 9) (v_cons (vv 13) (v_cons (v_revl (vv 16)) (v_cons (vv 14) v_nil)))))))))))))))))))))))))))))), ?_⟩
  obtain ⟨d, ns, rfl, hs, hl, q⟩ := h
  have dO : d.isO = false := by rcases hs with rfl | rfl <;> rfl
  have ne_of : ∀ {a b : Addr} {m : MO} {N : Mx}, N a = none → N b = some m → b ≠ a := fun h1 h2 e => by rw [e, h1] at h2; cases h2
  refine ⟨dO, rfl, rfl, d, ns, 0, 30, rfl, hs, hl, by decide, fun p M1 n1 t1 => ?_⟩
  refine ⟨rfl, rfl, rfl, rfl, rfl, by show 2 ≤ sizeLine; decide, rfl, p, _, [Str.ofString "+", Str.ofString "-+"], rfl, t1.tp, by decide, by decide, fun v hv => (menu_pm v hv).1, fun v hv => (menu_pm v hv).2, fun sh p1 p2 un M3 shs und _ st n2 h2p h2q hud => ⟨rfl, ?_⟩⟩
  have shp := shs.shp
  have d3 := st.dk
  refine ⟨rfl, _, atI_nat (j := 0) rfl, rfl, rfl, rfl, p, p1, sh, Str.ofString "", 1, rfl, st.ne, st.tp, st.dk, shp, by decide +kernel, by decide, fun κ M3' t3 hfo => ?_⟩
  have hκ := fo_fk0 shp hfo
  have hκz : κ.sz ≤ 1000 := Nat.le_trans (fo_sz shp hfo) (by decide)
  have d3' : M3' p1 = some (.dk none (shD sh)) := (t3.out p1 st.ne).trans st.dk
  have hud' : M3' p2 = some (.dk none (shD un)) := (t3.out p2 h2p).trans hud
  have kn : Knd sh κ := ⟨shp.nd, fun z v hm => by
    have := shp.ar _ hm
    rw [sizeLine_eq]
    rw [Array.length_toList] at this
    exact Nat.le_trans this (by decide), hκ, hκz, fo_fit hfo⟩
  obtain ⟨es, rfl⟩ := fk_t hκ
  refine ⟨rfl, dO, rfl, rfl, d, ns, 1, 9, rfl, hs, hl, by decide, fun p4 M4 n4 t4 => ⟨rfl, rfl, p4, 3, rfl, t4.tp, by decide, fun sg M5 t5 sl wn sw h10' => ⟨rfl, ?_⟩⟩⟩
  have n14 : p1 ≠ p4 := ne_of n4 d3'
  have n24 : p2 ≠ p4 := ne_of n4 hud'
  have d5 : M5 p1 = some (.dk none (shD sh)) := (t5.out p1 n14).trans ((t4.out p1 n14).trans d3')
  have u5 : M5 p2 = some (.dk none (shD un)) := (t5.out p2 n24).trans ((t4.out p2 n24).trans hud')
  refine ⟨dO, rfl, rfl, d, ns, 2, 60, rfl, hs, hl, by decide, fun p5 M6 n5 t6 => ⟨rfl, ?_⟩⟩
  have n15 : p1 ≠ p5 := ne_of n5 d5
  have n25 : p2 ≠ p5 := ne_of n5 u5
  have d6 : M6 p1 = some (.dk none (shD sh)) := (t6.out p1 n15).trans d5
  have u6 : M6 p2 = some (.dk none (shD un)) := (t6.out p2 n25).trans u5
  refine ⟨rfl, rfl, p5, 3, rfl, t6.tp, by decide, fun m M7 hm t7 => ⟨by omega, by omega, ?_⟩⟩
  rw [show (1 + (m : Int)).toNat = 1 + m by omega]
  show lcGo _ _ _ _ _ (rngD 0 (1 + m)) [] _
  apply via_tail (TOk := fun S => ∃ (rows : List Tr) (N : Mx) (A : Ad1) (p8 : Addr) (y19 : Slx), 1 ≤ rows.length ∧ rows.length ≤ 3 ∧ (rows.map Tr.z).Nodup ∧ (∀ r ∈ rows, Row20 sh r) ∧ Mem29 T.C_Book T.C_Table (stD T.C_Stock sh un) (rows.map Tr.k) N A [] [] ∧ Tp N p8 ∧ A.out p8 ∧
    S = ⟨[.val d, .val (.r p), .val (.t [.r p1, .r p2]), .val (.t es), .val (.l (sg.map .s)), .val (.r p5), .val (.l (rows.map Tr.d)), .val (.r A.b), .val (.r p8), .val (.r A.w), .no, .no, .no, .no, .no, .no, .no, .no, .no, y19], N⟩)
  case main =>
    intro tail
    refine lcGo_rng0 (fun k acc S => ∃ (rows : List Tr) (N : Mx) (y9 : Slx), acc = rows.map Tr.d ∧ rows.length = k ∧ (rows.map Tr.z) = sg.take k ∧ (∀ r ∈ rows, Row20 sh r) ∧ Tp N p5 ∧ N p1 = some (.dk none (shD sh)) ∧ N p2 = some (.dk none (shD un)) ∧ S = ⟨[.val d, .val (.r p), .val (.t [.r p1, .r p2]), .val (.t es), .val (.l (sg.map .s)), .val (.r p5), .no, .no, .no, .no, .no, .no, .no, .no, .no, .no, .no, .no, .no, y9], N⟩)
      (fun k acc S hk h R hR => ?_) (fun acc S h => ?_) _ _ ⟨[], M7, .no, rfl, rfl, rfl, by simp, t7.tp, (t7.out p1 n15).trans d6, (t7.out p2 n25).trans u6, rfl⟩
    · obtain ⟨rows, N, y9, rfl, hl7, hz, hro, tpN, dN, uN, rfl⟩ := h
      have hk5 : k < sg.length := by omega
      refine ⟨_, _, rfl, (by rw [atI_some (by rw [List.length_map]; exact hk5), List.getElem_map] : atI (sg.map Da.s) (k : Int) = some (.s sg[k])), rfl, ?_⟩
      refine ⟨rfl, _, atI_nat (j := 0) rfl, rfl, rfl, .inl ⟨rfl, rfl, rfl, rfl, rfl, p5, p1, sh, Str.ofString "AB", 2 + (if eqF (.i (k : Int)) (.i 0) = true then 1 else 0), 0, (by cases eqF (Da.i (k : Int)) (Da.i 0) <;> rfl), n15, tpN, dN, shp, by decide +kernel, (by split <;> omega), by decide, fun pls f N2 t' hlp hpl hf => ?_⟩⟩
      have hlp : pls.length ≤ 3 := by split at hlp <;> omega
      let pls' : List (Da × Da) := pls.map fun x => (optD' x.1, x.2)
      have e : Da.t [.t (pls.map plD), f] = ruleD pls' f := by
        show Da.t [.t (pls.map plD), f] = Da.t [.t ((pls.map fun x => (optD' x.1, x.2)).map pl2), f]
        have : pls.map plD = (pls.map fun x => (optD' x.1, x.2)).map pl2 := by rw [List.map_map]; rfl
        rw [this]
      have hpl' : ∀ x ∈ pls', (x.1 = .n ∨ Gf x.1) ∧ Gf x.2 := fun x hx => by
        obtain ⟨y, hy, rfl⟩ := List.mem_map.mp hx
        refine ⟨?_, fo_gf shp (fo_up (hpl y hy).f)⟩
        cases e : y.1 with
        | none => exact .inl rfl
        | some g => exact .inr (fo_gf shp (fo_up ((hpl y hy).b g e)))
      have hfi : ∀ x ∈ pls', (x.1 = .n ∨ fitB sh x.1 = true) ∧ fitB sh x.2 = true := fun x hx => by
        obtain ⟨y, hy, rfl⟩ := List.mem_map.mp hx
        refine ⟨?_, fo_fit (hpl y hy).f⟩
        cases e : y.1 with
        | none => exact .inl rfl
        | some g => exact .inr (fo_fit ((hpl y hy).b g e))
      have hbd : ∀ x ∈ pls', Bd x.1 := fun x hx => by
        obtain ⟨y, hy, rfl⟩ := List.mem_map.mp hx
        show Bd (optD' y.1)
        cases e : y.1 with
        | none => exact .inl rfl
        | some g => exact fo_bd ((hpl y hy).b g e)
      have hll : pls'.length ≤ 3 := by show (pls.map _).length ≤ 3; rw [List.length_map]; exact Nat.le_trans hlp (by decide)
      have wz : Wd sg[k] := sw _ (List.getElem_mem hk5)
      rw [e]
      refine ⟨rfl, by show 2 ≤ sizeLine; decide, rfl, by rw [List.length_map, sizeLine_eq]; omega, hR _ _ ⟨rows ++ [⟨sg[k], pls', f⟩], N2, _, by rw [List.map_append]; rfl, by rw [List.length_append, hl7]; rfl, ?_, fun r hr => ?_, t'.tp, (t'.out p1 n15).trans dN, (t'.out p2 n25).trans uN, rfl⟩⟩
      · rw [List.map_append, hz]
        exact List.take_append_getElem hk5
      · rcases List.mem_append.mp hr with hr | hr
        · exact hro r hr
        · rw [List.mem_singleton.mp hr]
          exact ⟨⟨wz, (rl_of (by omega) hpl' (fo_gf shp (fo_up hf))).1, fit_of hfi (fo_fit hf)⟩, hll, hbd⟩
    · obtain ⟨rows, N, y9, rfl, hl7, hz, hro, tpN, dN, uN, rfl⟩ := h
      have nd : (rows.map Tr.z).Nodup := by rw [hz]; exact wn.sublist (List.take_sublist _ _)
      refine ⟨rfl, _, atI_nat (j := 0) rfl, rfl, _, atI_nat (j := 1) rfl, rfl, rfl, p1, p2, sh, un, rows, rfl, shs, und, dN, uN, by omega, nd, fun r hr => (hro r hr).ok, fun t tq N1 nt tb kp => ?_⟩
      refine ⟨rfl, fun b1 nb1 => ⟨b1, t, rfl, updM_same, fun q1 NA nq1 bk1 out1 => ⟨rfl, rfl, dO, rfl, rfl, d, ns, 3, 90, rfl, hs, hl, by decide, fun p8 NB n8 t8 => ⟨rfl, fun w1 nw1 => ⟨rfl, tail _ ?_⟩⟩⟩⟩⟩
      have nb1' : N1 b1 = none := nb1
      have q1b : q1 ≠ b1 := fun e => by rw [e, show updM _ _ _ _ = _ from updM_same] at nq1; cases nq1
      have nq1' : N1 q1 = none := (updM_ne (M := N1) q1b).symm.trans nq1
      have kA : ∀ b m, N1 b = some m → NA b = some m := fun b m h => by
        rw [out1 b (ne_of nb1' h) (ne_of nq1' h)]
        exact (updM_ne (M := N1) (ne_of nb1' h)).trans h
      have n8' : NA p8 = none := n8
      have kB : ∀ b m, NA b = some m → NB b = some m := fun b m h => (t8.out b (ne_of n8' h)).trans h
      have nw1' : NB w1 = none := nw1
      have kW : ∀ b m, NB b = some m → updM NB w1 (.dk none []) b = some m := fun b m h => (updM_ne (ne_of nw1' h)).trans h
      obtain ⟨ts, hts, hzt⟩ := t8.tp
      exact ⟨rows, _, ⟨b1, q1, w1, t, tq⟩, p8, y9, by omega, by omega, nd, hro, ⟨⟨kW _ _ (kB _ _ bk1.b), kW _ _ (kB _ _ bk1.q)⟩, updM_same, ⟨kW _ _ (kB _ _ (kA _ _ tb.x)), kW _ _ (kB _ _ (kA _ _ tb.q))⟩, ne_of nw1' (kB _ _ bk1.q), (ne_of nq1' tb.q).symm, (ne_of nw1' (kB _ _ (kA _ _ tb.q))).symm⟩,
        ⟨ts, kW _ _ hts, hzt⟩, ⟨ne_of n8' bk1.b, ne_of n8' bk1.q, (ne_of nw1' hts).symm, ne_of n8' (kA _ _ tb.x), ne_of n8' (kA _ _ tb.q)⟩, rfl⟩
  case tail =>
  rintro S ⟨rows, N, A, p8, y19, r1, r3, nd, hro, mem, tp8, out8, rfl⟩
  have rkO : ∀ kd ∈ rows.map Tr.k, kd.2.isO = false := fun kd hk => by
    obtain ⟨x, _, rfl⟩ := List.mem_map.mp hk
    rfl
  apply via_tail (TOk := fun S => ∃ (wk wz : List (Key × Da)) (f : Str → List Wy) (N : Mx) (y8 y10 y11 y20 : Slx), Mem29 T.C_Book T.C_Table (stD T.C_Stock sh un) (rows.map Tr.k) N A wk wz ∧ Wd20 rows.length rows wk wz f ∧ (∀ x ∈ rows, (f x.z).length ≤ 2) ∧
    S = ⟨[.val d, .val (.r p), .val (.t [.r p1, .r p2]), .val (.t es), .val (.l (sg.map .s)), .val (.r p5), .val (.l (rows.map Tr.d)), .val (.r A.b), y8, .val (.r A.w), y10, y11, .no, .no, .no, .no, .no, y20, .no, y19], N⟩)
  case main =>
    intro tail
    refine forGo_of (fun rest S => ∃ (dn rr : List Tr) (wk wz : List (Key × Da)) (f : Str → List Wy) (N2 : Mx) (y11 y12 y16 : Slx), rest = rr.map Tr.d ∧ rows = dn ++ rr ∧ Mem29 T.C_Book T.C_Table (stD T.C_Stock sh un) (rows.map Tr.k) N2 A wk wz ∧ Tp N2 p8 ∧ Wd20 dn.length dn wk wz f ∧ (∀ x ∈ dn, (f x.z).length ≤ 2) ∧ S = ⟨[.val d, .val (.r p), .val (.t [.r p1, .r p2]), .val (.t es), .val (.l (sg.map .s)), .val (.r p5), .val (.l (rows.map Tr.d)), .val (.r A.b), .val (.r p8), .val (.r A.w), y11, y12, .no, .no, .no, .no, .no, y16, .no, y19], N2⟩)
      (fun d' ds S h R hR => ?_) (fun S h => ?_) _ _ ⟨[], rows, [], [], fun _ => [], N, .no, .no, .no, rfl, rfl, mem, tp8, ⟨by simp, by simp, by simp, by simp, by simp, by simp⟩, by simp, rfl⟩
    · obtain ⟨dn, rr, wk, wz, f, N2, y11, y12, y16, e1, er, mem2, tp2, wd, f2, rfl⟩ := h
      cases rr with
      | nil => cases e1
      | cons r rr =>
      cases e1
      have hr0 : r ∈ rows := by rw [er]; simp
      have hv := tr_val nd hr0
      have rp3 := (hro r hr0).p3
      have rO : ∀ x ∈ r.pls, x.1.isO = false := (hro r hr0).ok.rl.b
      have zl : r.z.length ≤ 12 := (hro r hr0).ok.wd.hi
      have hdn : dn.length < 3 := by
        rw [er, List.length_append, List.length_cons] at r3
        omega
      have nz : r.z ∉ dn.map Tr.z := by
        have nd2 := nd
        rw [er, List.map_append, List.map_cons] at nd2
        exact fun hm => (List.nodup_append.mp nd2).2.2 _ hm _ (List.mem_cons_self) rfl
      refine ⟨rfl, rfl, p8, 2, rfl, tp2, by decide, fun m2 N3 hm2 t3 => ⟨rfl, by omega, by omega, ?_⟩⟩
      rw [show (1 + (m2 : Int)).toNat = 1 + m2 by omega]
      show lcGo _ _ _ _ _ (rngD 0 (1 + m2)) [] _
      refine lcGo_rng0 (fun k2 acc S => ∃ (ws : List Wy) (N4 : Mx) (y16 : Slx), acc = ws.map Wy.d ∧ ws.length = k2 ∧ (∀ y ∈ ws, GoodY r.pls y) ∧ Tto p8 N2 N4 ∧ S = ⟨[.val d, .val (.r p), .val (.t [.r p1, .r p2]), .val (.t es), .val (.l (sg.map .s)), .val (.r p5), .val (.l (rows.map Tr.d)), .val (.r A.b), .val (.r p8), .val (.r A.w), .val r.d, .val (.i (1 + (m2 : Int))), .no, .no, .no, .no, .no, y16, .no, y19], N4⟩)
        (fun k2 acc S hk2 h R' hR' => ?_) (fun acc S h => ?_) _ _ ⟨[], N3, _, rfl, rfl, by simp, t3, rfl⟩
      · obtain ⟨ws, N4, y16, rfl, hl2, hws, tt, rfl⟩ := h
        refine ⟨rfl, _, atI_nat (j := 1) rfl, rfl, p8, r.pls, r.w, rfl, tt.tp, rp3, rO, fun y N5 t5 oky wy by' => ?_⟩
        refine ⟨rfl, by rw [List.length_map, sizeLine_eq]; omega, hR' _ _ ⟨ws ++ [y], N5, _, by rw [List.map_append]; rfl, by rw [List.length_append, hl2]; rfl, fun y' hy => ?_, tt.trans t5, rfl⟩⟩
        rcases List.mem_append.mp hy with hy | hy
        · exact hws y' hy
        · rw [List.mem_singleton.mp hy]; exact ⟨by', wy, oky⟩
      · obtain ⟨ws, N4, y16, rfl, hl2, hws, tt, rfl⟩ := h
        have mem4 := mem2.tto out8 tt
        have mem5 := mem4.putW (putD wz (.inr r.z) (.l (ws.map Wy.d)))
        have gw : GoodWs r ws := ⟨fun e => by rw [e] at hl2; simp at hl2; omega, by omega, hws⟩
        have wd5 := wd.put (dn' := dn ++ [r]) (z0 := r.z) (ws := ws) (fun x hx hz => by
          rcases List.mem_append.mp hx with hx | hx
          · exact hx
          · rw [List.mem_singleton.mp hx] at hz; exact absurd rfl hz) (fun x hx hz => by
          rcases List.mem_append.mp hx with hx | hx
          · exact absurd (List.mem_map.mpr ⟨x, hx, hz⟩) nz
          · rw [List.mem_singleton.mp hx]; exact gw)
        have f5 : ∀ x ∈ dn ++ [r], ((fun z => if z = r.z then ws else f z) x.z).length ≤ 2 := fun x hx => by
          show (if x.z = r.z then ws else f x.z).length ≤ 2
          by_cases e : x.z = r.z
          · rw [if_pos e]; omega
          · rw [if_neg e]
            rcases List.mem_append.mp hx with hx | hx
            · exact f2 x hx
            · rw [List.mem_singleton.mp hx] at e; exact absurd rfl e
        have lz := wd.lz
        have lk := wd.lk
        refine ⟨_, atI_nat (j := 0) rfl, rfl, A.w, wz, .inr r.z, rfl, mem4.z, rfl, by rw [sizeLine_eq]; omega, ?_⟩
        refine ⟨_, atI_nat (j := 0) rfl, _, .inr r.z, .l (ws.map Wy.d), dk_r mem5.z, rfl, by rw [valD_put, if_pos rfl], _, rfl, by rw [List.length_map, sizeLine_eq]; omega, ?_⟩
        refine ⟨_, atI_nat (j := 0) rfl, rfl, rfl, _, mem5.k.b, A.b, A.t, A.q, A.tq, _, _, wk, r.z, .l (ws.map Wy.d), ws, rfl, mem5.k, mem5.tb, Nat.le_trans zl (by decide), rkO, by omega, rfl, fun _ => rfl, by omega, fun y hy => (hws y hy).w, fun e => (by rw [hv] at e; cases e), fun d e => ?_⟩
        rw [hv] at e
        cases e
        refine ⟨r.pls, r.w, rfl, by omega, rO, fun _ => ?_, fun e => (by rw [List.all_eq_true.mpr fun y hy => (hws y hy).k] at e; cases e)⟩
        have mem6 := mem5.putQ (putD wk (.inr r.z) (.t (ws.map Wy.d)))
        obtain ⟨ts, hts, hzt⟩ := tt.tp
        exact hR _ ⟨dn ++ [r], rr, _, _, _, _, _, _, _, rfl, by rw [er]; simp, mem6, ⟨ts, (updM_ne out8.q.symm).trans ((updM_ne out8.w.symm).trans hts), hzt⟩, by rw [List.length_append, List.length_singleton]; exact wd5, f5, rfl⟩
    · obtain ⟨dn, rr, wk, wz, f, N2, y11, y12, y16, e1, er, mem2, tp2, wd, f2, rfl⟩ := h
      have e0 : rr = [] := by cases rr with | nil => rfl | cons a r => cases e1
      subst e0
      rw [List.append_nil] at er
      subst er
      exact tail _ ⟨wk, wz, f, N2, _, _, _, _, mem2, wd, f2, rfl⟩
  case tail =>
  rintro S ⟨wk, wz, f, N, y8, y10, y11, y20, mem, wd, f2, rfl⟩
  refine ⟨dO, rfl, rfl, d, ns, 4, 120, rfl, hs, hl, by decide, fun pa Na na ta => ⟨rfl, ?_⟩⟩
  have na' : N pa = none := na
  have memA := mem.tto (mem.new na') ta
  refine ⟨rfl, rfl, dO, rfl, rfl, d, ns, 5, 9, rfl, hs, hl, by decide, fun pb Nb nb tb' => ⟨rfl, rfl, pb, 3, rfl, tb'.tp, by decide, fun nm Nc tc nl nn nw _ => ?_⟩⟩
  have nb' : Na pb = none := nb
  obtain ⟨ts, hts, hzt⟩ := ta.tp
  have neab : pa ≠ pb := ne_of nb' hts
  have tpa : Tp Nc pa := ⟨ts, (tc.out pa neab).trans ((tb'.out pa neab).trans hts), hzt⟩
  have memC := (memA.tto (memA.new nb') tb').tto (memA.new nb') tc
  have outa := mem.new na'
  refine ⟨rfl, rfl, rfl, pa, 3, rfl, tpa, by decide, fun r Nd hr td => ?_⟩
  have memD := memC.tto outa td
  refine ⟨rfl, pa, rows, nm, 1 + r, by rw [show ((1 + r : Nat) : Int) = 1 + (r : Int) by omega]; rfl, td.tp, fun r hr => ⟨(hro r hr).ok.wd, (hro r hr).p3, (hro r hr).bd⟩, by omega, by omega, by omega, nw, (by show 1 + r ≤ 3; omega), fun q0 Ne te h1 h2 h3 h4 h5 => ?_⟩
  have memE := memD.tto outa te
  have ct0 : q0.count ≤ 60 := Nat.le_trans h3 (by
    have : r = 0 ∨ r = 1 ∨ r = 2 := by omega
    rcases this with rfl | rfl | rfl <;> decide)
  refine ⟨q0.daO .n, rfl, q0.daO .n, rfl, pa, q0, .t es, rfl, te.tp, h1, h2, (by show q0.ht ≤ 4; omega), by omega, rfl, fun q1 Ng tg hst hok => ?_⟩
  have memG := memE.tto outa tg
  have ht1 : q1.ht ≤ 4 := by rw [← strip_ht1, hst]; omega
  have ct1 : q1.count ≤ 60 := by rw [← strip_count, hst]; exact ct0
  have ft1 : q1.fitsT rows := fits_strip rows q1 (by rw [hst]; exact h5)
  have fuel := fu_ht q1
  have ag := agr_of (C := T.C_Stock) nd hro memG.k memG.tb memG.z wd
  have prg : Prg sh rows q1 es := ⟨hok, ft1, by omega, by omega, kn⟩
  have d1O := q1.daO (.t es)
  refine ⟨d1O, d1O, by show 0 ≤ sizeLine; decide, rfl, q1, es, [], rfl, hok, (show q1.fu ≤ 13 + 1 by omega), by omega, by simp; omega, rfl, ?_⟩
  refine ⟨dO, rfl, rfl, d, ns, 6, 200, rfl, hs, hl, by decide, fun pg Nh nh th => ⟨rfl, ?_⟩⟩
  have nh' : Ng pg = none := nh
  have memH := memG.tto (memG.new nh') th
  have outg := memG.new nh'
  generalize hsp : (q1.sps []).map (·.1) = spl at *
  have lsp : spl.length = (q1.sps []).length := by rw [← hsp, List.length_map]
  let T4 : Sx → Prop := fun S => ∃ (y8 y10 y11 y17 y19 : Slx) (q16 : Addr), S = ⟨[.val d, .val (.r p), .val (.t [.r p1, .r p2]), .val (.t es), .val (.l (sg.map .s)), .val (.r p5), .val (.l (rows.map Tr.d)), .val (.r A.b), y8, .val (.r A.w), y10, y11, .val (q0.da .n), .val (q1.da (.t es)), .val (.l (spl.map spD)), .val (.r pg), .own q16 ([[]].map lotD), y17, .no, y19], Nh⟩
  apply via_tail (TOk := T4)
  case main =>
    intro tail
    exact ⟨by show 0 ≤ sizeLine; decide, rfl, by show 1 ≤ sizeLine; decide, fun q16 n16 => tail _ ⟨_, _, _, _, _, q16, rfl⟩⟩
  case tail =>
  rintro S ⟨y8, y10, y11, y17, y19, q16, rfl⟩
  have sl1 := sps_len q1 []
  have npl : spl.length ≤ 1000 := by omega
  let okL : List (List Nat) → Prop := fun lots => ∀ l ∈ lots, l.length ≤ 2000 ∧ ∀ k ∈ l, k < (q1.sps []).length
  let T5 : Sx → Prop := fun S => ∃ (lots : List (List Nat)) (N : Mx) (y17 y19 : Slx), lots.length ≤ 10 ∧ okL lots ∧ Tto pg Nh N ∧ S = ⟨[.val d, .val (.r p), .val (.t [.r p1, .r p2]), .val (.t es), .val (.l (sg.map .s)), .val (.r p5), .val (.l (rows.map Tr.d)), .val (.r A.b), y8, .val (.r A.w), y10, y11, .val (q0.da .n), .val (q1.da (.t es)), .val (.l (spl.map spD)), .val (.r pg), .own q16 (lots.map lotD), y17, .no, y19], N⟩
  apply via_tail (TOk := T5)
  case main =>
    intro tail
    refine ⟨rfl, rfl, pg, 5, rfl, th.tp, by decide, fun r2 Ni hr2 ti => ⟨by omega, by omega, ?_⟩⟩
    refine forGo_of (fun rest S => ∃ (lots : List (List Nat)) (N : Mx) (y17 y19 : Slx), lots.length + rest.length ≤ 6 ∧ okL lots ∧ Tto pg Nh N ∧ S = ⟨[.val d, .val (.r p), .val (.t [.r p1, .r p2]), .val (.t es), .val (.l (sg.map .s)), .val (.r p5), .val (.l (rows.map Tr.d)), .val (.r A.b), y8, .val (.r A.w), y10, y11, .val (q0.da .n), .val (q1.da (.t es)), .val (.l (spl.map spD)), .val (.r pg), .own q16 (lots.map lotD), y17, .no, y19], N⟩) (fun d' ds S h R hR => ?_) (fun S h => ?_) _ _ ⟨[[]], Ni, y17, y19, by rw [rng_len]; show 1 + _ ≤ 6; omega, by simp [okL], ti, rfl⟩
    · obtain ⟨lots, N, y17, y19, hl9, hok9, tN, rfl⟩ := h
      rw [List.length_cons] at hl9
      have el : (((spl.map spD).length : Nat) : Int).toNat = spl.length := by rw [List.length_map]; rfl
      refine ⟨⟨_, rfl⟩, by rw [List.length_map]; omega, by rw [List.length_map]; omega, ?_⟩
      show lcGo _ _ _ _ _ (rngD 0 (((spl.map spD).length : Nat) : Int).toNat) [] _
      rw [el]
      have er : rngD 0 spl.length = (List.range spl.length).map nnD := by
        unfold rngD
        refine List.map_congr_left fun k _ => ?_
        show Da.i (0 + (k : Int)) = .i (k : Int)
        rw [Int.zero_add]
      rw [er]
      refine lcGo_of (fun rest acc S => ∃ (rl l : List Nat) (N2 : Mx) (z19 : Slx), rest = rl.map nnD ∧ acc = l.map nnD ∧ l.length + rl.length ≤ spl.length ∧ (∀ k ∈ rl, k < spl.length) ∧ (∀ k ∈ l, k < spl.length) ∧ Tto pg Nh N2 ∧ S = ⟨[.val d, .val (.r p), .val (.t [.r p1, .r p2]), .val (.t es), .val (.l (sg.map .s)), .val (.r p5), .val (.l (rows.map Tr.d)), .val (.r A.b), y8, .val (.r A.w), y10, y11, .val (q0.da .n), .val (q1.da (.t es)), .val (.l (spl.map spD)), .val (.r pg), .own q16 (lots.map lotD), .val d', .no, z19], N2⟩)
        (fun dd ds acc S h R hR => ?_) (fun acc S h => ?_) _ _ _ ⟨List.range spl.length, [], N, _, rfl, rfl, by simp, fun k hk => List.mem_range.mp hk, by simp, tN, rfl⟩
      · obtain ⟨rl, l, N2, z19, e, rfl, hll, hrl, hl1, t2, rfl⟩ := h
        cases rl with
        | nil => cases e
        | cons k rl =>
        injection e with e1 e2
        subst e1
        subst e2
        rw [List.length_cons] at hll
        refine ⟨rfl, rfl, pg, 3, rfl, t2.tp, by decide, fun r3 N3 hr3 t3 => .inl ⟨rfl, rfl, rfl, ite2 (fun _ => ?_) (fun _ => ?_)⟩⟩
        · refine ⟨rfl, by rw [List.length_map, sizeLine_eq]; omega, hR _ _ ⟨rl, l ++ [k], N3, _, rfl, by rw [List.map_append]; rfl, by rw [List.length_append, List.length_singleton]; omega, fun k' hk' => hrl k' (by simp [hk']), fun k' hk' => ?_, t2.trans t3, rfl⟩⟩
          rcases List.mem_append.mp hk' with hk' | hk'
          · exact hl1 k' hk'
          · rw [List.mem_singleton.mp hk']; exact hrl k (by simp)
        · exact hR _ _ ⟨rl, l, N3, _, rfl, rfl, by omega, fun k' hk' => hrl k' (by simp [hk']), hl1, t2.trans t3, rfl⟩
      · obtain ⟨rl, l, N2, z19, e, rfl, hll, hrl, hl1, t2, rfl⟩ := h
        refine ⟨_, _, rfl, rfl, by rw [List.length_map, sizeLine_eq]; omega, rfl, hR _ ⟨lots ++ [l], N2, _, _, by rw [List.length_append, List.length_singleton]; omega, fun l' hl' => ?_, t2, by rw [List.map_append]; rfl⟩⟩
        rcases List.mem_append.mp hl' with hl' | hl'
        · exact hok9 l' hl'
        · rw [List.mem_singleton.mp hl']
          exact ⟨by omega, fun k hk => by rw [← lsp]; exact hl1 k hk⟩
    · obtain ⟨lots, N, y17, y19, hl9, hok9, tN, rfl⟩ := h
      exact tail _ ⟨lots, N, _, _, by simp at hl9; omega, hok9, tN, rfl⟩
  case tail =>
  rintro S ⟨lots, N, y17, y19, hl9, hok9, tN, rfl⟩
  have kI : ∀ b m, Ng b = some m → N b = some m := fun b m e => by
    have ne : b ≠ pg := fun z => by rw [z, nh'] at e; cases e
    exact (tN.out b ne).trans ((th.out b ne).trans e)
  have memN := (memG.tto outg th).tto outg tN
  let W : Str → List Wn := fun z => (f z).map VL.wn
  have agN := agr_of (C := T.C_Stock) nd hro memN.k memN.tb memN.z wd
  have hwlF : ∀ (g : Str → List Wy), (∀ r ∈ rows, GoodWs r (g r.z)) → ∀ r ∈ rows, ((g r.z).map VL.wn).length ≤ 1000 := fun g hg r hr => by
    rw [List.length_map]
    have := (hg r hr).l
    omega
  have eEv : (Da.l (spl.map spD)) = .l ((q1.sps []).map fun y => spD y.1) := by rw [← hsp, List.map_map]; rfl
  have pOk : prisB (List.replicate (q1.sps []).length 1) (q1.sps []).length = true := by
    unfold prisB
    rw [List.length_replicate, decide_eq_true rfl, Bool.true_and, List.all_eq_true]
    intro k hk
    rw [List.eq_of_mem_replicate hk]
    decide
  have lotsD : ∀ l ∈ lots.map lotD, Da.isO l = false := fun l hl => by
    obtain ⟨x, _, rfl⟩ := List.mem_map.mp hl
    rfl
  let T6 : Sx → Prop := fun S => ∃ (x : Addr) (N2 : Mx), (∀ b m, Ng b = some m → N2 b = some m) ∧ Tp N2 pg ∧ NotesAt T.C_Notes N2 x A.b q1 (.t es) (List.replicate (q1.sps []).length 1) ∧ S = ⟨[.val d, .val (.r p), .val (.t [.r p1, .r p2]), .val (.t es), .val (.l (sg.map .s)), .val (.r p5), .val (.l (rows.map Tr.d)), .val (.r A.b), y8, .val (.r A.w), y10, y11, .val (q0.da .n), .val (q1.da (.t es)), .val (.l (spl.map spD)), .val (.r pg), .val (.l (lots.map lotD)), y17, .val (.r x), y19], N2⟩
  apply via_tail (TOk := T6)
  case main =>
    intro tail
    refine ⟨rfl, d1O, fun x nx => ?_⟩
    have nx' : N x = none := nx
    have kx : ∀ b m, N b = some m → b ≠ x := fun b m e z => by rw [z, nx'] at e; cases e
    have kJ : ∀ b m, N b = some m → updM N x (.ins T.C_Notes []) b = some m := fun b m e => by
      rw [updM_ne (kx b m e)]
      exact e
    have a2 := agN.mono kJ
    refine ⟨x, A.b, A.t, A.q, A.tq, sh, un, rows, wk, W, q1, .t es, .n, List.replicate (q1.sps []).length 1, rfl, updM_same, ⟨a2.bk, a2.tb, a2.tz, a2.wf, prg.ok, prg.ft, prg.ct, prg.kn⟩, .inl ⟨rfl, rfl⟩, by rw [List.length_replicate]; omega, fun _ N2 nt2 kj2 => ⟨rfl, ?_⟩, fun e => by rw [pOk] at e; cases e⟩
    have kK : ∀ b m, N b = some m → N2 b = some m := fun b m e => kj2 b m (kx b m e) (kJ b m e)
    have a3 := agN.mono kK
    refine ⟨rfl, rfl, rfl, d1O, rfl, rfl, x, A.b, A.t, A.q, A.tq, A.w, _, rows, wk, wz, W, q1, es, _, lots, by rw [← eEv]; rfl, nt2, ⟨a3.bk, a3.tb, a3.tz, a3.wf, hwlF f wd.w, ft1, by omega⟩, a3.dz, hok, a3.wg, a3.dv, by omega, by omega, hok9, fun N3 k3 => ?_⟩
    obtain ⟨ts, hts, hz⟩ := tN.tp
    show wNx _ _
    exact tail _ ⟨x, N3, fun b m e => k3 _ _ (kK _ _ (kI _ _ e)), ⟨ts, k3 _ _ (kK _ _ hts), hz⟩, ⟨k3 _ _ nt2.x⟩, rfl⟩
  case tail =>
  rintro S ⟨x, N2, kN2, tp2, nt2, rfl⟩
  have mem2 := memG.mono kN2
  have xg : x ≠ pg := fun e => by
    obtain ⟨ts, hts, _⟩ := tp2
    have h1 := nt2.x
    rw [e, hts] at h1
    cases h1
  have xw : x ≠ A.w := fun e => by
    have h1 := nt2.x
    rw [e, mem2.z] at h1
    cases h1
  have xq : x ≠ A.q := fun e => by
    have h1 := nt2.x
    rw [e, mem2.k.q] at h1
    cases h1
  refine ⟨rfl, rfl, pg, rows.length, by rw [show rows.length = (rows.map Tr.d).length from (List.length_map _).symm]; rfl, tp2, r1, fun r4 N4 hr4 t4 => ?_⟩
  obtain ⟨r, hr⟩ : ∃ r, r = rows[r4] := ⟨_, rfl⟩
  have hr0 : r ∈ rows := by rw [hr]; exact List.getElem_mem hr4
  have hix : atI (rows.map Tr.d) (r4 : Int) = some r.d := by rw [atI_some (by rw [List.length_map]; exact hr4), List.getElem_map, hr]
  refine ⟨_, _, rfl, hix, rfl, ?_⟩
  have mem4 := mem2.tto outg t4
  have hv := tr_val nd hr0
  have rp3 := (hro r hr0).p3
  have rO : ∀ x ∈ r.pls, x.1.isO = false := (hro r hr0).ok.rl.b
  have zl : r.z.length ≤ 12 := (hro r hr0).ok.wd.hi
  have gwr := wd.w r hr0
  have fl2 := f2 r hr0
  have hwz := wd.v r hr0
  have lz := wd.lz
  have lk := wd.lk
  refine ⟨_, atI_nat (j := 0) rfl, wz, .inr r.z, .l ((f r.z).map Wy.d), dk_r mem4.z, rfl, hwz, _, rfl, rfl, _, atI_nat (j := 1) rfl, rfl, pg, r.pls, r.w, rfl, t4.tp, rp3, rO, fun y N5 t5 oky wy by' => ?_⟩
  let ws : List Wy := (f r.z).reverse ++ [y]
  have ews : ((f r.z).map Wy.d).reverse ++ [y.d] = ws.map Wy.d := by
    show _ = ((f r.z).reverse ++ [y]).map Wy.d
    rw [List.map_append, List.map_reverse]
    rfl
  have lws : ws.length ≤ 3 := by show ((f r.z).reverse ++ [y]).length ≤ 3; rw [List.length_append, List.length_reverse, List.length_singleton]; omega
  have hws : ∀ y' ∈ ws, GoodY r.pls y' := fun y' hy => by
    rcases List.mem_append.mp hy with hy | hy
    · exact gwr.y y' (List.mem_reverse.mp hy)
    · rw [List.mem_singleton.mp hy]; exact ⟨by', wy, oky⟩
  have gw : GoodWs r ws := ⟨fun e => by have := congrArg List.length e; simp [ws] at this, lws, hws⟩
  have mem5 := mem4.tto outg t5
  have mem6 := mem5.putW (putD wz (.inr r.z) (.l (ws.map Wy.d)))
  have mem7 := mem6.putQ (putD wk (.inr r.z) (.t (ws.map Wy.d)))
  have wd7 := wd.put (dn' := rows) (z0 := r.z) (ws := ws) (fun x hx _ => hx) (fun x hx hz => by rw [tr_uniq nd x hx r hr0 hz]; exact gw)
  refine ⟨rfl, by show 1 ≤ sizeLine; decide, _, _, rfl, rfl, by rw [List.length_reverse, List.length_map, sizeLine_eq]; show _ + 1 ≤ _; omega, ?_⟩
  rw [ews]
  refine ⟨_, atI_nat (j := 0) rfl, rfl, A.w, wz, .inr r.z, rfl, mem5.z, rfl, by rw [sizeLine_eq]; omega, ?_⟩
  refine ⟨_, atI_nat (j := 0) rfl, _, .inr r.z, .l (ws.map Wy.d), dk_r mem6.z, rfl, by rw [valD_put, if_pos rfl], _, rfl, by rw [List.length_map, sizeLine_eq]; omega, ?_⟩
  refine ⟨_, atI_nat (j := 0) rfl, rfl, rfl, _, mem6.k.b, A.b, A.t, A.q, A.tq, _, _, wk, r.z, .l (ws.map Wy.d), ws, rfl, mem6.k, mem6.tb, Nat.le_trans zl (by decide), rkO, by omega, rfl, fun _ => rfl, by omega, fun y hy => (hws y hy).w, fun e => (by rw [hv] at e; cases e), fun d e => ?_⟩
  rw [hv] at e
  cases e
  refine ⟨r.pls, r.w, rfl, by omega, rO, fun _ => ?_, fun e => (by rw [List.all_eq_true.mpr fun y hy => (hws y hy).k] at e; cases e)⟩
  have ag7 := agr_of (C := T.C_Stock) nd hro mem7.k mem7.tb mem7.z wd7
  have x7 : updM (updM N5 A.w (.dk none (putD wz (.inr r.z) (.l (ws.map Wy.d))))) A.q (.dk none (putD wk (.inr r.z) (.t (ws.map Wy.d)))) x = some (.ins T.C_Notes (notesF A.b (.l ((q1.rows [] none false).map (rwD (.t es)))) (.l ((q1.sps []).map spF)) (.l ((List.replicate (q1.sps []).length 1).map .i)))) := by
    rw [updM_ne xq, updM_ne xw]
    exact (t5.out x xg).trans ((t4.out x xg).trans nt2.x)
  refine ⟨rfl, rfl, d1O, _, rfl, rfl, rfl, x, A.b, A.t, A.q, A.tq, A.w, _, rows, _, _, _, q1, es, _, lots.reverse, ?_, ⟨x7⟩, ⟨ag7.bk, ag7.tb, ag7.tz, ag7.wf, hwlF (fun z => if z = r.z then ws else f z) wd7.w, ft1, by omega⟩, ag7.dz, hok, ag7.wg, ag7.dv, by omega, by rw [List.length_reverse]; omega, fun l hl => hok9 l (List.mem_reverse.mp hl), fun N8 k8 => ⟨rfl, q _⟩⟩
  rw [List.map_reverse, ← eEv]
  rfl
end
end VL
set_option Elab.async false
set_option linter.all false
set_option maxRecDepth 100000
set_option maxHeartbeats 1000000
namespace VL
open PySem PySem.Spec PyProof.Rows L2
theorem kit_self2 {K : PySem.W.Frag} {C : Addr} : PySem.W.kitOne K (.ref C) (.ref C) = some true := by
  unfold PySem.W.kitOne
  rw [if_pos (beq_self_eq_true _)]
theorem all_mk {l : PySem.W.OpenLaw} {w : World} {K : PySem.W.Frag} {h : Heap} {mg : Str → Option Value} {fa C_Book C_Notes C_Stock C_Table C_BadPrices C_BadRule C_BadWay C_NotesError C_UnknownSign i_UnknownSign k_UnknownSign cc_UnknownSign f1 f2 f3 f4 f5 f6 f7 f8 f9 f10 f11 f12 f13 f14 f15 f16 f17 f18 f19 f20 f21 f22 f23 f24 f25 f26 f27 f28 f29 f30 f31 f32 f33 f34 f35 f36 f37 f38 f39 f40 f41 f42 f43 f44 f45 f46 f47 f48 f49 f50 f51 f52 f53 f54 f55 f56 f57 f58 f59 T12 T29 D30  : Addr} {tk_SMALL tk_CAPITAL : Tok} (X : K.In h) (G : h.Ns mainGlobals mg) (hfa : mg "law" = some (.ref fa))
    {od1 an1 od2 an2 od3 an3 od4 an4 od5 an5 od6 an6 od7 an7 od8 an8 od9 an9 od10 an10 od11 an11 od12 an12 od13 an13 od14 an14 od15 an15 od16 an16 od17 an17 od18 an18 od19 an19 od20 an20 od21 an21 od22 an22 od23 an23 od24 an24 od25 an25 od26 an26 od27 an27 od28 an28 od29 an29 od30 an30 od31 an31 od32 an32 od33 an33 od34 an34 od35 an35 od36 an36 od37 an37 od38 an38 od39 an39 od40 an40 od41 an41 od42 an42 od43 an43 od44 an44 od45 an45 od46 an46 od47 an47 od48 an48 od49 an49 od50 an50 od51 an51 od52 an52 od53 an53 od54 an54 od55 an55 od56 an56 od57 an57 od58 an58 od59 an59 : Option Addr} {sl1 sl2 sl3 sl4 sl5 sl6 sl7 sl8 sl9 sl10 sl11 sl12 sl13 sl14 sl15 sl16 sl17 sl18 sl19 sl20 sl21 sl22 sl23 sl24 sl25 sl26 sl27 sl28 sl29 sl30 sl31 sl32 sl33 sl34 sl35 sl36 sl37 sl38 sl39 sl40 sl41 sl42 sl43 sl44 sl45 sl46 sl47 sl48 sl49 sl50 sl51 sl52 sl53 sl54 sl55 sl56 sl57 sl58 sl59 : Array (Option Value)} {oc1 kV1 dc1 pm1 cd1 ct1 oc2 kV2 dc2 pm2 cd2 ct2 oc3 kV3 dc3 pm3 cd3 ct3 oc4 kV4 dc4 pm4 cd4 ct4 oc5 kV5 dc5 pm5 cd5 ct5 oc6 kV6 dc6 pm6 cd6 ct6 oc7 kV7 dc7 pm7 cd7 ct7 oc8 kV8 dc8 pm8 cd8 ct8 oc9 kV9 dc9 pm9 cd9 ct9 oc10 kV10 dc10 pm10 cd10 ct10 oc11 kV11 dc11 pm11 cd11 ct11 oc12 kV12 dc12 pm12 cd12 ct12 oc13 kV13 dc13 pm13 cd13 ct13 oc14 kV14 dc14 pm14 cd14 ct14 oc15 kV15 dc15 pm15 cd15 ct15 oc16 kV16 dc16 pm16 cd16 ct16 oc17 kV17 dc17 pm17 cd17 ct17 oc18 kV18 dc18 pm18 cd18 ct18 oc19 kV19 dc19 pm19 cd19 ct19 oc20 kV20 dc20 pm20 cd20 ct20 oc21 kV21 dc21 pm21 cd21 ct21 oc22 kV22 dc22 pm22 cd22 ct22 oc23 kV23 dc23 pm23 cd23 ct23 oc24 kV24 dc24 pm24 cd24 ct24 oc25 kV25 dc25 pm25 cd25 ct25 oc26 kV26 dc26 pm26 cd26 ct26 oc27 kV27 dc27 pm27 cd27 ct27 oc28 kV28 dc28 pm28 cd28 ct28 oc29 kV29 dc29 pm29 cd29 ct29 oc30 dc30 pm30 cd30 ct30 oc31 kV31 dc31 pm31 cd31 ct31 oc32 kV32 dc32 pm32 cd32 ct32 oc33 kV33 dc33 pm33 cd33 ct33 oc34 kV34 dc34 pm34 cd34 ct34 oc35 kV35 dc35 pm35 cd35 ct35 oc36 kV36 dc36 pm36 cd36 ct36 oc37 kV37 dc37 pm37 cd37 ct37 oc38 kV38 dc38 pm38 cd38 ct38 oc39 kV39 dc39 pm39 cd39 ct39 oc40 kV40 dc40 pm40 cd40 ct40 oc41 kV41 dc41 pm41 cd41 ct41 oc42 kV42 dc42 pm42 cd42 ct42 oc43 kV43 dc43 pm43 cd43 ct43 oc44 kV44 dc44 pm44 cd44 ct44 oc45 kV45 dc45 pm45 cd45 ct45 oc46 kV46 dc46 pm46 cd46 ct46 oc47 kV47 dc47 pm47 cd47 ct47 oc48 kV48 dc48 pm48 cd48 ct48 oc49 kV49 dc49 pm49 cd49 ct49 oc50 kV50 dc50 pm50 cd50 ct50 oc51 kV51 dc51 pm51 cd51 ct51 oc52 kV52 dc52 pm52 cd52 ct52 oc53 kV53 dc53 pm53 cd53 ct53 oc54 kV54 dc54 pm54 cd54 ct54 oc55 kV55 dc55 pm55 cd55 ct55 oc56 kV56 dc56 pm56 cd56 ct56 oc57 kV57 dc57 pm57 cd57 ct57 oc58 kV58 dc58 pm58 cd58 ct58 oc59 kV59 dc59 pm59 cd59 ct59 : Value}
    {tc12 : Value} {td12 : Option Addr} {tn12 : Nat} {ts12 : Array (Option Value)}
    {tc29 : Value} {td29 : Option Addr} {tn29 : Nat} {ts29 : Array (Option Value)}
    {iod_UnknownSign ian_UnknownSign kdd_UnknownSign ccd_UnknownSign : Option Addr} {isl_UnknownSign ksl_UnknownSign csl_UnknownSign : Array (Option Value)} {ioc_UnknownSign ikV_UnknownSign idc_UnknownSign ipm_UnknownSign ict_UnknownSign kcl_UnknownSign ccl_UnknownSign : Value} {kvs_UnknownSign : Array Value} {file_UnknownSign : Str} {tf_UnknownSign : Tok} {cdD_UnknownSign : ClassData} {nm_UnknownSign q_UnknownSign : Str} {N_UnknownSign : Addr} {bs_UnknownSign bm_UnknownSign : List Value} {sn_UnknownSign : List Str} {sub_UnknownSign : List Value} {ab_UnknownSign : Bool} {col_UnknownSign : Option Bool} {dd_UnknownSign : Option Addr} {kk0_UnknownSign kk1_UnknownSign kk2_UnknownSign kk3_UnknownSign kk5_UnknownSign : Option Value}
    (g_Book : PySem.W.nsIn K mainGlobals "Book" = some (some (.ref C_Book)))
    (g_Notes : PySem.W.nsIn K mainGlobals "Notes" = some (some (.ref C_Notes)))
    (g_Stock : PySem.W.nsIn K mainGlobals "Stock" = some (some (.ref C_Stock)))
    (g_Table : PySem.W.nsIn K mainGlobals "Table" = some (some (.ref C_Table)))
    (a1 : PySem.W.nsIn K mainGlobals "passing" = some (some (.ref f1)))
    (l1 : K.lookup f1 = some ⟨oc1, od1, .func (PySem.W.fnOf "passing" "passing" (defArgs sPassing) (defBody sPassing) (defScope sPassing) .none kV1 dc1 pm1 an1 cd1 ct1), sl1⟩)
    (c1 : PySem.W.codeIn K cd1 "passing" = true)
    (k1 : PySem.W.keepIn K (.ref f1) = true)
    (a2 : PySem.W.nsIn K mainGlobals "standing_still" = some (some (.ref f2)))
    (l2 : K.lookup f2 = some ⟨oc2, od2, .func (PySem.W.fnOf "standing_still" "standing_still" (defArgs sStandingStill) (defBody sStandingStill) (defScope sStandingStill) .none kV2 dc2 pm2 an2 cd2 ct2), sl2⟩)
    (c2 : PySem.W.codeIn K cd2 "standing_still" = true)
    (k2 : PySem.W.keepIn K (.ref f2) = true)
    (a3 : PySem.W.nsIn K mainGlobals "_is_passed" = some (some (.ref f3)))
    (l3 : K.lookup f3 = some ⟨oc3, od3, .func (PySem.W.fnOf "_is_passed" "_is_passed" (defArgs sIsPassed) (defBody sIsPassed) (defScope sIsPassed) .none kV3 dc3 pm3 an3 cd3 ct3), sl3⟩)
    (c3 : PySem.W.codeIn K cd3 "_is_passed" = true)
    (k3 : PySem.W.keepIn K (.ref f3) = true)
    (a4 : PySem.W.nsIn K mainGlobals "_fitting" = some (some (.ref f4)))
    (l4 : K.lookup f4 = some ⟨oc4, od4, .func (PySem.W.fnOf "_fitting" "_fitting" (defArgs sFitting) (defBody sFitting) (defScope sFitting) .none kV4 dc4 pm4 an4 cd4 ct4), sl4⟩)
    (c4 : PySem.W.codeIn K cd4 "_fitting" = true)
    (k4 : PySem.W.keepIn K (.ref f4) = true)
    (a5 : PySem.W.nsIn K mainGlobals "_parts" = some (some (.ref f5)))
    (l5 : K.lookup f5 = some ⟨oc5, od5, .func (PySem.W.fnOf "_parts" "_parts" (defArgs sParts) (defBody sParts) (defScope sParts) .none kV5 dc5 pm5 an5 cd5 ct5), sl5⟩)
    (c5 : PySem.W.codeIn K cd5 "_parts" = true)
    (k5 : PySem.W.keepIn K (.ref f5) = true)
    (a6 : PySem.W.nsIn K mainGlobals "_names_without_note" = some (some (.ref f6)))
    (l6 : K.lookup f6 = some ⟨oc6, od6, .func (PySem.W.fnOf "_names_without_note" "_names_without_note" (defArgs sNamesWithoutNote) (defBody sNamesWithoutNote) (defScope sNamesWithoutNote) .none kV6 dc6 pm6 an6 cd6 ct6), sl6⟩)
    (c6 : PySem.W.codeIn K cd6 "_names_without_note" = true)
    (k6 : PySem.W.keepIn K (.ref f6) = true)
    (a7 : PySem.W.nsIn K mainGlobals "_stuck_parts" = some (some (.ref f7)))
    (l7 : K.lookup f7 = some ⟨oc7, od7, .func (PySem.W.fnOf "_stuck_parts" "_stuck_parts" (defArgs sStuckParts) (defBody sStuckParts) (defScope sStuckParts) .none kV7 dc7 pm7 an7 cd7 ct7), sl7⟩)
    (c7 : PySem.W.codeIn K cd7 "_stuck_parts" = true)
    (k7 : PySem.W.keepIn K (.ref f7) = true)
    (a8 : PySem.W.nsIn K mainGlobals "_passes" = some (some (.ref f8)))
    (l8 : K.lookup f8 = some ⟨oc8, od8, .func (PySem.W.fnOf "_passes" "_passes" (defArgs sPasses) (defBody sPasses) (defScope sPasses) .none kV8 dc8 pm8 an8 cd8 ct8), sl8⟩)
    (c8 : PySem.W.codeIn K cd8 "_passes" = true)
    (k8 : PySem.W.keepIn K (.ref f8) = true)
    (a9 : PySem.W.nsIn K mainGlobals "is_word" = some (some (.ref f9)))
    (l9 : K.lookup f9 = some ⟨oc9, od9, .func (PySem.W.fnOf "is_word" "is_word" (defArgs sIsWord) (defBody sIsWord) (defScope sIsWord) .none kV9 dc9 pm9 an9 cd9 ct9), sl9⟩)
    (c9 : PySem.W.codeIn K cd9 "is_word" = true)
    (k9 : PySem.W.keepIn K (.ref f9) = true)
    (a10 : PySem.W.nsIn K mainGlobals "is_letter" = some (some (.ref f10)))
    (l10 : K.lookup f10 = some ⟨oc10, od10, .func (PySem.W.fnOf "is_letter" "is_letter" (defArgs sIsLetter) (defBody sIsLetter) (defScope sIsLetter) .none kV10 dc10 pm10 an10 cd10 ct10), sl10⟩)
    (c10 : PySem.W.codeIn K cd10 "is_letter" = true)
    (k10 : PySem.W.keepIn K (.ref f10) = true)
    (a11 : PySem.W.nsIn K mainGlobals "is_form" = some (some (.ref f11)))
    (l11 : K.lookup f11 = some ⟨oc11, od11, .func (PySem.W.fnOf "is_form" "is_form" (defArgs sIsForm) (defBody sIsForm) (defScope sIsForm) .none kV11 dc11 pm11 an11 cd11 ct11), sl11⟩)
    (c11 : PySem.W.codeIn K cd11 "is_form" = true)
    (k11 : PySem.W.keepIn K (.ref f11) = true)
    (m12 : PySem.W.findIn K (.ref C_Stock) "__init__" = some (some (.ref f12)))
    (l12 : K.lookup f12 = some ⟨oc12, od12, .func (PySem.W.fnOf "__init__" "Stock.__init__" (defArgs sStock_init) (defBody sStock_init) (defScope sStock_init) (.ref T12) kV12 dc12 pm12 an12 cd12 ct12), sl12⟩)
    (c12 : PySem.W.codeIn K cd12 "Stock.__init__" = true)
    (k12 : PySem.W.keepIn K (.ref f12) = true)
    (n12 : PySem.W.isFn K (.ref f12) = true)
    (ff12 : PySem.W.fnIn K f12 = true)
    (mk12 : PySem.W.makesIn K C_Stock = true)
    (kc12 : PySem.W.keepIn K (.ref C_Stock) = true)
    (t12 : K.lookup T12 = some ⟨tc12, td12, .seq [Value.none].toArray tn12, ts12⟩)
    (m13 : PySem.W.findIn K (.ref C_Stock) "fits" = some (some (.ref f13)))
    (l13 : K.lookup f13 = some ⟨oc13, od13, .func (PySem.W.fnOf "fits" "Stock.fits" (defArgs sStock_fits) (defBody sStock_fits) (defScope sStock_fits) .none kV13 dc13 pm13 an13 cd13 ct13), sl13⟩)
    (c13 : PySem.W.codeIn K cd13 "Stock.fits" = true)
    (k13 : PySem.W.keepIn K (.ref f13) = true)
    (n13 : PySem.W.isFn K (.ref f13) = true)
    (ff13 : PySem.W.fnIn K f13 = true)
    (a14 : PySem.W.nsIn K mainGlobals "is_kind" = some (some (.ref f14)))
    (l14 : K.lookup f14 = some ⟨oc14, od14, .func (PySem.W.fnOf "is_kind" "is_kind" (defArgs sIsKind) (defBody sIsKind) (defScope sIsKind) .none kV14 dc14 pm14 an14 cd14 ct14), sl14⟩)
    (c14 : PySem.W.codeIn K cd14 "is_kind" = true)
    (k14 : PySem.W.keepIn K (.ref f14) = true)
    (a15 : PySem.W.nsIn K mainGlobals "check_kind" = some (some (.ref f15)))
    (l15 : K.lookup f15 = some ⟨oc15, od15, .func (PySem.W.fnOf "check_kind" "check_kind" (defArgs sCheckKind) (defBody sCheckKind) (defScope sCheckKind) .none kV15 dc15 pm15 an15 cd15 ct15), sl15⟩)
    (c15 : PySem.W.codeIn K cd15 "check_kind" = true)
    (k15 : PySem.W.keepIn K (.ref f15) = true)
    (a16 : PySem.W.nsIn K mainGlobals "_walk" = some (some (.ref f16)))
    (l16 : K.lookup f16 = some ⟨oc16, od16, .func (PySem.W.fnOf "_walk" "_walk" (defArgs sWalk) (defBody sWalk) (defScope sWalk) .none kV16 dc16 pm16 an16 cd16 ct16), sl16⟩)
    (c16 : PySem.W.codeIn K cd16 "_walk" = true)
    (k16 : PySem.W.keepIn K (.ref f16) = true)
    (a17 : PySem.W.nsIn K mainGlobals "_is_marks" = some (some (.ref f17)))
    (l17 : K.lookup f17 = some ⟨oc17, od17, .func (PySem.W.fnOf "_is_marks" "_is_marks" (defArgs sIsMarks) (defBody sIsMarks) (defScope sIsMarks) .none kV17 dc17 pm17 an17 cd17 ct17), sl17⟩)
    (c17 : PySem.W.codeIn K cd17 "_is_marks" = true)
    (k17 : PySem.W.keepIn K (.ref f17) = true)
    (a18 : PySem.W.nsIn K mainGlobals "_check_shapes" = some (some (.ref f18)))
    (l18 : K.lookup f18 = some ⟨oc18, od18, .func (PySem.W.fnOf "_check_shapes" "_check_shapes" (defArgs sCheckShapes) (defBody sCheckShapes) (defScope sCheckShapes) .none kV18 dc18 pm18 an18 cd18 ct18), sl18⟩)
    (c18 : PySem.W.codeIn K cd18 "_check_shapes" = true)
    (k18 : PySem.W.keepIn K (.ref f18) = true)
    (a19 : PySem.W.nsIn K mainGlobals "_check_under" = some (some (.ref f19)))
    (l19 : K.lookup f19 = some ⟨oc19, od19, .func (PySem.W.fnOf "_check_under" "_check_under" (defArgs sCheckUnder) (defBody sCheckUnder) (defScope sCheckUnder) .none kV19 dc19 pm19 an19 cd19 ct19), sl19⟩)
    (c19 : PySem.W.codeIn K cd19 "_check_under" = true)
    (k19 : PySem.W.keepIn K (.ref f19) = true)
    (a20 : PySem.W.nsIn K mainGlobals "_chain" = some (some (.ref f20)))
    (l20 : K.lookup f20 = some ⟨oc20, od20, .func (PySem.W.fnOf "_chain" "_chain" (defArgs sChain) (defBody sChain) (defScope sChain) .none kV20 dc20 pm20 an20 cd20 ct20), sl20⟩)
    (c20 : PySem.W.codeIn K cd20 "_chain" = true)
    (k20 : PySem.W.keepIn K (.ref f20) = true)
    (a21 : PySem.W.nsIn K mainGlobals "laid_out" = some (some (.ref f21)))
    (l21 : K.lookup f21 = some ⟨oc21, od21, .func (PySem.W.fnOf "laid_out" "laid_out" (defArgs sLaidOut) (defBody sLaidOut) (defScope sLaidOut) .none kV21 dc21 pm21 an21 cd21 ct21), sl21⟩)
    (c21 : PySem.W.codeIn K cd21 "laid_out" = true)
    (k21 : PySem.W.keepIn K (.ref f21) = true)
    (a22 : PySem.W.nsIn K mainGlobals "built" = some (some (.ref f22)))
    (l22 : K.lookup f22 = some ⟨oc22, od22, .func (PySem.W.fnOf "built" "built" (defArgs sBuilt) (defBody sBuilt) (defScope sBuilt) .none kV22 dc22 pm22 an22 cd22 ct22), sl22⟩)
    (c22 : PySem.W.codeIn K cd22 "built" = true)
    (k22 : PySem.W.keepIn K (.ref f22) = true)
    (a23 : PySem.W.nsIn K mainGlobals "check_ways" = some (some (.ref f23)))
    (l23 : K.lookup f23 = some ⟨oc23, od23, .func (PySem.W.fnOf "check_ways" "check_ways" (defArgs sCheckWays) (defBody sCheckWays) (defScope sCheckWays) .none kV23 dc23 pm23 an23 cd23 ct23), sl23⟩)
    (c23 : PySem.W.codeIn K cd23 "check_ways" = true)
    (k23 : PySem.W.keepIn K (.ref f23) = true)
    (a24 : PySem.W.nsIn K mainGlobals "spots_of" = some (some (.ref f24)))
    (l24 : K.lookup f24 = some ⟨oc24, od24, .func (PySem.W.fnOf "spots_of" "spots_of" (defArgs sSpotsOf) (defBody sSpotsOf) (defScope sSpotsOf) .none kV24 dc24 pm24 an24 cd24 ct24), sl24⟩)
    (c24 : PySem.W.codeIn K cd24 "spots_of" = true)
    (k24 : PySem.W.keepIn K (.ref f24) = true)
    (a25 : PySem.W.nsIn K mainGlobals "_parted" = some (some (.ref f25)))
    (l25 : K.lookup f25 = some ⟨oc25, od25, .func (PySem.W.fnOf "_parted" "_parted" (defArgs sParted) (defBody sParted) (defScope sParted) .none kV25 dc25 pm25 an25 cd25 ct25), sl25⟩)
    (c25 : PySem.W.codeIn K cd25 "_parted" = true)
    (k25 : PySem.W.keepIn K (.ref f25) = true)
    (a26 : PySem.W.nsIn K mainGlobals "_check_core" = some (some (.ref f26)))
    (l26 : K.lookup f26 = some ⟨oc26, od26, .func (PySem.W.fnOf "_check_core" "_check_core" (defArgs sCheckCore) (defBody sCheckCore) (defScope sCheckCore) .none kV26 dc26 pm26 an26 cd26 ct26), sl26⟩)
    (c26 : PySem.W.codeIn K cd26 "_check_core" = true)
    (k26 : PySem.W.keepIn K (.ref f26) = true)
    (a27 : PySem.W.nsIn K mainGlobals "_check_block" = some (some (.ref f27)))
    (l27 : K.lookup f27 = some ⟨oc27, od27, .func (PySem.W.fnOf "_check_block" "_check_block" (defArgs sCheckBlock) (defBody sCheckBlock) (defScope sCheckBlock) .none kV27 dc27 pm27 an27 cd27 ct27), sl27⟩)
    (c27 : PySem.W.codeIn K cd27 "_check_block" = true)
    (k27 : PySem.W.keepIn K (.ref f27) = true)
    (a28 : PySem.W.nsIn K mainGlobals "_check_node" = some (some (.ref f28)))
    (l28 : K.lookup f28 = some ⟨oc28, od28, .func (PySem.W.fnOf "_check_node" "_check_node" (defArgs sCheckNode) (defBody sCheckNode) (defScope sCheckNode) .none kV28 dc28 pm28 an28 cd28 ct28), sl28⟩)
    (c28 : PySem.W.codeIn K cd28 "_check_node" = true)
    (k28 : PySem.W.keepIn K (.ref f28) = true)
    (m29 : PySem.W.findIn K (.ref C_Notes) "__init__" = some (some (.ref f29)))
    (l29 : K.lookup f29 = some ⟨oc29, od29, .func (PySem.W.fnOf "__init__" "Notes.__init__" (defArgs sNotes_init) (defBody sNotes_init) (defScope sNotes_init) (.ref T29) kV29 dc29 pm29 an29 cd29 ct29), sl29⟩)
    (c29 : PySem.W.codeIn K cd29 "Notes.__init__" = true)
    (k29 : PySem.W.keepIn K (.ref f29) = true)
    (n29 : PySem.W.isFn K (.ref f29) = true)
    (ff29 : PySem.W.fnIn K f29 = true)
    (mk29 : PySem.W.makesIn K C_Notes = true)
    (kc29 : PySem.W.keepIn K (.ref C_Notes) = true)
    (t29 : K.lookup T29 = some ⟨tc29, td29, .seq [Value.none].toArray tn29, ts29⟩)
    (m30 : PySem.W.findIn K (.ref C_Notes) "still" = some (some (.ref f30)))
    (l30 : K.lookup f30 = some ⟨oc30, od30, .func (PySem.W.fnOf "still" "Notes.still" (defArgs sNotes_still) (defBody sNotes_still) (defScope sNotes_still) .none (.ref D30) dc30 pm30 an30 cd30 ct30), sl30⟩)
    (c30 : PySem.W.codeIn K cd30 "Notes.still" = true)
    (k30 : PySem.W.keepIn K (.ref f30) = true)
    (n30 : PySem.W.isFn K (.ref f30) = true)
    (ff30 : PySem.W.fnIn K f30 = true)
    (q30_told : PySem.W.nsIn K D30 "told" = some (some (.bool false)))
    (a31 : PySem.W.nsIn K mainGlobals "_check_prices" = some (some (.ref f31)))
    (l31 : K.lookup f31 = some ⟨oc31, od31, .func (PySem.W.fnOf "_check_prices" "_check_prices" (defArgs sCheckPrices) (defBody sCheckPrices) (defScope sCheckPrices) .none kV31 dc31 pm31 an31 cd31 ct31), sl31⟩)
    (c31 : PySem.W.codeIn K cd31 "_check_prices" = true)
    (k31 : PySem.W.keepIn K (.ref f31) = true)
    (a32 : PySem.W.nsIn K mainGlobals "_is_price" = some (some (.ref f32)))
    (l32 : K.lookup f32 = some ⟨oc32, od32, .func (PySem.W.fnOf "_is_price" "_is_price" (defArgs sIsPrice) (defBody sIsPrice) (defScope sIsPrice) .none kV32 dc32 pm32 an32 cd32 ct32), sl32⟩)
    (c32 : PySem.W.codeIn K cd32 "_is_price" = true)
    (k32 : PySem.W.keepIn K (.ref f32) = true)
    (m33 : PySem.W.findIn K (.ref C_Table) "__init__" = some (some (.ref f33)))
    (l33 : K.lookup f33 = some ⟨oc33, od33, .func (PySem.W.fnOf "__init__" "Table.__init__" (defArgs sTable_init) (defBody sTable_init) (defScope sTable_init) .none kV33 dc33 pm33 an33 cd33 ct33), sl33⟩)
    (c33 : PySem.W.codeIn K cd33 "Table.__init__" = true)
    (k33 : PySem.W.keepIn K (.ref f33) = true)
    (n33 : PySem.W.isFn K (.ref f33) = true)
    (ff33 : PySem.W.fnIn K f33 = true)
    (mk33 : PySem.W.makesIn K C_Table = true)
    (kc33 : PySem.W.keepIn K (.ref C_Table) = true)
    (m34 : PySem.W.findIn K (.ref C_Table) "__getitem__" = some (some (.ref f34)))
    (l34 : K.lookup f34 = some ⟨oc34, od34, .func (PySem.W.fnOf "__getitem__" "Table.__getitem__" (defArgs sTable_getitem) (defBody sTable_getitem) (defScope sTable_getitem) .none kV34 dc34 pm34 an34 cd34 ct34), sl34⟩)
    (c34 : PySem.W.codeIn K cd34 "Table.__getitem__" = true)
    (k34 : PySem.W.keepIn K (.ref f34) = true)
    (n34 : PySem.W.isFn K (.ref f34) = true)
    (ff34 : PySem.W.fnIn K f34 = true)
    (m35 : PySem.W.findIn K (.ref C_Table) "__setitem__" = some (some (.ref f35)))
    (l35 : K.lookup f35 = some ⟨oc35, od35, .func (PySem.W.fnOf "__setitem__" "Table.__setitem__" (defArgs sTable_setitem) (defBody sTable_setitem) (defScope sTable_setitem) .none kV35 dc35 pm35 an35 cd35 ct35), sl35⟩)
    (c35 : PySem.W.codeIn K cd35 "Table.__setitem__" = true)
    (k35 : PySem.W.keepIn K (.ref f35) = true)
    (n35 : PySem.W.isFn K (.ref f35) = true)
    (ff35 : PySem.W.fnIn K f35 = true)
    (a36 : PySem.W.nsIn K mainGlobals "way" = some (some (.ref f36)))
    (l36 : K.lookup f36 = some ⟨oc36, od36, .func (PySem.W.fnOf "way" "way" (defArgs sWay) (defBody sWay) (defScope sWay) .none kV36 dc36 pm36 an36 cd36 ct36), sl36⟩)
    (c36 : PySem.W.codeIn K cd36 "way" = true)
    (k36 : PySem.W.keepIn K (.ref f36) = true)
    (m37 : PySem.W.findIn K (.ref C_Book) "__init__" = some (some (.ref f37)))
    (l37 : K.lookup f37 = some ⟨oc37, od37, .func (PySem.W.fnOf "__init__" "Book.__init__" (defArgs sBook_init) (defBody sBook_init) (defScope sBook_init) .none kV37 dc37 pm37 an37 cd37 ct37), sl37⟩)
    (c37 : PySem.W.codeIn K cd37 "Book.__init__" = true)
    (k37 : PySem.W.keepIn K (.ref f37) = true)
    (n37 : PySem.W.isFn K (.ref f37) = true)
    (ff37 : PySem.W.fnIn K f37 = true)
    (mk37 : PySem.W.makesIn K C_Book = true)
    (kc37 : PySem.W.keepIn K (.ref C_Book) = true)
    (m38 : PySem.W.findIn K (.ref C_Book) "__getitem__" = some (some (.ref f38)))
    (l38 : K.lookup f38 = some ⟨oc38, od38, .func (PySem.W.fnOf "__getitem__" "Book.__getitem__" (defArgs sBook_getitem) (defBody sBook_getitem) (defScope sBook_getitem) .none kV38 dc38 pm38 an38 cd38 ct38), sl38⟩)
    (c38 : PySem.W.codeIn K cd38 "Book.__getitem__" = true)
    (k38 : PySem.W.keepIn K (.ref f38) = true)
    (n38 : PySem.W.isFn K (.ref f38) = true)
    (ff38 : PySem.W.fnIn K f38 = true)
    (m39 : PySem.W.findIn K (.ref C_Book) "__setitem__" = some (some (.ref f39)))
    (l39 : K.lookup f39 = some ⟨oc39, od39, .func (PySem.W.fnOf "__setitem__" "Book.__setitem__" (defArgs sBook_setitem) (defBody sBook_setitem) (defScope sBook_setitem) .none kV39 dc39 pm39 an39 cd39 ct39), sl39⟩)
    (c39 : PySem.W.codeIn K cd39 "Book.__setitem__" = true)
    (k39 : PySem.W.keepIn K (.ref f39) = true)
    (n39 : PySem.W.isFn K (.ref f39) = true)
    (ff39 : PySem.W.fnIn K f39 = true)
    (a40 : PySem.W.nsIn K mainGlobals "_checked_ways" = some (some (.ref f40)))
    (l40 : K.lookup f40 = some ⟨oc40, od40, .func (PySem.W.fnOf "_checked_ways" "_checked_ways" (defArgs sCheckedWays) (defBody sCheckedWays) (defScope sCheckedWays) .none kV40 dc40 pm40 an40 cd40 ct40), sl40⟩)
    (c40 : PySem.W.codeIn K cd40 "_checked_ways" = true)
    (k40 : PySem.W.keepIn K (.ref f40) = true)
    (a41 : PySem.W.nsIn K mainGlobals "_check_way" = some (some (.ref f41)))
    (l41 : K.lookup f41 = some ⟨oc41, od41, .func (PySem.W.fnOf "_check_way" "_check_way" (defArgs sCheckWay) (defBody sCheckWay) (defScope sCheckWay) .none kV41 dc41 pm41 an41 cd41 ct41), sl41⟩)
    (c41 : PySem.W.codeIn K cd41 "_check_way" = true)
    (k41 : PySem.W.keepIn K (.ref f41) = true)
    (a42 : PySem.W.nsIn K mainGlobals "_law_cell" = some (some (.ref f42)))
    (l42 : K.lookup f42 = some ⟨oc42, od42, .func (PySem.W.fnOf "_law_cell" "_law_cell" (defArgs sLCell) (defBody sLCell) (defScope sLCell) .none kV42 dc42 pm42 an42 cd42 ct42), sl42⟩)
    (c42 : PySem.W.codeIn K cd42 "_law_cell" = true)
    (k42 : PySem.W.keepIn K (.ref f42) = true)
    (a43 : PySem.W.nsIn K mainGlobals "_law_tape" = some (some (.ref f43)))
    (l43 : K.lookup f43 = some ⟨oc43, od43, .func (PySem.W.fnOf "_law_tape" "_law_tape" (defArgs sLTape) (defBody sLTape) (defScope sLTape) .none kV43 dc43 pm43 an43 cd43 ct43), sl43⟩)
    (c43 : PySem.W.codeIn K cd43 "_law_tape" = true)
    (k43 : PySem.W.keepIn K (.ref f43) = true)
    (a44 : PySem.W.nsIn K mainGlobals "_law_take" = some (some (.ref f44)))
    (l44 : K.lookup f44 = some ⟨oc44, od44, .func (PySem.W.fnOf "_law_take" "_law_take" (defArgs sLTake) (defBody sLTake) (defScope sLTake) .none kV44 dc44 pm44 an44 cd44 ct44), sl44⟩)
    (c44 : PySem.W.codeIn K cd44 "_law_take" = true)
    (k44 : PySem.W.keepIn K (.ref f44) = true)
    (a45 : PySem.W.nsIn K mainGlobals "_law_words" = some (some (.ref f45)))
    (l45 : K.lookup f45 = some ⟨oc45, od45, .func (PySem.W.fnOf "_law_words" "_law_words" (defArgs sLWords) (defBody sLWords) (defScope sLWords) .none kV45 dc45 pm45 an45 cd45 ct45), sl45⟩)
    (c45 : PySem.W.codeIn K cd45 "_law_words" = true)
    (k45 : PySem.W.keepIn K (.ref f45) = true)
    (a46 : PySem.W.nsIn K mainGlobals "_law_stock" = some (some (.ref f46)))
    (l46 : K.lookup f46 = some ⟨oc46, od46, .func (PySem.W.fnOf "_law_stock" "_law_stock" (defArgs sLStock) (defBody sLStock) (defScope sLStock) .none kV46 dc46 pm46 an46 cd46 ct46), sl46⟩)
    (c46 : PySem.W.codeIn K cd46 "_law_stock" = true)
    (k46 : PySem.W.keepIn K (.ref f46) = true)
    (a47 : PySem.W.nsIn K mainGlobals "_law_form" = some (some (.ref f47)))
    (l47 : K.lookup f47 = some ⟨oc47, od47, .func (PySem.W.fnOf "_law_form" "_law_form" (defArgs sLForm) (defBody sLForm) (defScope sLForm) .none kV47 dc47 pm47 an47 cd47 ct47), sl47⟩)
    (c47 : PySem.W.codeIn K cd47 "_law_form" = true)
    (k47 : PySem.W.keepIn K (.ref f47) = true)
    (a48 : PySem.W.nsIn K mainGlobals "_law_rule" = some (some (.ref f48)))
    (l48 : K.lookup f48 = some ⟨oc48, od48, .func (PySem.W.fnOf "_law_rule" "_law_rule" (defArgs sLRule) (defBody sLRule) (defScope sLRule) .none kV48 dc48 pm48 an48 cd48 ct48), sl48⟩)
    (c48 : PySem.W.codeIn K cd48 "_law_rule" = true)
    (k48 : PySem.W.keepIn K (.ref f48) = true)
    (a49 : PySem.W.nsIn K mainGlobals "_law_way" = some (some (.ref f49)))
    (l49 : K.lookup f49 = some ⟨oc49, od49, .func (PySem.W.fnOf "_law_way" "_law_way" (defArgs sLWay) (defBody sLWay) (defScope sLWay) .none kV49 dc49 pm49 an49 cd49 ct49), sl49⟩)
    (c49 : PySem.W.codeIn K cd49 "_law_way" = true)
    (k49 : PySem.W.keepIn K (.ref f49) = true)
    (a50 : PySem.W.nsIn K mainGlobals "_law_part" = some (some (.ref f50)))
    (l50 : K.lookup f50 = some ⟨oc50, od50, .func (PySem.W.fnOf "_law_part" "_law_part" (defArgs sLPart) (defBody sLPart) (defScope sLPart) .none kV50 dc50 pm50 an50 cd50 ct50), sl50⟩)
    (c50 : PySem.W.codeIn K cd50 "_law_part" = true)
    (k50 : PySem.W.keepIn K (.ref f50) = true)
    (a51 : PySem.W.nsIn K mainGlobals "_law_annotated" = some (some (.ref f51)))
    (l51 : K.lookup f51 = some ⟨oc51, od51, .func (PySem.W.fnOf "_law_annotated" "_law_annotated" (defArgs sLAnnotated) (defBody sLAnnotated) (defScope sLAnnotated) .none kV51 dc51 pm51 an51 cd51 ct51), sl51⟩)
    (c51 : PySem.W.codeIn K cd51 "_law_annotated" = true)
    (k51 : PySem.W.keepIn K (.ref f51) = true)
    (a52 : PySem.W.nsIn K mainGlobals "_law_spots" = some (some (.ref f52)))
    (l52 : K.lookup f52 = some ⟨oc52, od52, .func (PySem.W.fnOf "_law_spots" "_law_spots" (defArgs sLSpots) (defBody sLSpots) (defScope sLSpots) .none kV52 dc52 pm52 an52 cd52 ct52), sl52⟩)
    (c52 : PySem.W.codeIn K cd52 "_law_spots" = true)
    (k52 : PySem.W.keepIn K (.ref f52) = true)
    (a53 : PySem.W.nsIn K mainGlobals "_law_still_in" = some (some (.ref f53)))
    (l53 : K.lookup f53 = some ⟨oc53, od53, .func (PySem.W.fnOf "_law_still_in" "_law_still_in" (defArgs sLStillIn) (defBody sLStillIn) (defScope sLStillIn) .none kV53 dc53 pm53 an53 cd53 ct53), sl53⟩)
    (c53 : PySem.W.codeIn K cd53 "_law_still_in" = true)
    (k53 : PySem.W.keepIn K (.ref f53) = true)
    (a54 : PySem.W.nsIn K mainGlobals "_law_first_spot" = some (some (.ref f54)))
    (l54 : K.lookup f54 = some ⟨oc54, od54, .func (PySem.W.fnOf "_law_first_spot" "_law_first_spot" (defArgs sLFirstSpot) (defBody sLFirstSpot) (defScope sLFirstSpot) .none kV54 dc54 pm54 an54 cd54 ct54), sl54⟩)
    (c54 : PySem.W.codeIn K cd54 "_law_first_spot" = true)
    (k54 : PySem.W.keepIn K (.ref f54) = true)
    (a55 : PySem.W.nsIn K mainGlobals "_law_stills" = some (some (.ref f55)))
    (l55 : K.lookup f55 = some ⟨oc55, od55, .func (PySem.W.fnOf "_law_stills" "_law_stills" (defArgs sLStills) (defBody sLStills) (defScope sLStills) .none kV55 dc55 pm55 an55 cd55 ct55), sl55⟩)
    (c55 : PySem.W.codeIn K cd55 "_law_stills" = true)
    (k55 : PySem.W.keepIn K (.ref f55) = true)
    (a56 : PySem.W.nsIn K mainGlobals "_law_still" = some (some (.ref f56)))
    (l56 : K.lookup f56 = some ⟨oc56, od56, .func (PySem.W.fnOf "_law_still" "_law_still" (defArgs sLStill) (defBody sLStill) (defScope sLStill) .none kV56 dc56 pm56 an56 cd56 ct56), sl56⟩)
    (c56 : PySem.W.codeIn K cd56 "_law_still" = true)
    (k56 : PySem.W.keepIn K (.ref f56) = true)
    (a57 : PySem.W.nsIn K mainGlobals "_law_table" = some (some (.ref f57)))
    (l57 : K.lookup f57 = some ⟨oc57, od57, .func (PySem.W.fnOf "_law_table" "_law_table" (defArgs sLTable) (defBody sLTable) (defScope sLTable) .none kV57 dc57 pm57 an57 cd57 ct57), sl57⟩)
    (c57 : PySem.W.codeIn K cd57 "_law_table" = true)
    (k57 : PySem.W.keepIn K (.ref f57) = true)
    (a58 : PySem.W.nsIn K mainGlobals "_law_agrees" = some (some (.ref f58)))
    (l58 : K.lookup f58 = some ⟨oc58, od58, .func (PySem.W.fnOf "_law_agrees" "_law_agrees" (defArgs sLAgrees) (defBody sLAgrees) (defScope sLAgrees) .none kV58 dc58 pm58 an58 cd58 ct58), sl58⟩)
    (c58 : PySem.W.codeIn K cd58 "_law_agrees" = true)
    (k58 : PySem.W.keepIn K (.ref f58) = true)
    (a59 : PySem.W.nsIn K mainGlobals "law" = some (some (.ref f59)))
    (l59 : K.lookup f59 = some ⟨oc59, od59, .func (PySem.W.fnOf "law" "law" (defArgs sLaw) (defBody sLaw) (defScope sLaw) .none kV59 dc59 pm59 an59 cd59 ct59), sl59⟩)
    (c59 : PySem.W.codeIn K cd59 "law" = true)
    (k59 : PySem.W.keepIn K (.ref f59) = true)
    (pg_Book : PySem.W.plainGet K C_Book Str.empty = true)
    (hd_Book : PySem.W.hasDictIn K C_Book = true)
    (po_Book : PySem.W.plainOver K C_Book = true)
    (sa_Book : PySem.W.findIn K (.ref C_Book) "__setattr__" = some (some (.builtin "object.__setattr__")))
    (nq_Book : PySem.W.noSeq K C_Book = true)
    (pg_Notes : PySem.W.plainGet K C_Notes Str.empty = true)
    (hd_Notes : PySem.W.hasDictIn K C_Notes = true)
    (po_Notes : PySem.W.plainOver K C_Notes = true)
    (sa_Notes : PySem.W.findIn K (.ref C_Notes) "__setattr__" = some (some (.builtin "object.__setattr__")))
    (nq_Notes : PySem.W.noSeq K C_Notes = true)
    (pg_Stock : PySem.W.plainGet K C_Stock Str.empty = true)
    (hd_Stock : PySem.W.hasDictIn K C_Stock = true)
    (po_Stock : PySem.W.plainOver K C_Stock = true)
    (sa_Stock : PySem.W.findIn K (.ref C_Stock) "__setattr__" = some (some (.builtin "object.__setattr__")))
    (nq_Stock : PySem.W.noSeq K C_Stock = true)
    (pg_Table : PySem.W.plainGet K C_Table Str.empty = true)
    (hd_Table : PySem.W.hasDictIn K C_Table = true)
    (po_Table : PySem.W.plainOver K C_Table = true)
    (sa_Table : PySem.W.findIn K (.ref C_Table) "__setattr__" = some (some (.builtin "object.__setattr__")))
    (nq_Table : PySem.W.noSeq K C_Table = true)
    (n_Book_table : PySem.W.findIn K (.ref C_Book) "table" = some none)
    (n_Book_ways : PySem.W.findIn K (.ref C_Book) "ways" = some none)
    (n_Notes_book : PySem.W.findIn K (.ref C_Notes) "book" = some none)
    (n_Notes_prices : PySem.W.findIn K (.ref C_Notes) "prices" = some none)
    (n_Notes_rows : PySem.W.findIn K (.ref C_Notes) "rows" = some none)
    (n_Notes_spots : PySem.W.findIn K (.ref C_Notes) "spots" = some none)
    (n_Stock_chains : PySem.W.findIn K (.ref C_Stock) "chains" = some none)
    (n_Stock_shapes : PySem.W.findIn K (.ref C_Stock) "shapes" = some none)
    (n_Stock_under : PySem.W.findIn K (.ref C_Stock) "under" = some none)
    (n_Table_rules : PySem.W.findIn K (.ref C_Table) "rules" = some none)
    (n_Table_stock : PySem.W.findIn K (.ref C_Table) "stock" = some none)
    (z_all : PySem.W.nsIn K mainGlobals "all" = some none)
    (z_any : PySem.W.nsIn K mainGlobals "any" = some none)
    (z_bool : PySem.W.nsIn K mainGlobals "bool" = some none)
    (z_dict : PySem.W.nsIn K mainGlobals "dict" = some none)
    (z_enumerate : PySem.W.nsIn K mainGlobals "enumerate" = some none)
    (z_int : PySem.W.nsIn K mainGlobals "int" = some none)
    (z_isinstance : PySem.W.nsIn K mainGlobals "isinstance" = some none)
    (z_len : PySem.W.nsIn K mainGlobals "len" = some none)
    (z_list : PySem.W.nsIn K mainGlobals "list" = some none)
    (z_range : PySem.W.nsIn K mainGlobals "range" = some none)
    (z_reversed : PySem.W.nsIn K mainGlobals "reversed" = some none)
    (z_str : PySem.W.nsIn K mainGlobals "str" = some none)
    (z_tuple : PySem.W.nsIn K mainGlobals "tuple" = some none)
    (z_zip : PySem.W.nsIn K mainGlobals "zip" = some none)
    (s_SMALL : PySem.W.nsIn K mainGlobals "SMALL" = some (some (.str (Str.ofString "abcdefghijklmnopqrstuvwxyz") tk_SMALL)))
    (s_CAPITAL : PySem.W.nsIn K mainGlobals "CAPITAL" = some (some (.str (Str.ofString "ABCDEFGHIJKLMNOPQRSTUVWXYZ") tk_CAPITAL)))
    (x_BadPrices : PySem.W.nsIn K mainGlobals "BadPrices" = some (some (.ref C_BadPrices)))
    (x_BadRule : PySem.W.nsIn K mainGlobals "BadRule" = some (some (.ref C_BadRule)))
    (x_BadWay : PySem.W.nsIn K mainGlobals "BadWay" = some (some (.ref C_BadWay)))
    (x_NotesError : PySem.W.nsIn K mainGlobals "NotesError" = some (some (.ref C_NotesError)))
    (x_UnknownSign : PySem.W.nsIn K mainGlobals "UnknownSign" = some (some (.ref C_UnknownSign)))
    (e3_BadPrices : PySem.W.subIn K (.ref C_BadPrices) (.type "BaseException") = some true)
    (e4_BadPrices : PySem.W.typeIn K (.ref C_BadPrices) = some (.type "type"))
    (e5_BadPrices : PySem.W.hasDictIn K C_BadPrices = true)
    (e1_BadPrices : PySem.W.keepIn K (.ref C_BadPrices) = true)
    (e2_BadPrices : PySem.W.excIn K C_BadPrices [.type "ValueError", .type "Exception", .type "BaseException", .type "object"] "ValueError.__new__" = true)
    (e6_BadPrices : PySem.W.findIn K (.ref C_BadPrices) "__getattribute__" = some (some (.builtin "BaseException.__getattribute__")))
    (e7_BadPrices : PySem.W.findIn K (.ref C_BadPrices) "__getattr__" = some none)
    (e8_BadPrices : PySem.W.findIn K (.ref C_BadPrices) "__class__" = some (some (.builtin "object.__class__")))
    (e9_BadPrices : PySem.W.specialIn K (.builtin "object.__class__") "__get__" = some (some (.builtin "getset_descriptor.__get__")))
    (e10_BadPrices : PySem.W.takesIn K (.builtin "object.__class__") = some true)
    (e11_BadPrices : PySem.W.mroIn K C_BadPrices (.type "object") = some true)
    (e3_BadRule : PySem.W.subIn K (.ref C_BadRule) (.type "BaseException") = some true)
    (e4_BadRule : PySem.W.typeIn K (.ref C_BadRule) = some (.type "type"))
    (e5_BadRule : PySem.W.hasDictIn K C_BadRule = true)
    (e1_BadRule : PySem.W.keepIn K (.ref C_BadRule) = true)
    (e2_BadRule : PySem.W.excIn K C_BadRule [.type "ValueError", .type "Exception", .type "BaseException", .type "object"] "ValueError.__new__" = true)
    (e6_BadRule : PySem.W.findIn K (.ref C_BadRule) "__getattribute__" = some (some (.builtin "BaseException.__getattribute__")))
    (e7_BadRule : PySem.W.findIn K (.ref C_BadRule) "__getattr__" = some none)
    (e8_BadRule : PySem.W.findIn K (.ref C_BadRule) "__class__" = some (some (.builtin "object.__class__")))
    (e9_BadRule : PySem.W.specialIn K (.builtin "object.__class__") "__get__" = some (some (.builtin "getset_descriptor.__get__")))
    (e10_BadRule : PySem.W.takesIn K (.builtin "object.__class__") = some true)
    (e11_BadRule : PySem.W.mroIn K C_BadRule (.type "object") = some true)
    (e3_BadWay : PySem.W.subIn K (.ref C_BadWay) (.type "BaseException") = some true)
    (e4_BadWay : PySem.W.typeIn K (.ref C_BadWay) = some (.type "type"))
    (e5_BadWay : PySem.W.hasDictIn K C_BadWay = true)
    (e1_BadWay : PySem.W.keepIn K (.ref C_BadWay) = true)
    (e2_BadWay : PySem.W.excIn K C_BadWay [.type "ValueError", .type "Exception", .type "BaseException", .type "object"] "ValueError.__new__" = true)
    (e6_BadWay : PySem.W.findIn K (.ref C_BadWay) "__getattribute__" = some (some (.builtin "BaseException.__getattribute__")))
    (e7_BadWay : PySem.W.findIn K (.ref C_BadWay) "__getattr__" = some none)
    (e8_BadWay : PySem.W.findIn K (.ref C_BadWay) "__class__" = some (some (.builtin "object.__class__")))
    (e9_BadWay : PySem.W.specialIn K (.builtin "object.__class__") "__get__" = some (some (.builtin "getset_descriptor.__get__")))
    (e10_BadWay : PySem.W.takesIn K (.builtin "object.__class__") = some true)
    (e11_BadWay : PySem.W.mroIn K C_BadWay (.type "object") = some true)
    (e3_UnknownSign : PySem.W.subIn K (.ref C_UnknownSign) (.type "BaseException") = some true)
    (e4_UnknownSign : PySem.W.typeIn K (.ref C_UnknownSign) = some (.type "type"))
    (e5_UnknownSign : PySem.W.hasDictIn K C_UnknownSign = true)
    (e1_UnknownSign : PySem.W.keepIn K (.ref C_UnknownSign) = true)
    (e6_UnknownSign : PySem.W.findIn K (.ref C_UnknownSign) "__getattribute__" = some (some (.builtin "BaseException.__getattribute__")))
    (e7_UnknownSign : PySem.W.findIn K (.ref C_UnknownSign) "__getattr__" = some none)
    (e8_UnknownSign : PySem.W.findIn K (.ref C_UnknownSign) "__class__" = some (some (.builtin "object.__class__")))
    (e9_UnknownSign : PySem.W.specialIn K (.builtin "object.__class__") "__get__" = some (some (.builtin "getset_descriptor.__get__")))
    (e10_UnknownSign : PySem.W.takesIn K (.builtin "object.__class__") = some true)
    (e11_UnknownSign : PySem.W.mroIn K C_UnknownSign (.type "object") = some true)
    (o1_UnknownSign : K.lookup C_UnknownSign = some (excClassObj nm_UnknownSign q_UnknownSign C_UnknownSign N_UnknownSign bs_UnknownSign bm_UnknownSign true sn_UnknownSign sub_UnknownSign ab_UnknownSign col_UnknownSign dd_UnknownSign kk0_UnknownSign kk1_UnknownSign kk2_UnknownSign kk3_UnknownSign kk5_UnknownSign "ValueError.__new__"))
    (o2_UnknownSign : PySem.HandSPX.refsVE bm_UnknownSign = true)
    (o3_UnknownSign : PySem.W.findIn K (.ref C_UnknownSign) "__setattr__" = some (some (.builtin "object.__setattr__")))
    (j1_UnknownSign : PySem.W.findIn K (.ref C_UnknownSign) "__init__" = some (some (.ref i_UnknownSign)))
    (j2_UnknownSign : PySem.W.typeIn K (.ref i_UnknownSign) = some (.type "function"))
    (j3_UnknownSign : PySem.W.findIn K (.ref C_UnknownSign) "sign" = some none)
    (u1_UnknownSign : K.lookup i_UnknownSign = some ⟨ioc_UnknownSign, iod_UnknownSign, .func (PySem.W.ksFn "__init__" "UnknownSign.__init__" (defArgs siUnknownSign) (defBody siUnknownSign) (defScope siUnknownSign) .none ikV_UnknownSign idc_UnknownSign ipm_UnknownSign ian_UnknownSign (.ref k_UnknownSign) ict_UnknownSign cc_UnknownSign), isl_UnknownSign⟩)
    (u2_UnknownSign : PySem.W.codeIn K (.ref k_UnknownSign) "UnknownSign.__init__" = true)
    (u3_UnknownSign : K.lookup k_UnknownSign = some ⟨kcl_UnknownSign, kdd_UnknownSign, .fields kvs_UnknownSign, ksl_UnknownSign⟩)
    (u4_UnknownSign : kvs_UnknownSign[2]? = some (.str file_UnknownSign tf_UnknownSign))
    (u5_UnknownSign : ((l.prog.main.file : Str) == file_UnknownSign) = true)
    (u6_UnknownSign : K.lookup cc_UnknownSign = some ⟨ccl_UnknownSign, ccd_UnknownSign, .cell (some (.ref C_UnknownSign)), csl_UnknownSign⟩)
    (u7_UnknownSign : PySem.W.clsIn K C_UnknownSign = some cdD_UnknownSign)
    (u8_UnknownSign : PySem.W.mroIn K C_UnknownSign (.ref C_UnknownSign) = some true)
    (u9 : PySem.W.nsIn K mainGlobals "super" = some none)
    (u10 : (l.prog.main.scope.names.lookup ("super" : Str)).isSome = false)
    (u11 : PySem.W.nsIn K PySem.cStatics "thirdparty.any" = some none)
    (u12_UnknownSign : PySem.W.ks_superIn K C_UnknownSign C_UnknownSign "__init__" = some (some (.builtin "ValueError.__init__")))
    (u13_UnknownSign : PySem.W.subIn K (.ref C_UnknownSign) (.type "ValueError") = some true)
    (e3_NotesError : PySem.W.subIn K (.ref C_NotesError) (.type "BaseException") = some true)
    (e4_NotesError : PySem.W.typeIn K (.ref C_NotesError) = some (.type "type"))
    (e5_NotesError : PySem.W.hasDictIn K C_NotesError = true)
    (em_BadPrices_NotesError : PySem.W.subIn K (.ref C_BadPrices) (.ref C_NotesError) = some true) :
    ∃ fd : FuncData, (∀ (s : Shared) (v : Value), BindsTo s fd ⟨[v], []⟩ [("_law_script", v)]) ∧ ∀ base : Heap, K.In base → base.Ns mainGlobals mg → FnOk l.prog w K mg base CX0 44 fa fd ["_law_script"] (spLaw K) := by
  have e := hfa.symm.trans (PySem.W.mg_of X G a59)
  cases e
  have F1 := fun_mk (st := sPassing) l1 c1 k1
  have b1 := F1.binds (ps := ["book", "rows", "noted"]) fun _ _ _ _ _ _ us hl => match us, hl with | [_, _, _], _ => rfl
  have F2 := fun_mk (st := sStandingStill) l2 c2 k2
  have b2 := F2.binds (ps := ["book", "rows", "noted", "told"]) fun _ _ _ _ _ _ us hl => match us, hl with | [_, _, _, _], _ => rfl
  have F3 := fun_mk (st := sIsPassed) l3 c3 k3
  have b3 := F3.binds (ps := ["flags", "told"]) fun _ _ _ _ _ _ us hl => match us, hl with | [_, _], _ => rfl
  have F4 := fun_mk (st := sFitting) l4 c4 k4
  have b4 := F4.binds (ps := ["book", "node", "told"]) fun _ _ _ _ _ _ us hl => match us, hl with | [_, _, _], _ => rfl
  have F5 := fun_mk (st := sParts) l5 c5 k5
  have b5 := F5.binds (ps := ["way", "path"]) fun _ _ _ _ _ _ us hl => match us, hl with | [_, _], _ => rfl
  have F6 := fun_mk (st := sNamesWithoutNote) l6 c6 k6
  have b6 := F6.binds (ps := ["way", "path", "noted"]) fun _ _ _ _ _ _ us hl => match us, hl with | [_, _, _], _ => rfl
  have F7 := fun_mk (st := sStuckParts) l7 c7 k7
  have b7 := F7.binds (ps := ["way", "path", "flags"]) fun _ _ _ _ _ _ us hl => match us, hl with | [_, _, _], _ => rfl
  have F8 := fun_mk (st := sPasses) l8 c8 k8
  have b8 := F8.binds (ps := ["way", "path", "noted", "flags"]) fun _ _ _ _ _ _ us hl => match us, hl with | [_, _, _, _], _ => rfl
  have F9 := fun_mk (st := sIsWord) l9 c9 k9
  have b9 := F9.binds (ps := ["text"]) fun _ _ _ _ _ _ us hl => match us, hl with | [_], _ => rfl
  have F10 := fun_mk (st := sIsLetter) l10 c10 k10
  have b10 := F10.binds (ps := ["text"]) fun _ _ _ _ _ _ us hl => match us, hl with | [_], _ => rfl
  have F11 := fun_mk (st := sIsForm) l11 c11 k11
  have b11 := F11.binds (ps := ["row"]) fun _ _ _ _ _ _ us hl => match us, hl with | [_], _ => rfl
  have F12 : L2.FunD K "__init__" "Stock.__init__" (defArgs sStock_init) (defBody sStock_init) (defScope sStock_init) [V.non] [] f12 (PySem.W.fnOf "__init__" "Stock.__init__" (defArgs sStock_init) (defBody sStock_init) (defScope sStock_init) (.ref T12) kV12 dc12 pm12 an12 cd12 ct12) := ⟨⟨oc12, od12, .ref T12, kV12, dc12, pm12, an12, cd12, ct12, sl12, rfl, l12, c12, .inr ⟨by simp, T12, _, [Value.none], tn12, rfl, t12, rfl, .cons rfl (.nil)⟩, .inl rfl⟩, k12⟩
  have b12 : Binds K (PySem.W.fnOf "__init__" "Stock.__init__" (defArgs sStock_init) (defBody sStock_init) (defScope sStock_init) (.ref T12) kV12 dc12 pm12 an12 cd12 ct12) ["self", "shapes", "under"] [] := by
    obtain ⟨ds, r, b⟩ := F12.binds1 (ps := ["self", "shapes", "under"]) 3 1 (by simp) rfl (fun _ _ _ _ _ _ _ us its hl hi => match us, hl, its, hi with | [_, _, _], _, [_], _ => ⟨_, rfl, rfl⟩)
    cases r
    exact b
  have F13 := fun_mk (st := sStock_fits) l13 c13 k13
  have b13 := F13.binds (ps := ["self", "form"]) fun _ _ _ _ _ _ us hl => match us, hl with | [_, _], _ => rfl
  have F14 := fun_mk (st := sIsKind) l14 c14 k14
  have b14 := F14.binds (ps := ["row"]) fun _ _ _ _ _ _ us hl => match us, hl with | [_], _ => rfl
  have F15 := fun_mk (st := sCheckKind) l15 c15 k15
  have b15 := F15.binds (ps := ["stock", "row"]) fun _ _ _ _ _ _ us hl => match us, hl with | [_, _], _ => rfl
  have F16 := fun_mk (st := sWalk) l16 c16 k16
  have b16 := F16.binds (ps := ["form"]) fun _ _ _ _ _ _ us hl => match us, hl with | [_], _ => rfl
  have F17 := fun_mk (st := sIsMarks) l17 c17 k17
  have b17 := F17.binds (ps := ["marks"]) fun _ _ _ _ _ _ us hl => match us, hl with | [_], _ => rfl
  have F18 := fun_mk (st := sCheckShapes) l18 c18 k18
  have b18 := F18.binds (ps := ["shapes"]) fun _ _ _ _ _ _ us hl => match us, hl with | [_], _ => rfl
  have F19 := fun_mk (st := sCheckUnder) l19 c19 k19
  have b19 := F19.binds (ps := ["shapes", "under"]) fun _ _ _ _ _ _ us hl => match us, hl with | [_, _], _ => rfl
  have F20 := fun_mk (st := sChain) l20 c20 k20
  have b20 := F20.binds (ps := ["word", "under"]) fun _ _ _ _ _ _ us hl => match us, hl with | [_, _], _ => rfl
  have F21 := fun_mk (st := sLaidOut) l21 c21 k21
  have b21 := F21.binds (ps := ["program"]) fun _ _ _ _ _ _ us hl => match us, hl with | [_], _ => rfl
  have F22 := fun_mk (st := sBuilt) l22 c22 k22
  have b22 := F22.binds (ps := ["table", "program"]) fun _ _ _ _ _ _ us hl => match us, hl with | [_, _], _ => rfl
  have F23 := fun_mk (st := sCheckWays) l23 c23 k23
  have b23 := F23.binds (ps := ["book", "rows"]) fun _ _ _ _ _ _ us hl => match us, hl with | [_, _], _ => rfl
  have F24 := fun_mk (st := sSpotsOf) l24 c24 k24
  have b24 := F24.binds (ps := ["rows"]) fun _ _ _ _ _ _ us hl => match us, hl with | [_], _ => rfl
  have F25 := fun_mk (st := sParted) l25 c25 k25
  have b25 := F25.binds (ps := ["part"]) fun _ _ _ _ _ _ us hl => match us, hl with | [_], _ => rfl
  have F26 := fun_mk (st := sCheckCore) l26 c26 k26
  have b26 := F26.binds (ps := ["core"]) fun _ _ _ _ _ _ us hl => match us, hl with | [_], _ => rfl
  have F27 := fun_mk (st := sCheckBlock) l27 c27 k27
  have b27 := F27.binds (ps := ["block"]) fun _ _ _ _ _ _ us hl => match us, hl with | [_], _ => rfl
  have F28 := fun_mk (st := sCheckNode) l28 c28 k28
  have b28 := F28.binds (ps := ["table", "node"]) fun _ _ _ _ _ _ us hl => match us, hl with | [_, _], _ => rfl
  have F29 : L2.FunD K "__init__" "Notes.__init__" (defArgs sNotes_init) (defBody sNotes_init) (defScope sNotes_init) [V.non] [] f29 (PySem.W.fnOf "__init__" "Notes.__init__" (defArgs sNotes_init) (defBody sNotes_init) (defScope sNotes_init) (.ref T29) kV29 dc29 pm29 an29 cd29 ct29) := ⟨⟨oc29, od29, .ref T29, kV29, dc29, pm29, an29, cd29, ct29, sl29, rfl, l29, c29, .inr ⟨by simp, T29, _, [Value.none], tn29, rfl, t29, rfl, .cons rfl (.nil)⟩, .inl rfl⟩, k29⟩
  have b29 : Binds K (PySem.W.fnOf "__init__" "Notes.__init__" (defArgs sNotes_init) (defBody sNotes_init) (defScope sNotes_init) (.ref T29) kV29 dc29 pm29 an29 cd29 ct29) ["self", "book", "program", "prices"] [] := by
    obtain ⟨ds, r, b⟩ := F29.binds1 (ps := ["self", "book", "program", "prices"]) 4 1 (by simp) rfl (fun _ _ _ _ _ _ _ us its hl hi => match us, hl, its, hi with | [_, _, _, _], _, [_], _ => ⟨_, rfl, rfl⟩)
    cases r
    exact b
  have de29 : ∃ ds, Vals [V.non] ds ∧ Binds K (PySem.W.fnOf "__init__" "Notes.__init__" (defArgs sNotes_init) (defBody sNotes_init) (defScope sNotes_init) (.ref T29) kV29 dc29 pm29 an29 cd29 ct29) ["self", "book", "program", "prices"] ds := F29.binds1 (ps := ["self", "book", "program", "prices"]) 3 0 (by simp) rfl (fun _ _ _ _ _ _ _ us its hl hi => match us, hl, its, hi with | [_, _, _], _, [_], _ => ⟨_, rfl, rfl⟩)
  have F30 : L2.FunD K "still" "Notes.still" (defArgs sNotes_still) (defBody sNotes_still) (defScope sNotes_still) [] [("told", V.bl false)] f30 (PySem.W.fnOf "still" "Notes.still" (defArgs sNotes_still) (defBody sNotes_still) (defScope sNotes_still) .none (.ref D30) dc30 pm30 an30 cd30 ct30) := ⟨⟨oc30, od30, .none, .ref D30, dc30, pm30, an30, cd30, ct30, sl30, rfl, l30, c30, .inl ⟨rfl, rfl⟩, .inr ⟨D30, rfl, fun q hq => by
    simp only [List.mem_cons, List.not_mem_nil, or_false] at hq
    subst hq
    first | exact ⟨_, q30_told, rfl⟩⟩⟩, k30⟩
  have b30 := F30.binds0 (ps := ["self", "lot", "told"]) 2 (by simp) rfl (fun D doc pm an cdv ct us ks l1 l2 => match us, l1, ks, l2 with | [_, _], _, [_], _ => ⟨_, _, _, _, _, _, rfl, rfl, rfl⟩)
  have kb30 : KBn K (PySem.W.fnOf "still" "Notes.still" (defArgs sNotes_still) (defBody sNotes_still) (defScope sNotes_still) .none (.ref D30) dc30 pm30 an30 cd30 ct30) ["self", "lot", "told"] 2 ["told"] (fun us ws => us ++ ws) (fun vs zs => vs ++ zs) := ⟨fun s us ws _ l1 l2 => match us, l1, ws, l2 with | [_, _], _, [_], _ => .of_eq (by with_unfolding_all rfl), fun r1 r2 => r1.append r2⟩
  have F31 := fun_mk (st := sCheckPrices) l31 c31 k31
  have b31 := F31.binds (ps := ["prices", "count"]) fun _ _ _ _ _ _ us hl => match us, hl with | [_, _], _ => rfl
  have F32 := fun_mk (st := sIsPrice) l32 c32 k32
  have b32 := F32.binds (ps := ["price"]) fun _ _ _ _ _ _ us hl => match us, hl with | [_], _ => rfl
  have F33 := fun_mk (st := sTable_init) l33 c33 k33
  have b33 := F33.binds (ps := ["self", "stock"]) fun _ _ _ _ _ _ us hl => match us, hl with | [_, _], _ => rfl
  have F34 := fun_mk (st := sTable_getitem) l34 c34 k34
  have b34 := F34.binds (ps := ["self", "sign"]) fun _ _ _ _ _ _ us hl => match us, hl with | [_, _], _ => rfl
  have F35 := fun_mk (st := sTable_setitem) l35 c35 k35
  have b35 := F35.binds (ps := ["self", "sign", "rule"]) fun _ _ _ _ _ _ us hl => match us, hl with | [_, _, _], _ => rfl
  have F36 : L2.FunD K "way" "way" (defArgs sWay) (defBody sWay) (defScope sWay) [] [] f36 (PySem.W.fnOf "way" "way" (defArgs sWay) (defBody sWay) (defScope sWay) .none kV36 dc36 pm36 an36 cd36 ct36) := ⟨⟨oc36, od36, .none, kV36, dc36, pm36, an36, cd36, ct36, sl36, rfl, l36, c36, .inl ⟨rfl, rfl⟩, .inl rfl⟩, k36⟩
  have b36 : KB0 K (PySem.W.fnOf "way" "way" (defArgs sWay) (defBody sWay) (defScope sWay) .none kV36 dc36 pm36 an36 cd36 ct36) ["whole", "places", "noted"] ["whole", "places", "noted"] [] [] := ⟨.nil, fun s us _ hl => match us, hl with | [_, _, _], _ => .of_eq (by with_unfolding_all rfl), rfl⟩
  have F37 := fun_mk (st := sBook_init) l37 c37 k37
  have b37 := F37.binds (ps := ["self", "table"]) fun _ _ _ _ _ _ us hl => match us, hl with | [_, _], _ => rfl
  have F38 := fun_mk (st := sBook_getitem) l38 c38 k38
  have b38 := F38.binds (ps := ["self", "sign"]) fun _ _ _ _ _ _ us hl => match us, hl with | [_, _], _ => rfl
  have F39 := fun_mk (st := sBook_setitem) l39 c39 k39
  have b39 := F39.binds (ps := ["self", "sign", "ways"]) fun _ _ _ _ _ _ us hl => match us, hl with | [_, _, _], _ => rfl
  have F40 := fun_mk (st := sCheckedWays) l40 c40 k40
  have b40 := F40.binds (ps := ["rule", "ways"]) fun _ _ _ _ _ _ us hl => match us, hl with | [_, _], _ => rfl
  have F41 := fun_mk (st := sCheckWay) l41 c41 k41
  have b41 := F41.binds (ps := ["places", "row"]) fun _ _ _ _ _ _ us hl => match us, hl with | [_, _], _ => rfl
  have F42 := fun_mk (st := sLCell) l42 c42 k42
  have b42 := F42.binds (ps := ["_law_script", "_law_k"]) fun _ _ _ _ _ _ us hl => match us, hl with | [_, _], _ => rfl
  have F43 := fun_mk (st := sLTape) l43 c43 k43
  have b43 := F43.binds (ps := ["_law_script", "_law_k", "_law_size"]) fun _ _ _ _ _ _ us hl => match us, hl with | [_, _, _], _ => rfl
  have F44 := fun_mk (st := sLTake) l44 c44 k44
  have b44 := F44.binds (ps := ["_law_tape_here", "_law_many"]) fun _ _ _ _ _ _ us hl => match us, hl with | [_, _], _ => rfl
  have F45 := fun_mk (st := sLWords) l45 c45 k45
  have b45 := F45.binds (ps := ["_law_tape_here", "_law_many"]) fun _ _ _ _ _ _ us hl => match us, hl with | [_, _], _ => rfl
  have F46 := fun_mk (st := sLStock) l46 c46 k46
  have b46 := F46.binds (ps := ["_law_tape_here", "_law_flat", "_law_menu"]) fun _ _ _ _ _ _ us hl => match us, hl with | [_, _, _], _ => rfl
  have F47 := fun_mk (st := sLForm) l47 c47 k47
  have b47 := F47.binds (ps := ["_law_tape_here", "_law_shapes", "_law_letters", "_law_depth"]) fun _ _ _ _ _ _ us hl => match us, hl with | [_, _, _, _], _ => rfl
  have F48 := fun_mk (st := sLRule) l48 c48 k48
  have b48 := F48.binds (ps := ["_law_tape_here", "_law_shapes", "_law_letters", "_law_most", "_law_depth"]) fun _ _ _ _ _ _ us hl => match us, hl with | [_, _, _, _, _], _ => rfl
  have F49 := fun_mk (st := sLWay) l49 c49 k49
  have b49 := F49.binds (ps := ["_law_tape_here", "_law_one"]) fun _ _ _ _ _ _ us hl => match us, hl with | [_, _], _ => rfl
  have F50 := fun_mk (st := sLPart) l50 c50 k50
  have b50 := F50.binds (ps := ["_law_tape_here", "_law_rules", "_law_names", "_law_depth"]) fun _ _ _ _ _ _ us hl => match us, hl with | [_, _, _, _], _ => rfl
  have F51 := fun_mk (st := sLAnnotated) l51 c51 k51
  have b51 := F51.binds (ps := ["_law_tape_here", "_law_part_here", "_law_kind"]) fun _ _ _ _ _ _ us hl => match us, hl with | [_, _, _], _ => rfl
  have F52 := fun_mk (st := sLSpots) l52 c52 k52
  have b52 := F52.binds (ps := ["_law_part_here", "_law_path"]) fun _ _ _ _ _ _ us hl => match us, hl with | [_, _], _ => rfl
  have F53 := fun_mk (st := sLStillIn) l53 c53 k53
  have b53 := F53.binds (ps := ["_law_part_here", "_law_path", "_law_chosen", "_law_below", "_law_extra"]) fun _ _ _ _ _ _ us hl => match us, hl with | [_, _, _, _, _], _ => rfl
  have F54 := fun_mk (st := sLFirstSpot) l54 c54 k54
  have b54 := F54.binds (ps := ["_law_rows", "_law_path"]) fun _ _ _ _ _ _ us hl => match us, hl with | [_, _], _ => rfl
  have F55 := fun_mk (st := sLStills) l55 c55 k55
  have b55 := F55.binds (ps := ["_law_ways", "_law_part_here", "_law_path", "_law_extra"]) fun _ _ _ _ _ _ us hl => match us, hl with | [_, _, _, _], _ => rfl
  have F56 := fun_mk (st := sLStill) l56 c56 k56
  have b56 := F56.binds (ps := ["_law_ways", "_law_part_here", "_law_path", "_law_heard", "_law_extra"]) fun _ _ _ _ _ _ us hl => match us, hl with | [_, _, _, _, _], _ => rfl
  have F57 := fun_mk (st := sLTable) l57 c57 k57
  have b57 := F57.binds (ps := ["_law_shapes", "_law_under", "_law_rules"]) fun _ _ _ _ _ _ us hl => match us, hl with | [_, _, _], _ => rfl
  have F58 := fun_mk (st := sLAgrees) l58 c58 k58
  have b58 := F58.binds (ps := ["_law_notes", "_law_ways", "_law_program", "_law_lots", "_law_every"]) fun _ _ _ _ _ _ us hl => match us, hl with | [_, _, _, _, _], _ => rfl
  have F59 := fun_mk (st := sLaw) l59 c59 k59
  have b59 := F59.binds (ps := ["_law_script"]) fun _ _ _ _ _ _ us hl => match us, hl with | [_], _ => rfl
  have O_UnknownSign : OexC K C_UnknownSign := ⟨⟨nm_UnknownSign, q_UnknownSign, N_UnknownSign, bs_UnknownSign, bm_UnknownSign, sn_UnknownSign, sub_UnknownSign, ab_UnknownSign, col_UnknownSign, dd_UnknownSign, kk0_UnknownSign, kk1_UnknownSign, kk2_UnknownSign, kk3_UnknownSign, kk5_UnknownSign, o1_UnknownSign, o2_UnknownSign⟩, o3_UnknownSign, e3_UnknownSign, e4_UnknownSign, e1_UnknownSign⟩
  have S_UnknownSign : FunS l.prog K mg C_UnknownSign "UnknownSign.__init__" siUnknownSign k_UnknownSign cc_UnknownSign i_UnknownSign (PySem.W.ksFn "__init__" "UnknownSign.__init__" (defArgs siUnknownSign) (defBody siUnknownSign) (defScope siUnknownSign) .none ikV_UnknownSign idc_UnknownSign ipm_UnknownSign ian_UnknownSign (.ref k_UnknownSign) ict_UnknownSign cc_UnknownSign) := ⟨⟨ioc_UnknownSign, iod_UnknownSign, ikV_UnknownSign, idc_UnknownSign, ipm_UnknownSign, ian_UnknownSign, ict_UnknownSign, isl_UnknownSign, rfl, u1_UnknownSign⟩, u2_UnknownSign, ⟨kcl_UnknownSign, kdd_UnknownSign, kvs_UnknownSign, ksl_UnknownSign, file_UnknownSign, tf_UnknownSign, u3_UnknownSign, u4_UnknownSign, u5_UnknownSign⟩, ⟨ccl_UnknownSign, ccd_UnknownSign, csl_UnknownSign, u6_UnknownSign⟩, ⟨cdD_UnknownSign, u7_UnknownSign⟩, u8_UnknownSign, PySem.W.mg_none_of X G u9, u10, u11, u12_UnknownSign, u13_UnknownSign, O_UnknownSign⟩
  have B_UnknownSign : Binds K (PySem.W.ksFn "__init__" "UnknownSign.__init__" (defArgs siUnknownSign) (defBody siUnknownSign) (defScope siUnknownSign) .none ikV_UnknownSign idc_UnknownSign ipm_UnknownSign ian_UnknownSign (.ref k_UnknownSign) ict_UnknownSign cc_UnknownSign) ["self", "sign"] [] := Binds.all fun us hl => match us, hl with | [_, _], _ => rfl
  let T : Tx l.prog K mg := { C_Book := C_Book, c_Book := ⟨⟨pg_Book, hd_Book, po_Book, sa_Book⟩, PySem.W.mg_of X G g_Book, nq_Book⟩, C_Notes := C_Notes, c_Notes := ⟨⟨pg_Notes, hd_Notes, po_Notes, sa_Notes⟩, PySem.W.mg_of X G g_Notes, nq_Notes⟩, C_Stock := C_Stock, c_Stock := ⟨⟨pg_Stock, hd_Stock, po_Stock, sa_Stock⟩, PySem.W.mg_of X G g_Stock, nq_Stock⟩, C_Table := C_Table, c_Table := ⟨⟨pg_Table, hd_Table, po_Table, sa_Table⟩, PySem.W.mg_of X G g_Table, nq_Table⟩, f_passing := f1, fd_passing := _, d_passing := ⟨F1, b1, PySem.W.mg_of X G a1⟩, f_standing_still := f2, fd_standing_still := _, d_standing_still := ⟨F2, b2, PySem.W.mg_of X G a2⟩, f_is_passed := f3, fd_is_passed := _, d_is_passed := ⟨F3, b3, PySem.W.mg_of X G a3⟩, f_fitting := f4, fd_fitting := _, d_fitting := ⟨F4, b4, PySem.W.mg_of X G a4⟩, f_parts := f5, fd_parts := _, d_parts := ⟨F5, b5, PySem.W.mg_of X G a5⟩, f_names_without_note := f6, fd_names_without_note := _, d_names_without_note := ⟨F6, b6, PySem.W.mg_of X G a6⟩, f_stuck_parts := f7, fd_stuck_parts := _, d_stuck_parts := ⟨F7, b7, PySem.W.mg_of X G a7⟩, f_passes := f8, fd_passes := _, d_passes := ⟨F8, b8, PySem.W.mg_of X G a8⟩, f_is_word := f9, fd_is_word := _, d_is_word := ⟨F9, b9, PySem.W.mg_of X G a9⟩, f_is_letter := f10, fd_is_letter := _, d_is_letter := ⟨F10, b10, PySem.W.mg_of X G a10⟩, f_is_form := f11, fd_is_form := _, d_is_form := ⟨F11, b11, PySem.W.mg_of X G a11⟩, f_Stock_init := f12, fd_Stock_init := _, d_Stock_init := ⟨F12, b12⟩, m_Stock_init := ⟨mk12, m12, n12, kc12⟩, f_Stock_fits := f13, fd_Stock_fits := _, d_Stock_fits := ⟨F13, b13, ⟨m13, n13, k13⟩, ff13⟩, f_is_kind := f14, fd_is_kind := _, d_is_kind := ⟨F14, b14, PySem.W.mg_of X G a14⟩, f_check_kind := f15, fd_check_kind := _, d_check_kind := ⟨F15, b15, PySem.W.mg_of X G a15⟩, f_walk := f16, fd_walk := _, d_walk := ⟨F16, b16, PySem.W.mg_of X G a16⟩, f_is_marks := f17, fd_is_marks := _, d_is_marks := ⟨F17, b17, PySem.W.mg_of X G a17⟩, f_check_shapes := f18, fd_check_shapes := _, d_check_shapes := ⟨F18, b18, PySem.W.mg_of X G a18⟩, f_check_under := f19, fd_check_under := _, d_check_under := ⟨F19, b19, PySem.W.mg_of X G a19⟩, f_chain := f20, fd_chain := _, d_chain := ⟨F20, b20, PySem.W.mg_of X G a20⟩, f_laid_out := f21, fd_laid_out := _, d_laid_out := ⟨F21, b21, PySem.W.mg_of X G a21⟩, f_built := f22, fd_built := _, d_built := ⟨F22, b22, PySem.W.mg_of X G a22⟩, f_check_ways := f23, fd_check_ways := _, d_check_ways := ⟨F23, b23, PySem.W.mg_of X G a23⟩, f_spots_of := f24, fd_spots_of := _, d_spots_of := ⟨F24, b24, PySem.W.mg_of X G a24⟩, f_parted := f25, fd_parted := _, d_parted := ⟨F25, b25, PySem.W.mg_of X G a25⟩, f_check_core := f26, fd_check_core := _, d_check_core := ⟨F26, b26, PySem.W.mg_of X G a26⟩, f_check_block := f27, fd_check_block := _, d_check_block := ⟨F27, b27, PySem.W.mg_of X G a27⟩, f_check_node := f28, fd_check_node := _, d_check_node := ⟨F28, b28, PySem.W.mg_of X G a28⟩, de_Notes_init := de29, f_Notes_init := f29, fd_Notes_init := _, d_Notes_init := ⟨F29, b29⟩, m_Notes_init := ⟨mk29, m29, n29, kc29⟩, f_Notes_still := f30, fd_Notes_still := _, d_Notes_still := ⟨F30, b30, kb30, ⟨m30, n30, k30⟩⟩, f_check_prices := f31, fd_check_prices := _, d_check_prices := ⟨F31, b31, PySem.W.mg_of X G a31⟩, f_is_price := f32, fd_is_price := _, d_is_price := ⟨F32, b32, PySem.W.mg_of X G a32⟩, f_Table_init := f33, fd_Table_init := _, d_Table_init := ⟨F33, b33, ⟨m33, n33, k33⟩, ff33⟩, m_Table_init := ⟨mk33, m33, n33, kc33⟩, f_Table_getitem := f34, fd_Table_getitem := _, d_Table_getitem := ⟨F34, b34, ⟨m34, n34, k34⟩, ff34⟩, f_Table_setitem := f35, fd_Table_setitem := _, d_Table_setitem := ⟨F35, b35, ⟨m35, n35, k35⟩, ff35⟩, f_way := f36, fd_way := _, d_way := ⟨F36, b36, PySem.W.mg_of X G a36⟩, f_Book_init := f37, fd_Book_init := _, d_Book_init := ⟨F37, b37, ⟨m37, n37, k37⟩, ff37⟩, m_Book_init := ⟨mk37, m37, n37, kc37⟩, f_Book_getitem := f38, fd_Book_getitem := _, d_Book_getitem := ⟨F38, b38, ⟨m38, n38, k38⟩, ff38⟩, f_Book_setitem := f39, fd_Book_setitem := _, d_Book_setitem := ⟨F39, b39, ⟨m39, n39, k39⟩, ff39⟩, f_checked_ways := f40, fd_checked_ways := _, d_checked_ways := ⟨F40, b40, PySem.W.mg_of X G a40⟩, f_check_way := f41, fd_check_way := _, d_check_way := ⟨F41, b41, PySem.W.mg_of X G a41⟩, f_l_cell := f42, fd_l_cell := _, d_l_cell := ⟨F42, b42, PySem.W.mg_of X G a42⟩, f_l_tape := f43, fd_l_tape := _, d_l_tape := ⟨F43, b43, PySem.W.mg_of X G a43⟩, f_l_take := f44, fd_l_take := _, d_l_take := ⟨F44, b44, PySem.W.mg_of X G a44⟩, f_l_words := f45, fd_l_words := _, d_l_words := ⟨F45, b45, PySem.W.mg_of X G a45⟩, f_l_stock := f46, fd_l_stock := _, d_l_stock := ⟨F46, b46, PySem.W.mg_of X G a46⟩, f_l_form := f47, fd_l_form := _, d_l_form := ⟨F47, b47, PySem.W.mg_of X G a47⟩, f_l_rule := f48, fd_l_rule := _, d_l_rule := ⟨F48, b48, PySem.W.mg_of X G a48⟩, f_l_way := f49, fd_l_way := _, d_l_way := ⟨F49, b49, PySem.W.mg_of X G a49⟩, f_l_part := f50, fd_l_part := _, d_l_part := ⟨F50, b50, PySem.W.mg_of X G a50⟩, f_l_annotated := f51, fd_l_annotated := _, d_l_annotated := ⟨F51, b51, PySem.W.mg_of X G a51⟩, f_l_spots := f52, fd_l_spots := _, d_l_spots := ⟨F52, b52, PySem.W.mg_of X G a52⟩, f_l_still_in := f53, fd_l_still_in := _, d_l_still_in := ⟨F53, b53, PySem.W.mg_of X G a53⟩, f_l_first_spot := f54, fd_l_first_spot := _, d_l_first_spot := ⟨F54, b54, PySem.W.mg_of X G a54⟩, f_l_stills := f55, fd_l_stills := _, d_l_stills := ⟨F55, b55, PySem.W.mg_of X G a55⟩, f_l_still := f56, fd_l_still := _, d_l_still := ⟨F56, b56, PySem.W.mg_of X G a56⟩, f_l_table := f57, fd_l_table := _, d_l_table := ⟨F57, b57, PySem.W.mg_of X G a57⟩, f_l_agrees := f58, fd_l_agrees := _, d_l_agrees := ⟨F58, b58, PySem.W.mg_of X G a58⟩, f_law := fa, fd_law := _, d_law := ⟨F59, b59, PySem.W.mg_of X G a59⟩, n_Book_table := n_Book_table, n_Book_ways := n_Book_ways, n_Notes_book := n_Notes_book, n_Notes_prices := n_Notes_prices, n_Notes_rows := n_Notes_rows, n_Notes_spots := n_Notes_spots, n_Stock_chains := n_Stock_chains, n_Stock_shapes := n_Stock_shapes, n_Stock_under := n_Stock_under, n_Table_rules := n_Table_rules, n_Table_stock := n_Table_stock, n_all := PySem.W.mg_none_of X G z_all, n_any := PySem.W.mg_none_of X G z_any, n_bool := PySem.W.mg_none_of X G z_bool, n_dict := PySem.W.mg_none_of X G z_dict, n_enumerate := PySem.W.mg_none_of X G z_enumerate, n_int := PySem.W.mg_none_of X G z_int, n_isinstance := PySem.W.mg_none_of X G z_isinstance, n_len := PySem.W.mg_none_of X G z_len, n_list := PySem.W.mg_none_of X G z_list, n_range := PySem.W.mg_none_of X G z_range, n_reversed := PySem.W.mg_none_of X G z_reversed, n_str := PySem.W.mg_none_of X G z_str, n_tuple := PySem.W.mg_none_of X G z_tuple, n_zip := PySem.W.mg_none_of X G z_zip, t_SMALL := tk_SMALL, c_SMALL := PySem.W.mg_of X G s_SMALL, t_CAPITAL := tk_CAPITAL, c_CAPITAL := PySem.W.mg_of X G s_CAPITAL, C_BadPrices := C_BadPrices, x_BadPrices := ⟨PySem.W.mg_of X G x_BadPrices, e1_BadPrices, e2_BadPrices, e3_BadPrices, e4_BadPrices, e5_BadPrices, ⟨e6_BadPrices, e7_BadPrices, e3_BadPrices, e5_BadPrices, e8_BadPrices, e9_BadPrices, e10_BadPrices, e11_BadPrices⟩⟩, C_BadRule := C_BadRule, x_BadRule := ⟨PySem.W.mg_of X G x_BadRule, e1_BadRule, e2_BadRule, e3_BadRule, e4_BadRule, e5_BadRule, ⟨e6_BadRule, e7_BadRule, e3_BadRule, e5_BadRule, e8_BadRule, e9_BadRule, e10_BadRule, e11_BadRule⟩⟩, C_BadWay := C_BadWay, x_BadWay := ⟨PySem.W.mg_of X G x_BadWay, e1_BadWay, e2_BadWay, e3_BadWay, e4_BadWay, e5_BadWay, ⟨e6_BadWay, e7_BadWay, e3_BadWay, e5_BadWay, e8_BadWay, e9_BadWay, e10_BadWay, e11_BadWay⟩⟩, C_NotesError := C_NotesError, x_NotesError := ⟨PySem.W.mg_of X G x_NotesError⟩, C_UnknownSign := C_UnknownSign, i_UnknownSign := i_UnknownSign, fi_UnknownSign := _, k_UnknownSign := k_UnknownSign, cc_UnknownSign := cc_UnknownSign, x_UnknownSign := ⟨PySem.W.mg_of X G x_UnknownSign, ⟨e6_UnknownSign, e7_UnknownSign, e3_UnknownSign, e5_UnknownSign, e8_UnknownSign, e9_UnknownSign, e10_UnknownSign, e11_UnknownSign⟩, O_UnknownSign, j1_UnknownSign, j2_UnknownSign, B_UnknownSign, ⟨e6_UnknownSign, e7_UnknownSign, e3_UnknownSign, e5_UnknownSign⟩, j3_UnknownSign, S_UnknownSign⟩, e_BadPrices_NotesError := PySem.W.exm_ref e3_NotesError e5_NotesError e4_NotesError em_BadPrices_NotesError, k_BadPrices_BadPrices := kit_self2 }
  refine ⟨PySem.W.fnOf "law" "law" (defArgs sLaw) (defBody sLaw) (defScope sLaw) .none kV59 dc59 pm59 an59 cd59 ct59, fun s v => .of_eq rfl, fun base _ _ => ?_⟩
  have GI_UnknownSign := ok_UnknownSign_init (P := l.prog) (w := w) (base := base) T
  have G_is_passed := ok_is_passed (P := l.prog) (w := w) (base := base) T
  have G_parts := ok_parts (P := l.prog) (w := w) (base := base) T
  have G_names_without_note := ok_names_without_note (P := l.prog) (w := w) (base := base) T
  have G_stuck_parts := ok_stuck_parts (P := l.prog) (w := w) (base := base) T G_is_passed G_parts
  have G_passes := ok_passes (P := l.prog) (w := w) (base := base) T G_names_without_note G_stuck_parts
  have G_is_word := ok_is_word (P := l.prog) (w := w) (base := base) T
  have G_is_letter := ok_is_letter (P := l.prog) (w := w) (base := base) T
  have G_is_form := ok_is_form (P := l.prog) (w := w) (base := base) T G_is_letter G_is_word
  have G_walk := ok_walk (P := l.prog) (w := w) (base := base) T
  have G_is_marks := ok_is_marks (P := l.prog) (w := w) (base := base) T
  have G_check_shapes := ok_check_shapes (P := l.prog) (w := w) (base := base) T G_is_marks G_is_word
  have G_check_under := ok_check_under (P := l.prog) (w := w) (base := base) T
  have G_chain := ok_chain (P := l.prog) (w := w) (base := base) T
  have G_spots_of := ok_spots_of (P := l.prog) (w := w) (base := base) T
  have G_is_price := ok_is_price (P := l.prog) (w := w) (base := base) T
  have G_Table_init := ok_Table_init (P := l.prog) (w := w) (base := base) T
  have G_Table_getitem := ok_Table_getitem (P := l.prog) (w := w) (base := base) T GI_UnknownSign
  have G_way := ok_way (P := l.prog) (w := w) (base := base) T
  have G_Book_init := ok_Book_init (P := l.prog) (w := w) (base := base) T
  have G_Book_getitem := ok_Book_getitem (P := l.prog) (w := w) (base := base) T GI_UnknownSign
  have G_check_way := ok_check_way (P := l.prog) (w := w) (base := base) T G_way
  have G_l_cell := ok_l_cell (P := l.prog) (w := w) (base := base) T
  have G_l_tape := ok_l_tape (P := l.prog) (w := w) (base := base) T G_l_cell
  have G_l_take := ok_l_take (P := l.prog) (w := w) (base := base) T
  have G_l_words := ok_l_words (P := l.prog) (w := w) (base := base) T G_l_take
  have G_l_stock := ok_l_stock (P := l.prog) (w := w) (base := base) T G_l_take G_l_words
  have G_l_form : FnOk l.prog w K mg base (L2.CX l.prog w) 3 T.f_l_form T.fd_l_form ["_law_tape_here", "_law_shapes", "_law_letters", "_law_depth"] (spOf K (dc_l_form 2)) := ok_l_form (P := l.prog) (w := w) (base := base) T G_l_take 2
  have G_l_rule := ok_l_rule (P := l.prog) (w := w) (base := base) T G_l_form G_l_take
  have G_l_way := ok_l_way (P := l.prog) (w := w) (base := base) T G_l_take
  have G_l_part : FnOk l.prog w K mg base (L2.CX l.prog w) 5 T.f_l_part T.fd_l_part ["_law_tape_here", "_law_rules", "_law_names", "_law_depth"] (spOf K (dc_l_part 4)) := ok_l_part (P := l.prog) (w := w) (base := base) T G_l_take 4
  have G_l_annotated : FnOk l.prog w K mg base (L2.CX l.prog w) 6 T.f_l_annotated T.fd_l_annotated ["_law_tape_here", "_law_part_here", "_law_kind"] (spOf K (dc_l_annotated 5)) := ok_l_annotated (P := l.prog) (w := w) (base := base) T G_l_take 5
  have G_l_spots : FnOk l.prog w K mg base (L2.CX l.prog w) 14 T.f_l_spots T.fd_l_spots ["_law_part_here", "_law_path"] (spOf K (dc_l_spots 14)) := ok_l_spots (P := l.prog) (w := w) (base := base) T 14
  have G_l_still_in := ok_l_still_in (P := l.prog) (w := w) (base := base) T
  have G_l_first_spot := ok_l_first_spot (P := l.prog) (w := w) (base := base) T
  have G_l_stills : FnOk l.prog w K mg base (L2.CX l.prog w) 41 T.f_l_stills T.fd_l_stills ["_law_ways", "_law_part_here", "_law_path", "_law_extra"] (spOf K (dc_l_stills 40)) := ok_l_stills (P := l.prog) (w := w) (base := base) T G_l_first_spot G_l_still_in 40
  have G_l_still := ok_l_still (P := l.prog) (w := w) (base := base) T G_l_stills
  have G_passing := ok_passing (P := l.prog) (w := w) (base := base) T G_Book_getitem G_passes
  have G_fitting := ok_fitting (P := l.prog) (w := w) (base := base) T G_Book_getitem
  have G_Stock_init := ok_Stock_init (P := l.prog) (w := w) (base := base) T G_chain G_check_shapes G_check_under
  have G_Stock_fits := ok_Stock_fits (P := l.prog) (w := w) (base := base) T G_walk G_is_form
  have G_is_kind := ok_is_kind (P := l.prog) (w := w) (base := base) T G_walk G_is_form
  have G_check_kind := ok_check_kind (P := l.prog) (w := w) (base := base) T G_Stock_fits G_is_kind
  have G_check_ways := ok_check_ways (P := l.prog) (w := w) (base := base) T G_Book_getitem
  have G_parted := ok_parted (P := l.prog) (w := w) (base := base) T G_is_kind
  have G_check_block := ok_check_block (P := l.prog) (w := w) (base := base) T G_is_kind G_is_word
  have G_check_node := ok_check_node (P := l.prog) (w := w) (base := base) T G_Table_getitem
  have G_check_prices := ok_check_prices (P := l.prog) (w := w) (base := base) T G_is_price
  have G_Table_setitem := ok_Table_setitem (P := l.prog) (w := w) (base := base) T G_Stock_fits G_is_word
  have G_checked_ways := ok_checked_ways (P := l.prog) (w := w) (base := base) T G_check_way
  have G_l_table := ok_l_table (P := l.prog) (w := w) (base := base) T G_Stock_init G_Table_init G_Table_setitem
  have G_standing_still := ok_standing_still (P := l.prog) (w := w) (base := base) T G_fitting G_is_passed G_names_without_note G_stuck_parts G_passing
  have G_check_core := ok_check_core (P := l.prog) (w := w) (base := base) T G_check_block G_is_word
  have G_Notes_still := ok_Notes_still (P := l.prog) (w := w) (base := base) T G_check_ways G_standing_still
  have G_Book_setitem := ok_Book_setitem (P := l.prog) (w := w) (base := base) T G_Table_getitem G_checked_ways
  have G_l_agrees := ok_l_agrees (P := l.prog) (w := w) (base := base) T G_Notes_still G_l_still
  have G_laid_out := ok_laid_out (P := l.prog) (w := w) (base := base) T G_check_core G_parted
  have G_built := ok_built (P := l.prog) (w := w) (base := base) T G_check_node G_check_kind G_laid_out
  have G_Notes_init := ok_Notes_init (P := l.prog) (w := w) (base := base) T G_check_prices G_built G_check_ways G_spots_of
  have G_law := ok_law (P := l.prog) (w := w) (base := base) T G_Book_init G_Book_setitem G_Notes_init G_l_agrees G_l_annotated G_l_form G_l_part G_l_rule G_l_spots G_l_stock G_l_table G_l_take G_l_tape G_l_way G_l_words
  exact law_of G_law
end VL
open PySem PySem.W PyProof.Rows
set_option Elab.async false
set_option maxRecDepth 100000 in
set_option maxHeartbeats 0 in
theorem PySem.Challenge.cw_kindnotes_k29_still_at_a_lot_holds : PySem.Challenge.rw_kindnotes_k29_still_at_a_lot.Holds := by
  w_on; o_law; k_head; (case hw => w_witness2)
  k_fill
  refine L2.walk_of (l := PySem.Challenge.rw_kindnotes_k29_still_at_a_lot) (n := 63) (k := 44) (x := "_law_script") (CX := fun _ => L2.CX0) (sp := fun w => VL.spLaw _) rfl (by decide) rfl ⟨rfl, by decide, by decide⟩ (fun w h Y => PySem.W.kIn_of Y) ?F (fun _ _ a ns hl _ hS => ⟨a, ns, rfl, hS, hl, fun _ => rfl⟩) (fun _ _ _ _ _ h => h)
  case F =>
    intro w mg fa h KX G hmg
    refine' VL.all_mk KX G hmg ?g_Book ?g_Notes ?g_Stock ?g_Table ?a1 ?l1 ?c1 ?k1 ?a2 ?l2 ?c2 ?k2 ?a3 ?l3 ?c3 ?k3 ?a4 ?l4 ?c4 ?k4 ?a5 ?l5 ?c5 ?k5 ?a6 ?l6 ?c6 ?k6 ?a7 ?l7 ?c7 ?k7 ?a8 ?l8 ?c8 ?k8 ?a9 ?l9 ?c9 ?k9 ?a10 ?l10 ?c10 ?k10 ?a11 ?l11 ?c11 ?k11 ?m12 ?l12 ?c12 ?k12 ?n12 ?ff12 ?mk12 ?kc12 ?t12 ?m13 ?l13 ?c13 ?k13 ?n13 ?ff13 ?a14 ?l14 ?c14 ?k14 ?a15 ?l15 ?c15 ?k15 ?a16 ?l16 ?c16 ?k16 ?a17 ?l17 ?c17 ?k17 ?a18 ?l18 ?c18 ?k18 ?a19 ?l19 ?c19 ?k19 ?a20 ?l20 ?c20 ?k20 ?a21 ?l21 ?c21 ?k21 ?a22 ?l22 ?c22 ?k22 ?a23 ?l23 ?c23 ?k23 ?a24 ?l24 ?c24 ?k24 ?a25 ?l25 ?c25 ?k25 ?a26 ?l26 ?c26 ?k26 ?a27 ?l27 ?c27 ?k27 ?a28 ?l28 ?c28 ?k28 ?m29 ?l29 ?c29 ?k29 ?n29 ?ff29 ?mk29 ?kc29 ?t29 ?m30 ?l30 ?c30 ?k30 ?n30 ?ff30 ?q30_told ?a31 ?l31 ?c31 ?k31 ?a32 ?l32 ?c32 ?k32 ?m33 ?l33 ?c33 ?k33 ?n33 ?ff33 ?mk33 ?kc33 ?m34 ?l34 ?c34 ?k34 ?n34 ?ff34 ?m35 ?l35 ?c35 ?k35 ?n35 ?ff35 ?a36 ?l36 ?c36 ?k36 ?m37 ?l37 ?c37 ?k37 ?n37 ?ff37 ?mk37 ?kc37 ?m38 ?l38 ?c38 ?k38 ?n38 ?ff38 ?m39 ?l39 ?c39 ?k39 ?n39 ?ff39 ?a40 ?l40 ?c40 ?k40 ?a41 ?l41 ?c41 ?k41 ?a42 ?l42 ?c42 ?k42 ?a43 ?l43 ?c43 ?k43 ?a44 ?l44 ?c44 ?k44 ?a45 ?l45 ?c45 ?k45 ?a46 ?l46 ?c46 ?k46 ?a47 ?l47 ?c47 ?k47 ?a48 ?l48 ?c48 ?k48 ?a49 ?l49 ?c49 ?k49 ?a50 ?l50 ?c50 ?k50 ?a51 ?l51 ?c51 ?k51 ?a52 ?l52 ?c52 ?k52 ?a53 ?l53 ?c53 ?k53 ?a54 ?l54 ?c54 ?k54 ?a55 ?l55 ?c55 ?k55 ?a56 ?l56 ?c56 ?k56 ?a57 ?l57 ?c57 ?k57 ?a58 ?l58 ?c58 ?k58 ?a59 ?l59 ?c59 ?k59 ?pg_Book ?hd_Book ?po_Book ?sa_Book ?nq_Book ?pg_Notes ?hd_Notes ?po_Notes ?sa_Notes ?nq_Notes ?pg_Stock ?hd_Stock ?po_Stock ?sa_Stock ?nq_Stock ?pg_Table ?hd_Table ?po_Table ?sa_Table ?nq_Table ?n_Book_table ?n_Book_ways ?n_Notes_book ?n_Notes_prices ?n_Notes_rows ?n_Notes_spots ?n_Stock_chains ?n_Stock_shapes ?n_Stock_under ?n_Table_rules ?n_Table_stock ?z_all ?z_any ?z_bool ?z_dict ?z_enumerate ?z_int ?z_isinstance ?z_len ?z_list ?z_range ?z_reversed ?z_str ?z_tuple ?z_zip ?s_SMALL ?s_CAPITAL ?x_BadPrices ?x_BadRule ?x_BadWay ?x_NotesError ?x_UnknownSign ?e3_BadPrices ?e4_BadPrices ?e5_BadPrices ?e1_BadPrices ?e2_BadPrices ?e6_BadPrices ?e7_BadPrices ?e8_BadPrices ?e9_BadPrices ?e10_BadPrices ?e11_BadPrices ?e3_BadRule ?e4_BadRule ?e5_BadRule ?e1_BadRule ?e2_BadRule ?e6_BadRule ?e7_BadRule ?e8_BadRule ?e9_BadRule ?e10_BadRule ?e11_BadRule ?e3_BadWay ?e4_BadWay ?e5_BadWay ?e1_BadWay ?e2_BadWay ?e6_BadWay ?e7_BadWay ?e8_BadWay ?e9_BadWay ?e10_BadWay ?e11_BadWay ?e3_UnknownSign ?e4_UnknownSign ?e5_UnknownSign ?e1_UnknownSign ?e6_UnknownSign ?e7_UnknownSign ?e8_UnknownSign ?e9_UnknownSign ?e10_UnknownSign ?e11_UnknownSign ?o1_UnknownSign ?o2_UnknownSign ?o3_UnknownSign ?j1_UnknownSign ?j2_UnknownSign ?j3_UnknownSign ?u1_UnknownSign ?u2_UnknownSign ?u3_UnknownSign ?u4_UnknownSign ?u5_UnknownSign ?u6_UnknownSign ?u7_UnknownSign ?u8_UnknownSign ?u9 ?u10 ?u11 ?u12_UnknownSign ?u13_UnknownSign ?e3_NotesError ?e4_NotesError ?e5_NotesError ?em_BadPrices_NotesError
    (case g_Book => k_is)
    (case g_Notes => k_is)
    (case g_Stock => k_is)
    (case g_Table => k_is)
    (case a1 => k_is)
    (case l1 => k_is)
    (case c1 => k_is)
    (case k1 => k_is)
    (case a2 => k_is)
    (case l2 => k_is)
    (case c2 => k_is)
    (case k2 => k_is)
    (case a3 => k_is)
    (case l3 => k_is)
    (case c3 => k_is)
    (case k3 => k_is)
    (case a4 => k_is)
    (case l4 => k_is)
    (case c4 => k_is)
    (case k4 => k_is)
    (case a5 => k_is)
    (case l5 => k_is)
    (case c5 => k_is)
    (case k5 => k_is)
    (case a6 => k_is)
    (case l6 => k_is)
    (case c6 => k_is)
    (case k6 => k_is)
    (case a7 => k_is)
    (case l7 => k_is)
    (case c7 => k_is)
    (case k7 => k_is)
    (case a8 => k_is)
    (case l8 => k_is)
    (case c8 => k_is)
    (case k8 => k_is)
    (case a9 => k_is)
    (case l9 => k_is)
    (case c9 => k_is)
    (case k9 => k_is)
    (case a10 => k_is)
    (case l10 => k_is)
    (case c10 => k_is)
    (case k10 => k_is)
    (case a11 => k_is)
    (case l11 => k_is)
    (case c11 => k_is)
    (case k11 => k_is)
    (case m12 => k_is)
    (case l12 => k_is)
    (case c12 => k_is)
    (case k12 => k_is)
    (case n12 => k_is)
    (case ff12 => k_is)
    (case mk12 => k_is)
    (case kc12 => k_is)
    (case t12 => k_is)
    (case m13 => k_is)
    (case l13 => k_is)
    (case c13 => k_is)
    (case k13 => k_is)
    (case n13 => k_is)
    (case ff13 => k_is)
    (case a14 => k_is)
    (case l14 => k_is)
    (case c14 => k_is)
    (case k14 => k_is)
    (case a15 => k_is)
    (case l15 => k_is)
    (case c15 => k_is)
    (case k15 => k_is)
    (case a16 => k_is)
    (case l16 => k_is)
    (case c16 => k_is)
    (case k16 => k_is)
    (case a17 => k_is)
    (case l17 => k_is)
    (case c17 => k_is)
    (case k17 => k_is)
    (case a18 => k_is)
    (case l18 => k_is)
    (case c18 => k_is)
    (case k18 => k_is)
    (case a19 => k_is)
    (case l19 => k_is)
    (case c19 => k_is)
    (case k19 => k_is)
    (case a20 => k_is)
    (case l20 => k_is)
    (case c20 => k_is)
    (case k20 => k_is)
    (case a21 => k_is)
    (case l21 => k_is)
    (case c21 => k_is)
    (case k21 => k_is)
    (case a22 => k_is)
    (case l22 => k_is)
    (case c22 => k_is)
    (case k22 => k_is)
    (case a23 => k_is)
    (case l23 => k_is)
    (case c23 => k_is)
    (case k23 => k_is)
    (case a24 => k_is)
    (case l24 => k_is)
    (case c24 => k_is)
    (case k24 => k_is)
    (case a25 => k_is)
    (case l25 => k_is)
    (case c25 => k_is)
    (case k25 => k_is)
    (case a26 => k_is)
    (case l26 => k_is)
    (case c26 => k_is)
    (case k26 => k_is)
    (case a27 => k_is)
    (case l27 => k_is)
    (case c27 => k_is)
    (case k27 => k_is)
    (case a28 => k_is)
    (case l28 => k_is)
    (case c28 => k_is)
    (case k28 => k_is)
    (case m29 => k_is)
    (case l29 => k_is)
    (case c29 => k_is)
    (case k29 => k_is)
    (case n29 => k_is)
    (case ff29 => k_is)
    (case mk29 => k_is)
    (case kc29 => k_is)
    (case t29 => k_is)
    (case m30 => k_is)
    (case l30 => k_is)
    (case c30 => k_is)
    (case k30 => k_is)
    (case n30 => k_is)
    (case ff30 => k_is)
    (case q30_told => k_is)
    (case a31 => k_is)
    (case l31 => k_is)
    (case c31 => k_is)
    (case k31 => k_is)
    (case a32 => k_is)
    (case l32 => k_is)
    (case c32 => k_is)
    (case k32 => k_is)
    (case m33 => k_is)
    (case l33 => k_is)
    (case c33 => k_is)
    (case k33 => k_is)
    (case n33 => k_is)
    (case ff33 => k_is)
    (case mk33 => k_is)
    (case kc33 => k_is)
    (case m34 => k_is)
    (case l34 => k_is)
    (case c34 => k_is)
    (case k34 => k_is)
    (case n34 => k_is)
    (case ff34 => k_is)
    (case m35 => k_is)
    (case l35 => k_is)
    (case c35 => k_is)
    (case k35 => k_is)
    (case n35 => k_is)
    (case ff35 => k_is)
    (case a36 => k_is)
    (case l36 => k_is)
    (case c36 => k_is)
    (case k36 => k_is)
    (case m37 => k_is)
    (case l37 => k_is)
    (case c37 => k_is)
    (case k37 => k_is)
    (case n37 => k_is)
    (case ff37 => k_is)
    (case mk37 => k_is)
    (case kc37 => k_is)
    (case m38 => k_is)
    (case l38 => k_is)
    (case c38 => k_is)
    (case k38 => k_is)
    (case n38 => k_is)
    (case ff38 => k_is)
    (case m39 => k_is)
    (case l39 => k_is)
    (case c39 => k_is)
    (case k39 => k_is)
    (case n39 => k_is)
    (case ff39 => k_is)
    (case a40 => k_is)
    (case l40 => k_is)
    (case c40 => k_is)
    (case k40 => k_is)
    (case a41 => k_is)
    (case l41 => k_is)
    (case c41 => k_is)
    (case k41 => k_is)
    (case a42 => k_is)
    (case l42 => k_is)
    (case c42 => k_is)
    (case k42 => k_is)
    (case a43 => k_is)
    (case l43 => k_is)
    (case c43 => k_is)
    (case k43 => k_is)
    (case a44 => k_is)
    (case l44 => k_is)
    (case c44 => k_is)
    (case k44 => k_is)
    (case a45 => k_is)
    (case l45 => k_is)
    (case c45 => k_is)
    (case k45 => k_is)
    (case a46 => k_is)
    (case l46 => k_is)
    (case c46 => k_is)
    (case k46 => k_is)
    (case a47 => k_is)
    (case l47 => k_is)
    (case c47 => k_is)
    (case k47 => k_is)
    (case a48 => k_is)
    (case l48 => k_is)
    (case c48 => k_is)
    (case k48 => k_is)
    (case a49 => k_is)
    (case l49 => k_is)
    (case c49 => k_is)
    (case k49 => k_is)
    (case a50 => k_is)
    (case l50 => k_is)
    (case c50 => k_is)
    (case k50 => k_is)
    (case a51 => k_is)
    (case l51 => k_is)
    (case c51 => k_is)
    (case k51 => k_is)
    (case a52 => k_is)
    (case l52 => k_is)
    (case c52 => k_is)
    (case k52 => k_is)
    (case a53 => k_is)
    (case l53 => k_is)
    (case c53 => k_is)
    (case k53 => k_is)
    (case a54 => k_is)
    (case l54 => k_is)
    (case c54 => k_is)
    (case k54 => k_is)
    (case a55 => k_is)
    (case l55 => k_is)
    (case c55 => k_is)
    (case k55 => k_is)
    (case a56 => k_is)
    (case l56 => k_is)
    (case c56 => k_is)
    (case k56 => k_is)
    (case a57 => k_is)
    (case l57 => k_is)
    (case c57 => k_is)
    (case k57 => k_is)
    (case a58 => k_is)
    (case l58 => k_is)
    (case c58 => k_is)
    (case k58 => k_is)
    (case a59 => k_is)
    (case l59 => k_is)
    (case c59 => k_is)
    (case k59 => k_is)
    (case pg_Book => k_is)
    (case hd_Book => k_is)
    (case po_Book => k_is)
    (case sa_Book => k_is)
    (case nq_Book => k_is)
    (case pg_Notes => k_is)
    (case hd_Notes => k_is)
    (case po_Notes => k_is)
    (case sa_Notes => k_is)
    (case nq_Notes => k_is)
    (case pg_Stock => k_is)
    (case hd_Stock => k_is)
    (case po_Stock => k_is)
    (case sa_Stock => k_is)
    (case nq_Stock => k_is)
    (case pg_Table => k_is)
    (case hd_Table => k_is)
    (case po_Table => k_is)
    (case sa_Table => k_is)
    (case nq_Table => k_is)
    (case n_Book_table => k_is)
    (case n_Book_ways => k_is)
    (case n_Notes_book => k_is)
    (case n_Notes_prices => k_is)
    (case n_Notes_rows => k_is)
    (case n_Notes_spots => k_is)
    (case n_Stock_chains => k_is)
    (case n_Stock_shapes => k_is)
    (case n_Stock_under => k_is)
    (case n_Table_rules => k_is)
    (case n_Table_stock => k_is)
    (case z_all => k_is)
    (case z_any => k_is)
    (case z_bool => k_is)
    (case z_dict => k_is)
    (case z_enumerate => k_is)
    (case z_int => k_is)
    (case z_isinstance => k_is)
    (case z_len => k_is)
    (case z_list => k_is)
    (case z_range => k_is)
    (case z_reversed => k_is)
    (case z_str => k_is)
    (case z_tuple => k_is)
    (case z_zip => k_is)
    (case s_SMALL => k_is)
    (case s_CAPITAL => k_is)
    (case x_BadPrices => k_is)
    (case x_BadRule => k_is)
    (case x_BadWay => k_is)
    (case x_NotesError => k_is)
    (case x_UnknownSign => k_is)
    (case e3_BadPrices => k_is)
    (case e4_BadPrices => k_is)
    (case e5_BadPrices => k_is)
    (case e1_BadPrices => k_is)
    (case e2_BadPrices => k_exc)
    (case e6_BadPrices => k_is)
    (case e7_BadPrices => k_is)
    (case e8_BadPrices => k_is)
    (case e9_BadPrices => k_is)
    (case e10_BadPrices => k_is)
    (case e11_BadPrices => k_is)
    (case e3_BadRule => k_is)
    (case e4_BadRule => k_is)
    (case e5_BadRule => k_is)
    (case e1_BadRule => k_is)
    (case e2_BadRule => k_exc)
    (case e6_BadRule => k_is)
    (case e7_BadRule => k_is)
    (case e8_BadRule => k_is)
    (case e9_BadRule => k_is)
    (case e10_BadRule => k_is)
    (case e11_BadRule => k_is)
    (case e3_BadWay => k_is)
    (case e4_BadWay => k_is)
    (case e5_BadWay => k_is)
    (case e1_BadWay => k_is)
    (case e2_BadWay => k_exc)
    (case e6_BadWay => k_is)
    (case e7_BadWay => k_is)
    (case e8_BadWay => k_is)
    (case e9_BadWay => k_is)
    (case e10_BadWay => k_is)
    (case e11_BadWay => k_is)
    (case e3_UnknownSign => k_is)
    (case e4_UnknownSign => k_is)
    (case e5_UnknownSign => k_is)
    (case e1_UnknownSign => k_is)
    (case e6_UnknownSign => k_is)
    (case e7_UnknownSign => k_is)
    (case e8_UnknownSign => k_is)
    (case e9_UnknownSign => k_is)
    (case e10_UnknownSign => k_is)
    (case e11_UnknownSign => k_is)
    (case o1_UnknownSign => k_is)
    (case o2_UnknownSign => rfl)
    (case o3_UnknownSign => k_is)
    (case j1_UnknownSign => k_is)
    (case j2_UnknownSign => k_is)
    (case j3_UnknownSign => k_is)
    (case u1_UnknownSign => k_is)
    (case u2_UnknownSign => k_is)
    (case u3_UnknownSign => k_is)
    (case u4_UnknownSign => rfl)
    (case u5_UnknownSign => decide +kernel)
    (case u6_UnknownSign => k_is)
    (case u7_UnknownSign => k_is)
    (case u8_UnknownSign => k_is)
    (case u9 => k_is)
    (case u10 => decide +kernel)
    (case u11 => k_is)
    (case u12_UnknownSign => ks_is)
    (case u13_UnknownSign => k_is)
    (case e3_NotesError => k_is)
    (case e4_NotesError => k_is)
    (case e5_NotesError => k_is)
    (case em_BadPrices_NotesError => k_is)
