import PyProof.Rows.All
import Wide.All
import OpenK.AllK
import Wide.FinOn
import HandS.ForMost
import HandS.Conv
import HandS.SetKeys
import HandS.Small
import HandS.StrMore
import HandS.RaiseMore
import KE.KDictKeyed
import HandS.Style
import KE.DataMinMax
import HandS.Text
import HandS.TupLen
import HandS.TupSets
import HandS.TupAny
import HandS.SortInts
import HandS.Zip0
import KE.KDictZip
import PyProof.ListRange
import HandS.Star
import HandS.ExcValue
import HandS.TupMul
import KE.GoesNew
import HandS.Iter
import HandS.Zip
import HandS.Sort
import HandS.Rev
import HandS.RevRange
import HandS.Defaults
import HandS.Gcd
import HandS.SortKw
import KE.DatumOrd
import HandS.SetBool
import PySem.Challenge.RW_pairdyes_k09_breaches_of_closed_dyeings
set_option Elab.async false
set_option linter.all false
set_option maxRecDepth 100000
set_option autoImplicit false
namespace TL
open PySem PySem.Spec PyProof.Rows L2

/-- a tuple that is known as the object it is, without a dict of its own -/
def TX (H : Hp) (a : Addr) (vs : List V) : Prop := ∃ o : Obj, o.cls = .type "tuple" ∧ o.dict = none ∧ H a = some (.frz o (.tup vs))
theorem TX.mono {H H' : Hp} {a : Addr} {vs : List V} (s : Same H H') (h : TX H a vs) : TX H' a vs := by
  obtain ⟨o, h1, h2, h3⟩ := h
  exact ⟨o, h1, h2, s _ _ h3⟩
theorem TX.sq {K : PySem.W.Frag} {H : Hp} {a : Addr} {vs : List V} (h : TX H a vs) : SqT K H a vs := by
  obtain ⟨o, _, _, h3⟩ := h
  exact .inl (.inr ⟨o, h3⟩)
/-! trees over the abstract heap -/
mutual
inductive Tr (H : Hp) : V → PyData → Prop
  | non : Tr H .non .none
  | bl (b : Bool) : Tr H (.bl b) (.bool b)
  | int (i : Int) : Tr H (.int i) (.int i)
  | str (x : Str) : Tr H (.str x) (.str x)
  | tup {a : Addr} {vs : List V} {ds : List PyData} : TX H a vs → Trs H vs ds → Tr H (.ref a) (.tuple ds)
  | lst {a : Addr} {vs : List V} {ds : List PyData} : H a = some (.lst vs) → Trs H vs ds → Tr H (.ref a) (.list ds)
inductive Trs (H : Hp) : List V → List PyData → Prop
  | nil : Trs H [] []
  | cons {v : V} {d : PyData} {vs : List V} {ds : List PyData} : Tr H v d → Trs H vs ds → Trs H (v :: vs) (d :: ds)
end
mutual
theorem Tr.mono {H H' : Hp} (s : Same H H') : ∀ {v : V} {d : PyData}, Tr H v d → Tr H' v d
  | _, _, .non => .non
  | _, _, .bl b => .bl b
  | _, _, .int i => .int i
  | _, _, .str x => .str x
  | _, _, .tup e t => .tup (e.mono s) (Trs.mono s t)
  | _, _, .lst e t => .lst (s _ _ e) (Trs.mono s t)
theorem Trs.mono {H H' : Hp} (s : Same H H') : ∀ {vs : List V} {ds : List PyData}, Trs H vs ds → Trs H' vs ds
  | _, _, .nil => .nil
  | _, _, .cons t u => .cons (Tr.mono s t) (Trs.mono s u)
end
theorem Trs.length {H : Hp} : ∀ {vs : List V} {ds : List PyData}, Trs H vs ds → vs.length = ds.length
  | _, _, .nil => rfl
  | _, _, .cons _ u => by simp [Trs.length u]
theorem Trs.get {H : Hp} : ∀ {vs : List V} {ds : List PyData} {i : Nat} {d : PyData}, Trs H vs ds → ds[i]? = some d → ∃ v, vs[i]? = some v ∧ Tr H v d
  | _, _, i, d, .nil, e => by simp at e
  | _, _, 0, d, .cons t u, e => by simp at e; subst e; exact ⟨_, rfl, t⟩
  | _, _, i + 1, d, .cons t u, e => by
    obtain ⟨v, h1, h2⟩ := Trs.get (i := i) (d := d) u (by simpa using e)
    exact ⟨v, by simpa using h1, h2⟩
theorem Trs.getV {H : Hp} : ∀ {vs : List V} {ds : List PyData} {i : Nat} {v : V}, Trs H vs ds → vs[i]? = some v → ∃ d, ds[i]? = some d ∧ Tr H v d
  | _, _, i, d, .nil, e => by simp at e
  | _, _, 0, d, .cons t u, e => by simp at e; subst e; exact ⟨_, rfl, t⟩
  | _, _, i + 1, d, .cons t u, e => by
    obtain ⟨v, h1, h2⟩ := Trs.getV (i := i) (v := d) u (by simpa using e)
    exact ⟨v, by simpa using h1, h2⟩
theorem Trs.append {H : Hp} : ∀ {vs ws : List V} {ds es : List PyData}, Trs H vs ds → Trs H ws es → Trs H (vs ++ ws) (ds ++ es)
  | _, _, _, _, .nil, s => s
  | _, _, _, _, .cons t u, s => .cons t (Trs.append u s)
theorem Trs.ints {H : Hp} : ∀ ns : List Int, Trs H (ns.map V.int) (ns.map PyData.int)
  | [] => .nil
  | n :: ns => .cons (.int n) (Trs.ints ns)
theorem Trs.of_ints {H : Hp} : ∀ {ns : List Int} {vs : List V}, Trs H vs (ns.map PyData.int) → vs = ns.map V.int
  | [], _, .nil => rfl
  | n :: ns, _, .cons t u => by cases t; rw [Trs.of_ints u]; rfl
theorem Trs.set {H : Hp} {x : V} {d : PyData} (t : Tr H x d) : ∀ {vs : List V} {ds : List PyData} (i : Nat), Trs H vs ds → Trs H (vs.set i x) (ds.set i d)
  | _, _, _, .nil => .nil
  | _, _, 0, .cons _ u => .cons t u
  | _, _, i + 1, .cons q u => .cons q (Trs.set t i u)

/-! the draws' dict -/
def msKv (l s : Int) (c : Addr) (p : Int) : List (Key × V) :=
  [(.inr "left", .int l), (.inr "seed", .int s), (.inr "cells", .ref c), (.inr "spot", .int p)]
structure MS (Hc H : Hp) (a : Addr) (n : Nat) : Prop where
  out : Hc a = none
  ex : ∃ (l s p : Int) (c : Addr) (ns : List Int), H a = some (.dK (msKv l s c p)) ∧ Hc c = some (.lst (ns.map V.int)) ∧
    ns ≠ [] ∧ ns.length ≤ 200 ∧ 0 ≤ s ∧ s < 2147483647 ∧ 0 ≤ p ∧ p ≤ n

/-! dicts whose keys are tuples, nested too, and whose values are the numbers of their keys -/
mutual
/-- a key, of data -/
def nkD : PyData → Option NestedKey
  | .none => some .none
  | .bool b => some (.num (if b = true then 1 else 0))
  | .int i => some (.num i)
  | .str x => some (.text x)
  | .tuple ds => (nkDs ds).map .tup
  | _ => none
def nkDs : List PyData → Option (List NestedKey)
  | [] => some []
  | d :: ds => match nkD d, nkDs ds with
    | some k, some ks => some (k :: ks)
    | _, _ => none
end
/-- the dict's own object: its keys, where their tuples stand -/
def DnO (P : Program) (w : World) (a : Addr) (ka : List (NestedKey × Addr)) : Heap → Prop := fun h => (a == sysModules) = false ∧ ∃ (xs : List (NestedKey × Addr × Value)) (o : Obj) (es : Array DictEntry) (ep : Nat),
  xs.map (fun x => (x.1, x.2.1)) = ka ∧ (∀ (i : Nat) x, xs[i]? = some x → ∃ t, x.2.2 = .int (i : Int) t) ∧ h.get? a = some o ∧ o.ExactDict ∧ o.data = .dict es ep ∧ es.toList = xs.map (entryOfKey (nestedKind P w)) ∧ (xs.map (·.1)).Nodup
def NkT (H : Hp) (p : NestedKey × Addr) : Prop := (∃ d, Tr H (.ref p.2) d ∧ nkD d = some p.1) ∧ p.1.depth ≤ 8
def DnK (H : Hp) (ka : List (NestedKey × Addr)) (ks : List NestedKey) : Prop := ka.map (·.1) = ks ∧ ∀ p, p ∈ ka → NkT H p
theorem DnK.mono {H H' : Hp} (s : Same H H') {ka : List (NestedKey × Addr)} {ks : List NestedKey} (h : DnK H ka ks) : DnK H' ka ks := ⟨h.1, fun p hp => by
  obtain ⟨⟨d, t, e⟩, l⟩ := h.2 p hp
  exact ⟨⟨d, t.mono s, e⟩, l⟩⟩
/-! what a slot holds -/
inductive Sl where
  | no
  | va (d : PyData)
  | raw (v : V) (φ : Hp → Prop)
  | ow (ds : List PyData)
  | dk (a : Addr) (kvs : List (Key × PyData))
  | oa (a : Addr) (ds : List PyData)
  | dn (P : Program) (w : World) (a : Addr) (ks : List NestedKey)
  | ms (a : Addr) (n : Nat)
def Sl.own : Sl → Bool
  | .ow _ | .dk _ _ | .oa _ _ | .dn _ _ _ _ | .ms _ _ => true
  | _ => false
abbrev En := List Sl
def KTr (H : Hp) : List (Key × V) → List (Key × PyData) → Prop
  | [], [] => True
  | (k, v) :: r, (j, d) :: q => k = j ∧ Tr H v d ∧ KTr H r q
  | _, _ => False
theorem KTr.mono {H H' : Hp} (s : Same H H') : ∀ {a : List (Key × V)} {b : List (Key × PyData)}, KTr H a b → KTr H' a b
  | [], [], _ => trivial
  | (_, _) :: _, (_, _) :: _, ⟨e, t, r⟩ => ⟨e, t.mono s, KTr.mono s r⟩
  | [], _ :: _, h => h.elim
  | _ :: _, [], h => h.elim
def SlotOk (Hc H : Hp) (s : Sl) (o : Option (Option V)) : Prop := match s with
  | .no => True
  | .va d => ∃ v, o = some (some v) ∧ Tr Hc v d
  | .raw v φ => o = some (some v) ∧ φ Hc ∧ ∀ H1 H2 : Hp, Same H1 H2 → φ H1 → φ H2
  | .ow ds => ∃ a vs, o = some (some (.ref a)) ∧ Hc a = none ∧ H a = some (.lst vs) ∧ Trs Hc vs ds
  | .dk a kvs => ∃ ks, o = some (some (.ref a)) ∧ Hc a = none ∧ H a = some (.dK ks) ∧ KTr Hc ks kvs
  | .oa a ds => ∃ vs, o = some (some (.ref a)) ∧ Hc a = none ∧ H a = some (.lst vs) ∧ Trs Hc vs ds
  | .dn P w a ks => o = some (some (.ref a)) ∧ Hc a = none ∧ ∃ ka, H a = some (.ext (DnO P w a ka)) ∧ DnK Hc ka ks
  | .ms a n => o = some (some (.ref a)) ∧ MS Hc H a n
def Own (σ : L2.St) (env : En) (a : Addr) : Prop := ∃ (i : Nat) (s : Sl), env[i]? = some s ∧ s.own = true ∧ σ[i]? = some (some (.ref a))
structure Rp (Hc H : Hp) (σ : L2.St) (env : En) : Prop where
  same : Same Hc H
  ok : ∀ (i : Nat) (s : Sl), env[i]? = some s → SlotOk Hc H s σ[i]?
  inj : ∀ (i j : Nat) (s t : Sl) (a : Addr), env[i]? = some s → env[j]? = some t → s.own = true → t.own = true → σ[i]? = some (some (.ref a)) → σ[j]? = some (some (.ref a)) → i = j
  len : σ.length = env.length
structure Go (Hc H : Hp) (σ : L2.St) (env : En) (Hc' H' : Hp) (σ' : L2.St) (env' : En) : Prop where
  rep : Rp Hc' H' σ' env'
  core : Same Hc Hc'
  kp : ∀ a o, H a = some o → ¬ Own σ env a → H' a = some o
  out : ∀ a, H a ≠ none → Hc a = none → ¬ Own σ env a → Hc' a = none
  own : ∀ a, Own σ' env' a → Own σ env a ∨ H a = none
  ex : ∀ a, H a ≠ none → H' a ≠ none
theorem Go.refl {Hc H : Hp} {σ : L2.St} {env : En} (r : Rp Hc H σ env) : Go Hc H σ env Hc H σ env :=
  ⟨r, Same.refl _, fun _ _ e _ => e, fun _ _ e _ => e, fun _ o => .inl o, fun _ e => e⟩
theorem Go.trans {Hc H Hc1 H1 Hc2 H2 : Hp} {σ σ1 σ2 : L2.St} {env env1 env2 : En} (g : Go Hc H σ env Hc1 H1 σ1 env1) (k : Go Hc1 H1 σ1 env1 Hc2 H2 σ2 env2) : Go Hc H σ env Hc2 H2 σ2 env2 where
  rep := k.rep
  core := g.core.trans k.core
  kp := fun a o e n => k.kp a o (g.kp a o e n) fun q => (g.own a q).elim n fun z => by rw [z] at e; cases e
  out := fun a e c n => k.out a (g.ex a e) (g.out a e c n) fun q => (g.own a q).elim n fun z => e z
  own := fun a q => (k.own a q).elim (g.own a) fun z => .inr (by
    by_cases e : H a = none
    · exact e
    · exact absurd z (g.ex a e))
  ex := fun a e => k.ex a (g.ex a e)
/-- nothing but growth -/
structure Ext (Hc H Hc' H' : Hp) : Prop where
  all : Same H H'
  core : Same Hc Hc'
  sub : Same Hc' H'
  out : ∀ a, H a ≠ none → Hc a = none → Hc' a = none
theorem Ext.refl {Hc H : Hp} (s : Same Hc H) : Ext Hc H Hc H := ⟨Same.refl _, Same.refl _, s, fun _ _ e => e⟩
theorem Ext.trans {Hc H Hc1 H1 Hc2 H2 : Hp} (a : Ext Hc H Hc1 H1) (b : Ext Hc1 H1 Hc2 H2) : Ext Hc H Hc2 H2 :=
  ⟨a.all.trans b.all, a.core.trans b.core, b.sub, fun x e c => b.out x (by
    cases q : H x with
    | none => exact absurd q e
    | some o => rw [a.all x o q]; simp) (a.out x e c)⟩
theorem Ext.new {Hc H : Hp} {p : Addr} {o : HO} (s : Same Hc H) (h : H p = none) : Ext Hc H (upd Hc p o) (upd H p o) := by
  have hc : Hc p = none := Same.free s h
  refine ⟨?_, ?_, ?_, ?_⟩
  · intro b u e
    rw [upd_ne (ne_of_none e h)]
    exact e
  · intro b u e
    rw [upd_ne (ne_of_none e hc)]
    exact e
  · intro b u e
    by_cases hb : b = p
    · subst hb
      rw [upd_same] at e ⊢
      exact e
    · rw [upd_ne hb] at e ⊢
      exact s b u e
  · intro b e c
    have hb : b ≠ p := fun z => e (z ▸ h)
    rw [upd_ne hb]
    exact c
theorem slot_ext {Hc H Hc' H' : Hp} (x : Ext Hc H Hc' H') {s : Sl} {o : Option (Option V)} (h : SlotOk Hc H s o) : SlotOk Hc' H' s o := by
  have nn : ∀ {a : Addr} {u : HO}, H a = some u → H a ≠ none := fun e z => by rw [e] at z; cases z
  cases s with
  | no => trivial
  | va d => obtain ⟨v, e, t⟩ := h; exact ⟨v, e, t.mono x.core⟩
  | raw v φ => exact ⟨h.1, h.2.2 _ _ x.core h.2.1, h.2.2⟩
  | ow ds => obtain ⟨a, vs, e, c, u, t⟩ := h; exact ⟨a, vs, e, x.out a (nn u) c, x.all _ _ u, t.mono x.core⟩
  | dk a kvs => obtain ⟨vs, e, c, u, t⟩ := h; exact ⟨vs, e, x.out a (nn u) c, x.all _ _ u, t.mono x.core⟩
  | oa a kvs => obtain ⟨vs, e, c, u, t⟩ := h; exact ⟨vs, e, x.out a (nn u) c, x.all _ _ u, t.mono x.core⟩
  | dn P w a ks => obtain ⟨e, c, ka, u, t⟩ := h; exact ⟨e, x.out a (nn u) c, ka, x.all _ _ u, t.mono x.core⟩
  | ms a n =>
    obtain ⟨e, ⟨c, l, s, p, b, ns, h1, h2, h3⟩⟩ := h
    exact ⟨e, x.out a (nn h1) c, l, s, p, b, ns, x.all _ _ h1, x.core _ _ h2, h3⟩
theorem Ext.go {Hc H Hc' H' : Hp} (x : Ext Hc H Hc' H') {σ : L2.St} {env : En} (r : Rp Hc H σ env) : Go Hc H σ env Hc' H' σ env where
  rep := ⟨x.sub, fun i s e => slot_ext x (r.ok i s e), r.inj, r.len⟩
  core := x.core
  kp := fun a o e _ => x.all a o e
  out := fun a e c _ => x.out a e c
  own := fun _ q => .inl q
  ex := fun a e => by
    cases q : H a with
    | none => exact absurd q e
    | some o => rw [x.all a o q]; simp
end TL

namespace TL
open PySem PySem.Spec PyProof.Rows L2

structure Gx where
  N : List Str
  sc : Scope
  K : PySem.W.Frag
  mg : Str → Option Value
  P : Program
  w : World
  base : Heap
  A : Around
structure InG (G : Gx) (X : Cx) : Prop where
  N : X.N = G.N
  sc : X.env.scope = G.sc
  K : X.K = G.K
  mg : X.mg = G.mg
  P : X.prog = G.P
  w : X.w = G.w
  base : X.base = G.base
  A : X.A = G.A
  calm : X.calm = true
abbrev Pins := List (Addr × Obj)
/-- what is known behind an expression -/
abbrev Fin (Hc H : Hp) (σ : L2.St) (env : En) (P : PyData → En → Prop) (Q : VK) : Prop :=
  ∀ (v : V) (d : PyData) (env' : En) (Hc' H' : Hp), P d env' → Go Hc H σ env Hc' H' σ env' → Tr Hc' v d → Q v H'
def W (G : Gx) (e : Expr) (env : En) (P : PyData → En → Prop) : Prop :=
  ∀ X, InG G X → ∀ (pins : Pins) (s : Shared) (σ : L2.St) (Hc H : Hp) (Q : VK), Inv X pins σ H s → Rp Hc H σ env → Fin Hc H σ env P Q →
    wpAny (model X.prog X.w) X.A (eval e X.env) (EP X pins σ Q) X.xe s
def tW (G : Gx) (e : Expr) : TE := fun σ H Q => ∃ Hc env P, Rp Hc H σ env ∧ W G e env P ∧ Fin Hc H σ env P Q
theorem peW {G : Gx} {X : Cx} (hX : InG G X) (e : Expr) : PE X e (tW G e) :=
  ⟨fun pins s σ H Q I ⟨Hc, env, P, R, w, q⟩ => w X hX pins s σ Hc H Q I R q⟩
theorem W.of {G : Gx} {e : Expr} {env : En} {P : PyData → En → Prop} (te : Cx → TE) (h : ∀ X, InG G X → PE X e (te X))
    (r : ∀ X, InG G X → ∀ (σ : L2.St) (Hc H : Hp) (Q : VK), Rp Hc H σ env → Fin Hc H σ env P Q → te X σ H Q) : W G e env P :=
  fun X hX pins s σ Hc H Q I R q => (h X hX).run pins s σ H Q I (r X hX σ Hc H Q R q)
theorem W.imp {G : Gx} {e : Expr} {env : En} {P P' : PyData → En → Prop} (h : W G e env P) (k : ∀ d env', P d env' → P' d env') : W G e env P' :=
  fun X hX pins s σ Hc H Q I R q => h X hX pins s σ Hc H Q I R fun v d env' Hc' H' p => q v d env' Hc' H' (k _ _ p)
/-- reading a part: its end is taken from where it stands -/
theorem tW.use {G : Gx} {e : Expr} {env : En} {P : PyData → En → Prop} {σ : L2.St} {Hc H : Hp} {Q : VK} (R : Rp Hc H σ env) (h : W G e env P) (q : Fin Hc H σ env P Q) : tW G e σ H Q := ⟨Hc, env, P, R, h, q⟩
/-- tests -/
abbrev FinT (Hc H : Hp) (σ : L2.St) (env : En) (P : Bool → En → Prop) (Q : Bool → Hp → Prop) : Prop :=
  ∀ (b : Bool) (env' : En) (Hc' H' : Hp), P b env' → Go Hc H σ env Hc' H' σ env' → Q b H'
def WT (G : Gx) (e : Expr) (env : En) (P : Bool → En → Prop) : Prop :=
  ∀ X, InG G X → ∀ (pins : Pins) (s : Shared) (σ : L2.St) (Hc H : Hp) (Q : Bool → Hp → Prop), Inv X pins σ H s → Rp Hc H σ env → FinT Hc H σ env P Q →
    wpAny (model X.prog X.w) X.A (isTrue e X.env (eval e X.env)) (TP X pins σ Q) X.xe s
def tWT (G : Gx) (e : Expr) : TT := fun σ H Q => ∃ Hc env P, Rp Hc H σ env ∧ WT G e env P ∧ FinT Hc H σ env P Q
theorem ptW {G : Gx} {X : Cx} (hX : InG G X) (e : Expr) : PT X e (tWT G e) :=
  ⟨fun pins s σ H Q I ⟨Hc, env, P, R, w, q⟩ => w X hX pins s σ Hc H Q I R q⟩
theorem WT.of {G : Gx} {e : Expr} {env : En} {P : Bool → En → Prop} (te : Cx → TT) (h : ∀ X, InG G X → PT X e (te X))
    (r : ∀ X, InG G X → ∀ (σ : L2.St) (Hc H : Hp) (Q : Bool → Hp → Prop), Rp Hc H σ env → FinT Hc H σ env P Q → te X σ H Q) : WT G e env P :=
  fun X hX pins s σ Hc H Q I R q => (h X hX).run pins s σ H Q I (r X hX σ Hc H Q R q)
theorem WT.imp {G : Gx} {e : Expr} {env : En} {P P' : Bool → En → Prop} (h : WT G e env P) (k : ∀ b env', P b env' → P' b env') : WT G e env P' :=
  fun X hX pins s σ Hc H Q I R q => h X hX pins s σ Hc H Q I R fun b env' Hc' H' p => q b env' Hc' H' (k _ _ p)

/-! ### leaves -/
section
variable {G : Gx} {env : En} {P : PyData → En → Prop}
theorem w_int {i : Int} {j : Nat} {pos : Pos} (h : P (.int i) env) : W G (.Constant (.int i) j pos) env P :=
  W.of (fun _ => tC (.int i)) (fun _ _ => pe_int) fun _ _ σ Hc H Q R q => q _ _ env Hc H h (.refl R) (.int i)
theorem w_bl {b : Bool} {j : Nat} {pos : Pos} (h : P (.bool b) env) : W G (.Constant (.bool b) j pos) env P :=
  W.of (fun _ => tC (.bl b)) (fun _ _ => pe_bl) fun _ _ σ Hc H Q R q => q _ _ env Hc H h (.refl R) (.bl b)
theorem w_str {x : Str} {j : Nat} {pos : Pos} (h : P (.str x) env) : W G (.Constant (.str x) j pos) env P :=
  W.of (fun _ => tC (.str x)) (fun _ _ => pe_str) fun _ _ σ Hc H Q R q => q _ _ env Hc H h (.refl R) (.str x)
theorem w_non {j : Nat} {pos : Pos} (h : P .none env) : W G (.Constant .none j pos) env P :=
  W.of (fun _ => tC .non) (fun _ _ => pe_non) fun _ _ σ Hc H Q R q => q _ _ env Hc H h (.refl R) .non
theorem pvG {X : Cx} (hX : InG G X) (i : Nat) {x : Str} {pos : Pos} (hN : G.N[i]? = some x) (hv : Vis G.sc x)
    (hd : (x == ("__debug__" : Str)) = false) (hcd : (x == ("__classdict__" : Str)) = false) : PE X (.Name x pos) (tVar i) :=
  pe_var (by rw [hX.N]; exact hN) (by rw [hX.sc]; exact hv) hd hcd
theorem w_name (i : Nat) {d : PyData} {x : Str} {pos : Pos} (h : P d env) (he : env[i]? = some (.va d) := by rfl) (hN : G.N[i]? = some x := by rfl) (hv : Vis G.sc x := by first | exact Or.inl rfl | exact Or.inr (Or.inl rfl) | exact Or.inr (Or.inr rfl))
    (hd : (x == ("__debug__" : Str)) = false := by decide) (hcd : (x == ("__classdict__" : Str)) = false := by decide) : W G (.Name x pos) env P :=
  W.of (fun _ => tVar i) (fun X hX => pvG hX i hN hv hd hcd) fun _ _ σ Hc H Q R q => by
    obtain ⟨v, e, t⟩ := R.ok i _ he
    exact ⟨v, e, q _ _ env Hc H h (.refl R) t⟩
/-- an owned list becomes a value -/
theorem set_own {env : En} {i : Nat} {s t : Sl} {j : Nat} (h : (env.set i t)[j]? = some s) (ht : t.own = false) (hs : s.own = true) : j ≠ i ∧ env[j]? = some s := by
  by_cases e : j = i
  · subst e
    by_cases l : j < env.length
    · rw [List.getElem?_set_self l] at h
      cases h
      rw [ht] at hs
      cases hs
    · rw [List.getElem?_eq_none (by simpa using l)] at h
      cases h
  · exact ⟨e, by rw [List.getElem?_set_ne (Ne.symm e)] at h; exact h⟩
theorem own_set {σ : L2.St} {env : En} {i : Nat} {t : Sl} (ht : t.own = false) {a : Addr} (h : Own σ (env.set i t) a) : Own σ env a := by
  obtain ⟨j, s, e1, e2, e3⟩ := h
  exact ⟨j, s, (set_own e1 ht e2).2, e2, e3⟩
theorem freeze {Hc H : Hp} {σ : L2.St} {env : En} {i : Nat} {ds : List PyData} (R : Rp Hc H σ env) (he : env[i]? = some (.ow ds)) :
    ∃ a vs, σ[i]? = some (some (.ref a)) ∧ H a = some (.lst vs) ∧ Trs Hc vs ds ∧ Go Hc H σ env (upd Hc a (.lst vs)) H σ (env.set i (.va (.list ds))) := by
  obtain ⟨a, vs, e1, e2, e3, t⟩ := R.ok i _ he
  refine ⟨a, vs, e1, e3, t, ?_⟩
  have core : Same Hc (upd Hc a (.lst vs)) := fun b o e => by
    rw [upd_ne (ne_of_none e e2)]
    exact e
  have oa : Own σ env a := ⟨i, _, he, rfl, e1⟩
  have li : i < env.length := by
    by_cases l : i < env.length
    · exact l
    · rw [List.getElem?_eq_none (by simpa using l)] at he
      cases he
  refine ⟨⟨?_, ?_, ?_, by rw [List.length_set]; exact R.len⟩, core, fun b o e _ => e, ?_, fun b o => .inl (own_set rfl o), fun b e => e⟩
  · intro b o e
    by_cases hb : b = a
    · subst hb
      rw [upd_same] at e
      cases e
      exact e3
    · rw [upd_ne hb] at e
      exact R.same b o e
  · intro j s e
    by_cases hj : j = i
    · subst hj
      rw [List.getElem?_set_self li] at e
      cases e
      exact ⟨_, e1, .lst upd_same (t.mono core)⟩
    · rw [List.getElem?_set_ne (Ne.symm hj)] at e
      have k := R.ok j s e
      have away : ∀ b, σ[j]? = some (some (.ref b)) → s.own = true → b ≠ a := fun b q1 q2 z => by
        subst z
        exact hj (R.inj j i s _ b e he q2 rfl q1 e1)
      cases s with
      | no => trivial
      | va d => obtain ⟨v, u, t'⟩ := k; exact ⟨v, u, t'.mono core⟩
      | raw v φ => exact ⟨k.1, k.2.2 _ _ core k.2.1, k.2.2⟩
      | ow ds' => obtain ⟨b, ws, u, c, u', t'⟩ := k; exact ⟨b, ws, u, by rw [upd_ne (away b u rfl)]; exact c, u', t'.mono core⟩
      | dk b kvs => obtain ⟨ws, u, c, u', t'⟩ := k; exact ⟨ws, u, by rw [upd_ne (away b u rfl)]; exact c, u', t'.mono core⟩
      | oa b kvs => obtain ⟨ws, u, c, u', t'⟩ := k; exact ⟨ws, u, by rw [upd_ne (away b u rfl)]; exact c, u', t'.mono core⟩
      | dn P w b ks => obtain ⟨u, c, ka, u', t'⟩ := k; exact ⟨u, by rw [upd_ne (away b u rfl)]; exact c, ka, u', t'.mono core⟩
      | ms b n =>
        obtain ⟨u, ⟨c, l, s, p, b', ns, h1, h2, h3⟩⟩ := k
        exact ⟨u, by rw [upd_ne (away b u rfl)]; exact c, l, s, p, b', ns, h1, core _ _ h2, h3⟩
  · intro j k s t' b h1 h2 h3 h4
    have q1 := set_own h1 rfl h3
    have q2 := set_own h2 rfl h4
    exact R.inj j k s t' b q1.2 q2.2 h3 h4
  · intro b e c n
    have hb : b ≠ a := fun z => n (z ▸ oa)
    rw [upd_ne hb]
    exact c
theorem w_freeze (i : Nat) {ds : List PyData} {x : Str} {pos : Pos} (h : P (.list ds) (env.set i (.va (.list ds)))) (he : env[i]? = some (.ow ds) := by rfl) (hN : G.N[i]? = some x := by rfl) (hv : Vis G.sc x := by first | exact Or.inl rfl | exact Or.inr (Or.inl rfl) | exact Or.inr (Or.inr rfl))
    (hd : (x == ("__debug__" : Str)) = false := by decide) (hcd : (x == ("__classdict__" : Str)) = false := by decide) : W G (.Name x pos) env P :=
  W.of (fun _ => tVar i) (fun X hX => pvG hX i hN hv hd hcd) fun _ _ σ Hc H Q R q => by
    obtain ⟨a, vs, e1, e3, t, go⟩ := freeze R he
    exact ⟨_, e1, q _ _ _ _ _ h go (.lst upd_same (t.mono go.core))⟩
end

/-! ### two operands -/
section
variable {G : Gx} {env : En} {P : PyData → En → Prop} {a b : Expr} {pos : Pos}
/-- what a rule by values gives of trees -/
def BR (r : R2) (x y : PyData) (R : PyData → Prop) : Prop :=
  ∀ (Hc H : Hp) (u v : V) (Q : VK), Same Hc H → Tr Hc u x → Tr Hc v y → (∀ z d Hc' H', R d → Ext Hc H Hc' H' → Tr Hc' z d → Q z H') → r u v H Q
theorem tOp_read {r : R2} {σ : L2.St} {Hc H : Hp} {Q : VK} (R : Rp Hc H σ env) (q : Fin Hc H σ env P Q)
    (h : W G a env fun x e1 => W G b e1 fun y e2 => BR r x y fun d => P d e2) : tOp r (tW G a) (tW G b) σ H Q := by
  refine tW.use R h fun u x e1 Hc1 H1 w go1 t1 => ?_
  refine tW.use go1.rep w fun v y e2 Hc2 H2 br go2 t2 => ?_
  exact br Hc2 H2 u v Q go2.rep.same (t1.mono go2.core) t2 fun z d Hc' H' p x t => q z d e2 Hc' H' p ((go1.trans go2).trans (x.go go2.rep)) t
theorem w_bin {op : Operator} {r : Cx → R2} (ho : ∀ X, InG G X → OpR X (binaryOp op) (r X)) (h : ∀ X, InG G X → W G a env fun x e1 => W G b e1 fun y e2 => BR (r X) x y fun d => P d e2) : W G (.BinOp a op b pos) env P :=
  W.of (fun X => tOp (r X) (tW G a) (tW G b)) (fun X hX => pe_op (ho X hX) (peW hX a) (peW hX b)) fun X hX σ Hc H Q R q => tOp_read R q (h X hX)
theorem w_cmp {op : CmpOp} {r : Cx → R2} (ho : ∀ X, InG G X → OpR X (compareOp op) (r X)) (hm : behindInMarks op b = false) (h : ∀ X, InG G X → W G a env fun x e1 => W G b e1 fun y e2 => BR (r X) x y fun d => P d e2) : W G (.Compare a [op] [b] pos) env P :=
  W.of (fun X => tOp (r X) (tW G a) (tW G b)) (fun X hX => pe_cmpR (ho X hX) (peW hX a) (peW hX b) hm) fun X hX σ Hc H Q R q => tOp_read R q (h X hX)
theorem br_int {C : Int → Int → Prop} {g : Int → Int → V} {d : Int → Int → PyData} (hg : ∀ i j H, Tr H (g i j) (d i j)) {R : PyData → Prop} {i j : Int} (hc : C i j) (h : R (d i j)) : BR (rI C g) (.int i) (.int j) R := by
  intro Hc H u v Q s t1 t2 q
  cases t1
  cases t2
  exact ⟨i, j, rfl, rfl, hc, q _ _ Hc H h (.refl s) (hg i j Hc)⟩
theorem br_int0 {g : Int → Int → V} {d : Int → Int → PyData} (hg : ∀ i j H, Tr H (g i j) (d i j)) {R : PyData → Prop} {i j : Int} (h : R (d i j)) : BR (rI0 g) (.int i) (.int j) R := by
  intro Hc H u v Q s t1 t2 q
  cases t1
  cases t2
  exact ⟨i, j, rfl, rfl, q _ _ Hc H h (.refl s) (hg i j Hc)⟩
def I2 (G : Gx) (a b : Expr) (env : En) (K : Int → Int → En → Prop) : Prop := W G a env fun x e1 => ∃ i, x = .int i ∧ W G b e1 fun y e2 => ∃ j, y = .int j ∧ K i j e2
theorem I2.w {K : Int → Int → En → Prop} (h : I2 G a b env K) {B : PyData → PyData → En → Prop} (k : ∀ i j e, K i j e → B (.int i) (.int j) e) : W G a env fun x e1 => W G b e1 fun y e2 => B x y e2 :=
  W.imp h fun x e1 ⟨i, ex, h2⟩ => W.imp h2 fun y e2 ⟨j, ey, h3⟩ => by
    subst ex
    subst ey
    exact k i j e2 h3
theorem w_add (h : I2 G a b env fun i j e => P (.int (i + j)) e) : W G (.BinOp a .Add b pos) env P :=
  w_bin (fun _ _ => op_add) fun X hX => h.w fun i j e p => br_int0 (d := fun i j => .int (i + j)) (fun _ _ _ => .int _) p
theorem w_minus (h : I2 G a b env fun i j e => P (.int (i - j)) e) : W G (.BinOp a .Sub b pos) env P :=
  w_bin (fun _ _ => op_sub) fun X hX => h.w fun i j e p => br_int0 (d := fun i j => .int (i - j)) (fun _ _ _ => .int _) p
theorem w_mul (h : I2 G a b env fun i j e => CMul i j ∧ P (.int (i * j)) e) : W G (.BinOp a .Mult b pos) env P :=
  w_bin (fun _ _ => op_mul) fun X hX => h.w fun i j e p => br_int (d := fun i j => .int (i * j)) (fun _ _ _ => .int _) p.1 p.2
theorem w_mod (h : I2 G a b env fun i j e => 0 < j ∧ P (.int (i % j)) e) : W G (.BinOp a .Mod b pos) env P :=
  w_bin (fun _ _ => op_mod) fun X hX => h.w fun i j e p => br_int (d := fun i j => .int (i % j)) (fun _ _ _ => .int _) p.1 p.2
theorem w_fdiv (h : I2 G a b env fun i j e => CDiv i j ∧ P (.int (i / j)) e) : W G (.BinOp a .FloorDiv b pos) env P :=
  w_bin (fun _ _ => op_fdiv) fun X hX => h.w fun i j e p => br_int (d := fun i j => .int (i / j)) (fun _ _ _ => .int _) p.1 p.2
theorem w_pow (h : I2 G a b env fun i j e => CPow i j ∧ P (.int (i ^ j.toNat)) e) : W G (.BinOp a .Pow b pos) env P :=
  w_bin (fun _ _ => op_pow) fun X hX => h.w fun i j e p => br_int (d := fun i j => .int (i ^ j.toNat)) (fun _ _ _ => .int _) p.1 p.2
theorem w_lt (h : I2 G a b env fun i j e => P (.bool (decide (i < j))) e) : W G (.Compare a [.Lt] [b] pos) env P :=
  w_cmp (fun _ _ => op_lt) (nomark _) fun X hX => h.w fun i j e p => br_int0 (d := fun i j => .bool (decide (i < j))) (fun _ _ _ => .bl _) p
theorem w_le (h : I2 G a b env fun i j e => P (.bool (decide (i ≤ j))) e) : W G (.Compare a [.LtE] [b] pos) env P :=
  w_cmp (fun _ _ => op_le) (nomark _) fun X hX => h.w fun i j e p => br_int0 (d := fun i j => .bool (decide (i ≤ j))) (fun _ _ _ => .bl _) p
theorem w_gt (h : I2 G a b env fun i j e => P (.bool (decide (j < i))) e) : W G (.Compare a [.Gt] [b] pos) env P :=
  w_cmp (fun _ _ => op_gt) (nomark _) fun X hX => h.w fun i j e p => br_int0 (d := fun i j => .bool (decide (j < i))) (fun _ _ _ => .bl _) p
theorem w_ge (h : I2 G a b env fun i j e => P (.bool (decide (j ≤ i))) e) : W G (.Compare a [.GtE] [b] pos) env P :=
  w_cmp (fun _ _ => op_ge) (nomark _) fun X hX => h.w fun i j e p => br_int0 (d := fun i j => .bool (decide (j ≤ i))) (fun _ _ _ => .bl _) p
/-- == and != of none, bools, ints, texts -/
def flatD : PyData → Option V
  | .none => some .non
  | .bool b => some (.bl b)
  | .int i => some (.int i)
  | .str x => some (.str x)
  | _ => none
theorem flatD_tr {H : Hp} {v : V} {d : PyData} {x : V} (t : Tr H v d) (e : flatD d = some x) : v = x := by
  cases t <;> first | (cases e; rfl) | cases e
theorem w_eqF (h : W G a env fun x e1 => W G b e1 fun y e2 => ∃ u v, flatD x = some u ∧ flatD y = some v ∧ scal u v = true ∧ P (.bool (decide (u = v))) e2) : W G (.Compare a [.Eq] [b] pos) env P :=
  w_cmp (fun _ _ => op_eq) (nomark _) fun X hX => W.imp h fun x e1 h2 => W.imp h2 fun y e2 ⟨u, v, e3, e4, e5, p⟩ => by
    intro Hc H u' v' Q s t1 t2 q
    rw [flatD_tr t1 e3, flatD_tr t2 e4]
    exact ⟨e5, q _ _ Hc H p (.refl s) (.bl _)⟩
theorem w_neF (h : W G a env fun x e1 => W G b e1 fun y e2 => ∃ u v, flatD x = some u ∧ flatD y = some v ∧ scal u v = true ∧ P (.bool (!decide (u = v))) e2) : W G (.Compare a [.NotEq] [b] pos) env P :=
  w_cmp (fun _ _ => op_ne) (nomark _) fun X hX => W.imp h fun x e1 h2 => W.imp h2 fun y e2 ⟨u, v, e3, e4, e5, p⟩ => by
    intro Hc H u' v' Q s t1 t2 q
    rw [flatD_tr t1 e3, flatD_tr t2 e4]
    exact ⟨e5, q _ _ Hc H p (.refl s) (.bl _)⟩
theorem dec_vi {i j : Int} : decide (V.int i = V.int j) = decide (i = j) := by
  by_cases e : i = j
  · subst e; simp
  · rw [decide_eq_false e, decide_eq_false fun q => e (V.int.inj q)]
theorem w_eqI (h : I2 G a b env fun i j e => P (.bool (decide (i = j))) e) : W G (.Compare a [.Eq] [b] pos) env P :=
  w_eqF (h.w fun i j e p => ⟨_, _, rfl, rfl, rfl, by rw [dec_vi]; exact p⟩)
theorem w_neI (h : I2 G a b env fun i j e => P (.bool (!decide (i = j))) e) : W G (.Compare a [.NotEq] [b] pos) env P :=
  w_neF (h.w fun i j e p => ⟨_, _, rfl, rfl, rfl, by rw [dec_vi]; exact p⟩)
/-! data of any depth -/
mutual
theorem dp_of {K : PySem.W.Frag} {H : Hp} : ∀ {v : V} {d : PyData}, Tr H v d → Dp K H v d
  | _, _, .non => .non
  | _, _, .bl b => .bl b
  | _, _, .int i => .int i
  | _, _, .str x => .str x
  | _, _, .tup e t => .tup e.sq (dps_of t)
  | _, _, .lst e t => .lst (SqL.of e) (dps_of t)
theorem dps_of {K : PySem.W.Frag} {H : Hp} : ∀ {vs : List V} {ds : List PyData}, Trs H vs ds → DpAll K H vs ds
  | _, _, .nil => .nil
  | _, _, .cons t u => .cons (dp_of t) (dps_of u)
end
theorem w_eqD (hu : G.A.units + 64 < cLine) (h : W G a env fun x e1 => W G b e1 fun y e2 => SeqAt.shaped x = true ∧ SeqAt.shaped y = true ∧ P (.bool (PyData.eqv x y)) e2) : W G (.Compare a [.Eq] [b] pos) env P :=
  w_cmp (r := fun X => rEqD X.K) (fun X hX => op_eqD (by rw [hX.A]; exact hu)) (nomark _) fun X hX => W.imp h fun x e1 h2 => W.imp h2 fun y e2 ⟨s1, s2, p⟩ => by
    intro Hc H u' v' Q s t1 t2 q
    exact ⟨x, y, dp_of (t1.mono s), dp_of (t2.mono s), s1, s2, q _ _ Hc H p (.refl s) (.bl _)⟩
theorem w_neD (hu : G.A.units + 64 < cLine) (h : W G a env fun x e1 => W G b e1 fun y e2 => SeqAt.shaped x = true ∧ SeqAt.shaped y = true ∧ P (.bool (!PyData.eqv x y)) e2) : W G (.Compare a [.NotEq] [b] pos) env P :=
  w_cmp (r := fun X => rNeD X.K) (fun X hX => op_neD (by rw [hX.A]; exact hu)) (nomark _) fun X hX => W.imp h fun x e1 h2 => W.imp h2 fun y e2 ⟨s1, s2, p⟩ => by
    intro Hc H u' v' Q s t1 t2 q
    exact ⟨x, y, dp_of (t1.mono s), dp_of (t2.mono s), s1, s2, q _ _ Hc H p (.refl s) (.bl _)⟩
/-- list + list -/
theorem w_cat (h : W G a env fun x e1 => ∃ xs, x = .list xs ∧ W G b e1 fun y e2 => ∃ ys, y = .list ys ∧ xs.length + ys.length ≤ sizeLine ∧ P (.list (xs ++ ys)) e2) : W G (.BinOp a .Add b pos) env P :=
  w_bin (fun _ _ => op_cat) fun X hX => W.imp h fun x e1 ⟨xs, ex, h2⟩ => W.imp h2 fun y e2 ⟨ys, ey, hl, p⟩ => by
    subst ex
    subst ey
    intro Hc H u' v' Q s t1 t2 q
    cases t1 with
    | @lst a1 vs1 _ m1 k1 =>
      cases t2 with
      | @lst a2 vs2 _ m2 k2 =>
        refine ⟨_, _, _, _, rfl, rfl, s _ _ m1, s _ _ m2, by rw [k1.length, k2.length]; exact hl, fun p' hp => ?_⟩
        have x := Ext.new (o := .lst (vs1 ++ vs2)) s hp
        exact q _ _ _ _ p x (.lst upd_same (Trs.append (k1.mono x.core) (k2.mono x.core)))
/-- subscripts of lists and tuples -/
def itemD : PyData → Option (List PyData)
  | .list xs => some xs
  | .tuple xs => some xs
  | _ => none
def atD (xs : List PyData) (i : Int) : Option PyData := atI xs i
theorem IxR.or {X : Cx} {r r' : R2} (h : IxR X r) (h' : IxR X r') : IxR X fun x y H Q => r x y H Q ∨ r' x y H Q := by
  intro value slice pins s σ H x y v u Q I rx ry q hs
  rcases q with q | q
  · exact h value slice pins s σ H x y v u Q I rx ry q hs
  · exact h' value slice pins s σ H x y v u Q I rx ry q hs
theorem at_tr {H : Hp} {vs : List V} {ds : List PyData} (t : Trs H vs ds) {i : Int} {d : PyData} (e : atI ds i = some d) : ∃ v, atI vs i = some v ∧ Tr H v d := by
  have l := t.length
  unfold atI at e ⊢
  rw [l]
  cases h : ixN ds.length i with
  | none =>
    rw [h] at e
    cases e
  | some j =>
    rw [h] at e
    obtain ⟨v, e1, e2⟩ := t.get (show ds[j]? = some d from e)
    exact ⟨v, e1, e2⟩
end
end TL

namespace TL
open PySem PySem.Spec PyProof.Rows L2
section
variable {G : Gx} {env : En} {P : PyData → En → Prop} {a b : Expr} {pos : Pos}
/-- a[b], a list or a tuple -/
theorem w_sub (h : W G a env fun x e1 => W G b e1 fun y e2 => ∃ xs i d, itemD x = some xs ∧ y = .int i ∧ atI xs i = some d ∧ P d e2) (hs : PlainIx b := by exact fun _ _ => rfl) : W G (.Subscript a b pos) env P :=
  W.of (fun X => tOp (fun x y H Q => rIxL X.K x y H Q ∨ rIxT X.K x y H Q) (tW G a) (tW G b)) (fun X hX => pe_ix (IxR.or ix_list ix_tup) (peW hX a) (peW hX b) hs) fun X hX σ Hc H Q R q =>
    tOp_read R q (W.imp h fun x e1 h2 => W.imp h2 fun y e2 ⟨xs, i, d, ex, ey, ei, p⟩ => by
      subst ey
      intro Hc H u v Q s t1 t2 q
      cases t2
      cases t1 with
      | lst m k =>
        cases ex
        obtain ⟨z, e1, e2⟩ := at_tr k ei
        exact .inl ⟨_, _, _, z, rfl, rfl, SqL.of (s _ _ m), e1, q _ _ Hc H p (.refl s) e2⟩
      | tup m k =>
        cases ex
        obtain ⟨z, e1, e2⟩ := at_tr k ei
        exact .inr ⟨_, _, _, z, rfl, rfl, (m.mono s).sq, e1, q _ _ Hc H p (.refl s) e2⟩
      | non => cases ex
      | bl b => cases ex
      | int b => cases ex
      | str b => cases ex)
/-- x[b], x an owned list -/
theorem w_subOwn (i : Nat) {ds : List PyData} {x : Str} {px : Pos} (he : env[i]? = some (.ow ds)) (h : W G b env fun y e2 => ∃ j d, e2[i]? = some (.ow ds) ∧ y = .int j ∧ atI ds j = some d ∧ P d e2) (hN : G.N[i]? = some x := by rfl) (hv : Vis G.sc x := by first | exact Or.inl rfl | exact Or.inr (Or.inl rfl) | exact Or.inr (Or.inr rfl))
    (hd : (x == ("__debug__" : Str)) = false := by decide) (hcd : (x == ("__classdict__" : Str)) = false := by decide) (hs : PlainIx b := by exact fun _ _ => rfl) : W G (.Subscript (.Name x px) b pos) env P :=
  W.of (fun X => tOp (rIxL X.K) (tVar i) (tW G b)) (fun X hX => pe_ix ix_list (pvG hX i hN hv hd hcd) (peW hX b) hs) fun X hX σ Hc H Q R q => by
    obtain ⟨a, vs, e1, _⟩ := R.ok i _ he
    refine ⟨_, e1, tW.use R h fun v y e2 Hc2 H2 ⟨j, d, k, ey, ei, p⟩ go t => ?_⟩
    subst ey
    cases t
    obtain ⟨a2, vs2, e12, c2, m2, t2⟩ := go.rep.ok i _ k
    rw [e1] at e12
    cases e12
    obtain ⟨z, f1, f2⟩ := at_tr t2 ei
    exact ⟨a, vs2, j, z, rfl, rfl, SqL.of m2, f1, q _ _ _ _ _ p go f2⟩
/-! ### argument lists -/
def WA (G : Gx) : List Expr → En → (List PyData → En → Prop) → Prop
  | [], env, P => P [] env
  | e :: es, env, P => W G e env fun d e1 => WA G es e1 fun ds e2 => P (d :: ds) e2
def tWA (G : Gx) : List Expr → TA
  | [] => tNil
  | e :: es => tCons (tW G e) (tWA G es)
def isStar : Expr → Bool
  | .Starred _ _ => true
  | _ => false
def noStar : List Expr → Bool
  | [] => true
  | e :: es => !isStar e && noStar es
theorem star_cons {e : Expr} {es : List Expr} {v : Env} (h : isStar e = false) : starEach (e :: es) v = (false, eval e v) :: starEach es v := by
  cases e <;> first | rfl | cases h
theorem noStar_cons {e : Expr} {es : List Expr} (h : noStar (e :: es) = true) : isStar e = false ∧ noStar es = true := by
  have h' : (!isStar e && noStar es) = true := h
  simpa using h'
theorem star_any {v : Env} {ps : Pos} : ∀ {es : List Expr}, noStar es = true → (backTo ps (starEach es v)).any (·.1) = false
  | [], _ => rfl
  | e :: es, h => by
    obtain ⟨h1, h2⟩ := noStar_cons h
    rw [star_cons h1]
    show (false || (backTo ps (starEach es v)).any (·.1)) = false
    rw [star_any h2]
    rfl
theorem paW {X : Cx} (hX : InG G X) : ∀ es, noStar es = true → PA X es (tWA G es)
  | [], _ => pa_nil
  | e :: es, h => pa_cons (peW hX e) (paW hX es (noStar_cons h).2) (star_cons (noStar_cons h).1)
theorem tWA.use {σ : L2.St} : ∀ {es : List Expr} {env : En} {P : List PyData → En → Prop} {Hc H : Hp} {Q : List V → Hp → Prop}, Rp Hc H σ env → WA G es env P →
    (∀ vs ds env' Hc' H', P ds env' → Go Hc H σ env Hc' H' σ env' → Trs Hc' vs ds → Q vs H') → tWA G es σ H Q
  | [], env, P, Hc, H, Q, R, h, q => q _ _ _ _ _ h (.refl R) .nil
  | e :: es, env, P, Hc, H, Q, R, h, q => by
    refine tW.use R h fun v d e1 Hc1 H1 h1 go t => ?_
    exact tWA.use (es := es) go.rep h1 fun vs ds e2 Hc2 H2 p go2 ts => q _ _ _ _ _ p (go.trans go2) (.cons (t.mono go2.core) ts)
theorem WA.imp : ∀ {es : List Expr} {env : En} {P P' : List PyData → En → Prop}, WA G es env P → (∀ ds e, P ds e → P' ds e) → WA G es env P'
  | [], _, _, _, h, k => k _ _ h
  | _ :: _, _, _, _, h, k => W.imp h fun _ _ h2 => WA.imp h2 fun _ _ p => k _ _ p
/-- a display of a tuple, with the object that it is -/
def tTupF (t : TA) : TE := fun σ H Q => t σ H fun xs H1 => xs.length ≤ sizeLine ∧ ∀ (p : Addr) (o : Obj), H1 p = none → o.cls = .type "tuple" → o.dict = none → Q (.ref p) (upd H1 p (.frz o (.tup xs)))
theorem pe_tupF {X : Cx} {es : List Expr} {t : TA} {x1} {pos : Pos} (h : PA X es t) : PE X (.Tuple es x1 pos) (tTupF t) := by
  refine ⟨fun pins s σ H Q I hq => ?_⟩
  refine wpAny_Tuple_spliced (thn (h.run pos pins s σ H _ I hq) fun us s1 ⟨xs, H1, I1, r, z, q⟩ => ⟨by rw [← r.length]; exact z, ?_⟩)
  have hf : H1 s1.heap.objs.size = none := I1.hok.fresh (Nat.le_refl _)
  refine ⟨.ref s1.heap.objs.size, upd H1 s1.heap.objs.size (.frz _ (.tup xs)), I1.laid (t' := s1.toks) (fun b u e => Heap.get?_push_of_some _ e) (Nat.le_refl _) ?_, rfl, q _ { cls := .type "tuple", data := .seq us.toArray } hf rfl rfl⟩
  exact ⟨Heap.get?_push_size _ rfl, z, us, r, ⟨_, Heap.get?_push_size _ rfl, rfl, _, rfl⟩⟩
/-- tuple(x): a new one, with the object that it is, or x itself -/
def kTupF (K : PySem.W.Frag) (x : V) (H : Hp) (Q : VK) : Prop :=
  (∃ p xs, x = .ref p ∧ SqL K H p xs ∧ ∀ (q : Addr) (o : Obj), H q = none → o.cls = .type "tuple" → o.dict = none → Q (.ref q) (upd H q (.frz o (.tup xs)))) ∨ (∃ p xs, x = .ref p ∧ SqT K H p xs ∧ Q (.ref p) H)
theorem rl_tupleF {X : Cx} (pins : List (Addr × Obj)) (s : Shared) (σ : L2.St) (H : Hp) (x : V) (v : Value) (Q : VK) (I : Inv X pins σ H s) (r : RelV x v) (h : kTupF X.K x H Q) :
    wpAny (model X.prog X.w) X.A (call (.type "tuple") [v]) (EP X pins σ Q) X.xe s := by
  rcases h with ⟨p, xs, rfl, hs, q⟩ | ⟨p, xs, rfl, hs, q⟩
  · obtain rfl : v = .ref p := r
    obtain ⟨its, rv, pl, hz⟩ := I.list hs
    refine call_tuple_list pl.isList (fun h' hk => ?_) (by rw [List.size_toArray, ← rv.length]; exact hz)
    have I1 : Inv X pins σ H { s with heap := h' } := I.kept (t' := s.toks) hk
    have I2 : Inv X pins σ (upd H h'.objs.size (.frz { cls := .type "tuple", data := .seq its.toArray } (.tup xs))) { s with heap := h'.push { cls := .type "tuple", data := .seq its.toArray } } :=
      I1.laid (t' := s.toks) (fun b o e => Heap.get?_push_of_some _ e) (Nat.le_refl _) (show ObjOk X.prog X.w _ _ _ (.frz _ (.tup xs)) from ⟨Heap.get?_push_size _ rfl, hz, its, rv, IsTup.new _ _⟩)
    exact ⟨.ref h'.objs.size, _, I2, rfl, q _ _ (I1.hok.fresh (Nat.le_refl _)) rfl rfl⟩
  · obtain rfl : v = .ref p := r
    obtain ⟨its, rv, pl, hz⟩ := I.tuple hs
    exact call_tuple_tup pl ⟨.ref p, H, I, rfl, q⟩
theorem pe_tupleOfF {X : Cx} {a : Expr} {ta : TE} {p pos : Pos} (hg : Gl X "tuple") (hm : X.mg "tuple" = none) (ha : PE X a ta) (na : starEach [a] X.env = (false, eval a X.env) :: starEach [] X.env := by rfl) :
    PE X (.Call (.Name "tuple" p) [a] [] pos) (tThen ta (kTupF X.K)) := by
  refine ⟨fun pins s σ H Q I h => ?_⟩
  exact Call_ (ld_blt I hg hm boot_tuple (PyProof.Rows.callWith_type1 (one_arg ha I h (fun v s2 x H2 I2 r q => rl_tupleF pins s2 σ H2 x v Q I2 r q) na) na))
theorem w_tup {es : List Expr} {c} (h : WA G es env fun ds e => ds.length ≤ sizeLine ∧ P (.tuple ds) e) (ns : noStar es = true := by rfl) : W G (.Tuple es c pos) env P :=
  W.of (fun X => tTupF (tWA G es)) (fun X hX => pe_tupF (paW hX es ns)) fun X hX σ Hc H Q R q =>
    tWA.use R h fun vs ds e1 Hc1 H1 ⟨l, p⟩ go t => ⟨by rw [t.length]; exact l, fun p' o hp o1 o2 => by
      have x := Ext.new (o := .frz o (.tup vs)) go.rep.same hp
      exact q _ _ _ _ _ p (go.trans (x.go go.rep)) (.tup ⟨o, o1, o2, upd_same⟩ (t.mono x.core))⟩
theorem w_lst {es : List Expr} (h : WA G es env fun ds e => ds.length ≤ sizeLine ∧ P (.list ds) e) (ns : noStar es = true := by rfl) : W G (.List es pos) env P :=
  W.of (fun X => tLst (tWA G es)) (fun X hX => pe_lst (paW hX es ns)) fun X hX σ Hc H Q R q =>
    tWA.use R h fun vs ds e1 Hc1 H1 ⟨l, p⟩ go t => ⟨by rw [t.length]; exact l, fun p' hp => by
      have x := Ext.new (o := .lst vs) go.rep.same hp
      exact q _ _ _ _ _ p (go.trans (x.go go.rep)) (.lst upd_same (t.mono x.core))⟩
/-! ### calls of built-ins -/
def CBR (r : List V → Hp → VK → Prop) (ds : List PyData) (R : PyData → Prop) : Prop :=
  ∀ (Hc H : Hp) (vs : List V) (Q : VK), Same Hc H → Trs Hc vs ds → (∀ z d Hc' H', R d → Ext Hc H Hc' H' → Tr Hc' z d → Q z H') → r vs H Q
abbrev GlG (G : Gx) (x : Str) : Prop := G.sc.names.lookup x = some .globalImplicit
theorem glX {X : Cx} (hX : InG G X) {x : Str} (h : GlG G x) : Gl X x := by
  show X.env.scope.names.lookup x = _
  rw [hX.sc]
  exact h
variable {x : Str} {p : Pos} {e : Expr} {es : List Expr}
theorem tCB_read {r : List V → Hp → VK → Prop} {σ : L2.St} {Hc H : Hp} {Q : VK} (R : Rp Hc H σ env) (q : Fin Hc H σ env P Q) (h : WA G es env fun ds e1 => CBR r ds fun d => P d e1) : tCB r (tWA G es) σ H Q :=
  tWA.use R h fun vs ds e1 Hc1 H1 c go t => c Hc1 H1 vs Q go.rep.same t fun z d Hc' H' pd x t' => q z d e1 Hc' H' pd (go.trans (x.go go.rep)) t'
theorem w_callB {id : String} {r : Cx → List V → Hp → VK → Prop} (hr : ∀ X, InG G X → CallR X (.builtin id) (r X)) (hv : bootBuiltins x = some (.builtin id)) (hm : G.mg x = none) (hg : GlG G x)
    (h : ∀ X, InG G X → WA G (e :: es) env fun ds e1 => CBR (r X) ds fun d => P d e1) (ns : noStar (e :: es) = true) (hn : x ≠ "__name__") (hdb : (x == ("__debug__" : Str)) = false) : W G (.Call (.Name x p) (e :: es) [] pos) env P :=
  W.of (fun X => tCB (r X) (tWA G (e :: es))) (fun X hX => pe_callB (hr X hX) (glX hX hg) (by rw [hX.mg]; exact hm) hv (paW hX _ ns) hn hdb (star_cons (noStar_cons ns).1) (star_any (noStar_cons ns).2)) fun X hX σ Hc H Q R q => tCB_read R q (h X hX)
theorem w_callTy {T : String} {r : Cx → List V → Hp → VK → Prop} (hr : ∀ X, InG G X → CallR X (.type T) (r X)) (hv : bootBuiltins x = some (.type T)) (hm : G.mg x = none) (hg : GlG G x)
    (h : ∀ X, InG G X → WA G (e :: es) env fun ds e1 => CBR (r X) ds fun d => P d e1) (ns : noStar (e :: es) = true) (hn : x ≠ "__name__") (hdb : (x == ("__debug__" : Str)) = false) : W G (.Call (.Name x p) (e :: es) [] pos) env P :=
  W.of (fun X => tCB (r X) (tWA G (e :: es))) (fun X hX => pe_callTy (hr X hX) (glX hX hg) (by rw [hX.mg]; exact hm) hv (paW hX _ ns) hn hdb (star_cons (noStar_cons ns).1) (star_any (noStar_cons ns).2)) fun X hX σ Hc H Q R q => tCB_read R q (h X hX)
/-- len -/
def lenD : PyData → Option Nat
  | .str x => if x.length ≤ sizeLine then some x.length else none
  | .list xs => some xs.length
  | .tuple xs => some xs.length
  | _ => none
theorem w_len (hm : G.mg "len" = none) (h : W G e env fun d e1 => ∃ n, lenD d = some n ∧ P (.int n) e1) (hg : GlG G "len" := by rfl) (ns : noStar [e] = true := by rfl) : W G (.Call (.Name "len" p) [e] [] pos) env P :=
  w_callB (r := fun X xs H Q => ∃ x n, xs = [x] ∧ LenV X.K x H n ∧ Q (.int n) H) (fun X _ => call_len) boot_len hm hg (fun X hX => W.imp h fun d e1 ⟨n, en, pn⟩ Hc H vs Q s t q => by
    cases t with
    | cons t u =>
      cases u
      refine ⟨_, n, rfl, ?_, q _ _ Hc H pn (.refl s) (.int _)⟩
      cases t with
      | str z =>
        by_cases hz : z.length ≤ sizeLine
        · have e' : lenD (.str z) = some z.length := if_pos hz
          rw [e'] at en
          cases en
          exact ⟨hz, rfl⟩
        · have e' : lenD (.str z) = none := if_neg hz
          rw [e'] at en
          cases en
      | lst m k =>
        cases en
        exact .inl ⟨_, SqL.of (s _ _ m), k.length.symm⟩
      | tup m k =>
        cases en
        exact .inr ⟨_, (m.mono s).sq, k.length.symm⟩
      | non => cases en
      | bl b => cases en
      | int b => cases en) ns (by decide) (by decide)
/-- int of an int, of a bool -/
def intD : PyData → Option Int
  | .int i => some i
  | .bool b => some (if b then 1 else 0)
  | _ => none
theorem w_intC (hm : G.mg "int" = none) (h : W G e env fun d e1 => ∃ n, intD d = some n ∧ P (.int n) e1) (hg : GlG G "int" := by rfl) (ns : noStar [e] = true := by rfl) : W G (.Call (.Name "int" p) [e] [] pos) env P :=
  w_callTy (r := fun X xs H Q => (∃ i, xs = [.int i] ∧ Q (.int i) H) ∨ ∃ k, xs = [.bl k] ∧ Q (.int (if k then 1 else 0)) H) (fun X _ => call_int1) boot_int hm hg (fun X hX => W.imp h fun d e1 ⟨n, en, pn⟩ Hc H vs Q s t q => by
    cases t with
    | cons t u =>
      cases u
      cases t with
      | int i => cases en; exact .inl ⟨_, rfl, q _ _ Hc H pn (.refl s) (.int _)⟩
      | bl b => cases en; exact .inr ⟨b, rfl, q _ _ Hc H pn (.refl s) (.int _)⟩
      | str z => cases en
      | lst m k => cases en
      | tup m k => cases en
      | non => cases en) ns (by decide) (by decide)
theorem w_min2 (hm : G.mg "min" = none) (h : WA G [a, b] env fun ds e1 => ∃ i j, ds = [.int i, .int j] ∧ P (.int (if j < i then j else i)) e1) (hg : GlG G "min" := by rfl) (ns : noStar [a, b] = true := by rfl) : W G (.Call (.Name "min" p) [a, b] [] pos) env P :=
  w_callB (r := fun X xs H Q => ∃ i j, xs = [.int i, .int j] ∧ Q (.int (if j < i then j else i)) H) (fun X hX => call_min2 hX.calm) boot_min hm hg (fun X hX => WA.imp h fun ds e1 ⟨i, j, en, pn⟩ Hc H vs Q s t q => by
    subst en
    rw [Trs.of_ints (ns := [i, j]) t]
    exact ⟨i, j, rfl, q _ _ Hc H pn (.refl s) (.int _)⟩) ns (by decide) (by decide)
theorem w_max2 (hm : G.mg "max" = none) (h : WA G [a, b] env fun ds e1 => ∃ i j, ds = [.int i, .int j] ∧ P (.int (if j > i then j else i)) e1) (hg : GlG G "max" := by rfl) (ns : noStar [a, b] = true := by rfl) : W G (.Call (.Name "max" p) [a, b] [] pos) env P :=
  w_callB (r := fun X xs H Q => ∃ i j, xs = [.int i, .int j] ∧ Q (.int (if j > i then j else i)) H) (fun X hX => call_max2 hX.calm) boot_max hm hg (fun X hX => WA.imp h fun ds e1 ⟨i, j, en, pn⟩ Hc H vs Q s t q => by
    subst en
    rw [Trs.of_ints (ns := [i, j]) t]
    exact ⟨i, j, rfl, q _ _ Hc H pn (.refl s) (.int _)⟩) ns (by decide) (by decide)
/-- max of a list of ints -/
theorem w_maxL (hm : G.mg "max" = none) (h : W G e env fun d e1 => ∃ zs : List Int, itemD d = some (zs.map PyData.int) ∧ (∃ ys, d = .list ys) ∧ zs ≠ [] ∧ ∀ m, m ∈ zs → (∀ y, y ∈ zs → y ≤ m) → P (.int m) e1) (hg : GlG G "max" := by rfl) (ns : noStar [e] = true := by rfl) : W G (.Call (.Name "max" p) [e] [] pos) env P :=
  w_callB (r := fun X => rMax X.K) (fun X hX => cr_max hX.calm) boot_max hm hg (fun X hX => W.imp h fun d e1 ⟨zs, en, ⟨ys, ed⟩, ne, pn⟩ Hc H vs Q s t q => by
    subst ed
    cases en
    cases t with
    | cons t u =>
      cases u
      cases t with
      | lst m k =>
        have ek := Trs.of_ints k
        subst ek
        exact ⟨_, zs, rfl, SqL.of (s _ _ m), by cases zs with | nil => exact absurd rfl ne | cons _ _ => exact Nat.succ_pos _, fun m hm hy => q _ _ Hc H (pn m hm hy) (.refl s) (.int _)⟩) ns (by decide) (by decide)
/-- tuple(x) -/
theorem w_tupC (hm : G.mg "tuple" = none) (h : W G e env fun d e1 => ∃ xs, itemD d = some xs ∧ P (.tuple xs) e1) (hg : GlG G "tuple" := by rfl) (ns : noStar [e] = true := by rfl) : W G (.Call (.Name "tuple" p) [e] [] pos) env P :=
  W.of (fun X => tThen (tW G e) (kTupF X.K)) (fun X hX => pe_tupleOfF (glX hX hg) (by rw [hX.mg]; exact hm) (peW hX e) (star_cons (noStar_cons ns).1)) fun X hX σ Hc H Q R q =>
    tW.use R h fun v d e1 Hc1 H1 ⟨xs, ex, px⟩ go t => by
      cases t with
      | @lst a vs _ m k =>
        cases ex
        refine .inl ⟨_, _, rfl, SqL.of (go.rep.same _ _ m), fun p' o hp o1 o2 => ?_⟩
        have x := Ext.new (o := .frz o (.tup vs)) go.rep.same hp
        exact q _ _ _ _ _ px (go.trans (x.go go.rep)) (.tup ⟨o, o1, o2, upd_same⟩ (k.mono x.core))
      | tup m k =>
        cases ex
        exact .inr ⟨_, _, rfl, (m.mono go.rep.same).sq, q _ _ _ _ _ px go (.tup m k)⟩
      | non => cases ex
      | bl b => cases ex
      | int b => cases ex
      | str b => cases ex
/-- list(range(n)) -/
theorem w_listRg {p2 pos2 : Pos} (hl : G.mg "list" = none) (hr : G.mg "range" = none) (h : W G e env fun d e1 => ∃ n : Nat, d = .int n ∧ n ≤ 16777216 ∧ P (.list ((List.range n).map fun (i : Nat) => PyData.int (i : Int))) e1) (hg : GlG G "list" := by rfl) (hg2 : GlG G "range" := by rfl) (ns : noStar [e] = true := by rfl) :
    W G (.Call (.Name "list" p) [.Call (.Name "range" p2) [e] [] pos2] [] pos) env P :=
  W.of (fun X => tLstRg (tRg1 (tW G e))) (fun X hX => pe_listRg hX.calm (glX hX hg) (by rw [hX.mg]; exact hl) (prg_1 (glX hX hg2) (by rw [hX.mg]; exact hr) (peW hX e) (star_cons (noStar_cons ns).1)) rfl) fun X hX σ Hc H Q R q =>
    tW.use R h fun v d e1 Hc1 H1 ⟨n, ed, hn, px⟩ go t => by
      subst ed
      cases t
      refine ⟨_, rfl, .of_le (by omega) (by omega) (by omega) (by omega), fun p' hp => ?_⟩
      have x := Ext.new (o := .lst (rgV 0 n)) go.rep.same hp
      refine q _ _ _ _ _ px (go.trans (x.go go.rep)) (.lst upd_same ?_)
      have ee : rgV 0 (n : Int) = ((List.range n).map fun (i : Nat) => (i : Int)).map V.int := by
        unfold rgV
        rw [List.map_map]
        have : ((n : Int) - 0).toNat = n := by omega
        rw [this]
        apply List.map_congr_left
        intro i _
        show V.int (0 + (i : Int)) = V.int (i : Int)
        rw [Int.zero_add]
      rw [ee]
      have : ((List.range n).map fun (i : Nat) => PyData.int (i : Int)) = ((List.range n).map fun (i : Nat) => (i : Int)).map PyData.int := by
        rw [List.map_map]
        rfl
      rw [this]
      exact Trs.ints _
/-- repr of data -/
def rRepr (K : PySem.W.Frag) (A : Around) : List V → Hp → VK → Prop := fun xs H Q => ∃ v d, xs = [v] ∧ Dp K H v d ∧ isDisplay d = true ∧ d.showable = true ∧ d.hasDict = false ∧ d.shown.length ≤ sizeLine ∧ A.guards = some [] ∧ A.units + (d.depth + 1) < cLine ∧ Q (.str d.shown) H
theorem call_repr {X : Cx} : CallR X (.builtin "repr") (rRepr X.K X.A) := by
  intro pins s σ H xs us Q I r h
  obtain ⟨v, d, e, dp, h1, h2, h3, h4, h5, h6, q⟩ := h
  subst e
  obtain ⟨u, e, ru⟩ := vals1 r
  subst e
  obtain ⟨as, rd⟩ := Dp.reads I d v u dp ru
  obtain ⟨b, e⟩ := isRef_of_reads rd h1
  subst e
  exact repr_of_reads' rd h2 (PyData.noDict_hsm h3) h5 h6 (fun _ _ e => e) (fun h' u tk hk => ⟨.str d.shown, H, I.kept hk, ⟨_, rfl⟩, q⟩) h4
/-- ints below 2^1000, short texts -/
theorem w_repr (hm : G.mg "repr" = none) (gd : G.A.guards = some []) (h : W G e env fun d e1 => isDisplay d = true ∧ d.showable = true ∧ d.hasDict = false ∧ d.shown.length ≤ sizeLine ∧ G.A.units + (d.depth + 1) < cLine ∧ P (.str d.shown) e1) (hg : GlG G "repr" := by rfl) (ns : noStar [e] = true := by rfl) : W G (.Call (.Name "repr" p) [e] [] pos) env P :=
  w_callB (r := fun X => rRepr X.K X.A) (fun X hX => call_repr) boot_repr hm hg (fun X hX => W.imp h fun d e1 ⟨h1, h2, h3, h4, h5, pn⟩ Hc H vs Q s t q => by
    cases t with
    | cons t u =>
      cases u
      exact ⟨_, d, rfl, dp_of (t.mono s), h1, h2, h3, h4, by rw [hX.A]; exact gd, by rw [hX.A]; exact h5, q _ _ Hc H pn (.refl s) (.str _)⟩) ns (by decide) (by decide)
/-- str of an int -/
theorem w_strI (hm : G.mg "str" = none) (h : W G e env fun d e1 => ∃ n : Int, d = .int n ∧ n.natAbs.log2 < 1920 ∧ P (.str (toString n)) e1) (hg : GlG G "str" := by rfl) (ns : noStar [e] = true := by rfl) : W G (.Call (.Name "str" p) [e] [] pos) env P :=
  w_callTy (r := fun X xs H Q => ∃ i, xs = [.int i] ∧ i.natAbs.log2 < 1920 ∧ Q (.str (toString i)) H) (fun X _ => call_str_int) boot_str hm hg (fun X hX => W.imp h fun d e1 ⟨n, en, hl, pn⟩ Hc H vs Q s t q => by
    subst en
    cases t with
    | cons t u =>
      cases u
      cases t
      exact ⟨n, rfl, hl, q _ _ Hc H pn (.refl s) (.str _)⟩) ns (by decide) (by decide)
/-- -a -/
theorem w_neg (h : W G a env fun d e1 => ∃ i, d = .int i ∧ P (.int (-i)) e1) : W G (.UnaryOp .USub a pos) env P :=
  W.of (fun X => tUn (rU fun i => .int (-i)) (tW G a)) (fun X hX => pe_un un_neg (peW hX a)) fun X hX σ Hc H Q R q =>
    tW.use R h fun v d e1 Hc1 H1 ⟨i, ed, pd⟩ go t => by
      subst ed
      cases t
      exact ⟨i, rfl, q _ _ _ _ _ pd go (.int _)⟩
/-! ### tests -/
variable {PB : Bool → En → Prop} {c : Expr}
theorem wt_val (h : W G c env fun d e1 => ∃ b, d = .bool b ∧ PB b e1) (he : ∀ v whole, isTrue c v whole = (do let x ← whole; standAt c.pos; holding [x] (truthy x)) := by intro _ _; rfl) : WT G c env PB :=
  WT.of (fun X => tB (tW G c)) (fun X hX => pt_val (peW hX c) (he X.env)) fun X hX σ Hc H Q R q =>
    tW.use R h fun v d e1 Hc1 H1 ⟨b, ed, pd⟩ go t => by
      subst ed
      cases t
      exact ⟨b, rfl, q _ _ _ _ pd go⟩
theorem wt_not (h : WT G a env fun b e1 => PB (!b) e1) : WT G (.UnaryOp .Not a pos) env PB :=
  WT.of (fun X => tNot (tWT G a)) (fun X hX => pt_not (ptW hX a)) fun X hX σ Hc H Q R q => ⟨Hc, env, _, R, h, fun b e1 Hc1 H1 pb go => q _ _ _ _ pb go⟩
theorem wt_and (h : WT G a env fun k e1 => if k = true then WT G b e1 PB else PB false e1) : WT G (.BoolOp .And [a, b] pos) env PB :=
  WT.of (fun X => tAnd (tWT G a) (tWT G b)) (fun X hX => (pw_and (ptW hX a) (pw_and1 (ptW hX b))).pt) fun X hX σ Hc H Q R q => by
    refine ⟨Hc, env, _, R, h, fun k e1 Hc1 H1 pk go => ?_⟩
    cases k with
    | true => exact ⟨Hc1, e1, _, go.rep, pk, fun b e2 Hc2 H2 pb go2 => q _ _ _ _ pb (go.trans go2)⟩
    | false => exact q _ _ _ _ pk go
theorem wt_or (h : WT G a env fun k e1 => if k = true then PB true e1 else WT G b e1 PB) : WT G (.BoolOp .Or [a, b] pos) env PB :=
  WT.of (fun X => tOr (tWT G a) (tWT G b)) (fun X hX => (pw_or (ptW hX a) (pw_or1 (ptW hX b))).pt) fun X hX σ Hc H Q R q => by
    refine ⟨Hc, env, _, R, h, fun k e1 Hc1 H1 pk go => ?_⟩
    cases k with
    | false => exact ⟨Hc1, e1, _, go.rep, pk, fun b e2 Hc2 H2 pb go2 => q _ _ _ _ pb (go.trans go2)⟩
    | true => exact q _ _ _ _ pk go
theorem w_if (h : WT G c env fun k e1 => if k = true then W G a e1 P else W G b e1 P) : W G (.IfExp c a b pos) env P :=
  W.of (fun X => tIf (tWT G c) (tW G a) (tW G b)) (fun X hX => pe_ifExp (ptW hX c) (peW hX a) (peW hX b)) fun X hX σ Hc H Q R q => by
    refine ⟨Hc, env, _, R, h, fun k e1 Hc1 H1 pk go => ?_⟩
    cases k with
    | false => exact ⟨Hc1, e1, _, go.rep, pk, fun v d e2 Hc2 H2 pb go2 t => q _ _ _ _ _ pb (go.trans go2) t⟩
    | true => exact ⟨Hc1, e1, _, go.rep, pk, fun v d e2 Hc2 H2 pb go2 t => q _ _ _ _ _ pb (go.trans go2) t⟩
/-- a and b as values (bools) -/
theorem w_and (h : W G a env fun d e1 => ∃ k, d = .bool k ∧ if k = true then W G b e1 P else P (.bool false) e1) : W G (.BoolOp .And [a, b] pos) env P :=
  W.of (fun X => tAndV (tW G a) (tW G b)) (fun X hX => pe_and (peW hX a) (pe_one (peW hX b))) fun X hX σ Hc H Q R q =>
    tW.use R h fun v d e1 Hc1 H1 ⟨k, ed, pk⟩ go t => by
      subst ed
      cases t
      refine ⟨k, rfl, ?_⟩
      cases k with
      | true => exact ⟨Hc1, e1, _, go.rep, pk, fun v d e2 Hc2 H2 pb go2 t => q _ _ _ _ _ pb (go.trans go2) t⟩
      | false => exact q _ _ _ _ _ pk go (.bl _)
end
end TL

namespace TL
open PySem PySem.Spec PyProof.Rows L2
/-! ### defs, where no repr is under way -/
structure FnG (P : Program) (w : World) (K : PySem.W.Frag) (mg : Str → Option Value) (base : Heap) (k : Nat) (f : Addr) (fd : FuncData) (ps : List Str) (sp : Sp) : Prop where
  len : ∀ vs H Q E, sp vs H Q E → vs.length = ps.length
  run : ∀ (A : Around) (outer : List Env) (s : Shared) (H : Hp) (args : Args) (us : List Value) (vs : List V) (Q : VK) (E : XK), A.guards = some [] → Room k A →
    Env0 P w K mg base A outer s H → BindsTo s fd args (ps.zip us) → Vals vs us → sp vs H Q E → codeAny (model P w) A (.call (.ref f) args) (CR CX0 outer P w H s Q E) s
theorem FnG.mono {P : Program} {w : World} {K : PySem.W.Frag} {mg : Str → Option Value} {base : Heap} {j k : Nat} {f : Addr} {fd : FuncData} {ps : List Str} {sp : Sp} (F : FnG P w K mg base j f fd ps sp) (h : j ≤ k) : FnG P w K mg base k f fd ps sp :=
  ⟨F.len, fun A outer s H args us vs Q E hg hr => F.run A outer s H args us vs Q E hg (hr.mono h)⟩
section
variable {P : Program} {w : World} {K : PySem.W.Frag} {mg : Str → Option Value} {base : Heap} {k : Nat} {f : Addr} {fd : FuncData} {N ps : List Str} {sp : Sp} {x qual : Str} {st : Stmt}
theorem fnG_of (F : Fun K x qual st f fd) (S : FnScope N ps (defScope st)) (len : ∀ vs H Q E, sp vs H Q E → vs.length = ps.length)
    (hbody : ∀ (cdv : Value) (A : Around) (outer : List Env) (s : Shared) (H : Hp) (vs : List V) (Q : VK) (E : XK), A.guards = some [] → Room k (A.deeper (envOfC qual (defScope st) s.heap.objs.size f cdv)) → sp vs H Q E →
      ∃ t, PSs (cxOf CX0 P w K mg base N qual (defScope st) f cdv A outer s H E).nox (defBody st) t ∧ t { nx := fun _ H' => Q .non H', rt := Q } (start N vs) H) : FnG P w K mg base (k + 1) f fd ps sp := by
  obtain ⟨oc, od, kV, doc, pm, an, cdv, ct, osl, efd, lk, hcd⟩ := F.ex
  subst efd
  constructor
  · exact len
  intro A outer s H args us vs Q E hg hr e0 hb r hsp
  have KX : K.In s.heap := e0.mod.kin.keeps fun b o e => (e0.bs b o e).1
  have lim : s.heap.NoLimit := e0.mod.nolimit.keeps fun b o e => (e0.bs b o e).1
  have hkind : ∀ y ∈ ps.zip us, (defScope st).names.lookup y.1 = some .local ∨
      ((defScope st).names.lookup y.1 = some .cell ∧ ((cellsFrom (s.heap.objs.size + 1) (defScope st).names []).lookup y.1).isSome = true) := by
    rintro ⟨n, v⟩ hy
    cases S.par n (List.of_mem_zip hy).1 with
    | inl q => exact .inl q
    | inr q => exact .inr ⟨q, PySem.W.cellsFrom_some _ _ _ (.inl q)⟩
  apply codeAny_call_function hr.depth (KX _ _ lk) rfl S.co S.gen rfl (PySem.W.codeRec_of KX hcd) (hb _ _ _ _ ?_)
  apply wpAny_newFunctionEnv_cells S.kind hkind
  intro env he s1 x1
  subst he
  refine ⟨lim.keeps x1.toInCall.keep, codeAny_func ?_⟩
  obtain ⟨t, ht0, hq⟩ := hbody cdv A outer s H vs Q E hg (hr.deeper _) hsp
  have ht := ht0.nox
  have I := inv_start (CX := CX0) (E := E) S hr.hd e0 (len _ _ _ _ hsp) r x1
  apply wpAny_mono (ht.run [] s1 (start N vs) H _ I hq)
  · intro fl s' hs
    cases fl with
    | ret u =>
      obtain ⟨v, σ', H', J, rv, q⟩ := hs
      exact ⟨v, H', J.os, J.bare, J.base, J.hok, rv, q⟩
    | next =>
      obtain ⟨σ', H', J, q⟩ := hs
      exact ⟨V.non, H', J.os, J.bare, J.base, J.hok, rfl, q⟩
    | brk =>
      obtain ⟨_, _, _, q⟩ := hs
      exact q.elim
    | cont =>
      obtain ⟨_, _, _, q⟩ := hs
      exact q.elim
  · intro e s' hs
    exact hs
end
section
variable {X : Cx} {k : Nat} {f : Addr} {fd : FuncData} {ps : List Str} {sp : Sp} {x : Str} {p pos : Pos} {e : Expr} {es : List Expr} {t : TA}
theorem run_fnG {pins : Pins} {σ : L2.St} {H : Hp} {s : Shared} {Q : VK} {us : List Value} {vs : List V} (F : FnG X.prog X.w X.K X.mg X.base k f fd ps sp) (hr : Room k X.A) (gd : X.A.guards = some []) (hb : Binds X.K fd ps [])
    (I : Inv X pins σ H s) (r : Vals vs us) (h : sp vs H Q E0) : wpAny (model X.prog X.w) X.A (call (.ref f) us) (EP X pins σ Q) X.xe s := by
  have hl : (us ++ []).length = ps.length := by
    rw [List.append_nil, ← r.length]
    exact F.len _ _ _ _ h
  have hbind := hb s us I.kIn hl
  rw [List.append_nil] at hbind
  refine wpAny_call (codeAny_mono (F.run X.A X.stack s H ⟨us, []⟩ us vs Q E0 gd hr I.env0 hbind r h) ?_)
  intro r s' hq
  cases r with
  | error e => exact hq.elim
  | ok fl =>
    cases fl with
    | ret u => exact I.after hq
    | next => exact hq.elim
    | brk => exact hq.elim
    | cont => exact hq.elim
theorem pe_callG (F : FnG X.prog X.w X.K X.mg X.base k f fd ps sp) (hr : Room k X.A) (gd : X.A.guards = some []) (hg : Gl X x) (hm : X.mg x = some (.ref f)) (hk : PySem.W.keepIn X.K (.ref f) = true) (hb : Binds X.K fd ps [])
    (ha : PA X (e :: es) t) (hdb : (x == ("__debug__" : Str)) = false) (he : starEach (e :: es) X.env = (false, eval e X.env) :: starEach es X.env) (hpl : (backTo pos (starEach es X.env)).any (·.1) = false) :
    PE X (.Call (.Name x p) (e :: es) [] pos) fun σ H Q => t σ H fun vs H1 => sp vs H1 Q E0 := by
  constructor
  intro pins s σ H Q I h
  apply wpAny_Call_Name_kw (ld_glob I hg hm ?_ hdb)
  refine PySem.W.callWith_K (h₀ := X.base) I.ok.mod.kin hk (thn (ha.run pos pins s σ H _ I h) ?_) he hpl
  rintro us s1 ⟨vs, H1, I1, r, q⟩
  exact ⟨I1.kIn, run_fnG F hr gd hb I1 r q⟩
theorem pe_callG0 (F : FnG X.prog X.w X.K X.mg X.base k f fd ps sp) (hr : Room k X.A) (gd : X.A.guards = some []) (hg : Gl X x) (hm : X.mg x = some (.ref f)) (hk : PySem.W.keepIn X.K (.ref f) = true) (hb : Binds X.K fd ps [])
    (hdb : (x == ("__debug__" : Str)) = false) : PE X (.Call (.Name x p) [] [] pos) fun σ H Q => sp [] H Q E0 := by
  constructor
  intro pins s σ H Q I h
  apply wpAny_Call_Name_kw (ld_glob I hg hm ?_ hdb)
  exact PySem.W.callWith_K0 I.kIn hk (run_fnG (us := []) F hr gd hb I .nil h)
end
/-! ### promises over trees -/
def spP (pre : List PyData → Prop) (post : List PyData → PyData → Prop) : Sp := fun vs H Q _ => ∃ ds Hc, Trs Hc vs ds ∧ Same Hc H ∧ pre ds ∧ ∀ v d Hc' H', post ds d → Ext Hc H Hc' H' → Tr Hc' v d → Q v H'
def LIM : Nat := 1000000000
/-- all but one object is as it was -/
structure ExtB (a : Addr) (Hc H Hc' H' : Hp) : Prop where
  all : ∀ b o, b ≠ a → H b = some o → H' b = some o
  core : Same Hc Hc'
  sub : Same Hc' H'
  out : ∀ b, H b ≠ none → Hc b = none → Hc' b = none
def spM (c : Nat) (pre : List PyData → Prop) (post : List PyData → PyData → Prop) : Sp := fun vs H Q _ => ∃ a ws ds Hc n, vs = .ref a :: ws ∧ Trs Hc ws ds ∧ Same Hc H ∧ MS Hc H a n ∧ n + c ≤ LIM ∧ pre ds ∧
  ∀ v d Hc' H' n', post ds d → ExtB a Hc H Hc' H' → MS Hc' H' a n' → n' ≤ n + c → Tr Hc' v d → Q v H'
section
variable {G : Gx} {env : En} {P : PyData → En → Prop} {e : Expr} {es : List Expr} {pos p : Pos} {x : Str} {k : Nat} {f : Addr} {fd : FuncData} {ps : List Str} {pre : List PyData → Prop} {post : List PyData → PyData → Prop}
structure Callee (G : Gx) (x : Str) (k : Nat) (f : Addr) (fd : FuncData) (ps : List Str) (sp : Sp) : Prop where
  fn : FnG G.P G.w G.K G.mg G.base k f fd ps sp
  room : Room k G.A
  gd : G.A.guards = some []
  mg : G.mg x = some (.ref f)
  kp : PySem.W.keepIn G.K (.ref f) = true
  bd : Binds G.K fd ps []
theorem peC {X : Cx} {sp : Sp} (hX : InG G X) (C : Callee G x k f fd ps sp) (hg : GlG G x) (ns : noStar (e :: es) = true) (hdb : (x == ("__debug__" : Str)) = false) :
    PE X (.Call (.Name x p) (e :: es) [] pos) fun σ H Q => tWA G (e :: es) σ H fun vs H1 => sp vs H1 Q E0 := by
  have c1 := C.fn
  rw [← hX.P, ← hX.w, ← hX.K, ← hX.mg, ← hX.base] at c1
  exact pe_callG c1 (by rw [hX.A]; exact C.room) (by rw [hX.A]; exact C.gd) (glX hX hg) (by rw [hX.mg]; exact C.mg) (by rw [hX.K]; exact C.kp) (by rw [hX.K]; exact C.bd) (paW hX _ ns) hdb (star_cons (noStar_cons ns).1) (star_any (noStar_cons ns).2)
theorem w_callP (C : Callee G x k f fd ps (spP pre post)) (h : WA G (e :: es) env fun ds e1 => pre ds ∧ ∀ d, post ds d → P d e1) (hg : GlG G x := by rfl) (ns : noStar (e :: es) = true := by rfl) (hdb : (x == ("__debug__" : Str)) = false := by decide) :
    W G (.Call (.Name x p) (e :: es) [] pos) env P :=
  W.of _ (fun X hX => peC hX C hg ns hdb) fun X hX σ Hc H Q R q => tWA.use R h fun vs ds e1 Hc1 H1 ⟨hp, hq⟩ go t =>
    ⟨ds, Hc1, t, go.rep.same, hp, fun v d Hc' H' pd x t' => q _ _ _ _ _ (hq d pd) (go.trans (x.go go.rep)) t'⟩
theorem w_call0 (C : Callee G x k f fd ps (spP pre post)) (h : pre [] ∧ ∀ d, post [] d → P d env) (hg : GlG G x := by rfl) (hdb : (x == ("__debug__" : Str)) = false := by decide) :
    W G (.Call (.Name x p) [] [] pos) env P :=
  W.of (fun X => fun σ H Q => spP pre post [] H Q E0) (fun X hX => by
    have c1 := C.fn
    rw [← hX.P, ← hX.w, ← hX.K, ← hX.mg, ← hX.base] at c1
    exact pe_callG0 c1 (by rw [hX.A]; exact C.room) (by rw [hX.A]; exact C.gd) (glX hX hg) (by rw [hX.mg]; exact C.mg) (by rw [hX.K]; exact C.kp) (by rw [hX.K]; exact C.bd) hdb) fun X hX σ Hc H Q R q =>
    ⟨[], Hc, .nil, R.same, h.1, fun v d Hc' H' pd x t' => q _ _ _ _ _ (h.2 d pd) (x.go R) t'⟩
theorem sl_lt {env : En} {i : Nat} {s : Sl} (h : env[i]? = some s) : i < env.length := (List.getElem?_eq_some_iff.mp h).1
/-- the draws' dict has turned -/
theorem extB_go {Hc H Hc' H' : Hp} {σ : L2.St} {i : Nat} {a : Addr} {n n' : Nat} (R : Rp Hc H σ env) (he : env[i]? = some (.ms a n)) (x : ExtB a Hc H Hc' H') (m : MS Hc' H' a n') :
    Go Hc H σ env Hc' H' σ (env.set i (.ms a n')) := by
  obtain ⟨ea, ma⟩ := R.ok i _ he
  have oa : Own σ env a := ⟨i, _, he, rfl, ea⟩
  have hs : ∀ {j : Nat} {s : Sl}, (env.set i (.ms a n'))[j]? = some s → (j = i ∧ s = .ms a n') ∨ (j ≠ i ∧ env[j]? = some s) := by
    intro j s e
    by_cases hj : j = i
    · subst hj
      rw [List.getElem?_set_self (sl_lt he)] at e
      cases e
      exact .inl ⟨rfl, rfl⟩
    · rw [List.getElem?_set_ne (Ne.symm hj)] at e
      exact .inr ⟨hj, e⟩
  have nn : ∀ {a : Addr} {u : HO}, H a = some u → H a ≠ none := fun e z => by rw [e] at z; cases z
  have es : ∀ {j : Nat} {s : Sl}, (env.set i (.ms a n'))[j]? = some s → s.own = true → ∃ s', env[j]? = some s' ∧ s'.own = true := by
    intro j s e o
    rcases hs e with ⟨e1, e2⟩ | ⟨e1, e2⟩
    · rw [e1]
      exact ⟨_, he, rfl⟩
    · exact ⟨s, e2, o⟩
  refine ⟨⟨x.sub, fun j s e => ?_, fun j l s t b h1 h2 h3 h4 h5 h6 => ?_, by rw [List.length_set]; exact R.len⟩, x.core, fun b o e n => x.all b o (fun z => n (z ▸ oa)) e, fun b e c _ => x.out b e c, fun b o => ?_, fun b e => ?_⟩
  · rcases hs e with ⟨e1, e2⟩ | ⟨e1, e2⟩
    · subst e1 e2
      exact ⟨ea, m⟩
    · have q := R.ok j s e2
      have away : ∀ b, σ[j]? = some (some (.ref b)) → s.own = true → b ≠ a := fun b q1 q2 z => by
        subst z
        exact e1 (R.inj j i s _ b e2 he q2 rfl q1 ea)
      cases s with
      | no => trivial
      | va d => obtain ⟨v, u, t'⟩ := q; exact ⟨v, u, t'.mono x.core⟩
      | raw v φ => exact ⟨q.1, q.2.2 _ _ x.core q.2.1, q.2.2⟩
      | ow ds' => obtain ⟨b, ws, u, c, u', t'⟩ := q; exact ⟨b, ws, u, x.out b (nn u') c, x.all _ _ (away b u rfl) u', t'.mono x.core⟩
      | dk b kvs => obtain ⟨ws, u, c, u', t'⟩ := q; exact ⟨ws, u, x.out b (nn u') c, x.all _ _ (away b u rfl) u', t'.mono x.core⟩
      | oa b kvs => obtain ⟨ws, u, c, u', t'⟩ := q; exact ⟨ws, u, x.out b (nn u') c, x.all _ _ (away b u rfl) u', t'.mono x.core⟩
      | dn P w b ks => obtain ⟨u, c, ka, u', t'⟩ := q; exact ⟨u, x.out b (nn u') c, ka, x.all _ _ (away b u rfl) u', t'.mono x.core⟩
      | ms b n =>
        obtain ⟨u, ⟨c, l, s, p, b', ns, h1, h2, h3⟩⟩ := q
        exact ⟨u, x.out b (nn h1) c, l, s, p, b', ns, x.all _ _ (away b u rfl) h1, x.core _ _ h2, h3⟩
  · obtain ⟨s1, f1, g1⟩ := es h1 h3
    obtain ⟨s2, f2, g2⟩ := es h2 h4
    exact R.inj j l s1 s2 b f1 f2 g1 g2 h5 h6
  · obtain ⟨j, s, h1, h2, h3⟩ := o
    obtain ⟨s1, f1, g1⟩ := es h1 h2
    exact .inl ⟨j, s1, f1, g1, h3⟩
  · by_cases hb : b = a
    · obtain ⟨_, l, s, p, b', ns, h1, _⟩ := m
      rw [hb, h1]
      simp
    · cases q : H b with
      | none => exact absurd q e
      | some o => rw [x.all b o hb q]; simp
theorem w_callM {c : Nat} {a : Addr} {n0 : Nat} {m : Str} {pm : Pos} (i : Nat) (C : Callee G x k f fd ps (spM c pre post)) (he : env[i]? = some (.ms a n0))
    (h : WA G es env fun ds e1 => ∃ n, e1[i]? = some (.ms a n) ∧ n + c ≤ LIM ∧ pre ds ∧ ∀ d n', n' ≤ n + c → post ds d → P d (e1.set i (.ms a n')))
    (hN : G.N[i]? = some m := by rfl) (hv : Vis G.sc m := by first | exact Or.inl rfl | exact Or.inr (Or.inl rfl) | exact Or.inr (Or.inr rfl)) (hg : GlG G x := by rfl) (ns : noStar (Expr.Name m pm :: es) = true := by rfl) (hdb : (x == ("__debug__" : Str)) = false := by decide)
    (hd : (m == ("__debug__" : Str)) = false := by decide) (hcd : (m == ("__classdict__" : Str)) = false := by decide) :
    W G (.Call (.Name x p) (.Name m pm :: es) [] pos) env P :=
  W.of (fun X => fun σ H Q => tCons (tVar i) (tWA G es) σ H fun vs H1 => spM c pre post vs H1 Q E0) (fun X hX => by
    have c1 := C.fn
    rw [← hX.P, ← hX.w, ← hX.K, ← hX.mg, ← hX.base] at c1
    exact pe_callG c1 (by rw [hX.A]; exact C.room) (by rw [hX.A]; exact C.gd) (glX hX hg) (by rw [hX.mg]; exact C.mg) (by rw [hX.K]; exact C.kp) (by rw [hX.K]; exact C.bd)
      (pa_cons (pvG hX i hN hv hd hcd) (paW hX _ (noStar_cons ns).2) (star_cons (noStar_cons ns).1)) hdb (star_cons (noStar_cons ns).1) (star_any (noStar_cons ns).2)) fun X hX σ Hc H Q R q => by
    obtain ⟨ea, _⟩ := R.ok i _ he
    refine ⟨_, ea, tWA.use R h fun vs ds e1 Hc1 H1 ⟨n, e2, hl, hp, hq⟩ go t => ?_⟩
    obtain ⟨_, m1⟩ := go.rep.ok i _ e2
    exact ⟨a, vs, ds, Hc1, n, rfl, t, go.rep.same, m1, hl, hp, fun v d Hc' H' n' pd xb mm ln t' => q _ _ _ _ _ (hq d n' ln pd) (go.trans (extB_go go.rep e2 xb mm)) t'⟩
end
end TL

namespace TL
open PySem PySem.Spec PyProof.Rows L2
/-! ### a slot changes its word -/
def nown (env : En) (j : Nat) : Prop := ∀ s, env[j]? = some s → s.own = false
theorem nown_set {env : En} {j : Nat} {t : Sl} (h : t.own = false) : nown (env.set j t) j := by
  intro s e
  by_cases l : j < env.length
  · rw [List.getElem?_set_self l] at e
    cases e
    exact h
  · rw [List.getElem?_eq_none (by simpa using l)] at e
    cases e
theorem own_swap {σ : L2.St} {env : En} {j : Nat} {t : Sl} {o : Option V} {a : Addr} (ht : t.own = false) (h : Own (σ.set j o) (env.set j t) a) : Own σ env a := by
  obtain ⟨i, s, e1, e2, e3⟩ := h
  obtain ⟨ne, e4⟩ := set_own e1 ht e2
  rw [List.getElem?_set_ne (Ne.symm ne)] at e3
  exact ⟨i, s, e4, e2, e3⟩
theorem own_swap' {σ : L2.St} {env : En} {j : Nat} {t : Sl} {o : Option V} {a : Addr} (hn : nown env j) (h : Own σ env a) : Own (σ.set j o) (env.set j t) a := by
  obtain ⟨i, s, e1, e2, e3⟩ := h
  have ne : i ≠ j := fun z => by
    subst z
    rw [hn s e1] at e2
    cases e2
  exact ⟨i, s, by rw [List.getElem?_set_ne (Ne.symm ne)]; exact e1, e2, by rw [List.getElem?_set_ne (Ne.symm ne)]; exact e3⟩
theorem rp_swap {Hc H : Hp} {σ : L2.St} {env : En} {j : Nat} {t : Sl} {o : Option V} (R : Rp Hc H σ env) (ht : t.own = false) (hk : j < σ.length → SlotOk Hc H t (some o)) : Rp Hc H (σ.set j o) (env.set j t) := by
  refine ⟨R.same, fun i s e => ?_, fun i l s u a h1 h2 h3 h4 h5 h6 => ?_, by rw [List.length_set, List.length_set]; exact R.len⟩
  · by_cases hi : i = j
    · subst hi
      have l : i < env.length := by
        have := sl_lt e
        simpa using this
      rw [List.getElem?_set_self l] at e
      cases e
      have l2 : i < σ.length := by
        rw [R.len]
        exact l
      rw [List.getElem?_set_self l2]
      exact hk l2
    · rw [List.getElem?_set_ne (Ne.symm hi)] at e ⊢
      exact R.ok i s e
  · obtain ⟨n1, q1⟩ := set_own h1 ht h3
    obtain ⟨n2, q2⟩ := set_own h2 ht h4
    rw [List.getElem?_set_ne (Ne.symm n1)] at h5
    rw [List.getElem?_set_ne (Ne.symm n2)] at h6
    exact R.inj i l s u a q1 q2 h3 h4 h5 h6
/-- a name is stored: a value -/
theorem go_asg {Hc H : Hp} {σ : L2.St} {env : En} {j : Nat} {t : Sl} {o : Option V} (R : Rp Hc H σ env) (ht : t.own = false) (hk : SlotOk Hc H t (some o)) : Go Hc H σ env Hc H (σ.set j o) (env.set j t) :=
  ⟨rp_swap R ht fun _ => hk, .refl _, fun _ _ e _ => e, fun _ _ e _ => e, fun _ h => .inl (own_swap ht h), fun _ e => e⟩
/-- a slot is forgotten -/
theorem rp_drop {Hc H : Hp} {σ : L2.St} {env : En} (j : Nat) (R : Rp Hc H σ env) : Rp Hc H σ (env.set j .no) := by
  refine ⟨R.same, fun i s e => ?_, fun i l s u a h1 h2 h3 h4 h5 h6 => ?_, by rw [List.length_set]; exact R.len⟩
  · by_cases hi : i = j
    · subst hi
      have l : i < env.length := by
        have := sl_lt e
        simpa using this
      rw [List.getElem?_set_self l] at e
      cases e
      trivial
    · rw [List.getElem?_set_ne (Ne.symm hi)] at e
      exact R.ok i s e
  · obtain ⟨n1, q1⟩ := set_own h1 rfl h3
    obtain ⟨n2, q2⟩ := set_own h2 rfl h4
    exact R.inj i l s u a q1 q2 h3 h4 h5 h6
theorem go_drop {Hc H Hc' H' : Hp} {σ σ' : L2.St} {env env' : En} (j : Nat) (g : Go Hc H σ env Hc' H' σ' env') : Go Hc H σ env Hc' H' σ' (env'.set j .no) :=
  ⟨rp_drop j g.rep, g.core, g.kp, g.out, fun a h => g.own a (own_set rfl h), g.ex⟩
/-- what a block did, seen from outside -/
theorem go_swap {Hc H Hc' H' : Hp} {σ : L2.St} {env env' : En} {j : Nat} {t : Sl} {o : Option V} (hn : nown env j) (ht : t.own = false) (g : Go Hc H (σ.set j o) (env.set j t) Hc' H' (σ.set j o) env') : Go Hc H σ env Hc' H' σ (env'.set j .no) where
  rep := by
    have r := rp_swap (j := j) (t := .no) (o := σ[j]?.getD none) g.rep rfl fun _ => trivial
    have e : (σ.set j o).set j (σ[j]?.getD none) = σ := by
      rw [List.set_set]
      apply List.ext_getElem?
      intro i
      by_cases hi : i = j
      · subst hi
        by_cases l : i < σ.length
        · rw [List.getElem?_set_self l, List.getElem?_eq_getElem l]
          rfl
        · rw [List.getElem?_eq_none (by simpa using l), List.getElem?_eq_none (by simpa using l)]
      · rw [List.getElem?_set_ne (Ne.symm hi)]
    rw [e] at r
    exact r
  core := g.core
  kp := fun a u e n => g.kp a u e fun q => n (own_swap ht q)
  out := fun a e c n => g.out a e c fun q => n (own_swap ht q)
  own := fun a h => by
    have h2 : Own (σ.set j o) env' a := by
      obtain ⟨i, s, e1, e2, e3⟩ := h
      obtain ⟨ne, e4⟩ := set_own e1 rfl e2
      exact ⟨i, s, e4, e2, by rw [List.getElem?_set_ne (Ne.symm ne)]; exact e3⟩
    exact (g.own a h2).elim (fun q => .inl (own_swap ht q)) .inr
  ex := g.ex
/-! ### what is walked -/
def Walks (J : It) (Hc : Hp) (ds : List PyData) : Prop := ∃ vs, Trs Hc vs ds ∧ (∀ H', Same Hc H' → ∀ i, i < vs.length → J.go i H') ∧
  (∀ i H' x H'', Same Hc H' → J.yld i H' x H'' → i < vs.length → H'' = H' ∧ vs[i]? = some x) ∧ ∀ H', Same Hc H' → J.stop vs.length H'
def WI (G : Gx) (tg iter : Expr) (env : En) (P : List PyData → En → Prop) : Prop :=
  ∀ X, InG G X → ∃ wi : TI, PI X tg iter wi ∧ ∀ (σ : L2.St) (Hc H : Hp) (R : It → Hp → Prop), Rp Hc H σ env → (∀ ds J env' Hc' H', P ds env' → Go Hc H σ env Hc' H' σ env' → Walks J Hc' ds → R J H') → wi σ H R
theorem pi_seq {X : Cx} {tg l : Expr} {tl : TE} (hl : PE X l tl) : PI X tg l fun σ H R => tl σ H fun x H1 =>
    (∃ a, x = .ref a ∧ (∃ xs, SqL X.K H1 a xs) ∧ R (Itl X.K a) H1) ∨ (∃ a, x = .ref a ∧ (∃ xs, SqT X.K H1 a xs) ∧ R (Itt X.K a) H1) := by
  constructor
  intro pins s σ H R I h
  apply thn (hl.run pins s σ H _ I h)
  rintro v s1 ⟨x, H1, I1, r1, q1⟩
  have fin : ∀ b ∈ [s1.heap.objs.size], FpOk X pins H1 b := by
    intro b hb
    have e : b = s1.heap.objs.size := by simpa using hb
    subst e
    exact I1.fpOk (Nat.le_refl _) (I1.hok.fresh (Nat.le_refl _))
  rcases q1 with ⟨a, e, ⟨xs, hq⟩, q⟩ | ⟨a, e, ⟨xs, hq⟩, q⟩
  · subst e
    cases r1
    obtain ⟨its, rv, pl, hz⟩ := I1.list hq
    apply wpAny_pyIter_list pl.isList
    exact ⟨s1.heap.objs.size, [s1.heap.objs.size], _, _, H1, rfl, I1.kept (t' := s1.toks) (fun b o e => Heap.get?_push_of_some _ e), turn_list a _, ⟨_, Heap.get?_push_size _ rfl, rfl, rfl⟩, fin, q⟩
  · subst e
    cases r1
    obtain ⟨its, rv, pl, hz⟩ := I1.tuple hq
    apply wpAny_pyIter_tuple (show s1.heap.IsTuple a its.toArray from pl)
    exact ⟨s1.heap.objs.size, [s1.heap.objs.size], _, _, H1, rfl, I1.kept (t' := s1.toks) (fun b o e => Heap.get?_push_of_some _ e), turn_tuple a _, ⟨_, Heap.get?_push_size _ rfl, rfl, rfl⟩, fin, q⟩
section
variable {G : Gx} {env : En} {tg iter e a b : Expr} {P : List PyData → En → Prop} {p pos : Pos}
theorem wi_seq (h : W G iter env fun d e1 => ∃ ds, itemD d = some ds ∧ P ds e1) : WI G tg iter env P := fun X hX =>
  ⟨_, pi_seq (peW hX iter), fun σ Hc H R r q => tW.use r h fun v d e1 Hc1 H1 ⟨ds, ed, pd⟩ go t => by
    cases t with
    | @lst a vs _ m k =>
      cases ed
      have sq : ∀ {H'}, Same Hc1 H' → SqL X.K H' a vs := fun s => SqL.of (s _ _ m)
      refine .inl ⟨a, rfl, ⟨_, sq go.rep.same⟩, q _ _ e1 Hc1 H1 pd go ⟨vs, k, fun H' s i hi => ⟨vs, vs[i], sq s, by simp [hi]⟩, fun i H' x H'' s y hi => ⟨y.1, y.2 vs (sq s)⟩, fun H' s => ⟨vs, sq s, Nat.le_refl _⟩⟩⟩
    | @tup a vs _ m k =>
      cases ed
      have sq : ∀ {H'}, Same Hc1 H' → SqT X.K H' a vs := fun s => (m.mono s).sq
      refine .inr ⟨a, rfl, ⟨_, sq go.rep.same⟩, q _ _ e1 Hc1 H1 pd go ⟨vs, k, fun H' s i hi => ⟨vs, vs[i], sq s, by simp [hi]⟩, fun i H' x H'' s y hi => ⟨y.1, y.2 vs (sq s)⟩, fun H' s => ⟨vs, sq s, Nat.le_refl _⟩⟩⟩
    | non => cases ed
    | bl b => cases ed
    | int b => cases ed
    | str b => cases ed⟩
def rgD (lo : Int) (n : Nat) : List PyData := (List.range n).map fun (i : Nat) => PyData.int (lo + (i : Int))
theorem rgD_len (lo : Int) (n : Nat) : (rgD lo n).length = n := by
  unfold rgD
  rw [List.length_map, List.length_range]
theorem rgD_get {lo : Int} {n i : Nat} {d : PyData} (h : (rgD lo n)[i]? = some d) : i < n ∧ d = .int (lo + (i : Int)) := by
  have l := (List.getElem?_eq_some_iff.mp h).1
  rw [rgD_len] at l
  refine ⟨l, ?_⟩
  unfold rgD at h
  rw [List.getElem?_map, List.getElem?_range l] at h
  exact (Option.some.inj h).symm
theorem walks_rg (Hc : Hp) (lo : Int) (n : Nat) : Walks (Itr lo n) Hc (rgD lo n) := by
  refine ⟨((List.range n).map fun (i : Nat) => lo + (i : Int)).map V.int, ?_, fun H' s i hi => ?_, fun i H' x H'' s y hi => ?_, fun H' s => ?_⟩
  · have e : rgD lo n = ((List.range n).map fun (i : Nat) => lo + (i : Int)).map PyData.int := by
      unfold rgD
      rw [List.map_map]
      rfl
    rw [e]
    exact Trs.ints _
  · rw [List.length_map, List.length_map, List.length_range] at hi
    exact hi
  · rw [List.length_map, List.length_map, List.length_range] at hi
    refine ⟨y.1, ?_⟩
    rw [y.2, List.getElem?_map, List.getElem?_map, List.getElem?_range hi]
    rfl
  · show n ≤ _
    rw [List.length_map, List.length_map, List.length_range]
    exact Nat.le_refl _
theorem wi_rg (hm : G.mg "range" = none) (h : W G e env fun d e1 => ∃ n : Int, d = .int n ∧ n ≤ 1000000 ∧ -1000000 ≤ n ∧ P (rgD 0 n.toNat) e1) (hg : GlG G "range" := by rfl) (ns : noStar [e] = true := by rfl) : WI G tg (.Call (.Name "range" p) [e] [] pos) env P := fun X hX =>
  ⟨_, pi_range1 (glX hX hg) (by rw [hX.mg]; exact hm) (paW hX [e] ns) (star_cons (noStar_cons ns).1), fun σ Hc H R r q => by
    refine tWA.use (P := fun ds e1 => ∃ n : Int, ds = [.int n] ∧ n ≤ 1000000 ∧ -1000000 ≤ n ∧ P (rgD 0 n.toNat) e1) r (W.imp h fun d e1 ⟨n, ed, hn, hk, pd⟩ => ⟨n, by rw [ed], hn, hk, pd⟩) fun vs ds e1 Hc1 H1 ⟨n, ed, hn, hk, pd⟩ go t => ?_
    subst ed
    rw [Trs.of_ints (ns := [n]) t]
    exact ⟨n, rfl, by omega, by omega, q _ _ e1 Hc1 H1 pd go (walks_rg _ _ _)⟩⟩
theorem wi_rg2 (hm : G.mg "range" = none) (h : WA G [a, b] env fun ds e1 => ∃ i n : Int, ds = [.int i, .int n] ∧ n ≤ 1000000 ∧ -1000000 ≤ n ∧ i ≤ 1000000 ∧ -1000000 ≤ i ∧ P (rgD i (n - i).toNat) e1) (hg : GlG G "range" := by rfl) (ns : noStar [a, b] = true := by rfl) : WI G tg (.Call (.Name "range" p) [a, b] [] pos) env P := fun X hX =>
  ⟨_, pi_range2 (glX hX hg) (by rw [hX.mg]; exact hm) (paW hX [a, b] ns) (by rw [star_cons (noStar_cons ns).1, star_cons (noStar_cons (noStar_cons ns).2).1]; rfl) (by rw [star_cons (noStar_cons (noStar_cons ns).2).1]; rfl), fun σ Hc H R r q => by
    refine tWA.use r h fun vs ds e1 Hc1 H1 ⟨i, n, ed, hn, hk, hi, hj, pd⟩ go t => ?_
    subst ed
    rw [Trs.of_ints (ns := [i, n]) t]
    exact ⟨i, n, rfl, ⟨by omega, by omega, by omega, by omega⟩, q _ _ e1 Hc1 H1 pd go (walks_rg _ _ _)⟩⟩
end
/-! ### comprehensions -/
def Gx.blk (G : Gx) (scope : Scope) : Gx := { G with sc := relS scope G.sc }
theorem inG_blk {G : Gx} {X : Cx} (hX : InG G X) (scope : Scope) (s : Shared) (H : Hp) (C : Addr) (cl : List (Str × Addr)) (fp : List Addr) : InG (G.blk scope) (X.blk s H scope (compEnvC scope cl C X.env) fp) :=
  ⟨hX.N, by show relS scope X.env.scope = relS scope G.sc; rw [hX.sc], hX.K, hX.mg, hX.P, hX.w, hX.base, hX.A, hX.calm⟩
/-- a new list that nobody else knows -/
structure Nw (Hc H : Hp) (σ : L2.St) (env : En) (D : Addr) (vs : List V) (ds : List PyData) (Hc' H' : Hp) (env' : En) : Prop where
  go : Go Hc H σ env Hc' H' σ env'
  old : H D = none
  at' : H' D = some (.lst vs)
  tr : Trs Hc' vs ds
  out : Hc' D = none
  no : ¬ Own σ env' D
theorem Nw.freeze {Hc H : Hp} {σ : L2.St} {env : En} {D : Addr} {vs : List V} {ds : List PyData} {Hc' H' : Hp} {env' : En} (n : Nw Hc H σ env D vs ds Hc' H' env') :
    Go Hc H σ env (upd Hc' D (.lst vs)) H' σ env' ∧ Tr (upd Hc' D (.lst vs)) (.ref D) (.list ds) := by
  have core : Same Hc' (upd Hc' D (.lst vs)) := fun b o e => by
    rw [upd_ne (ne_of_none e n.out)]
    exact e
  refine ⟨⟨⟨?_, ?_, n.go.rep.inj, n.go.rep.len⟩, n.go.core.trans core, n.go.kp, ?_, n.go.own, n.go.ex⟩, .lst upd_same (n.tr.mono core)⟩
  · intro b o e
    by_cases hb : b = D
    · subst hb
      rw [upd_same] at e
      cases e
      exact n.at'
    · rw [upd_ne hb] at e
      exact n.go.rep.same b o e
  · intro j s e
    have q := n.go.rep.ok j s e
    have away : ∀ b, σ[j]? = some (some (.ref b)) → s.own = true → b ≠ D := fun b q1 q2 z => by
      subst z
      exact n.no ⟨j, s, e, q2, q1⟩
    cases s with
    | no => trivial
    | va d => obtain ⟨v, u, t'⟩ := q; exact ⟨v, u, t'.mono core⟩
    | raw v φ => exact ⟨q.1, q.2.2 _ _ core q.2.1, q.2.2⟩
    | ow ds' => obtain ⟨b, ws, u, c, u', t'⟩ := q; exact ⟨b, ws, u, by rw [upd_ne (away b u rfl)]; exact c, u', t'.mono core⟩
    | dk b kvs => obtain ⟨ws, u, c, u', t'⟩ := q; exact ⟨ws, u, by rw [upd_ne (away b u rfl)]; exact c, u', t'.mono core⟩
    | oa b kvs => obtain ⟨ws, u, c, u', t'⟩ := q; exact ⟨ws, u, by rw [upd_ne (away b u rfl)]; exact c, u', t'.mono core⟩
    | dn P w b ks => obtain ⟨u, c, ka, u', t'⟩ := q; exact ⟨u, by rw [upd_ne (away b u rfl)]; exact c, ka, u', t'.mono core⟩
    | ms b n =>
      obtain ⟨u, ⟨c, l, s, p, b', ns, h1, h2, h3⟩⟩ := q
      exact ⟨u, by rw [upd_ne (away b u rfl)]; exact c, l, s, p, b', ns, h1, core _ _ h2, h3⟩
  · intro a e c k
    have ha : a ≠ D := fun z => e (z ▸ n.old)
    rw [upd_ne ha]
    exact n.go.out a e c k
theorem go_new {Hc H : Hp} {σ : L2.St} {env : En} {D : Addr} {o : HO} (R : Rp Hc H σ env) (h : H D = none) : Go Hc H σ env Hc (upd H D o) σ env := by
  have al : Same H (upd H D o) := fun b u e => by
    rw [upd_ne (ne_of_none e h)]
    exact e
  exact Ext.go ⟨al, .refl _, fun b u e => al b u (R.same b u e), fun _ _ e => e⟩ R
theorem own_ne_new {Hc H : Hp} {σ : L2.St} {env : En} {D : Addr} (R : Rp Hc H σ env) (h : H D = none) : ¬ Own σ env D := by
  rintro ⟨i, s, e1, e2, e3⟩
  have q := R.ok i s e1
  cases s with
  | no => cases e2
  | va d => cases e2
  | raw v φ => cases e2
  | ow ds => obtain ⟨b, ws, u, c, u', t'⟩ := q; rw [e3] at u; cases u; rw [h] at u'; cases u'
  | dk b kvs => obtain ⟨ws, u, c, u', t'⟩ := q; rw [e3] at u; cases u; rw [h] at u'; cases u'
  | oa b kvs => obtain ⟨ws, u, c, u', t'⟩ := q; rw [e3] at u; cases u; rw [h] at u'; cases u'
  | dn P w b ks => obtain ⟨u, c, ka, u', t'⟩ := q; rw [e3] at u; cases u; rw [h] at u'; cases u'
  | ms b n =>
    obtain ⟨u, ⟨c, l, s, p, b', ns, h1, h2, h3⟩⟩ := q
    rw [e3] at u
    cases u
    rw [h] at h1
    cases h1
/-- the object at D, nobody's, is written -/
theorem go_write {Hc H Hc' H' : Hp} {σ : L2.St} {env env' : En} {D : Addr} {o : HO} (g : Go Hc H σ env Hc' H' σ env') (old : H D = none) (out : Hc' D = none) (no : ¬ Own σ env' D) : Go Hc H σ env Hc' (upd H' D o) σ env' := by
  refine ⟨⟨?_, ?_, g.rep.inj, g.rep.len⟩, g.core, ?_, g.out, g.own, ?_⟩
  · intro b u e
    rw [upd_ne (ne_of_none e out)]
    exact g.rep.same b u e
  · intro j s e
    have q := g.rep.ok j s e
    have away : ∀ b, σ[j]? = some (some (.ref b)) → s.own = true → b ≠ D := fun b q1 q2 z => by
      subst z
      exact no ⟨j, s, e, q2, q1⟩
    cases s with
    | no => trivial
    | va d => exact q
    | raw v φ => exact q
    | ow ds' => obtain ⟨b, ws, u, c, u', t'⟩ := q; exact ⟨b, ws, u, c, by rw [upd_ne (away b u rfl)]; exact u', t'⟩
    | dk b kvs => obtain ⟨ws, u, c, u', t'⟩ := q; exact ⟨ws, u, c, by rw [upd_ne (away b u rfl)]; exact u', t'⟩
    | oa b kvs => obtain ⟨ws, u, c, u', t'⟩ := q; exact ⟨ws, u, c, by rw [upd_ne (away b u rfl)]; exact u', t'⟩
    | dn P w b ks => obtain ⟨u, c, ka, u', t'⟩ := q; exact ⟨u, c, ka, by rw [upd_ne (away b u rfl)]; exact u', t'⟩
    | ms b n =>
      obtain ⟨u, ⟨c, l, s, p, b', ns, h1, h2, h3⟩⟩ := q
      exact ⟨u, c, l, s, p, b', ns, by rw [upd_ne (away b u rfl)]; exact h1, h2, h3⟩
  · intro a u e n
    rw [upd_ne (ne_of_none e old)]
    exact g.kp a u e n
  · intro a e
    by_cases ha : a = D
    · subst ha
      exact absurd old e
    · rw [upd_ne ha]
      exact g.ex a e
/-- the word of a comprehension: JJ by the turn, what is made so far and the slots -/
structure CJ (G' : Gx) (j : Nat) (t : Option Expr) (elt : Expr) (ds : List PyData) (e0 : En) (PF : List PyData → En → Prop) : Prop where
  ex : ∃ JJ : Nat → List PyData → En → Prop, JJ 0 [] (e0.set j .no) ∧ (∀ acc e, JJ ds.length acc e → PF acc e) ∧
    ∀ i d acc e, ds[i]? = some d → acc.length ≤ i → JJ i acc e → match t with
      | none => W G' elt (e.set j (.va d)) fun y e2 => JJ (i + 1) (acc ++ [y]) (e2.set j .no)
      | some c => WT G' c (e.set j (.va d)) fun k e1 => if k = true then W G' elt e1 fun y e2 => JJ (i + 1) (acc ++ [y]) (e2.set j .no) else JJ (i + 1) acc (e1.set j .no)
def ifsOf : Option Expr → List Expr
  | none => []
  | some c => [c]
def tIfs (G' : Gx) : Option Expr → TT
  | none => tYes
  | some c => tWT G' c
theorem ptsW {G : Gx} {X : Cx} (hX : InG G X) : ∀ t, PTs X (ifsOf t) (tIfs G t)
  | none => pts_nil
  | some c => pts_one (ptW hX c)
theorem lc_read {G : Gx} {scope : Scope} {j : Nat} {t : Option Expr} {elt : Expr} {wi : TI} {env : En} {PF : List PyData → En → Prop} {σ : L2.St} {Hc H : Hp} {Q : VK} (R : Rp Hc H σ env)
    (hwi : ∀ R' : It → Hp → Prop, (∀ ds J env' Hc' H', (ds.length < 100000 ∧ CJ (G.blk scope) j t elt ds env' PF) → Go Hc H σ env Hc' H' σ env' → Walks J Hc' ds → R' J H') → wi σ H R')
    (hQ : ∀ D vs acc e2 Hc2 H2, PF acc e2 → Nw Hc H σ env D vs acc Hc2 H2 e2 → Q (.ref D) H2) : tLc wi (gName j) (tIfs (G.blk scope) t) (tW (G.blk scope) elt) [j] σ H Q := by
  refine hwi _ fun ds J e0 Hc1 H1 ⟨hsz, cj⟩ go0 wk D hD => ?_
  obtain ⟨JJ, j0, jF, js⟩ := cj.ex
  obtain ⟨vs0, tv, wgo, wyld, wstop⟩ := wk
  have lv := tv.length
  -- the word
  let Pv : Nat → Hp → Prop := fun i H' => ∃ Hc' e acc vs, JJ i acc e ∧ nown e j ∧ vs.length ≤ i ∧ Nw Hc H σ env D vs acc Hc' H' e ∧ Same Hc1 Hc'
  have old : H D = none := by
    cases q : H D with
    | none => rfl
    | some o => exact absurd hD (go0.ex D (by rw [q]; simp))
  have out1 : Hc1 D = none := Same.free go0.rep.same hD
  have g1 : Go Hc H σ env Hc1 (upd H1 D (.lst [])) σ (e0.set j .no) := go_drop j (go0.trans (go_new go0.rep hD))
  refine ⟨fun i m H' => m = vs0.length - i ∧ i ≤ vs0.length ∧ Pv i H', ⟨vs0.length, by omega, Nat.zero_le _, Hc1, e0.set j .no, [], [], j0, nown_set rfl, Nat.le_refl _, ⟨g1, old, upd_same, .nil, out1, fun o => own_ne_new go0.rep hD (own_set rfl o)⟩, .refl _⟩, ?_⟩
  rintro i m H2 ⟨em, hi, Hc2, e2, acc, vs, hJ, hn, hl, nw, sm⟩
  subst em
  have s12 : Same Hc1 H2 := sm.trans nw.go.rep.same
  by_cases hlt : i < vs0.length
  · refine .inr ⟨wgo H2 s12 i hlt, Pv (i + 1), fun H' p' => ⟨vs0.length - (i + 1), by omega, rfl, hlt, p'⟩, fun x H' y => ?_⟩
    obtain ⟨eH, ex⟩ := wyld i H2 x H' s12 y hlt
    subst eH
    obtain ⟨d, ed, td⟩ := tv.getV ex
    have eσ : (wipe σ [j]).set j (some x) = σ.set j (some x) := by
      show (σ.set j none).set j (some x) = _
      rw [List.set_set]
    show wipe ((wipe σ [j]).set j (some x)) [j] = wipe σ [j] ∧ tIfs (G.blk scope) t ((wipe σ [j]).set j (some x)) H' _
    rw [eσ]
    refine ⟨by show (σ.set j (some x)).set j none = σ.set j none; rw [List.set_set], ?_⟩
    have stp := js i d acc e2 ed (by rw [← nw.tr.length]; exact hl) hJ
    have R2 : Rp Hc2 H' (σ.set j (some x)) (e2.set j (.va d)) := rp_swap nw.go.rep rfl fun _ => ⟨x, rfl, td.mono sm⟩
    -- the item is made
    have made : ∀ {e3 : En} {Hc3 H3 : Hp}, Go Hc2 H' (σ.set j (some x)) (e2.set j (.va d)) Hc3 H3 (σ.set j (some x)) e3 → W (G.blk scope) elt e3 (fun y e4 => JJ (i + 1) (acc ++ [y]) (e4.set j .no)) →
        tW (G.blk scope) elt (σ.set j (some x)) H3 fun y H4 => ∃ ac, H4 D = some (.lst ac) ∧ ac.length < sizeLine ∧ Pv (i + 1) (upd H4 D (.lst (ac ++ [y]))) := by
      intro e3 Hc3 H3 go3 hw
      refine tW.use go3.rep hw fun y dy e4 Hc4 H4 j4 go4 ty => ?_
      have g34 := go_swap hn rfl (go3.trans go4)
      have keep : H4 D = some (.lst vs) := g34.kp D _ nw.at' nw.no
      have out4 : Hc4 D = none := g34.out D (by rw [nw.at']; simp) nw.out nw.no
      have no4 : ¬ Own σ (e4.set j .no) D := fun q => (g34.own D q).elim nw.no fun z => by rw [nw.at'] at z; cases z
      refine ⟨vs, keep, Nat.lt_of_lt_of_le (show vs.length < 100000 by omega) (by decide), Hc4, e4.set j .no, acc ++ [dy], vs ++ [y], j4, nown_set rfl, by rw [List.length_append]; show vs.length + 1 ≤ i + 1; omega, ⟨?_, old, upd_same, ?_, out4, no4⟩, sm.trans g34.core⟩
      · exact go_write (nw.go.trans g34) old out4 no4
      · exact Trs.append (nw.tr.mono g34.core) (.cons ty .nil)
    cases t with
    | none =>
      have z := made (e3 := e2.set j (.va d)) (Go.refl R2) stp
      exact iteT (B := Pv (i + 1) H') z
    | some c =>
      refine ⟨Hc2, e2.set j (.va d), _, R2, stp, fun k e3 Hc3 H3 pk go3 => ?_⟩
      cases k with
      | true =>
        rw [if_pos rfl] at pk ⊢
        exact made go3 pk
      | false =>
        rw [if_neg Bool.false_ne_true] at pk ⊢
        have g3 := go_swap hn rfl go3
        exact ⟨Hc3, e3.set j .no, acc, vs, pk, nown_set rfl, by omega, ⟨nw.go.trans g3, old, g3.kp D _ nw.at' nw.no, nw.tr.mono g3.core, g3.out D (by rw [nw.at']; simp) nw.out nw.no, fun q => (g3.own D q).elim nw.no fun z => by rw [nw.at'] at z; cases z⟩, sm.trans g3.core⟩
  · have e : i = vs0.length := by omega
    subst e
    exact .inl ⟨wstop H2 s12, hQ D vs acc e2 Hc2 H2 (jF acc e2 (by rw [← lv]; exact hJ)) nw⟩
section
variable {G : Gx} {env : En} {P : PyData → En → Prop} {elt iter : Expr} {scope : Scope} {pos pt : Pos} {x : Str}
/-- what a comprehension asks -/
def LC (G : Gx) (scope : Scope) (j : Nat) (tg iter : Expr) (t : Option Expr) (elt : Expr) (env : En) (PF : List PyData → En → Prop) : Prop :=
  WI G tg iter env fun ds e1 => ds.length < 100000 ∧ CJ (G.blk scope) j t elt ds e1 PF
theorem pe_lcG {X : Cx} (hX : InG G X) {j : Nat} {t : Option Expr} {wi : TI} (hi : PI X (.Name x pt) iter wi) (hnd : G.N.Nodup) (hb : blkC G.N G.sc scope [(x, j)] = true) (hj : G.N[j]? = some x)
    (hl : (relS scope G.sc).names.lookup x = some .local ∨ (relS scope G.sc).names.lookup x = some .cell) (hf : scope.names.lookup x = some .cell ∨ (relS scope G.sc).names.lookup x = some .local) (hs : ∀ (v : Env) y, foldedSetIterable iter v y = pure y) :
    PE X (.ListComp elt [⟨.Name x pt, iter, ifsOf t, 0⟩] scope pos) (tLc wi (gName j) (tIfs (G.blk scope) t) (tW (G.blk scope) elt) [j]) := by
  refine pe_lc (own := [(x, j)]) hX.calm (by rw [hX.N]; exact hnd) hi (blkOk_by (by rw [hX.N, hX.sc]; exact hb)) (fun s H C cl fp => ?_) (fun s H C cl fp => ptsW (inG_blk hX scope s H C cl fp) t) (fun s H C cl fp => peW (inG_blk hX scope s H C cl fp) elt) (hs X.env)
  have i2 := inG_blk hX scope s H C cl fp
  refine pg_name (i := j) (by rw [i2.N]; exact hnd) (by rw [i2.N]; exact hj) ?_ ?_
  · show _ ∨ _
    rw [i2.sc]
    exact hl
  · rcases hf with hf | hf
    · exact .inl (by show (scope.names.lookup x == some .cell) = true; rw [hf]; rfl)
    · exact .inr (by rw [i2.sc]; exact hf)
theorem w_lc (j : Nat) {t : Option Expr} (h : LC G scope j (.Name x pt) iter t elt env fun ds e => P (.list ds) e) (hnd : G.N.Nodup) (hb : blkC G.N G.sc scope [(x, j)] = true := by first | decide +kernel | (dsimp only [Gx.blk]; decide +kernel) | rfl) (hj : G.N[j]? = some x := by rfl)
    (hl : (relS scope G.sc).names.lookup x = some .local ∨ (relS scope G.sc).names.lookup x = some .cell := by first | exact .inl rfl | exact .inr rfl)
    (hf : scope.names.lookup x = some .cell ∨ (relS scope G.sc).names.lookup x = some .local := by first | exact .inl rfl | exact .inr rfl) (hs : ∀ (v : Env) y, foldedSetIterable iter v y = pure y := by exact fun _ _ => rfl) :
    W G (.ListComp elt [⟨.Name x pt, iter, ifsOf t, 0⟩] scope pos) env P := fun X hX => by
  obtain ⟨wi, hi, rd⟩ := h X hX
  intro pins s σ Hc H Q I R q
  refine (pe_lcG hX hi hnd hb hj hl hf hs).run pins s σ H Q I (lc_read R (rd σ Hc H · R) fun D vs acc e2 Hc2 H2 pf nw => ?_)
  have z := nw.freeze
  exact q _ _ _ _ _ pf z.1 z.2
end
end TL

namespace TL
open PySem PySem.Spec PyProof.Rows L2
/-! ### statements -/
structure InS (G : Gx) (X : Cx) : Prop where
  g : InG G X
  fn : ∀ x, X.fn x = true
  xe : X.xe = fun _ _ => False
structure DE where
  nx : En → Prop
  rt : PyData → En → Prop
  bk : En → Prop := fun _ => False
  ct : En → Prop := fun _ => False
  rv : List (Key × PyData) → En → Prop := fun _ _ => False
structure FinS (Hc H : Hp) (σ : L2.St) (env : En) (N : DE) (D : Ends) : Prop where
  nx : ∀ e σ' Hc' H', N.nx e → Go Hc H σ env Hc' H' σ' e → D.nx σ' H'
  rt : ∀ v d e σ' Hc' H', N.rt d e → Go Hc H σ env Hc' H' σ' e → Tr Hc' v d → D.rt v H'
  bk : ∀ e σ' Hc' H', N.bk e → Go Hc H σ env Hc' H' σ' e → D.bk σ' H'
  ct : ∀ e σ' Hc' H', N.ct e → Go Hc H σ env Hc' H' σ' e → D.ct σ' H'
  rv : ∀ p kvs ks e σ' Hc' H', N.rv kvs e → Go Hc H σ env Hc' H' σ' e → H p = none → H' p = some (.dK ks) → KTr Hc' ks kvs → Hc' p = none → D.rt (.ref p) H'
theorem FinS.from {Hc H Hc1 H1 : Hp} {σ σ1 : L2.St} {env e1 : En} {N : DE} {D : Ends} (f : FinS Hc H σ env N D) (g : Go Hc H σ env Hc1 H1 σ1 e1) : FinS Hc1 H1 σ1 e1 N D :=
  ⟨fun e σ' Hc' H' p q => f.nx e σ' Hc' H' p (g.trans q), fun v d e σ' Hc' H' p q => f.rt v d e σ' Hc' H' p (g.trans q), fun e σ' Hc' H' p q => f.bk e σ' Hc' H' p (g.trans q), fun e σ' Hc' H' p q => f.ct e σ' Hc' H' p (g.trans q), fun p kvs ks e σ' Hc' H' a b c => f.rv p kvs ks e σ' Hc' H' a (g.trans b) (by
    cases z : H p with
    | none => rfl
    | some o => exact absurd c (g.ex p (by rw [z]; simp)))⟩
def Rs (G : Gx) (ss : List Stmt) (env : En) (N : DE) : Prop :=
  ∀ X, InS G X → ∀ (pins : Pins) (s : Shared) (σ : L2.St) (Hc H : Hp) (D : Ends), Inv X pins σ H s → Rp Hc H σ env → FinS Hc H σ env N D → wpAny (model X.prog X.w) X.A (execs ss X.env) (SP X pins D) X.xe s
def tRs (G : Gx) (ss : List Stmt) : TS := fun D σ H => ∃ Hc env N, Rp Hc H σ env ∧ Rs G ss env N ∧ FinS Hc H σ env N D
theorem pssR {G : Gx} {X : Cx} (hX : InS G X) (ss : List Stmt) : PSs X ss (tRs G ss) := ⟨fun pins s σ H D I ⟨Hc, env, N, R, w, q⟩ => w X hX pins s σ Hc H D I R q⟩
theorem Rs.of {G : Gx} {ss : List Stmt} {env : En} {N : DE} (te : Cx → TS) (h : ∀ X, InS G X → PSs X ss (te X))
    (r : ∀ X, InS G X → ∀ (σ : L2.St) (Hc H : Hp) (D : Ends), Rp Hc H σ env → FinS Hc H σ env N D → te X D σ H) : Rs G ss env N :=
  fun X hX pins s σ Hc H D I R q => (h X hX).run pins s σ H D I (r X hX σ Hc H D R q)
theorem tRs.use {G : Gx} {ss : List Stmt} {env : En} {N : DE} {σ : L2.St} {Hc H : Hp} {D : Ends} (R : Rp Hc H σ env) (h : Rs G ss env N) (q : FinS Hc H σ env N D) : tRs G ss D σ H := ⟨Hc, env, N, R, h, q⟩
theorem Rs.imp {G : Gx} {ss : List Stmt} {env : En} {N N' : DE} (h : Rs G ss env N) (k1 : ∀ e, N.nx e → N'.nx e) (k2 : ∀ d e, N.rt d e → N'.rt d e) (k3 : ∀ e, N.bk e → N'.bk e) (k4 : ∀ e, N.ct e → N'.ct e) (k5 : ∀ kvs e, N.rv kvs e → N'.rv kvs e) : Rs G ss env N' :=
  fun X hX pins s σ Hc H D I R q => h X hX pins s σ Hc H D I R ⟨fun e σ' Hc' H' p => q.nx e σ' Hc' H' (k1 _ p), fun v d e σ' Hc' H' p => q.rt v d e σ' Hc' H' (k2 _ _ p), fun e σ' Hc' H' p => q.bk e σ' Hc' H' (k3 _ p), fun e σ' Hc' H' p => q.ct e σ' Hc' H' (k4 _ p), fun p kvs ks e σ' Hc' H' a => q.rv p kvs ks e σ' Hc' H' (k5 _ _ a)⟩
section
variable {G : Gx} {env : En} {N : DE} {rest ss : List Stmt} {e a b : Expr} {pos px : Pos} {x : Str}
theorem r_nil (h : N.nx env) : Rs G [] env N := Rs.of (fun _ => tNext) (fun _ _ => pss_nil) fun _ _ σ Hc H D R q => q.nx env σ Hc H h (.refl R)
theorem InS.nodup {X : Cx} (hX : InS G X) (hnd : G.N.Nodup) : X.N.Nodup := by rw [hX.g.N]; exact hnd
theorem InS.at' {X : Cx} (hX : InS G X) {i : Nat} {x : Str} (h : G.N[i]? = some x) : X.N[i]? = some x := by rw [hX.g.N]; exact h
theorem InS.loc {X : Cx} (hX : InS G X) {x : Str} (h : Loc G.sc x) : Loc X.env.scope x := by rw [hX.g.sc]; exact h
/-- x = e -/
theorem r_asg (i : Nat) (hnd : G.N.Nodup) (h : W G e env fun d e1 => Rs G rest (e1.set i (.va d)) N) (hi : G.N[i]? = some x := by rfl) (hx : Loc G.sc x := by first | exact Or.inl rfl | exact Or.inr rfl)
    (hs : ∀ (v : Env) y, v.scope = G.sc → swapsWith e (some (.Name x px)) y v = pure false := by exact fun _ _ _ => rfl) : Rs G (.Assign [.Name x px] e pos :: rest) env N :=
  Rs.of (fun X => tSeq (tAsg (tW G e) (gName i)) (tRs G rest)) (fun X hX => pss_cons (ps_set (i := i) (hX.nodup hnd) (hX.at' hi) (hX.loc hx) (peW hX.g e) (hs _ _ hX.g.sc) (.inl (hX.fn x))) (pssR hX rest)) fun X hX σ Hc H D R q =>
    tW.use R h fun v d e1 Hc1 H1 hr go t => by
      have g2 := go_asg (j := i) (t := .va d) (o := some v) go.rep rfl ⟨v, rfl, t⟩
      exact tRs.use g2.rep hr (q.from (go.trans g2))
/-- x = [..], a comprehension on one line, x a plain local -/
theorem go_asgOw {Hc H Hc' H' : Hp} {σ : L2.St} {env e2 : En} {D : Addr} {vs : List V} {ds : List PyData} {i : Nat} (n : Nw Hc H σ env D vs ds Hc' H' e2) (hi : i < σ.length) : Go Hc H σ env Hc' H' (σ.set i (some (.ref D))) (e2.set i (.ow ds)) := by
  have hs : ∀ {j : Nat} {s : Sl}, (e2.set i (.ow ds))[j]? = some s → (j = i ∧ s = .ow ds) ∨ (j ≠ i ∧ e2[j]? = some s) := by
    intro j s e
    by_cases hj : j = i
    · subst hj
      have l := sl_lt e
      rw [List.length_set] at l
      rw [List.getElem?_set_self l] at e
      cases e
      exact .inl ⟨rfl, rfl⟩
    · rw [List.getElem?_set_ne (Ne.symm hj)] at e
      exact .inr ⟨hj, e⟩
  have noD : ∀ {j : Nat} {s : Sl}, e2[j]? = some s → s.own = true → σ[j]? = some (some (.ref D)) → False := fun e o z => n.no ⟨_, _, e, o, z⟩
  refine ⟨⟨n.go.rep.same, fun j s e => ?_, fun j l s t a h1 h2 h3 h4 h5 h6 => ?_, by rw [List.length_set, List.length_set]; exact n.go.rep.len⟩, n.go.core, n.go.kp, n.go.out, fun a o => ?_, n.go.ex⟩
  · rcases hs e with ⟨e1, e2'⟩ | ⟨e1, e2'⟩
    · subst e1 e2'
      rw [List.getElem?_set_self hi]
      exact ⟨D, vs, rfl, n.out, n.at', n.tr⟩
    · rw [List.getElem?_set_ne (Ne.symm e1)]
      exact n.go.rep.ok j s e2'
  · rcases hs h1 with ⟨e1, e3⟩ | ⟨e1, e3⟩
    · subst e1
      rcases hs h2 with ⟨f1, f3⟩ | ⟨f1, f3⟩
      · exact f1.symm
      · rw [List.getElem?_set_self hi] at h5
        cases h5
        rw [List.getElem?_set_ne (Ne.symm f1)] at h6
        exact (noD f3 h4 h6).elim
    · rw [List.getElem?_set_ne (Ne.symm e1)] at h5
      rcases hs h2 with ⟨f1, f3⟩ | ⟨f1, f3⟩
      · subst f1
        rw [List.getElem?_set_self hi] at h6
        cases h6
        exact (noD e3 h3 h5).elim
      · rw [List.getElem?_set_ne (Ne.symm f1)] at h6
        exact n.go.rep.inj j l s t a e3 f3 h3 h4 h5 h6
  · obtain ⟨j, s, e1, e2', e3⟩ := o
    rcases hs e1 with ⟨f1, f3⟩ | ⟨f1, f3⟩
    · subst f1
      rw [List.getElem?_set_self hi] at e3
      cases e3
      exact .inr n.old
    · rw [List.getElem?_set_ne (Ne.symm f1)] at e3
      exact n.go.own a ⟨j, s, f3, e2', e3⟩
theorem lt_of_N {Hc H : Hp} {σ : L2.St} {env : En} (R : Rp Hc H σ env) {i : Nat} (h : i < env.length) : i < σ.length := by rw [R.len]; exact h
section
variable {elt iter : Expr} {scope : Scope} {y : Str} {pt py spos : Pos} {t : Option Expr}
theorem r_lcAny (i j : Nat) (sw : Bool) {X : Cx} (hX : InS G X) {wi : TI} (hw : PI X (.Name x pt) iter wi) (hnd : G.N.Nodup) (hb : blkC G.N G.sc scope [(x, j)] = true) (hj : G.N[j]? = some x) (hi : G.N[i]? = some y) (hy : Loc G.sc y)
    (hsw : (G.sc.names.lookup y = some .local ∧ sw = true ∧ ∀ v : Env, v.scope = G.sc → swapsWith (.ListComp elt [⟨.Name x pt, iter, ifsOf t, 0⟩] scope pos) (some (.Name y py)) spos.line v = pure true) ∨ (sw = false ∧ ∀ v : Env, v.scope = G.sc → swapsWith (.ListComp elt [⟨.Name x pt, iter, ifsOf t, 0⟩] scope pos) (some (.Name y py)) spos.line v = pure false))
    (hl : (relS scope G.sc).names.lookup x = some .local ∨ (relS scope G.sc).names.lookup x = some .cell) (hf : scope.names.lookup x = some .cell ∨ (relS scope G.sc).names.lookup x = some .local) (hs : ∀ (v : Env) y, foldedSetIterable iter v y = pure y) :
    PS X (.Assign [.Name y py] (.ListComp elt [⟨.Name x pt, iter, ifsOf t, 0⟩] scope pos) spos) (tAsg (tLc wi (gName j) (tIfs (G.blk scope) t) (tW (G.blk scope) elt) [j]) (gName i)) := by
  rcases hsw with ⟨h1, _, h2⟩ | ⟨_, h2⟩
  · refine ps_setLc (own := [(x, j)]) hX.g.calm (hX.nodup hnd) (hX.at' hi) (by rw [hX.g.sc]; exact h1) (h2 _ hX.g.sc) hw (blkOk_by (by rw [hX.g.N, hX.g.sc]; exact hb)) (fun s H C cl fp => ?_) (fun s H C cl fp => ptsW (inG_blk hX.g scope s H C cl fp) t) (fun s H C cl fp => peW (inG_blk hX.g scope s H C cl fp) elt) (hs X.env)
    have i2 := inG_blk hX.g scope s H C cl fp
    refine pg_name (i := j) (by rw [i2.N]; exact hnd) (by rw [i2.N]; exact hj) ?_ ?_
    · show _ ∨ _
      rw [i2.sc]
      exact hl
    · rcases hf with hf | hf
      · exact .inl (by show (scope.names.lookup x == some .cell) = true; rw [hf]; rfl)
      · exact .inr (by rw [i2.sc]; exact hf)
  · exact ps_set (i := i) (hX.nodup hnd) (hX.at' hi) (hX.loc hy) (pe_lcG hX.g hw hnd hb hj hl hf hs) (h2 _ hX.g.sc) (.inl (hX.fn y))
/-- y = [..]: own tells whether y is to be changed later -/
theorem r_lc (i j : Nat) (own sw : Bool) (h : LC G scope j (.Name x pt) iter t elt env fun ds e => i < e.length ∧ Rs G rest (e.set i (if own = true then .ow ds else .va (.list ds))) N) (hnd : G.N.Nodup) (hb : blkC G.N G.sc scope [(x, j)] = true := by first | decide +kernel | (dsimp only [Gx.blk]; decide +kernel) | rfl) (hj : G.N[j]? = some x := by rfl) (hi : G.N[i]? = some y := by rfl)
    (hy : Loc G.sc y := by first | exact Or.inl rfl | exact Or.inr rfl)
    (hsw : (G.sc.names.lookup y = some .local ∧ sw = true ∧ ∀ v : Env, v.scope = G.sc → swapsWith (.ListComp elt [⟨.Name x pt, iter, ifsOf t, 0⟩] scope pos) (some (.Name y py)) spos.line v = pure true) ∨ (sw = false ∧ ∀ v : Env, v.scope = G.sc → swapsWith (.ListComp elt [⟨.Name x pt, iter, ifsOf t, 0⟩] scope pos) (some (.Name y py)) spos.line v = pure false))
    (hl : (relS scope G.sc).names.lookup x = some .local ∨ (relS scope G.sc).names.lookup x = some .cell := by first | exact .inl rfl | exact .inr rfl)
    (hf : scope.names.lookup x = some .cell ∨ (relS scope G.sc).names.lookup x = some .local := by first | exact .inl rfl | exact .inr rfl) (hs : ∀ (v : Env) y, foldedSetIterable iter v y = pure y := by exact fun _ _ => rfl) :
    Rs G (.Assign [.Name y py] (.ListComp elt [⟨.Name x pt, iter, ifsOf t, 0⟩] scope pos) spos :: rest) env N := fun X hX => by
  obtain ⟨wi, hw, rd⟩ := h X hX.g
  intro pins s σ Hc H D I R q
  refine (pss_cons (r_lcAny i j sw hX hw hnd hb hj hi hy hsw hl hf hs) (pssR hX rest)).run pins s σ H D I ?_
  show tLc wi (gName j) (tIfs (G.blk scope) t) (tW (G.blk scope) elt) [j] σ H fun v H1 => tRs G rest D (σ.set i (some v)) H1
  refine lc_read R (rd σ Hc H · R) fun A vs acc e2 Hc2 H2 ⟨il, pf⟩ nw => ?_
  show tRs G rest D (σ.set i (some (.ref A))) H2
  cases own with
  | true =>
    have g := go_asgOw nw (lt_of_N nw.go.rep il)
    exact tRs.use g.rep pf (q.from g)
  | false =>
    have z := nw.freeze
    have g2 := go_asg (j := i) (t := .va (.list acc)) (o := some (V.ref A)) z.1.rep rfl ⟨_, rfl, z.2⟩
    exact tRs.use g2.rep pf (q.from (z.1.trans g2))
end
/-- x = [], to be changed later -/
theorem r_new (i : Nat) (hnd : G.N.Nodup) (hil : i < env.length) (h : Rs G rest (env.set i (.ow [])) N) {p2 : Pos} (hi : G.N[i]? = some x := by rfl) (hx : Loc G.sc x := by first | exact Or.inl rfl | exact Or.inr rfl) : Rs G (.Assign [.Name x px] (.List [] p2) pos :: rest) env N :=
  Rs.of (fun X => tSeq (tAsg (tLst tNil) (gName i)) (tRs G rest)) (fun X hX => pss_cons (ps_set (i := i) (hX.nodup hnd) (hX.at' hi) (hX.loc hx) (pe_lst pa_nil) rfl (.inl (hX.fn x))) (pssR hX rest)) fun X hX σ Hc H D R q =>
    ⟨Nat.zero_le _, fun p hp => by
      have nw : Nw Hc H σ env p [] [] Hc (upd H p (.lst [])) env := ⟨go_new R hp, hp, upd_same, .nil, Same.free R.same hp, own_ne_new R hp⟩
      have g := go_asgOw nw (lt_of_N R hil)
      exact tRs.use g.rep h (q.from g)⟩
/-- e; -/
theorem r_expr (h : W G e env fun _ e1 => Rs G rest e1 N) (hs : ∀ (v : Env) y, swapsWith e none y v = pure false := by exact fun _ _ => rfl) : Rs G (.Expr e pos :: rest) env N :=
  Rs.of (fun X => tSeq (tDrop (tW G e)) (tRs G rest)) (fun X hX => pss_cons (ps_expr (peW hX.g e) (hs _ _)) (pssR hX rest)) fun X hX σ Hc H D R q =>
    tW.use R h fun v d e1 Hc1 H1 hr go t => tRs.use go.rep hr (q.from go)
/-- return -/
theorem r_ret (h : W G e env N.rt) : Rs G (.Return (some e) pos :: rest) env N :=
  Rs.of (fun X => tSeq (tRet (tW G e)) tNever) (fun X hX => pss_cons (ps_ret (peW hX.g e)) pss_never) fun X hX σ Hc H D R q =>
    tW.use R h fun v d e1 Hc1 H1 p go t => q.rt v d e1 σ Hc1 H1 p go t
/-- if -/
theorem r_if {c : Expr} {A B : List Stmt} (h : WT G c env fun k e1 => if k = true then Rs G A e1 { N with nx := fun e2 => Rs G rest e2 N } else Rs G B e1 { N with nx := fun e2 => Rs G rest e2 N }) : Rs G (.If c A B pos :: rest) env N :=
  Rs.of (fun X => tSeq (tIfS (tWT G c) (tRs G A) (tRs G B)) (tRs G rest)) (fun X hX => pss_cons (ps_if (ptW hX.g c) (pssR hX A) (pssR hX B)) (pssR hX rest)) fun X hX σ Hc H D R q => by
    refine ⟨Hc, env, _, R, h, fun k e1 Hc1 H1 pk go => ?_⟩
    have f : FinS Hc1 H1 σ e1 { N with nx := fun e2 => Rs G rest e2 N } { D with nx := tRs G rest D } := by
      have f0 := q.from go
      exact ⟨fun e σ' Hc' H' p g => tRs.use g.rep p (f0.from g), f0.rt, f0.bk, f0.ct, f0.rv⟩
    cases k with
    | true => exact tRs.use go.rep pk f
    | false => exact tRs.use go.rep pk f
/-- for x in .. -/
theorem r_for (j : Nat) {iter : Expr} {body : List Stmt} (hnd : G.N.Nodup)
    (h : WI G (.Name x px) iter env fun ds e1 => ∃ J : Nat → En → Prop, J 0 e1 ∧ (∀ i d e, ds[i]? = some d → J i e → Rs G body (e.set j (.va d)) { nx := J (i + 1), ct := J (i + 1), rt := N.rt, rv := N.rv, bk := fun e2 => Rs G rest e2 N }) ∧ ∀ e, J ds.length e → Rs G rest e N)
    (hj : G.N[j]? = some x := by rfl) (hx : Loc G.sc x := by first | exact Or.inl rfl | exact Or.inr rfl) (hs : ∀ (v : Env) y, foldedSetIterable iter v y = pure y := by exact fun _ _ => rfl) : Rs G (.For (.Name x px) iter body [] pos :: rest) env N := fun X hX => by
  obtain ⟨wi, hw, rd⟩ := h X hX.g
  intro pins s σ Hc H D I R q
  refine (pss_cons (ps_for (by rw [hX.xe]; exact PassesOwn.never) hX.g.calm hw (pg_name (i := j) (hX.nodup hnd) (hX.at' hj) (hX.loc hx) (.inl (hX.fn x))) (pssR hX body) (hs X.env)) (pssR hX rest)).run pins s σ H D I ?_
  refine rd σ Hc H _ R fun ds J e1 Hc1 H1 ⟨JJ, j0, js, jF⟩ go wk => ?_
  obtain ⟨vs0, tv, wgo, wyld, wstop⟩ := wk
  have lv := tv.length
  refine ⟨fun i m σ' H' => m = vs0.length - i ∧ i ≤ vs0.length ∧ ∃ Hc' e, JJ i e ∧ Go Hc H σ env Hc' H' σ' e ∧ Same Hc1 Hc', ⟨vs0.length, by omega, Nat.zero_le _, Hc1, e1, j0, go, .refl _⟩, ?_⟩
  rintro i m σ2 H2 ⟨em, hi, Hc2, e2, hJ, g2, sm⟩
  subst em
  have s12 : Same Hc1 H2 := sm.trans g2.rep.same
  by_cases hlt : i < vs0.length
  · refine .inr ⟨wgo H2 s12 i hlt, fun σ' H' => ∃ Hc' e, JJ (i + 1) e ∧ Go Hc H σ env Hc' H' σ' e ∧ Same Hc1 Hc', fun σ' H' ⟨Hc', e, p1, p2, p3⟩ => ⟨vs0.length - (i + 1), by omega, rfl, hlt, Hc', e, p1, p2, p3⟩, fun v H' y => ?_⟩
    obtain ⟨eH, ex⟩ := wyld i H2 v H' s12 y hlt
    subst eH
    obtain ⟨d, ed, td⟩ := tv.getV ex
    have ga := go_asg (j := j) (t := .va d) (o := some v) g2.rep rfl ⟨v, rfl, td.mono sm⟩
    have gb := g2.trans ga
    refine tRs.use ga.rep (js i d e2 ed hJ) ⟨fun e σ' Hc' H' p g => ⟨Hc', e, p, gb.trans g, sm.trans g.core⟩, fun v d e σ' Hc' H' p g => q.rt v d e σ' Hc' H' p (gb.trans g), fun e σ' Hc' H' p g => ?_, fun e σ' Hc' H' p g => ⟨Hc', e, p, gb.trans g, sm.trans g.core⟩, (q.from gb).rv⟩
    exact tRs.use g.rep p (q.from (gb.trans g))
  · have e : i = vs0.length := by omega
    subst e
    exact .inl ⟨wstop H2 s12, tRs.use g2.rep (jF e2 (by rw [← lv]; exact hJ)) (q.from g2)⟩
end
end TL

namespace TL
open PySem PySem.Spec PyProof.Rows L2
section
variable {G : Gx} {env : En} {N : DE} {rest ss : List Stmt} {e a b c : Expr} {pos px py pz pt : Pos} {x y z : Str} {P : PyData → En → Prop}
theorem set_len {env : En} {i j : Nat} {s : Sl} : (j < (env.set i s).length) = (j < env.length) := by rw [List.length_set]
/-- x, y = a, b, plain locals -/
theorem r_par2 (i j : Nat) {k1 k2} (h : WA G [a, b] env fun ds e1 => ∃ d d', ds = [d, d'] ∧ Rs G rest ((e1.set i (.va d)).set j (.va d')) N) (hnd : G.N.Nodup)
    (hw : ∀ v : Env, v.scope = G.sc → swappedStores [.Tuple [.Name x px, .Name y py] k1 pt] (.Tuple [a, b] k2 pz) v = pure (some [x, y]))
    (hij : i ≠ j := by decide) (hi : G.N[i]? = some x := by rfl) (hj : G.N[j]? = some y := by rfl) (hx : G.sc.names.lookup x = some .local := by rfl) (hy : G.sc.names.lookup y = some .local := by rfl) (ns : noStar [a, b] = true := by rfl)
     : Rs G (.Assign [.Tuple [.Name x px, .Name y py] k1 pt] (.Tuple [a, b] k2 pz) pos :: rest) env N :=
  Rs.of (fun X => tSeq (tPar i j (tWA G [a, b])) (tRs G rest)) (fun X hX => pss_cons (ps_par hX.g.calm (hX.nodup hnd) (hX.at' hi) (hX.at' hj) hij (by rw [hX.g.sc]; exact hx) (by rw [hX.g.sc]; exact hy) (paW hX.g _ ns) (hw _ hX.g.sc) rfl) (pssR hX rest)) fun X hX σ Hc H D R q =>
    tWA.use R h fun vs ds e1 Hc1 H1 ⟨d, d', ed, hr⟩ go t => by
      subst ed
      cases t with
      | @cons v _ vs' _ t1 t =>
        cases t with
        | @cons v' _ _ _ t2 t3 =>
          cases t3
          have g1 := go_asg (j := i) (t := .va d) (o := some v) go.rep rfl ⟨v, rfl, t1⟩
          have g2 := go_asg (j := j) (t := .va d') (o := some v') g1.rep rfl ⟨v', rfl, t2⟩
          exact ⟨v, v', rfl, tRs.use g2.rep hr (q.from ((go.trans g1).trans g2))⟩
theorem r_par3 (i j l : Nat) {k1 k2} (h : WA G [a, b, c] env fun ds e1 => ∃ d d' d2, ds = [d, d', d2] ∧ Rs G rest (((e1.set i (.va d)).set j (.va d')).set l (.va d2)) N) (hnd : G.N.Nodup) {pw : Pos}
    (hw : ∀ v : Env, v.scope = G.sc → swappedStores [.Tuple [.Name x px, .Name y py, .Name z pw] k1 pt] (.Tuple [a, b, c] k2 pz) v = pure (some [x, y, z]))
    (hij : i ≠ j := by decide) (hil : i ≠ l := by decide) (hjl : j ≠ l := by decide) (hi : G.N[i]? = some x := by rfl) (hj : G.N[j]? = some y := by rfl) (hl : G.N[l]? = some z := by rfl) (hx : G.sc.names.lookup x = some .local := by rfl) (hy : G.sc.names.lookup y = some .local := by rfl) (hz : G.sc.names.lookup z = some .local := by rfl) (ns : noStar [a, b, c] = true := by rfl)
     : Rs G (.Assign [.Tuple [.Name x px, .Name y py, .Name z pw] k1 pt] (.Tuple [a, b, c] k2 pz) pos :: rest) env N :=
  Rs.of (fun X => tSeq (tPar3 i j l (tWA G [a, b, c])) (tRs G rest)) (fun X hX => pss_cons (ps_par3 hX.g.calm (hX.nodup hnd) (hX.at' hi) (hX.at' hj) (hX.at' hl) hij hil hjl (by rw [hX.g.sc]; exact hx) (by rw [hX.g.sc]; exact hy) (by rw [hX.g.sc]; exact hz) (paW hX.g _ ns) (hw _ hX.g.sc) rfl) (pssR hX rest)) fun X hX σ Hc H D R q =>
    tWA.use R h fun vs ds e1 Hc1 H1 ⟨d, d', d2, ed, hr⟩ go t => by
      subst ed
      cases t with
      | @cons v _ vs' _ t1 t =>
        cases t with
        | @cons v' _ _ _ t2 t3 =>
          cases t3 with
          | @cons v2 _ _ _ t3 t4 =>
            cases t4
            have g1 := go_asg (j := i) (t := .va d) (o := some v) go.rep rfl ⟨v, rfl, t1⟩
            have g2 := go_asg (j := j) (t := .va d') (o := some v') g1.rep rfl ⟨v', rfl, t2⟩
            have g3 := go_asg (j := l) (t := .va d2) (o := some v2) g2.rep rfl ⟨v2, rfl, t3⟩
            exact ⟨v, v', v2, rfl, tRs.use g3.rep hr (q.from (((go.trans g1).trans g2).trans g3))⟩
/-- x, y = e (a tuple of two); three below -/
theorem r_un2 (i j : Nat) {k1} (h : W G e env fun d e1 => ∃ d1 d2, d = .tuple [d1, d2] ∧ Rs G rest ((e1.set i (.va d1)).set j (.va d2)) N) (hnd : G.N.Nodup)
    (hw : ∀ v : Env, v.scope = G.sc → swappedStores [.Tuple [.Name x px, .Name y py] k1 pt] e v = pure none)
    (hi : G.N[i]? = some x := by rfl) (hj : G.N[j]? = some y := by rfl) (hx : Loc G.sc x := by first | exact Or.inl rfl | exact Or.inr rfl) (hy : Loc G.sc y := by first | exact Or.inl rfl | exact Or.inr rfl)
    (hs : ∀ (v : Env) l, v.scope = G.sc → swapsWithSole [.Tuple [.Name x px, .Name y py] k1 pt] e l v = pure false := by exact fun _ _ _ => rfl) :
    Rs G (.Assign [.Tuple [.Name x px, .Name y py] k1 pt] e pos :: rest) env N :=
  Rs.of (fun X => tSeq (tAsg (tW G e) (gTup X.K 2 (gCons (gName i) (gCons (gName j) gNil)))) (tRs G rest)) (fun X hX => pss_cons (ps_asg (peW hX.g e)
      (pg_tup hX.g.calm (pgs_cons (pg_name (i := i) (hX.nodup hnd) (hX.at' hi) (hX.loc hx) (.inl (hX.fn x))) (pgs_cons (pg_name (i := j) (hX.nodup hnd) (hX.at' hj) (hX.loc hy) (.inl (hX.fn y))) pgs_nil)) rfl rfl) (hs _ _ hX.g.sc) (hw _ hX.g.sc) rfl) (pssR hX rest)) fun X hX σ Hc H D R q =>
    tW.use R h fun v d e1 Hc1 H1 ⟨d1, d2, ed, hr⟩ go t => by
      subst ed
      cases t with
      | tup m t =>
        cases t with
        | @cons v1 _ _ _ t1 t =>
          cases t with
          | @cons v2 _ _ _ t2 t =>
            cases t
            have g1 := go_asg (j := i) (t := .va d1) (o := some v1) go.rep rfl ⟨v1, rfl, t1⟩
            have g2 := go_asg (j := j) (t := .va d2) (o := some v2) g1.rep rfl ⟨v2, rfl, t2⟩
            exact ⟨_, _, rfl, (m.mono go.rep.same).sq, rfl, v1, [v2], rfl, v2, [], rfl, rfl, tRs.use g2.rep hr (q.from ((go.trans g1).trans g2))⟩
theorem r_un3 (i j l : Nat) {k1} {pw : Pos} (h : W G e env fun d e1 => ∃ d1 d2 d3, d = .tuple [d1, d2, d3] ∧ Rs G rest (((e1.set i (.va d1)).set j (.va d2)).set l (.va d3)) N) (hnd : G.N.Nodup)
    (hw : ∀ v : Env, v.scope = G.sc → swappedStores [.Tuple [.Name x px, .Name y py, .Name z pw] k1 pt] e v = pure none)
    (hi : G.N[i]? = some x := by rfl) (hj : G.N[j]? = some y := by rfl) (hl : G.N[l]? = some z := by rfl) (hx : Loc G.sc x := by first | exact Or.inl rfl | exact Or.inr rfl) (hy : Loc G.sc y := by first | exact Or.inl rfl | exact Or.inr rfl) (hz : Loc G.sc z := by first | exact Or.inl rfl | exact Or.inr rfl)
    (hs : ∀ (v : Env) l, v.scope = G.sc → swapsWithSole [.Tuple [.Name x px, .Name y py, .Name z pw] k1 pt] e l v = pure false := by exact fun _ _ _ => rfl) :
    Rs G (.Assign [.Tuple [.Name x px, .Name y py, .Name z pw] k1 pt] e pos :: rest) env N :=
  Rs.of (fun X => tSeq (tAsg (tW G e) (gTup X.K 3 (gCons (gName i) (gCons (gName j) (gCons (gName l) gNil))))) (tRs G rest)) (fun X hX => pss_cons (ps_asg (peW hX.g e)
      (pg_tup hX.g.calm (pgs_cons (pg_name (i := i) (hX.nodup hnd) (hX.at' hi) (hX.loc hx) (.inl (hX.fn x))) (pgs_cons (pg_name (i := j) (hX.nodup hnd) (hX.at' hj) (hX.loc hy) (.inl (hX.fn y))) (pgs_cons (pg_name (i := l) (hX.nodup hnd) (hX.at' hl) (hX.loc hz) (.inl (hX.fn z))) pgs_nil))) rfl rfl) (hs _ _ hX.g.sc) (hw _ hX.g.sc) rfl) (pssR hX rest)) fun X hX σ Hc H D R q =>
    tW.use R h fun v d e1 Hc1 H1 ⟨d1, d2, d3, ed, hr⟩ go t => by
      subst ed
      cases t with
      | tup m t =>
        cases t with
        | @cons v1 _ _ _ t1 t =>
          cases t with
          | @cons v2 _ _ _ t2 t =>
            cases t with
            | @cons v3 _ _ _ t3 t =>
              cases t
              have g1 := go_asg (j := i) (t := .va d1) (o := some v1) go.rep rfl ⟨v1, rfl, t1⟩
              have g2 := go_asg (j := j) (t := .va d2) (o := some v2) g1.rep rfl ⟨v2, rfl, t2⟩
              have g3 := go_asg (j := l) (t := .va d3) (o := some v3) g2.rep rfl ⟨v3, rfl, t3⟩
              exact ⟨_, _, rfl, (m.mono go.rep.same).sq, rfl, v1, [v2, v3], rfl, v2, [v3], rfl, v3, [], rfl, rfl, tRs.use g3.rep hr (q.from (((go.trans g1).trans g2).trans g3))⟩
/-- the object of an owned slot is changed -/
theorem go_own {Hc H : Hp} {σ : L2.St} {i : Nat} {s t : Sl} {p : Addr} {o : HO} (R : Rp Hc H σ env) (he : env[i]? = some s) (so : s.own = true) (ep : σ[i]? = some (some (.ref p))) (hc : Hc p = none) (ot : t.own = true) (hk : SlotOk Hc (upd H p o) t σ[i]?) :
    Go Hc H σ env Hc (upd H p o) σ (env.set i t) := by
  have hs : ∀ {j : Nat} {u : Sl}, (env.set i t)[j]? = some u → (j = i ∧ u = t) ∨ (j ≠ i ∧ env[j]? = some u) := by
    intro j u e
    by_cases hj : j = i
    · subst hj
      rw [List.getElem?_set_self (sl_lt he)] at e
      cases e
      exact .inl ⟨rfl, rfl⟩
    · rw [List.getElem?_set_ne (Ne.symm hj)] at e
      exact .inr ⟨hj, e⟩
  have op : Own σ env p := ⟨i, s, he, so, ep⟩
  have es : ∀ {j : Nat} {u : Sl}, (env.set i t)[j]? = some u → u.own = true → ∃ u', env[j]? = some u' ∧ u'.own = true := by
    intro j u e o
    rcases hs e with ⟨e1, e2⟩ | ⟨e1, e2⟩
    · rw [e1]
      exact ⟨_, he, so⟩
    · exact ⟨u, e2, o⟩
  refine ⟨⟨fun b u e => ?_, fun j u e => ?_, fun j l u v b h1 h2 h3 h4 h5 h6 => ?_, by rw [List.length_set]; exact R.len⟩, .refl _, fun b u e n => ?_, fun b e c _ => c, fun b o => ?_, fun b e => ?_⟩
  · rw [upd_ne (ne_of_none e hc)]
    exact R.same b u e
  · rcases hs e with ⟨e1, e2⟩ | ⟨e1, e2⟩
    · subst e1 e2
      exact hk
    · have q := R.ok j u e2
      have away : ∀ b, σ[j]? = some (some (.ref b)) → u.own = true → b ≠ p := fun b q1 q2 z => by
        subst z
        exact e1 (R.inj j i u s b e2 he q2 so q1 ep)
      cases u with
      | no => trivial
      | va d => exact q
      | raw v φ => exact q
      | ow ds' => obtain ⟨b, ws, u, c, u', t'⟩ := q; exact ⟨b, ws, u, c, by rw [upd_ne (away b u rfl)]; exact u', t'⟩
      | dk b kvs => obtain ⟨ws, u, c, u', t'⟩ := q; exact ⟨ws, u, c, by rw [upd_ne (away b u rfl)]; exact u', t'⟩
      | oa b kvs => obtain ⟨ws, u, c, u', t'⟩ := q; exact ⟨ws, u, c, by rw [upd_ne (away b u rfl)]; exact u', t'⟩
      | dn P w b ks => obtain ⟨u, c, ka, u', t'⟩ := q; exact ⟨u, c, ka, by rw [upd_ne (away b u rfl)]; exact u', t'⟩
      | ms b n =>
        obtain ⟨u, ⟨c, l, s, p, b', ns, h1, h2, h3⟩⟩ := q
        exact ⟨u, c, l, s, p, b', ns, by rw [upd_ne (away b u rfl)]; exact h1, h2, h3⟩
  · obtain ⟨s1, f1, g1⟩ := es h1 h3
    obtain ⟨s2, f2, g2⟩ := es h2 h4
    exact R.inj j l s1 s2 b f1 f2 g1 g2 h5 h6
  · have hb : b ≠ p := fun z => n (z ▸ op)
    rw [upd_ne hb]
    exact e
  · obtain ⟨j, u, h1, h2, h3⟩ := o
    obtain ⟨s1, f1, g1⟩ := es h1 h2
    exact .inl ⟨j, s1, f1, g1, h3⟩
  · by_cases hb : b = p
    · rw [hb, upd_same]
      simp
    · rw [upd_ne hb]
      exact e
/-- x.append(e) -/
theorem r_append (i : Nat) {ds0 : List PyData} (he : env[i]? = some (.ow ds0)) (h : W G e env fun d e1 => ∃ ds, e1[i]? = some (.ow ds) ∧ ds.length < 100000 ∧ Rs G rest (e1.set i (.ow (ds ++ [d]))) N)
    {pa pc ps2 : Pos} (hi : G.N[i]? = some x := by rfl) (hv : Vis G.sc x := by first | exact Or.inl rfl | exact Or.inr (Or.inl rfl) | exact Or.inr (Or.inr rfl)) (ns : noStar [e] = true := by rfl) (hline : (pa.endLine == pc.line) = true := by rfl)
    (hd : (x == ("__debug__" : Str)) = false := by decide) (hcd : (x == ("__classdict__" : Str)) = false := by decide) :
    Rs G (.Expr (.Call (.Attribute (.Name x px) "append" pa) [e] [] pc) ps2 :: rest) env N :=
  Rs.of (fun X => tSeq (tDrop (tBM X.K "list" rAppend (tVar i) (tCons (tW G e) tNil))) (tRs G rest)) (fun X hX => pss_cons (ps_expr (pe_bm PySem.F.plainAttrs_list PySem.F.slot_list_append PySem.F.type_list_append mt_append (pvG hX.g i hi hv hd hcd) (paW hX.g [e] ns) rfl (by rw [star_cons (noStar_cons ns).1]; rfl) hline (star_cons (noStar_cons ns).1) (star_any (noStar_cons ns).2)) rfl) (pssR hX rest)) fun X hX σ Hc H D R q => by
    obtain ⟨p0, vs0, ep, c0, m0, _⟩ := R.ok i _ he
    refine ⟨_, ep, .inl ⟨rfl, _, SqL.of m0⟩, tW.use R h fun v d e1 Hc1 H1 ⟨ds, ed, hl, hr⟩ go t => ?_⟩
    obtain ⟨p1, vs1, ep1, c1, m1, t1⟩ := go.rep.ok i _ ed
    rw [ep] at ep1
    cases ep1
    refine ⟨p0, vs1, v, rfl, rfl, m1, by rw [t1.length]; exact Nat.lt_of_lt_of_le hl (by decide), ?_⟩
    have g := go_own (o := .lst (vs1 ++ [v])) (t := .ow (ds ++ [d])) go.rep ed rfl ep c1 rfl (by rw [ep]; exact ⟨p0, _, rfl, c1, upd_same, Trs.append t1 (.cons t .nil)⟩)
    exact tRs.use g.rep hr (q.from (go.trans g))
/-- x[a] = e, x an owned list -/
theorem r_setL (i : Nat) (h : W G e env fun d e1 => ∃ ds1, e1[i]? = some (.ow ds1) ∧ W G a e1 fun k e2 => ∃ ds j l, e2[i]? = some (.ow ds) ∧ k = .int j ∧ ixN ds.length j = some l ∧ Rs G rest (e2.set i (.ow (ds.set l d))) N)
    {ps2 : Pos} (hi : G.N[i]? = some x := by rfl) (hv : Vis G.sc x := by first | exact Or.inl rfl | exact Or.inr (Or.inl rfl) | exact Or.inr (Or.inr rfl))
    (hs : ∀ (v : Env) l, v.scope = G.sc → swapsWithSole [.Subscript (.Name x px) a ps2] e l v = pure false := by exact fun _ _ _ => rfl)
    (hw : ∀ v : Env, swappedStores [.Subscript (.Name x px) a ps2] e v = pure none := by exact fun _ => rfl)
    (hsub : ∀ (v : Env) (u : Value), assign (.Subscript (.Name x px) a ps2) v u = (do
      let ov ← holding [u] (eval (.Name x px) v)
      let iv ← holding [u, ov] (eval a v)
      standAt ps2
      holding [u, ov, iv] (setItem ov iv u)
      release [u, ov, iv] []) := by exact fun _ _ => rfl)
    (hd : (x == ("__debug__" : Str)) = false := by decide) (hcd : (x == ("__classdict__" : Str)) = false := by decide) : Rs G (.Assign [.Subscript (.Name x px) a ps2] e pos :: rest) env N :=
  Rs.of (fun X => tSeq (tAsg (tW G e) (gSub (tVar i) (tW G a) rSetL)) (tRs G rest)) (fun X hX => pss_cons (ps_asg (peW hX.g e) (pg_sub (pvG hX.g i hi hv hd hcd) (peW hX.g a) set_list (hsub X.env)) (hs _ _ hX.g.sc) (hw _) rfl) (pssR hX rest)) fun X hX σ Hc H D R q =>
    tW.use R h fun v d e1 Hc1 H1 ⟨ds1, he, hr⟩ go t => by
      obtain ⟨p0, vs0, ep, c0, m0, _⟩ := go.rep.ok i _ he
      refine ⟨_, ep, tW.use go.rep hr fun k dk e2 Hc2 H2 ⟨ds, j, l, ed, ek, el, hr2⟩ go2 tk => ?_⟩
      subst ek
      cases tk
      obtain ⟨p1, vs1, ep1, c1, m1, t1⟩ := go2.rep.ok i _ ed
      rw [ep] at ep1
      cases ep1
      refine ⟨p0, vs1, j, l, rfl, rfl, m1, by rw [t1.length]; exact el, ?_⟩
      have g := go_own (o := .lst (vs1.set l v)) (t := .ow (ds.set l d)) go2.rep ed rfl ep c1 rfl (by rw [ep]; exact ⟨p0, _, rfl, c1, upd_same, Trs.set (t.mono go2.core) l t1⟩)
      exact tRs.use g.rep hr2 (q.from ((go.trans go2).trans g))
/-! ### dicts -/
def valD (kvs : List (Key × PyData)) (k : Key) : Option PyData := (kvs.find? fun kv => decide (kv.1 = k)).map (·.2)
def putD (kvs : List (Key × PyData)) (k : Key) (d : PyData) : List (Key × PyData) :=
  if (kvs.any fun kv => decide (kv.1 = k)) = true then kvs.map (fun kv => if kv.1 = k then (kv.1, d) else kv) else kvs ++ [(k, d)]
theorem KTr.len {H : Hp} : ∀ {ks : List (Key × V)} {kvs : List (Key × PyData)}, KTr H ks kvs → ks.length = kvs.length
  | [], [], _ => rfl
  | (_, _) :: _, (_, _) :: _, ⟨_, _, r⟩ => by rw [List.length_cons, List.length_cons, KTr.len r]
  | [], _ :: _, h => h.elim
  | _ :: _, [], h => h.elim
theorem KTr.val {H : Hp} : ∀ {ks : List (Key × V)} {kvs : List (Key × PyData)} (k : Key), KTr H ks kvs → (valV ks k = none ∧ valD kvs k = none) ∨ ∃ v d, valV ks k = some v ∧ valD kvs k = some d ∧ Tr H v d
  | [], [], k, _ => .inl ⟨rfl, rfl⟩
  | (k1, v) :: r, (k2, d) :: q, k, ⟨e, t, w⟩ => by
    subst e
    by_cases hk : k1 = k
    · exact .inr ⟨v, d, by rw [valV_pos (p := (k1, v)) hk], by unfold valD; rw [List.find?_cons_of_pos (by simpa using hk)]; rfl, t⟩
    · have e1 : valV ((k1, v) :: r) k = valV r k := valV_neg (p := (k1, v)) hk
      have e2 : valD ((k1, d) :: q) k = valD q k := by
        unfold valD
        rw [List.find?_cons_of_neg (by simpa using hk)]
      rw [e1, e2]
      exact KTr.val k w
  | [], _ :: _, _, h => h.elim
  | _ :: _, [], _, h => h.elim
theorem KTr.any {H : Hp} : ∀ {ks : List (Key × V)} {kvs : List (Key × PyData)} (k : Key), KTr H ks kvs → (ks.any fun kv => decide (kv.1 = k)) = (kvs.any fun kv => decide (kv.1 = k))
  | [], [], k, _ => rfl
  | (k1, v) :: r, (k2, d) :: q, k, ⟨e, t, w⟩ => by
    subst e
    rw [List.any_cons, List.any_cons, KTr.any k w]
  | [], _ :: _, _, h => h.elim
  | _ :: _, [], _, h => h.elim
theorem KTr.mapP {H : Hp} {v : V} {d : PyData} (t0 : Tr H v d) (k : Key) : ∀ {ks : List (Key × V)} {kvs : List (Key × PyData)}, KTr H ks kvs → KTr H (ks.map fun kv => if kv.1 = k then (kv.1, v) else kv) (kvs.map fun kv => if kv.1 = k then (kv.1, d) else kv)
  | [], [], _ => trivial
  | (k1, w) :: r, (k2, d2) :: q, ⟨e, t, z⟩ => by
    subst e
    have ih := KTr.mapP t0 k z
    rw [List.map_cons, List.map_cons]
    by_cases hk : k1 = k
    · rw [if_pos hk, if_pos hk]
      exact ⟨rfl, t0, ih⟩
    · rw [if_neg hk, if_neg hk]
      exact ⟨rfl, t, ih⟩
  | [], _ :: _, h => h.elim
  | _ :: _, [], h => h.elim
theorem KTr.snoc {H : Hp} {v : V} {d : PyData} {k : Key} (t0 : Tr H v d) : ∀ {ks : List (Key × V)} {kvs : List (Key × PyData)}, KTr H ks kvs → KTr H (ks ++ [(k, v)]) (kvs ++ [(k, d)])
  | [], [], _ => ⟨rfl, t0, trivial⟩
  | (_, _) :: _, (_, _) :: _, ⟨e, t, z⟩ => ⟨e, t, KTr.snoc t0 z⟩
  | [], _ :: _, h => h.elim
  | _ :: _, [], h => h.elim
theorem KTr.put {H : Hp} {v : V} {d : PyData} {k : Key} (t0 : Tr H v d) {ks : List (Key × V)} {kvs : List (Key × PyData)} (z : KTr H ks kvs) : KTr H (putK ks k v) (putD kvs k d) := by
  unfold putK putD
  rw [z.any k]
  split
  · exact KTr.mapP t0 k z
  · exact KTr.snoc t0 z
def keyD : PyData → Option Key
  | .int i => some (.inl i)
  | .str x => some (.inr x)
  | _ => none
theorem keyD_tr {H : Hp} {v : V} {d : PyData} {k : Key} (t : Tr H v d) (e : keyD d = some k) : v = kV k := by
  cases t <;> first | (cases e; rfl) | cases e
/-- x = {} -/
theorem r_dnew (i : Nat) (hnd : G.N.Nodup) (hil : i < env.length) (h : ∀ p, Rs G rest (env.set i (.dk p [])) N) {p2 : Pos} (hi : G.N[i]? = some x := by rfl) (hx : Loc G.sc x := by first | exact Or.inl rfl | exact Or.inr rfl) : Rs G (.Assign [.Name x px] (.Dict [] [] p2) pos :: rest) env N :=
  Rs.of (fun X => tSeq (tAsg tDNewK (gName i)) (tRs G rest)) (fun X hX => pss_cons (ps_set (i := i) (hX.nodup hnd) (hX.at' hi) (hX.loc hx) pe_dnewK rfl (.inl (hX.fn x))) (pssR hX rest)) fun X hX σ Hc H D R q =>
    fun p hp => by
      have nw : Nw Hc H σ env p [] [] Hc (upd H p (.dK [])) env → True := fun _ => trivial
      have g0 := go_new (o := .dK []) R hp
      have nd := own_ne_new R hp
      have hc := Same.free R.same hp
      have il := lt_of_N R hil
      have hs : ∀ {j : Nat} {s : Sl}, (env.set i (.dk p []))[j]? = some s → (j = i ∧ s = .dk p []) ∨ (j ≠ i ∧ env[j]? = some s) := by
        intro j s e
        by_cases hj : j = i
        · subst hj
          rw [List.getElem?_set_self hil] at e
          cases e
          exact .inl ⟨rfl, rfl⟩
        · rw [List.getElem?_set_ne (Ne.symm hj)] at e
          exact .inr ⟨hj, e⟩
      have g : Go Hc H σ env Hc (upd H p (.dK [])) (σ.set i (some (.ref p))) (env.set i (.dk p [])) := by
        refine ⟨⟨g0.rep.same, fun j s e => ?_, fun j l s t a h1 h2 h3 h4 h5 h6 => ?_, by rw [List.length_set, List.length_set]; exact R.len⟩, g0.core, g0.kp, g0.out, fun a o => ?_, g0.ex⟩
        · rcases hs e with ⟨e1, e2'⟩ | ⟨e1, e2'⟩
          · subst e1 e2'
            rw [List.getElem?_set_self il]
            exact ⟨[], rfl, hc, upd_same, trivial⟩
          · rw [List.getElem?_set_ne (Ne.symm e1)]
            exact g0.rep.ok j s e2'
        · rcases hs h1 with ⟨e1, e3⟩ | ⟨e1, e3⟩
          · subst e1
            rcases hs h2 with ⟨f1, f3⟩ | ⟨f1, f3⟩
            · exact f1.symm
            · rw [List.getElem?_set_self il] at h5
              cases h5
              rw [List.getElem?_set_ne (Ne.symm f1)] at h6
              exact (nd ⟨_, _, f3, h4, h6⟩).elim
          · rw [List.getElem?_set_ne (Ne.symm e1)] at h5
            rcases hs h2 with ⟨f1, f3⟩ | ⟨f1, f3⟩
            · subst f1
              rw [List.getElem?_set_self il] at h6
              cases h6
              exact (nd ⟨_, _, e3, h3, h5⟩).elim
            · rw [List.getElem?_set_ne (Ne.symm f1)] at h6
              exact R.inj j l s t a e3 f3 h3 h4 h5 h6
        · obtain ⟨j, s, e1, e2', e3⟩ := o
          rcases hs e1 with ⟨f1, f3⟩ | ⟨f1, f3⟩
          · subst f1
            rw [List.getElem?_set_self il] at e3
            cases e3
            exact .inr hp
          · rw [List.getElem?_set_ne (Ne.symm f1)] at e3
            exact .inl ⟨j, s, f3, e2', e3⟩
      exact tRs.use g.rep (h p) (q.from g)
/-- x[a] of an owned dict -/
theorem w_dget (i : Nat) {p : Addr} {kvs : List (Key × PyData)} (hu : G.A.units + 1 < cLine) (he : env[i]? = some (.dk p kvs)) (h : W G a env fun k e2 => ∃ kvs2 k' d, e2[i]? = some (.dk p kvs2) ∧ keyD k = some k' ∧ valD kvs2 k' = some d ∧ P d e2)
    (hi : G.N[i]? = some x := by rfl) (hv : Vis G.sc x := by first | exact Or.inl rfl | exact Or.inr (Or.inl rfl) | exact Or.inr (Or.inr rfl)) (hs : NoSl a := by exact fun _ _ => rfl)
    (hd : (x == ("__debug__" : Str)) = false := by decide) (hcd : (x == ("__classdict__" : Str)) = false := by decide) : W G (.Subscript (.Name x px) a pos) env P :=
  W.of (fun X => tDGet (tVar i) (tW G a)) (fun X hX => pe_dget (by rw [hX.A]; exact hu) (pvG hX i hi hv hd hcd) (peW hX a) hs) fun X hX σ Hc H Q R q => by
    obtain ⟨ks, ep, c0, m0, t0⟩ := R.ok i _ he
    refine ⟨_, ep, tW.use R h fun v dk e2 Hc2 H2 ⟨kvs2, k', d, e3, ek, ev, pd⟩ go t => ?_⟩
    obtain ⟨ks2, ep2, c2, m2, t2⟩ := go.rep.ok i _ e3
    rw [keyD_tr t ek]
    rcases t2.val k' with ⟨_, z⟩ | ⟨w, d', z1, z2, z3⟩
    · rw [ev] at z
      cases z
    · rw [ev] at z2
      cases z2
      have g := DGet.k (k := k') m2
      rw [z1] at g
      exact ⟨p, w, rfl, g, q _ _ _ _ _ pd go z3⟩
/-- k in x, k not in x -/
theorem w_dnin (i : Nat) (hu : G.A.units + 1 < cLine) (h : W G a env fun k e2 => ∃ p kvs k', e2[i]? = some (.dk p kvs) ∧ keyD k = some k' ∧ P (.bool (!(valD kvs k').isSome)) e2)
    (hi : G.N[i]? = some x := by rfl) (hv : Vis G.sc x := by first | exact Or.inl rfl | exact Or.inr (Or.inl rfl) | exact Or.inr (Or.inr rfl))
    (hd : (x == ("__debug__" : Str)) = false := by decide) (hcd : (x == ("__classdict__" : Str)) = false := by decide) : W G (.Compare a [.NotIn] [.Name x px] pos) env P :=
  W.of (fun X => tDNotIn (tW G a) (tVar i)) (fun X hX => pe_cmp (pc_dnotin (by rw [hX.A]; exact hu) (peW hX a) (pvG hX i hi hv hd hcd)) rfl) fun X hX σ Hc H Q R q =>
    tW.use R h fun v dk e2 Hc2 H2 ⟨p, kvs, k', e3, ek, pd⟩ go t => by
      obtain ⟨ks, ep, c0, m0, t0⟩ := go.rep.ok i _ e3
      have g := DGet.k (k := k') m0
      refine ⟨_, ep, p, valV ks k', rfl, by rw [keyD_tr t ek]; exact g, ?_⟩
      have es : (valV ks k').isSome = (valD kvs k').isSome := by
        rcases t0.val k' with ⟨z1, z2⟩ | ⟨w, d', z1, z2, z3⟩
        · rw [z1, z2]
          rfl
        · rw [z1, z2]
          rfl
      rw [es]
      exact q _ _ _ _ _ pd go (.bl _)
/-- len(x) of an owned dict -/
theorem w_lenD (i : Nat) {p0 : Addr} {kvs : List (Key × PyData)} (hm : G.mg "len" = none) (he : env[i]? = some (.dk p0 kvs)) (h : P (.int kvs.length) env) {p : Pos}
    (hi : G.N[i]? = some x := by rfl) (hv : Vis G.sc x := by first | exact Or.inl rfl | exact Or.inr (Or.inl rfl) | exact Or.inr (Or.inr rfl)) (hg : GlG G "len" := by rfl)
    (hd : (x == ("__debug__" : Str)) = false := by decide) (hcd : (x == ("__classdict__" : Str)) = false := by decide) : W G (.Call (.Name "len" p) [.Name x px] [] pos) env P :=
  W.of (fun X => tCB (fun xs H Q => ∃ a kvs, xs = [V.ref a] ∧ H a = some (.dK kvs) ∧ Q (.int kvs.length) H) (tCons (tVar i) tNil)) (fun X hX => pe_callB call_lenD (glX hX hg) (by rw [hX.mg]; exact hm) boot_len (pa_cons (pvG hX i hi hv hd hcd) pa_nil)) fun X hX σ Hc H Q R q => by
    obtain ⟨ks, ep, c0, m0, t0⟩ := R.ok i _ he
    refine ⟨_, ep, _, ks, rfl, m0, ?_⟩
    rw [t0.len]
    exact q _ _ _ _ _ h (.refl R) (.int _)
/-- len(x) of an owned list -/
theorem w_lenO (i : Nat) {ds : List PyData} (hm : G.mg "len" = none) (he : env[i]? = some (.ow ds)) (h : P (.int ds.length) env) {p : Pos}
    (hi : G.N[i]? = some x := by rfl) (hv : Vis G.sc x := by first | exact Or.inl rfl | exact Or.inr (Or.inl rfl) | exact Or.inr (Or.inr rfl)) (hg : GlG G "len" := by rfl)
    (hd : (x == ("__debug__" : Str)) = false := by decide) (hcd : (x == ("__classdict__" : Str)) = false := by decide) : W G (.Call (.Name "len" p) [.Name x px] [] pos) env P :=
  W.of (fun X => tCB (fun xs H Q => ∃ p ys, xs = [.ref p] ∧ (SqL X.K H p ys ∨ SqT X.K H p ys) ∧ Q (.int ys.length) H) (tCons (tVar i) tNil)) (fun X hX => pe_callB call_len_seq (glX hX hg) (by rw [hX.mg]; exact hm) boot_len (pa_cons (pvG hX i hi hv hd hcd) pa_nil)) fun X hX σ Hc H Q R q => by
    obtain ⟨a, vs, ep, c0, m0, t0⟩ := R.ok i _ he
    refine ⟨_, ep, _, vs, rfl, .inl (SqL.of m0), ?_⟩
    rw [t0.length]
    exact q _ _ _ _ _ h (.refl R) (.int _)
/-- x[a] = e of an owned dict -/
theorem r_dput (i : Nat) (hu : G.A.units + 1 < cLine) (h : W G e env fun d e1 => ∃ p kvs1, e1[i]? = some (.dk p kvs1) ∧ W G a e1 fun k e2 => ∃ kvs k', e2[i]? = some (.dk p kvs) ∧ keyD k = some k' ∧ kvs.length < 100000 ∧ Rs G rest (e2.set i (.dk p (putD kvs k' d))) N)
    {ps2 : Pos} (hi : G.N[i]? = some x := by rfl) (hv : Vis G.sc x := by first | exact Or.inl rfl | exact Or.inr (Or.inl rfl) | exact Or.inr (Or.inr rfl))
    (hs : ∀ (v : Env) l, v.scope = G.sc → swapsWith e (some (.Subscript (.Name x px) a ps2)) l v = pure false := by exact fun _ _ _ => rfl)
    (hd : (x == ("__debug__" : Str)) = false := by decide) (hcd : (x == ("__classdict__" : Str)) = false := by decide) : Rs G (.Assign [.Subscript (.Name x px) a ps2] e pos :: rest) env N :=
  Rs.of (fun X => tSeq (sDPut (tVar i) (tW G a) (tW G e)) (tRs G rest)) (fun X hX => pss_cons (ps_dput (by rw [hX.g.A]; exact hu) (pvG hX.g i hi hv hd hcd) (peW hX.g a) (peW hX.g e) (hs _ _ hX.g.sc)) (pssR hX rest)) fun X hX σ Hc H D R q =>
    tW.use R h fun v d e1 Hc1 H1 ⟨p, kvs1, he, hr⟩ go t => by
      obtain ⟨ks0, ep, c0, m0, _⟩ := go.rep.ok i _ he
      refine ⟨_, ep, tW.use go.rep hr fun k dk e2 Hc2 H2 ⟨kvs, k', ed, ek, hl, hr2⟩ go2 tk => ?_⟩
      obtain ⟨ks, ep1, c1, m1, t1⟩ := go2.rep.ok i _ ed
      rw [keyD_tr tk ek]
      refine ⟨p, _, rfl, DPut.k m1 (by rw [t1.len]; exact Nat.lt_of_lt_of_le hl (by decide)), ?_⟩
      have g := go_own (o := .dK (putK ks k' v)) (t := .dk p (putD kvs k' d)) go2.rep ed rfl ep1 c1 rfl (by rw [ep1]; exact ⟨_, rfl, c1, upd_same, KTr.put (t.mono go2.core) t1⟩)
      exact tRs.use g.rep hr2 (q.from ((go.trans go2).trans g))
/-- x.setdefault(a, b) -/
theorem w_dset (i : Nat) {p : Addr} {kvs0 : List (Key × PyData)} (he : env[i]? = some (.dk p kvs0)) (h : W G a env fun k e1 => W G b e1 fun d e2 => ∃ kvs k', e2[i]? = some (.dk p kvs) ∧ keyD k = some k' ∧ kvs.length < 100000 ∧
      (∀ d', valD kvs k' = some d' → P d' e2) ∧ (valD kvs k' = none → P d (e2.set i (.dk p (putD kvs k' d)))))
    {pa pc : Pos} (hi : G.N[i]? = some x := by rfl) (hv : Vis G.sc x := by first | exact Or.inl rfl | exact Or.inr (Or.inl rfl) | exact Or.inr (Or.inr rfl)) (ns : noStar [a, b] = true := by rfl) (hline : (pa.endLine == pc.line) = true := by rfl)
    (hd : (x == ("__debug__" : Str)) = false := by decide) (hcd : (x == ("__classdict__" : Str)) = false := by decide) : W G (.Call (.Attribute (.Name x px) "setdefault" pa) [a, b] [] pc) env P :=
  W.of (fun X => tDSetd (tVar i) (tW G a) (tW G b)) (fun X hX => pe_dsetd (pvG hX i hi hv hd hcd) (peW hX a) (peW hX b) ⟨rfl, by rw [star_cons (noStar_cons ns).1, star_cons (noStar_cons (noStar_cons ns).2).1]; rfl, hline, by rw [star_cons (noStar_cons ns).1, star_cons (noStar_cons (noStar_cons ns).2).1]; rfl⟩) fun X hX σ Hc H Q R q => by
    obtain ⟨ks0, ep, c0, m0, _⟩ := R.ok i _ he
    refine ⟨_, ep, p, rfl, .inl ⟨ks0, .inl m0⟩, tW.use R h fun v dk e1 Hc1 H1 h2 go t => tW.use go.rep h2 fun w d e2 Hc2 H2 ⟨kvs, k', ed, ek, hl, h3, h4⟩ go2 tw => ?_⟩
    obtain ⟨ks, ep1, c1, m1, t1⟩ := go2.rep.ok i _ ed
    refine ⟨ks, k', m1, keyD_tr t ek, by rw [t1.len]; exact Nat.lt_of_lt_of_le hl (by decide), fun v' ev => ?_, fun ev => ?_⟩
    · rcases t1.val k' with ⟨z, _⟩ | ⟨w', d', z1, z2, z3⟩
      · rw [ev] at z
        cases z
      · rw [ev] at z1
        cases z1
        exact q _ _ _ _ _ (h3 d' z2) (go.trans go2) z3
    · rcases t1.val k' with ⟨_, z⟩ | ⟨w', d', z1, z2, z3⟩
      · have g := go_own (o := .dK (putK ks k' w)) (t := .dk p (putD kvs k' d)) go2.rep ed rfl ep1 c1 rfl (by rw [ep1]; exact ⟨_, rfl, c1, upd_same, KTr.put tw t1⟩)
        exact q _ _ _ _ _ (h4 z) ((go.trans go2).trans g) tw
      · rw [ev] at z1
        cases z1
end
end TL

namespace TL
open PySem PySem.Spec PyProof.Rows L2
section
variable {G : Gx} {env : En} {N : DE} {rest ss : List Stmt} {e a b c : Expr} {pos px py pz pt : Pos} {x y z : Str} {P : PyData → En → Prop} {PB : Bool → En → Prop}
/-! ### comparisons as tests -/
theorem wt_cmp {op : CmpOp} {r : Cx → R2} (ho : ∀ X, InG G X → OpR X (compareOp op) (r X)) (hm : behindInMarks op b = false) (h : ∀ X, InG G X → W G a env fun x e1 => W G b e1 fun y e2 => BR (r X) x y fun d => ∃ k, d = .bool k ∧ PB k e2) : WT G (.Compare a [op] [b] pos) env PB :=
  WT.of (fun X => tTest (tOp (r X) (tW G a) (tW G b))) (fun X hX => pt_cmpR (ho X hX) (peW hX a) (peW hX b) hm) fun X hX σ Hc H Q R q => by
    show tOp (r X) (tW G a) (tW G b) σ H fun x H' => ∃ k, x = .bl k ∧ Q k H'
    refine tOp_read R (P := fun d e2 => ∃ k, d = .bool k ∧ PB k e2) (fun v d e2 Hc' H' ⟨k, ed, pk⟩ go t => ?_) (h X hX)
    subst ed
    cases t
    exact ⟨k, rfl, q _ _ _ _ pk go⟩
theorem wt_lt (h : I2 G a b env fun i j e => PB (decide (i < j)) e) : WT G (.Compare a [.Lt] [b] pos) env PB :=
  wt_cmp (fun _ _ => op_lt) (nomark _) fun X hX => h.w fun i j e p => br_int0 (d := fun i j => .bool (decide (i < j))) (fun _ _ _ => .bl _) ⟨_, rfl, p⟩
theorem wt_le (h : I2 G a b env fun i j e => PB (decide (i ≤ j)) e) : WT G (.Compare a [.LtE] [b] pos) env PB :=
  wt_cmp (fun _ _ => op_le) (nomark _) fun X hX => h.w fun i j e p => br_int0 (d := fun i j => .bool (decide (i ≤ j))) (fun _ _ _ => .bl _) ⟨_, rfl, p⟩
theorem wt_gt (h : I2 G a b env fun i j e => PB (decide (j < i)) e) : WT G (.Compare a [.Gt] [b] pos) env PB :=
  wt_cmp (fun _ _ => op_gt) (nomark _) fun X hX => h.w fun i j e p => br_int0 (d := fun i j => .bool (decide (j < i))) (fun _ _ _ => .bl _) ⟨_, rfl, p⟩
theorem wt_ge (h : I2 G a b env fun i j e => PB (decide (j ≤ i)) e) : WT G (.Compare a [.GtE] [b] pos) env PB :=
  wt_cmp (fun _ _ => op_ge) (nomark _) fun X hX => h.w fun i j e p => br_int0 (d := fun i j => .bool (decide (j ≤ i))) (fun _ _ _ => .bl _) ⟨_, rfl, p⟩
theorem wt_eqF (h : W G a env fun x e1 => W G b e1 fun y e2 => ∃ u v, flatD x = some u ∧ flatD y = some v ∧ scal u v = true ∧ PB (decide (u = v)) e2) : WT G (.Compare a [.Eq] [b] pos) env PB :=
  wt_cmp (fun _ _ => op_eq) (nomark _) fun X hX => W.imp h fun x e1 h2 => W.imp h2 fun y e2 ⟨u, v, e3, e4, e5, p⟩ => by
    intro Hc H u' v' Q s t1 t2 q
    rw [flatD_tr t1 e3, flatD_tr t2 e4]
    exact ⟨e5, q _ _ Hc H ⟨_, rfl, p⟩ (.refl s) (.bl _)⟩
theorem wt_neF (h : W G a env fun x e1 => W G b e1 fun y e2 => ∃ u v, flatD x = some u ∧ flatD y = some v ∧ scal u v = true ∧ PB (!decide (u = v)) e2) : WT G (.Compare a [.NotEq] [b] pos) env PB :=
  wt_cmp (fun _ _ => op_ne) (nomark _) fun X hX => W.imp h fun x e1 h2 => W.imp h2 fun y e2 ⟨u, v, e3, e4, e5, p⟩ => by
    intro Hc H u' v' Q s t1 t2 q
    rw [flatD_tr t1 e3, flatD_tr t2 e4]
    exact ⟨e5, q _ _ Hc H ⟨_, rfl, p⟩ (.refl s) (.bl _)⟩
theorem wt_eqI (h : I2 G a b env fun i j e => PB (decide (i = j)) e) : WT G (.Compare a [.Eq] [b] pos) env PB :=
  wt_eqF (h.w fun i j e p => ⟨_, _, rfl, rfl, rfl, by rw [dec_vi]; exact p⟩)
theorem wt_neI (h : I2 G a b env fun i j e => PB (!decide (i = j)) e) : WT G (.Compare a [.NotEq] [b] pos) env PB :=
  wt_neF (h.w fun i j e p => ⟨_, _, rfl, rfl, rfl, by rw [dec_vi]; exact p⟩)
theorem wt_neD (hu : G.A.units + 64 < cLine) (h : W G a env fun x e1 => W G b e1 fun y e2 => SeqAt.shaped x = true ∧ SeqAt.shaped y = true ∧ PB (!PyData.eqv x y) e2) : WT G (.Compare a [.NotEq] [b] pos) env PB :=
  wt_cmp (r := fun X => rNeD X.K) (fun X hX => op_neD (by rw [hX.A]; exact hu)) (nomark _) fun X hX => W.imp h fun x e1 h2 => W.imp h2 fun y e2 ⟨s1, s2, p⟩ => by
    intro Hc H u' v' Q s t1 t2 q
    exact ⟨x, y, dp_of (t1.mono s), dp_of (t2.mono s), s1, s2, q _ _ Hc H ⟨_, rfl, p⟩ (.refl s) (.bl _)⟩
theorem wt_dnin (i : Nat) (hu : G.A.units + 1 < cLine) (h : W G a env fun k e2 => ∃ p kvs k', e2[i]? = some (.dk p kvs) ∧ keyD k = some k' ∧ PB (!(valD kvs k').isSome) e2)
    (hi : G.N[i]? = some x := by rfl) (hv : Vis G.sc x := by first | exact Or.inl rfl | exact Or.inr (Or.inl rfl) | exact Or.inr (Or.inr rfl))
    (hd : (x == ("__debug__" : Str)) = false := by decide) (hcd : (x == ("__classdict__" : Str)) = false := by decide) : WT G (.Compare a [.NotIn] [.Name x px] pos) env PB :=
  WT.of (fun X => tB (tDNotIn (tW G a) (tVar i))) (fun X hX => pt_cmp (pc_dnotin (by rw [hX.A]; exact hu) (peW hX a) (pvG hX i hi hv hd hcd)) rfl) fun X hX σ Hc H Q R q =>
    tW.use R h fun v dk e2 Hc2 H2 ⟨p, kvs, k', e3, ek, pd⟩ go t => by
      obtain ⟨ks, ep, c0, m0, t0⟩ := go.rep.ok i _ e3
      have g := DGet.k (k := k') m0
      refine ⟨_, ep, p, valV ks k', rfl, by rw [keyD_tr t ek]; exact g, ?_⟩
      have es : (valV ks k').isSome = (valD kvs k').isSome := by
        rcases t0.val k' with ⟨z1, z2⟩ | ⟨w, d', z1, z2, z3⟩
        · rw [z1, z2]
          rfl
        · rw [z1, z2]
          rfl
      rw [es]
      exact ⟨_, rfl, q _ _ _ _ pd go⟩
/-- a constant of the module -/
theorem w_glob {v : V} {u : Value} {d : PyData} (hm : G.mg x = some u) (r : RelV v u) (ed : flatD d = some v) (h : P d env) (hg : GlG G x := by rfl) (hd : (x == ("__debug__" : Str)) = false := by decide) : W G (.Name x pos) env P :=
  W.of (fun _ => tC v) (fun X hX => pe_glob (glX hX hg) (by rw [hX.mg]; exact hm) r hd) fun _ _ σ Hc H Q R q => q _ _ env Hc H h (.refl R) (by
    cases d <;> first | (cases ed; constructor) | cases ed)
/-! ### texts -/
theorem w_join {pa pc : Pos} (h : W G a env fun s e1 => ∃ sep, s = .str sep ∧ W G b e1 fun d e2 => ∃ ys : List Str, itemD d = some (ys.map PyData.str) ∧ (ys.map (·.length)).sum + ys.length * sep.length ≤ 16777216 ∧ P (.str (Str.join sep ys)) e2)
    (ns : noStar [b] = true := by rfl) (hbase : ∀ v : Env, attributeBase a "join" v (eval a v) = eval a v := by exact fun _ => rfl) (hline : (pa.endLine == pc.line) = true := by rfl) : W G (.Call (.Attribute a "join" pa) [b] [] pc) env P :=
  W.of (fun X => _) (fun X hX => pe_join (peW hX a) (peW hX b) (star_cons (noStar_cons ns).1) (hbase _) hline) fun X hX σ Hc H Q R q => by
    refine tW.use R h fun v s e1 Hc1 H1 ⟨sep, es, h2⟩ go t => ?_
    subst es
    cases t
    refine ⟨⟨sep, rfl⟩, tW.use go.rep h2 fun w d e2 Hc2 H2 ⟨ys, ed, hl, pd⟩ go2 t2 => ?_⟩
    have stv : ∀ {ys : List Str} {vs : List V}, Trs Hc2 vs (ys.map PyData.str) → vs = ys.map V.str := by
      intro ys
      induction ys with
      | nil => intro vs t; cases t; rfl
      | cons y r ih => intro vs t; cases t with | cons t u => cases t; rw [ih u]; rfl
    cases t2 with
    | @lst a vs _ m k =>
      cases ed
      have ev := stv k
      subst ev
      refine ⟨sep, a, ys, rfl, rfl, .inl (SqL.of (go2.rep.same _ _ m)), hl, ?_⟩
      rw [join_eq]
      exact q _ _ _ _ _ pd (go.trans go2) (.str _)
    | @tup a vs _ m k =>
      cases ed
      have ev := stv k
      subst ev
      refine ⟨sep, a, ys, rfl, rfl, .inr ((m.mono go2.rep.same).sq), hl, ?_⟩
      rw [join_eq]
      exact q _ _ _ _ _ pd (go.trans go2) (.str _)
    | non => cases ed
    | bl b => cases ed
    | int b => cases ed
    | str b => cases ed
end
end TL

namespace TL
open PySem PySem.Spec PyProof.Rows L2
/-! ### loops -/
section
variable {G : Gx} {env : En} {N : DE} {rest ss : List Stmt} {e a b c : Expr} {pos px py pz pt : Pos} {x y z : Str} {P : PyData → En → Prop} {PB : Bool → En → Prop}
theorem r_while {body : List Stmt} (J : Nat → En → Prop) (m0 : Nat) (h0 : J m0 env)
    (h : ∀ m e, J m e → WT G c e fun k e1 => if k = true then Rs G body e1 { nx := fun e2 => ∃ m', m' < m ∧ J m' e2, ct := fun e2 => ∃ m', m' < m ∧ J m' e2, bk := fun e2 => Rs G rest e2 N, rt := N.rt, rv := N.rv } else Rs G rest e1 N) : Rs G (.While c body [] pos :: rest) env N :=
  Rs.of (fun X => tSeq (tWhile (tWT G c) (tRs G body)) (tRs G rest)) (fun X hX => pss_cons (ps_while (by rw [hX.xe]; exact PassesOwn.never) (ptW hX.g c) (pssR hX body)) (pssR hX rest)) fun X hX σ Hc H D R q => by
    refine ⟨fun m σ' H' => ∃ Hc' e, J m e ∧ Go Hc H σ env Hc' H' σ' e, ⟨m0, Hc, env, h0, .refl R⟩, ?_⟩
    rintro m σ2 H2 ⟨Hc2, e2, hJ, g2⟩
    refine ⟨Hc2, e2, _, g2.rep, h m e2 hJ, fun k e3 Hc3 H3 pk go => ?_⟩
    cases k with
    | true =>
      rw [if_pos rfl] at pk ⊢
      have gb := g2.trans go
      refine ⟨fun σ' H' => ∃ m', m' < m ∧ ∃ Hc' e, J m' e ∧ Go Hc H σ env Hc' H' σ' e, fun _ _ n => n, ?_⟩
      exact tRs.use go.rep pk ⟨fun e σ' Hc' H' ⟨m', l, p⟩ g => ⟨m', l, Hc', e, p, gb.trans g⟩, (q.from gb).rt, fun e σ' Hc' H' p g => tRs.use g.rep p (q.from (gb.trans g)), fun e σ' Hc' H' ⟨m', l, p⟩ g => ⟨m', l, Hc', e, p, gb.trans g⟩, (q.from gb).rv⟩
    | false =>
      rw [if_neg Bool.false_ne_true] at pk ⊢
      exact tRs.use go.rep pk (q.from (g2.trans go))
/-- the text True as a test -/
theorem wt_true {j : Nat} (h : PB true env) : WT G (.Constant (.bool true) j pos) env PB := wt_val (w_bl ⟨true, rfl, h⟩)
/-- x += e, ints -/
theorem r_augAdd (i : Nat) {n : Int} (hnd : G.N.Nodup) (he : env[i]? = some (.va (.int n))) (h : W G e env fun d e1 => ∃ k, d = .int k ∧ Rs G rest (e1.set i (.va (.int (n + k)))) N) (hi : G.N[i]? = some x := by rfl) (hx : Loc G.sc x := by first | exact Or.inl rfl | exact Or.inr rfl) : Rs G (.AugAssign (.Name x px) .Add e pos :: rest) env N :=
  Rs.of (fun X => tSeq (tAug i (tW G e) (ipI fun i j => i + j)) (tRs G rest)) (fun X hX => pss_cons (ps_aug (i := i) (hX.nodup hnd) (hX.at' hi) (hX.loc hx) (peW hX.g e) ip_add (.inl (hX.fn x))) (pssR hX rest)) fun X hX σ Hc H D R q => by
    obtain ⟨v, ev, tv⟩ := R.ok i _ he
    cases tv
    refine ⟨_, ev, tW.use R h fun v d e1 Hc1 H1 ⟨k, ed, hr⟩ go t => ?_⟩
    subst ed
    cases t
    refine ⟨n, k, rfl, rfl, ?_⟩
    have g2 := go_asg (j := i) (t := .va (.int (n + k))) (o := some (V.int (n + k))) go.rep rfl ⟨_, rfl, .int _⟩
    exact tRs.use g2.rep hr (q.from (go.trans g2))
/-! ### texts -/
theorem w_starts3 {pa pc : Pos} (h : W G a env fun s e1 => ∃ t, s = .str t ∧ WA G [b, c] e1 fun ds e2 => ∃ (u : Str) (i : Int), ds = [.str u, .int i] ∧ P (.bool (Txt.startswith3 t u i)) e2)
    (ns : noStar [b, c] = true := by rfl) (hbase : ∀ v : Env, attributeBase a "startswith" v (eval a v) = eval a v := by exact fun _ => rfl) (hline : (pa.endLine == pc.line) = true := by rfl) : W G (.Call (.Attribute a "startswith" pa) [b, c] [] pc) env P :=
  W.of (fun X => tBM X.K "str" (fun x xs H Q => ∃ (a b : Str) (i : Int), x = .str a ∧ xs = [.str b, .int i] ∧ Q (.bl (Txt.startswith3 a b i)) H) (tW G a) (tWA G [b, c])) (fun X hX => pe_bm PySem.F.plainAttrs_str PySem.F.slot_str_startswith PySem.F.type_str_startswith mt_startswith3 (peW hX a) (paW hX _ ns) (hbase _)
      (by rw [star_cons (noStar_cons ns).1, star_cons (noStar_cons (noStar_cons ns).2).1]; rfl) hline (star_cons (noStar_cons ns).1) (star_any (noStar_cons ns).2)) fun X hX σ Hc H Q R q =>
    tW.use R h fun v d e1 Hc1 H1 ⟨t, ed, h2⟩ go tv => by
      subst ed
      cases tv
      refine ⟨rfl, tWA.use go.rep h2 fun vs ds e2 Hc2 H2 ⟨u, i, eds, pd⟩ go2 ts => ?_⟩
      subst eds
      cases ts with
      | cons t1 ts =>
        cases ts with
        | cons t2 ts =>
          cases ts
          cases t1
          cases t2
          exact ⟨t, u, i, rfl, rfl, q _ _ _ _ _ pd (go.trans go2) (.bl _)⟩
/-- a[b:c] of a text -/
theorem w_sliceS {p2 : Pos} (h : W G a env fun s e1 => ∃ t : Str, s = .str t ∧ t.length ≤ sizeLine ∧ I2 G b c e1 fun i j e2 => P (.str (cutS t (some i) (some j))) e2) : W G (.Subscript a (.Slice (some b) (some c) none p2) pos) env P :=
  W.of (fun X => tSl rSlS (tW G a) (tPart (tW G b)) (tPart (tW G c))) (fun X hX => pe_slice sl_str (peW hX a) (po_some (peW hX b)) (po_some (peW hX c))) fun X hX σ Hc H Q R q =>
    tW.use R h fun v d e1 Hc1 H1 ⟨t, ed, hl, h2⟩ go tv => by
      subst ed
      cases tv
      refine tW.use go.rep h2 fun w d2 e2 Hc2 H2 ⟨i, ei, h3⟩ go2 t2 => ?_
      subst ei
      cases t2
      refine ⟨i, rfl, tW.use go2.rep h3 fun w d3 e3 Hc3 H3 ⟨j, ej, pd⟩ go3 t3 => ?_⟩
      subst ej
      cases t3
      exact ⟨j, rfl, t, rfl, hl, q _ _ _ _ _ pd ((go.trans go2).trans go3) (.str _)⟩
/-- int(text) -/
theorem w_intS (hm : G.mg "int" = none) {p : Pos} (h : W G e env fun d e1 => ∃ (t : Str) (n : Int), d = .str t ∧ PySem.intText? t = some n ∧ t.length ≤ 640 ∧ P (.int n) e1) (hg : GlG G "int" := by rfl) (ns : noStar [e] = true := by rfl) : W G (.Call (.Name "int" p) [e] [] pos) env P :=
  w_callTy (r := fun X xs H Q => ∃ a n, xs = [.str a] ∧ PySem.intText? a = some n ∧ a.length ≤ 640 ∧ Q (.int n) H) (fun X _ => call_int_str) boot_int hm hg (fun X hX => W.imp h fun d e1 ⟨t, n, ed, hn, hl, pn⟩ Hc H vs Q s ts q => by
    subst ed
    cases ts with
    | cons t1 u =>
      cases u
      cases t1
      exact ⟨t, n, rfl, hn, hl, q _ _ Hc H pn (.refl s) (.int _)⟩) ns (by decide) (by decide)
/-- a[b], a text's sign -/
theorem w_subS (h : W G a env fun x e1 => W G b e1 fun y e2 => ∃ (t : Str) (i : Int) (k : Nat), x = .str t ∧ y = .int i ∧ t.length ≤ sizeLine ∧ atI t.cps.toList i = some k ∧ P (.str ⟨#[k]⟩) e2) (hs : PlainIx b := by exact fun _ _ => rfl) : W G (.Subscript a b pos) env P :=
  W.of (fun X => tOp rIxS (tW G a) (tW G b)) (fun X hX => pe_ix ix_str (peW hX a) (peW hX b) hs) fun X hX σ Hc H Q R q =>
    tOp_read R q (W.imp h fun x e1 h2 => W.imp h2 fun y e2 ⟨t, i, k, ex, ey, hl, ei, p⟩ => by
      subst ex
      subst ey
      intro Hc H u v Q s t1 t2 q
      cases t1
      cases t2
      exact ⟨t, i, k, rfl, rfl, hl, ei, q _ _ Hc H p (.refl s) (.str _)⟩)
theorem wt_inS (h : W G a env fun x e1 => W G b e1 fun y e2 => ∃ (k : Nat) (t : Str), x = .str ⟨#[k]⟩ ∧ y = .str t ∧ PB (decide (k ∈ t.cps.toList)) e2) (hm : behindInMarks .In b = false := by rfl) : WT G (.Compare a [.In] [b] pos) env PB :=
  wt_cmp (r := fun X => fun x y H Q => ∃ (c : Nat) (z : Str), x = .str ⟨#[c]⟩ ∧ y = .str z ∧ Q (.bl (decide (c ∈ z.cps.toList))) H) (fun _ _ => op_in_sign) hm fun X hX => W.imp h fun x e1 h2 => W.imp h2 fun y e2 ⟨k, t, ex, ey, p⟩ => by
    subst ex
    subst ey
    intro Hc H u' v' Q s t1 t2 q
    cases t1
    cases t2
    exact ⟨k, t, rfl, rfl, q _ _ Hc H ⟨_, rfl, p⟩ (.refl s) (.bl _)⟩
/-- three tests -/
theorem wt_and3 (h : WT G a env fun k e1 => if k = true then WT G b e1 (fun k2 e2 => if k2 = true then WT G c e2 PB else PB false e2) else PB false e1) : WT G (.BoolOp .And [a, b, c] pos) env PB :=
  WT.of (fun X => tAnd (tWT G a) (tAnd (tWT G b) (tWT G c))) (fun X hX => (pw_and (ptW hX a) (pw_and (ptW hX b) (pw_and1 (ptW hX c)))).pt) fun X hX σ Hc H Q R q => by
    refine ⟨Hc, env, _, R, h, fun k e1 Hc1 H1 pk go => ?_⟩
    cases k with
    | true =>
      refine ⟨Hc1, e1, _, go.rep, pk, fun b e2 Hc2 H2 pb go2 => ?_⟩
      cases b with
      | true => exact ⟨Hc2, e2, _, go2.rep, pb, fun b e3 Hc3 H3 p3 go3 => q _ _ _ _ p3 ((go.trans go2).trans go3)⟩
      | false => exact q _ _ _ _ pb (go.trans go2)
    | false => exact q _ _ _ _ pk go
end
/-! ### a def's promise from its body -/
section
variable {P : Program} {w : World} {K : PySem.W.Frag} {mg : Str → Option Value} {base : Heap} {k : Nat} {f : Addr} {fd : FuncData} {N ps : List Str} {sp : Sp} {x qual : Str} {st : Stmt} {pre : List PyData → Prop} {post : List PyData → PyData → Prop}
abbrev GxOf (P : Program) (w : World) (K : PySem.W.Frag) (mg : Str → Option Value) (base : Heap) (N : List Str) (st : Stmt) (A : Around) : Gx := ⟨N, defScope st, K, mg, P, w, base, A⟩
theorem inS_def {cdv : Value} {A : Around} {outer : List Env} {s : Shared} {H : Hp} {E : XK} : InS (GxOf P w K mg base N st (A.deeper (envOfC qual (defScope st) s.heap.objs.size f cdv))) (cxOf CX0 P w K mg base N qual (defScope st) f cdv A outer s H E).nox :=
  ⟨⟨rfl, rfl, rfl, rfl, rfl, rfl, rfl, rfl, rfl⟩, fun _ => rfl, rfl⟩
def vaEnv (N : List Str) (ds : List PyData) : En := ds.map Sl.va ++ List.replicate (N.length - ds.length) .no
theorem start_get {N : List Str} {vs : List V} {i : Nat} {v : V} (h : vs[i]? = some v) : (L2.start N vs)[i]? = some (some v) := by
  have l := (List.getElem?_eq_some_iff.mp h).1
  unfold L2.start
  rw [List.getElem?_append_left (by simpa using l), List.getElem?_map, h]
  rfl
theorem va_get {N : List Str} {ds : List PyData} {i : Nat} {s : Sl} (h : (vaEnv N ds)[i]? = some s) : (∃ d, ds[i]? = some d ∧ s = .va d) ∨ s = .no := by
  unfold vaEnv at h
  by_cases l : i < ds.length
  · rw [List.getElem?_append_left (by simpa using l), List.getElem?_map] at h
    cases e : ds[i]? with
    | none => rw [e] at h; cases h
    | some d => rw [e] at h; cases h; exact .inl ⟨d, rfl, rfl⟩
  · rw [List.getElem?_append_right (by simpa using l), List.getElem?_replicate] at h
    split at h <;> cases h
    exact .inr rfl
theorem rp_start {Hc H : Hp} {N : List Str} {vs : List V} {ds : List PyData} (t : Trs Hc vs ds) (s : Same Hc H) : Rp Hc H (L2.start N vs) (vaEnv N ds) := by
  refine ⟨s, fun i u e => ?_, fun i j u v a h1 h2 h3 => ?_, ?_⟩
  · rcases va_get e with ⟨d, ed, es⟩ | es
    · subst es
      obtain ⟨v, ev, tv⟩ := t.get ed
      exact ⟨v, start_get ev, tv⟩
    · subst es
      trivial
  · rcases va_get h1 with ⟨d, _, es⟩ | es <;> (subst es; cases h3)
  · unfold L2.start vaEnv
    simp [t.length]
theorem nown_va {σ : L2.St} {N : List Str} {ds : List PyData} {a : Addr} : ¬ Own σ (vaEnv N ds) a := by
  rintro ⟨i, s, e1, e2, _⟩
  rcases va_get e1 with ⟨d, _, es⟩ | es <;> (subst es; cases e2)
theorem fnP (F : Fun K x qual st f fd) (S : FnScope N ps (defScope st)) (hl : ∀ ds, pre ds → ds.length = ps.length)
    (h : ∀ A, A.guards = some [] → Room k A → ∀ ds, pre ds → Rs (GxOf P w K mg base N st A) (defBody st) (vaEnv N ds) { nx := fun _ => post ds .none, rt := fun d _ => post ds d }) : FnG P w K mg base (k + 1) f fd ps (spP pre post) := by
  refine fnG_of F S (fun vs H Q E ⟨ds, Hc, t, _, p, _⟩ => by rw [t.length, hl ds p]) fun cdv A outer s H vs Q E hg hr ⟨ds, Hc, t, sm, p, q⟩ => ?_
  refine ⟨_, pssR inS_def _, tRs.use (rp_start t sm) (h (A.deeper (envOfC qual (defScope st) s.heap.objs.size f cdv)) hg hr ds p) ⟨fun e σ' Hc' H' pd g => ?_, fun v d e σ' Hc' H' pd g tv => ?_, fun _ _ _ _ z => z.elim, fun _ _ _ _ z => z.elim, fun _ _ _ _ _ _ _ z => z.elim⟩⟩
  all_goals
    have ex : Ext Hc H Hc' H' := ⟨fun a o e => g.kp a o e nown_va, g.core, g.rep.same, fun a e c => g.out a e c nown_va⟩
  · exact q _ _ Hc' H' pd ex .non
  · exact q _ _ Hc' H' pd ex tv
/-- with the draws' dict ahead -/
def msEnv (N : List Str) (a : Addr) (n : Nat) (ds : List PyData) : En := .ms a n :: (ds.map Sl.va ++ List.replicate (N.length - (ds.length + 1)) .no)
theorem fnM {c : Nat} (F : Fun K x qual st f fd) (S : FnScope N ps (defScope st)) (hl : ∀ ds, pre ds → ds.length + 1 = ps.length)
    (h : ∀ A, A.guards = some [] → Room k A → ∀ a n ds, pre ds → n + c ≤ LIM → Rs (GxOf P w K mg base N st A) (defBody st) (msEnv N a n ds)
      { nx := fun e => ∃ n', e[0]? = some (.ms a n') ∧ n' ≤ n + c ∧ post ds .none, rt := fun d e => ∃ n', e[0]? = some (.ms a n') ∧ n' ≤ n + c ∧ post ds d }) : FnG P w K mg base (k + 1) f fd ps (spM c pre post) := by
  refine fnG_of F S (fun vs H Q E ⟨a, ws, ds, Hc, n, ev, t, _, _, _, p, _⟩ => by rw [ev, List.length_cons, t.length, hl ds p]) fun cdv A outer s H vs Q E hg hr ⟨a, ws, ds, Hc, n, ev, t, sm, m, hn, p, q⟩ => ?_
  subst ev
  have eStart : L2.start N (V.ref a :: ws) = some (.ref a) :: (ws.map some ++ List.replicate (N.length - (ws.length + 1)) none) := rfl
  have get1 : ∀ {i : Nat} {u : Sl}, (msEnv N a n ds)[i]? = some u → (i = 0 ∧ u = .ms a n) ∨ (∃ j d, i = j + 1 ∧ ds[j]? = some d ∧ u = .va d) ∨ u = .no := by
    intro i u e
    cases i with
    | zero =>
      cases e
      exact .inl ⟨rfl, rfl⟩
    | succ j =>
      have e' : (ds.map Sl.va ++ List.replicate (N.length - (ds.length + 1)) .no)[j]? = some u := e
      by_cases l : j < ds.length
      · rw [List.getElem?_append_left (by simpa using l), List.getElem?_map] at e'
        cases ed : ds[j]? with
        | none => rw [ed] at e'; cases e'
        | some d => rw [ed] at e'; cases e'; exact .inr (.inl ⟨j, d, rfl, ed, rfl⟩)
      · rw [List.getElem?_append_right (by simpa using l), List.getElem?_replicate] at e'
        split at e' <;> cases e'
        exact .inr (.inr rfl)
  have R : Rp Hc H (L2.start N (V.ref a :: ws)) (msEnv N a n ds) := by
    refine ⟨sm, fun i u e => ?_, fun i j u v b h1 h2 h3 h4 _ _ => ?_, ?_⟩
    · rcases get1 e with ⟨ei, eu⟩ | ⟨j, d, ei, ed, eu⟩ | eu
      · subst ei eu
        exact ⟨rfl, m⟩
      · subst ei eu
        obtain ⟨v, ev, tv⟩ := t.get ed
        exact ⟨v, start_get (vs := V.ref a :: ws) (i := j + 1) (by simpa using ev), tv⟩
      · subst eu
        trivial
    · have z : ∀ {i : Nat} {u : Sl}, (msEnv N a n ds)[i]? = some u → u.own = true → i = 0 := by
        intro i u e o
        rcases get1 e with ⟨ei, eu⟩ | ⟨j, d, ei, ed, eu⟩ | eu
        · exact ei
        · rw [eu] at o
          cases o
        · rw [eu] at o
          cases o
      rw [z h1 h3, z h2 h4]
    · rw [eStart]
      unfold msEnv
      simp [t.length]
  have own1 : ∀ {b : Addr}, Own (L2.start N (V.ref a :: ws)) (msEnv N a n ds) b → b = a := by
    rintro b ⟨i, u, e1, e2, e3⟩
    rcases get1 e1 with ⟨ei, eu⟩ | ⟨j, d, ei, ed, eu⟩ | eu
    · subst ei
      cases e3
      rfl
    · rw [eu] at e2
      cases e2
    · rw [eu] at e2
      cases e2
  have fin : ∀ {d : PyData} {v : V} {e : En} {σ' : L2.St} {Hc' H' : Hp}, (∃ n', e[0]? = some (.ms a n') ∧ n' ≤ n + c ∧ post ds d) → Go Hc H (L2.start N (V.ref a :: ws)) (msEnv N a n ds) Hc' H' σ' e → Tr Hc' v d → Q v H' := by
    rintro d v e σ' Hc' H' ⟨n', e0, ln, pd⟩ g tv
    obtain ⟨_, m'⟩ := g.rep.ok 0 _ e0
    refine q v d Hc' H' n' pd ⟨fun b o hb e => g.kp b o e fun z => hb (own1 z), g.core, g.rep.same, fun b e c0 => ?_⟩ m' ln tv
    by_cases hb : b = a
    · rw [hb]
      exact m'.out
    · exact g.out b e c0 fun z => hb (own1 z)
  exact ⟨_, pssR inS_def _, tRs.use R (h (A.deeper (envOfC qual (defScope st) s.heap.objs.size f cdv)) hg hr a n ds p hn) ⟨fun e σ' Hc' H' pd g => fin pd g .non, fun v d e σ' Hc' H' pd g tv => fin pd g tv, fun _ _ _ _ z => z.elim, fun _ _ _ _ z => z.elim, fun _ _ _ _ _ _ _ z => z.elim⟩⟩
end
end TL

/-! tables as trees -/
namespace TL
open PySem PySem.Spec PyProof.Rows L2
abbrev Tb := List (List Int)
def rowT (r : List Int) : PyData := .tuple (r.map .int)
def rowL (r : List Int) : PyData := .list (r.map .int)
def tbT (t : Tb) : PyData := .tuple (t.map rowT)
def tbL (t : Tb) : PyData := .list (t.map rowL)
theorem canAll {α : Type} (f : α → PyData) (h : ∀ x, (f x).canLay0 = true) : ∀ l : List α, PyData.canLayAll0 (l.map f) = true
  | [] => by simp [PyData.canLayAll0]
  | x :: r => by simp [PyData.canLayAll0, h x, canAll f h r]
theorem depAll {α : Type} (f : α → PyData) (k : Nat) (h : ∀ x, (f x).depth ≤ k) : ∀ l : List α, PyData.depthAll (l.map f) ≤ k
  | [] => by simp [PyData.depthAll]
  | x :: r => by
    simp only [List.map_cons, PyData.depthAll]
    have h1 := h x
    have h2 := depAll f k h r
    omega
theorem shaped_tb (t : Tb) : SeqAt.shaped (tbT t) = true := by
  unfold SeqAt.shaped
  have h1 : (tbT t).canLay0 = true := by
    unfold tbT
    simp only [PyData.canLay0]
    exact canAll _ (fun r => by unfold rowT; simp only [PyData.canLay0]; exact canAll _ (fun i => by simp [PyData.canLay0]) r) t
  have h2 : (tbT t).depth ≤ 64 := by
    unfold tbT
    simp only [PyData.depth]
    have := depAll rowT 2 (fun r => by
      unfold rowT
      simp only [PyData.depth]
      have := depAll PyData.int 1 (fun i => by simp [PyData.depth]) r
      omega) t
    omega
  rw [h1, decide_eq_true h2]
  rfl
theorem eqv_nil (t : Tb) : PyData.eqv (tbT t) (.tuple []) = t.isEmpty := by
  cases t with
  | nil => simp [tbT, PyData.eqv, PyData.eqvAll]
  | cons r t => simp [tbT, PyData.eqv, PyData.eqvAll]
end TL

namespace TL
open PySem PySem.Spec PyProof.Rows L2
def All2 {α β : Type} (R : α → β → Prop) : List α → List β → Prop
  | [], [] => True
  | a :: as, b :: bs => R a b ∧ All2 R as bs
  | _, _ => False
section
variable {α β : Type} {R : α → β → Prop}
theorem All2.snoc : ∀ {as : List α} {bs : List β} {a : α} {b : β}, All2 R as bs → R a b → All2 R (as ++ [a]) (bs ++ [b])
  | [], [], _, _, _, h => ⟨h, trivial⟩
  | _ :: _, _ :: _, _, _, ⟨h1, h2⟩, h => ⟨h1, All2.snoc h2 h⟩
  | [], _ :: _, _, _, h, _ => h.elim
  | _ :: _, [], _, _, h, _ => h.elim
theorem All2.length : ∀ {as : List α} {bs : List β}, All2 R as bs → as.length = bs.length
  | [], [], _ => rfl
  | _ :: _, _ :: _, ⟨_, h⟩ => by rw [List.length_cons, List.length_cons, All2.length h]
  | [], _ :: _, h => h.elim
  | _ :: _, [], h => h.elim
theorem All2.eq_map {g : α → β} : ∀ {as : List α} {bs : List β}, All2 (fun a b => b = g a) as bs → bs = as.map g
  | [], [], _ => rfl
  | _ :: _, _ :: _, ⟨h, k⟩ => by rw [h, All2.eq_map k]; rfl
  | [], _ :: _, h => h.elim
  | _ :: _, [], h => h.elim
theorem All2.get : ∀ {as : List α} {bs : List β} {i : Nat} {b : β}, All2 R as bs → bs[i]? = some b → ∃ a, as[i]? = some a ∧ R a b
  | _ :: _, _ :: _, 0, _, ⟨h, _⟩, e => by
    cases e
    exact ⟨_, rfl, h⟩
  | _ :: _, _ :: _, i + 1, b, ⟨_, h⟩, e => All2.get (i := i) (b := b) h e
  | [], [], _, _, _, e => by simp at e
  | [], _ :: _, _, _, h, _ => h.elim
  | _ :: _, [], _, _, h, _ => h.elim
/-- what each is, chosen -/
theorem All2.split {p : β → Prop} : ∀ {as : List α} {bs : List β}, All2 (fun _ b => p b) as bs → ∀ b ∈ bs, p b
  | [], [], _, b, hb => by cases hb
  | _ :: _, _ :: _, ⟨h, k⟩, b, hb => by
    rcases List.mem_cons.mp hb with e | hb
    · rw [e]; exact h
    · exact All2.split k b hb
  | [], _ :: _, h, _, _ => h.elim
  | _ :: _, [], h, _, _ => h.elim
theorem All2.imp {S : α → β → Prop} (f : ∀ a b, R a b → S a b) : ∀ {as : List α} {bs : List β}, All2 R as bs → All2 S as bs
  | [], [], _ => trivial
  | _ :: _, _ :: _, ⟨h, k⟩ => ⟨f _ _ h, All2.imp f k⟩
  | [], _ :: _, h => h.elim
  | _ :: _, [], h => h.elim
end
theorem take_snoc {α : Type} {l : List α} {i : Nat} {d : α} (h : l[i]? = some d) : l.take (i + 1) = l.take i ++ [d] := by
  rw [List.take_add_one, h]
  rfl
section
variable {G' : Gx} {j : Nat} {elt c : Expr} {ds : List PyData} {e0 : En} {PF : List PyData → En → Prop}
theorem cj_all (R : PyData → PyData → Prop) (Ei : Nat → En → Prop) (h0 : Ei 0 (e0.set j .no)) (h : ∀ i d e, ds[i]? = some d → Ei i e → W G' elt (e.set j (.va d)) fun y e2 => R d y ∧ Ei (i + 1) (e2.set j .no))
    (hF : ∀ acc e, All2 R ds acc → Ei ds.length e → PF acc e) : CJ G' j none elt ds e0 PF :=
  ⟨fun i acc e => All2 R (ds.take i) acc ∧ Ei i e, ⟨trivial, h0⟩, fun acc e ⟨h1, h2⟩ => hF acc e (by rw [List.take_length] at h1; exact h1) h2,
    fun i d acc e ed _ ⟨h1, h2⟩ => W.imp (h i d e ed h2) fun y e2 ⟨r, p⟩ => ⟨by rw [take_snoc ed]; exact h1.snoc r, p⟩⟩
theorem set_no {e0 : En} {j : Nat} {s : Sl} : ((e0.set j .no).set j s).set j .no = e0.set j .no := by rw [List.set_set, List.set_set]
/-- nothing changes -/
theorem cj_rel (R : PyData → PyData → Prop) (h : ∀ d ∈ ds, W G' elt (e0.set j (.va d)) fun y e2 => R d y ∧ e2 = e0.set j (.va d)) (hF : ∀ acc, All2 R ds acc → PF acc (e0.set j .no)) : CJ G' j none elt ds e0 PF :=
  cj_all R (fun _ e => e = e0.set j .no) rfl (fun i d e ed ee => by
    subst ee
    rw [List.set_set]
    exact W.imp (h d (List.mem_of_getElem? ed)) fun y e2 ⟨r, ee⟩ => ⟨r, by rw [ee, List.set_set]⟩) fun acc e a ee => by
    rw [ee]
    exact hF acc a
theorem cj_map (g : PyData → PyData) (h : ∀ d ∈ ds, W G' elt (e0.set j (.va d)) fun y e2 => y = g d ∧ e2 = e0.set j (.va d)) (hF : PF (ds.map g) (e0.set j .no)) : CJ G' j none elt ds e0 PF :=
  cj_rel (fun d y => y = g d) h fun acc a => by
    rw [a.eq_map]
    exact hF
theorem cj_filter (p : PyData → Bool) (h : ∀ d ∈ ds, WT G' c (e0.set j (.va d)) fun k e1 => k = p d ∧ e1 = e0.set j (.va d)) (h2 : ∀ d ∈ ds, W G' elt (e0.set j (.va d)) fun y e2 => y = d ∧ e2 = e0.set j (.va d)) (hF : PF (ds.filter p) (e0.set j .no)) : CJ G' j (some c) elt ds e0 PF :=
  ⟨fun i acc e => acc = (ds.take i).filter p ∧ e = e0.set j .no, ⟨rfl, rfl⟩, fun acc e ⟨h1, h2⟩ => by
      rw [List.take_length] at h1
      rw [h1, h2]
      exact hF, fun i d acc e ed _ ⟨h1, ee⟩ => by
    subst ee
    show WT G' c ((e0.set j .no).set j (.va d)) _
    rw [List.set_set]
    have hm := List.mem_of_getElem? ed
    refine WT.imp (h d hm) fun k e1 ⟨ek, ee⟩ => ?_
    have es : (ds.take (i + 1)).filter p = (ds.take i).filter p ++ (if p d = true then [d] else []) := by
      rw [take_snoc ed, List.filter_append]
      congr 1
      simp [List.filter_cons]
    cases k with
    | true =>
      rw [if_pos rfl, ee]
      rw [← ek, if_pos rfl] at es
      exact W.imp (h2 d hm) fun y e2 ⟨r, e3⟩ => ⟨by rw [es, h1, r], by rw [e3, List.set_set]⟩
    | false =>
      rw [if_neg Bool.false_ne_true, ee]
      rw [← ek, if_neg Bool.false_ne_true, List.append_nil] at es
      exact ⟨by rw [es, h1], by rw [List.set_set]⟩⟩
end
theorem ifb {b : Bool} {A B : Prop} (h1 : b = true → A) (h2 : b = false → B) : if b = true then A else B := by
  cases b with
  | true => exact iteT (h1 rfl)
  | false => exact iteF (h2 rfl)
theorem ifT {b : Bool} {A B : Prop} (e : b = true) (h : A) : if b = true then A else B := by rw [if_pos e]; exact h
theorem ifF {b : Bool} {A B : Prop} (e : b = false) (h : B) : if b = true then A else B := by rw [if_neg (by rw [e]; exact Bool.false_ne_true)]; exact h
theorem ifd {p : Prop} [Decidable p] {A B : Prop} (h1 : p → A) (h2 : ¬ p → B) : if decide p = true then A else B := ifb (fun e => h1 (of_decide_eq_true e)) fun e => h2 (of_decide_eq_false e)
theorem ifn {p : Prop} [Decidable p] {A B : Prop} (h1 : ¬ p → A) (h2 : p → B) : if (!decide p) = true then A else B := ifb (fun e => h1 (of_decide_eq_false (by simpa using e))) fun e => h2 (of_decide_eq_true (by simpa using e))
theorem small_mul {i j : Int} (h1 : -1000000000000 ≤ i) (h2 : i ≤ 1000000000000) : CMul i j := .inl ⟨by omega, by omega⟩
theorem small_mulR {i j : Int} (h1 : -1000000000000 ≤ j) (h2 : j ≤ 1000000000000) : CMul i j := .inr ⟨by omega, by omega⟩
/-- a comprehension over a value -/
theorem lc_seq {G : Gx} {scope : Scope} {j : Nat} {tg iter elt : Expr} {t : Option Expr} {env : En} {PF : List PyData → En → Prop} (h : W G iter env fun d e1 => ∃ ds, itemD d = some ds ∧ ds.length < 100000 ∧ CJ (G.blk scope) j t elt ds e1 PF) : LC G scope j tg iter t elt env PF := wi_seq h
end TL

namespace TL
open PySem PySem.Spec PyProof.Rows L2
/-! the draws' dict, field by field -/
def kL : Key := .inr "left"
def kS : Key := .inr "seed"
def kC : Key := .inr "cells"
def kP : Key := .inr "spot"
def msD (l s : Int) (ns : List Int) (p : Int) : List (Key × PyData) := [(kL, .int l), (kS, .int s), (kC, .list (ns.map .int)), (kP, .int p)]
theorem kne : (kL ≠ kS ∧ kL ≠ kC ∧ kL ≠ kP) ∧ (kS ≠ kL ∧ kS ≠ kC ∧ kS ≠ kP) ∧ (kC ≠ kL ∧ kC ≠ kS ∧ kC ≠ kP) ∧ (kP ≠ kL ∧ kP ≠ kS ∧ kP ≠ kC) := by decide +kernel
section
variable {l s p l' p' : Int} {ns : List Int}
theorem val_L : valD (msD l s ns p) kL = some (.int l) := by simp [valD, msD]
theorem val_S : valD (msD l s ns p) kS = some (.int s) := by simp [valD, msD, kne]
theorem val_C : valD (msD l s ns p) kC = some (.list (ns.map .int)) := by simp [valD, msD, kne]
theorem val_P : valD (msD l s ns p) kP = some (.int p) := by simp [valD, msD, kne]
theorem put_L : putD (msD l s ns p) kL (.int l') = msD l' s ns p := by simp [putD, msD, kne]
theorem put_P : putD (msD l s ns p) kP (.int p') = msD l s ns p' := by simp [putD, msD, kne]
end
theorem ms_in {Hc H : Hp} {a : Addr} {n : Nat} (m : MS Hc H a n) : ∃ l s p ns, SlotOk Hc H (.dk a (msD l s ns p)) (some (some (.ref a))) ∧ ns ≠ [] ∧ ns.length ≤ 200 ∧ 0 ≤ s ∧ s < 2147483647 ∧ 0 ≤ p ∧ p ≤ n := by
  obtain ⟨o, l, s, p, c, ns, h1, h2, h3⟩ := m
  exact ⟨l, s, p, ns, ⟨_, rfl, o, h1, ⟨rfl, .int _, ⟨rfl, .int _, ⟨rfl, .lst h2 (Trs.ints ns), ⟨rfl, .int _, trivial⟩⟩⟩⟩⟩, h3⟩
theorem ms_out {Hc H : Hp} {a : Addr} {n : Nat} {l s p : Int} {ns : List Int} {o : Option (Option V)} (h : SlotOk Hc H (.dk a (msD l s ns p)) o) (h2 : ns ≠ [] ∧ ns.length ≤ 200 ∧ 0 ≤ s ∧ s < 2147483647 ∧ 0 ≤ p ∧ p ≤ n) : o = some (some (.ref a)) ∧ MS Hc H a n := by
  obtain ⟨ks, e, c, m, t⟩ := h
  refine ⟨e, c, ?_⟩
  cases ks with
  | nil => exact t.elim
  | cons q1 ks =>
    obtain ⟨k1, v1⟩ := q1
    obtain ⟨e1, t1, t⟩ := t
    cases ks with
    | nil => exact t.elim
    | cons q2 ks =>
      obtain ⟨k2, v2⟩ := q2
      obtain ⟨e2, t2, t⟩ := t
      cases ks with
      | nil => exact t.elim
      | cons q3 ks =>
        obtain ⟨k3, v3⟩ := q3
        obtain ⟨e3, t3, t⟩ := t
        cases ks with
        | nil => exact t.elim
        | cons q4 ks =>
          obtain ⟨k4, v4⟩ := q4
          obtain ⟨e4, t4, t⟩ := t
          cases ks with
          | cons _ _ => exact t.elim
          | nil =>
            subst e1 e2 e3 e4
            cases t1
            cases t2
            cases t4
            cases t3 with
            | lst h5 h6 =>
              rw [Trs.of_ints h6] at h5
              exact ⟨l, s, p, _, ns, m, h5, h2⟩
section
variable {P : Program} {w : World} {K : PySem.W.Frag} {mg : Str → Option Value} {base : Heap} {k : Nat} {f : Addr} {fd : FuncData} {N : List Str} {x qual : Str} {st : Stmt} {bd : Str} {md : Str}
def preD (ds : List PyData) : Prop := ∃ b : Int, ds = [.int b] ∧ 1 ≤ b ∧ b < 1073741824
def postD (ds : List PyData) (d : PyData) : Prop := ∃ b i : Int, ds = [.int b] ∧ d = .int i ∧ 0 ≤ i ∧ i < b
/-- a draw's body over the dict itself -/
theorem fnDraw (F : Fun K x qual st f fd) (S : FnScope N [md, bd] (defScope st)) (hN : 2 ≤ N.length)
    (h : ∀ A, A.guards = some [] → Room k A → ∀ (a : Addr) (l s p : Int) (ns : List Int) (b : Int), 1 ≤ b → b < 1073741824 → ns ≠ [] → ns.length ≤ 200 → 0 ≤ s → s < 2147483647 → 0 ≤ p → p ≤ 1000000000 →
      Rs (GxOf P w K mg base N st A) (defBody st) (.dk a (msD l s ns p) :: .va (.int b) :: List.replicate (N.length - 2) .no)
        { nx := fun _ => False, rt := fun d e => ∃ l' p', e[0]? = some (.dk a (msD l' s ns p')) ∧ 0 ≤ p' ∧ p' ≤ p + 1 ∧ ∃ i, d = .int i ∧ 0 ≤ i ∧ i < b }) : FnG P w K mg base (k + 1) f fd [md, bd] (spM 1 preD postD) := by
  refine fnG_of F S (fun vs H Q E ⟨a, ws, ds, Hc, n, ev, t, _, _, _, ⟨b, e, _⟩, _⟩ => by rw [ev, List.length_cons, t.length, e]; rfl) fun cdv A outer s0 H vs Q E hg hr ⟨a, ws, ds, Hc, n, ev, t, sm, m, hn, ⟨b, eb, hb1, hb2⟩, q⟩ => ?_
  subst ev
  subst eb
  have ew := Trs.of_ints (ns := [b]) t
  subst ew
  obtain ⟨l, s, p, ns, sl, h1, h2, h3, h4, h5, h6⟩ := ms_in m
  have eStart : L2.start N [V.ref a, V.int b] = some (.ref a) :: some (.int b) :: List.replicate (N.length - 2) none := rfl
  have get1 : ∀ {i : Nat} {u : Sl}, ((.dk a (msD l s ns p) :: .va (.int b) :: List.replicate (N.length - 2) .no : En))[i]? = some u → (i = 0 ∧ u = .dk a (msD l s ns p)) ∨ (i = 1 ∧ u = .va (.int b)) ∨ u = .no := by
    intro i u e
    match i, e with
    | 0, e => cases e; exact .inl ⟨rfl, rfl⟩
    | 1, e => cases e; exact .inr (.inl ⟨rfl, rfl⟩)
    | j + 2, e =>
      have e' : (List.replicate (N.length - 2) Sl.no)[j]? = some u := e
      rw [List.getElem?_replicate] at e'
      split at e' <;> cases e'
      exact .inr (.inr rfl)
  have R : Rp Hc H (L2.start N [V.ref a, V.int b]) (.dk a (msD l s ns p) :: .va (.int b) :: List.replicate (N.length - 2) .no) := by
    rw [eStart]
    refine ⟨sm, fun i u e => ?_, fun i j u v c e1 e2 e3 e4 _ _ => ?_, by simp⟩
    · rcases get1 e with ⟨ei, eu⟩ | ⟨ei, eu⟩ | eu
      · subst ei eu
        exact sl
      · subst ei eu
        exact ⟨_, rfl, .int b⟩
      · subst eu
        trivial
    · have z : ∀ {i : Nat} {u : Sl}, ((.dk a (msD l s ns p) :: .va (.int b) :: List.replicate (N.length - 2) .no : En))[i]? = some u → u.own = true → i = 0 := by
        intro i u e o
        rcases get1 e with ⟨ei, eu⟩ | ⟨ei, eu⟩ | eu
        · exact ei
        · rw [eu] at o
          cases o
        · rw [eu] at o
          cases o
      rw [z e1 e3, z e2 e4]
  have own1 : ∀ {c : Addr}, Own (L2.start N [V.ref a, V.int b]) (.dk a (msD l s ns p) :: .va (.int b) :: List.replicate (N.length - 2) .no) c → c = a := by
    rintro c ⟨i, u, e1, e2, e3⟩
    rcases get1 e1 with ⟨ei, eu⟩ | ⟨ei, eu⟩ | eu
    · subst ei
      rw [eStart] at e3
      cases e3
      rfl
    · rw [eu] at e2
      cases e2
    · rw [eu] at e2
      cases e2
  have hl : (LIM : Nat) = 1000000000 := rfl
  refine ⟨_, pssR inS_def _, tRs.use R (h (A.deeper (envOfC qual (defScope st) s0.heap.objs.size f cdv)) hg hr a l s p ns b hb1 hb2 h1 h2 h3 h4 h5 (by omega)) ⟨fun _ _ _ _ z => z.elim, fun v d e σ' Hc' H' ⟨l', p', e0, g1, g2, i, ed, i1, i2⟩ g tv => ?_, fun _ _ _ _ z => z.elim, fun _ _ _ _ z => z.elim, fun _ _ _ _ _ _ _ z => z.elim⟩⟩
  have m' := (ms_out (n := n + 1) (g.rep.ok 0 _ e0) ⟨h1, h2, h3, h4, g1, by omega⟩).2
  refine q v d Hc' H' (n + 1) ⟨b, i, rfl, ed, i1, i2⟩ ⟨fun c o hc e => g.kp c o e fun z => hc (own1 z), g.core, g.rep.same, fun c e c0 => ?_⟩ m' (Nat.le_refl _) tv
  by_cases hc : c = a
  · rw [hc]
    exact m'.out
  · exact g.out c e c0 fun z => hc (own1 z)
end
end TL

namespace TL
open PySem PySem.Spec PyProof.Rows L2
/-! numbering as met -/
def nk (ks : List Int) (x : Int) : List Int := if x ∈ ks then ks else ks ++ [x]
def dyLine : List Int → List Int → List Int × List Int
  | ks, [] => ([], ks)
  | ks, x :: r => ((ks.idxOf x : Int) :: (dyLine (nk ks x) r).1, (dyLine (nk ks x) r).2)
def dyTab : List Int → Tb → Tb × List Int
  | ks, [] => ([], ks)
  | ks, r :: t => ((dyLine ks r).1 :: (dyTab (dyLine ks r).2 t).1, (dyTab (dyLine ks r).2 t).2)
def dy (t : Tb) : Tb := (dyTab [] t).1
theorem dyLine_snoc : ∀ (r : List Int) (ks : List Int) (x : Int), dyLine ks (r ++ [x]) = ((dyLine ks r).1 ++ [((dyLine ks r).2.idxOf x : Int)], nk (dyLine ks r).2 x)
  | [], ks, x => rfl
  | y :: r, ks, x => by
    show ((ks.idxOf y : Int) :: (dyLine (nk ks y) (r ++ [x])).1, (dyLine (nk ks y) (r ++ [x])).2) = _
    rw [dyLine_snoc r (nk ks y) x]
    rfl
theorem dyTab_snoc : ∀ (t : Tb) (ks : List Int) (r : List Int), dyTab ks (t ++ [r]) = ((dyTab ks t).1 ++ [(dyLine (dyTab ks t).2 r).1], (dyLine (dyTab ks t).2 r).2)
  | [], ks, r => rfl
  | y :: t, ks, r => by
    show ((dyLine ks y).1 :: (dyTab (dyLine ks y).2 (t ++ [r])).1, (dyTab (dyLine ks y).2 (t ++ [r])).2) = _
    rw [dyTab_snoc t (dyLine ks y).2 r]
    rfl
theorem nk_len (ks : List Int) (x : Int) : (nk ks x).length ≤ ks.length + 1 := by
  unfold nk
  split
  · omega
  · simp
theorem dyLine_len : ∀ (r : List Int) (ks : List Int), (dyLine ks r).1.length = r.length ∧ (dyLine ks r).2.length ≤ ks.length + r.length
  | [], ks => ⟨rfl, Nat.le_refl _⟩
  | x :: r, ks => by
    have ih := dyLine_len r (nk ks x)
    have := nk_len ks x
    refine ⟨by show (dyLine (nk ks x) r).1.length + 1 = r.length + 1; rw [ih.1], ?_⟩
    show (dyLine (nk ks x) r).2.length ≤ ks.length + (r.length + 1)
    omega
theorem dyTab_len : ∀ (t : Tb) (ks : List Int), (dyTab ks t).1.length = t.length
  | [], ks => rfl
  | r :: t, ks => by
    show (dyTab (dyLine ks r).2 t).1.length + 1 = t.length + 1
    rw [dyTab_len t]
def kvF (s : Nat) (ks : List Int) : List (Key × PyData) := (ks.zipIdx s).map fun p => (Sum.inl p.1, PyData.int (p.2 : Int))
def kvK (ks : List Int) : List (Key × PyData) := kvF 0 ks
theorem kv_len (s : Nat) (ks : List Int) : (kvF s ks).length = ks.length := by unfold kvF; rw [List.length_map, List.length_zipIdx]
theorem kv_val : ∀ (ks : List Int) (s : Nat) (x : Int), valD (kvF s ks) (.inl x) = if x ∈ ks then some (.int ((s + ks.idxOf x : Nat) : Int)) else none
  | [], s, x => rfl
  | k :: ks, s, x => by
    have ih := kv_val ks (s + 1) x
    have e : kvF s (k :: ks) = (.inl k, .int (s : Int)) :: kvF (s + 1) ks := rfl
    rw [e]
    by_cases h : k = x
    · subst h
      unfold valD
      rw [List.find?_cons_of_pos (by simp)]
      simp [List.idxOf_cons]
    · have h1 : valD ((.inl k, .int (s : Int)) :: kvF (s + 1) ks) (.inl x) = valD (kvF (s + 1) ks) (.inl x) := by
        unfold valD
        rw [List.find?_cons_of_neg (by simpa using h)]
      rw [h1, ih]
      have h2 : x ≠ k := fun z => h z.symm
      by_cases hm : x ∈ ks
      · rw [if_pos hm, if_pos (List.mem_cons_of_mem _ hm)]
        have h3 : (k :: ks).idxOf x = ks.idxOf x + 1 := by
          rw [List.idxOf_cons]
          have hb : (k == x) = false := by simpa using h
          rw [hb]
          rfl
        rw [h3]
        congr 3
        omega
      · rw [if_neg hm, if_neg (by simp [hm, h2])]
theorem kv_any : ∀ (ks : List Int) (s : Nat) (x : Int), x ∉ ks → ((kvF s ks).any fun kv => decide (kv.1 = Sum.inl x)) = false
  | [], s, x, _ => rfl
  | k :: ks, s, x, h => by
    have e : kvF s (k :: ks) = (.inl k, .int (s : Int)) :: kvF (s + 1) ks := rfl
    have h1 : k ≠ x := fun z => h (by rw [z]; exact List.mem_cons_self)
    rw [e, List.any_cons, kv_any ks (s + 1) x fun z => h (List.mem_cons_of_mem _ z)]
    simpa using h1
theorem kv_put {ks : List Int} {x : Int} (h : x ∉ ks) : putD (kvK ks) (.inl x) (.int (ks.length : Int)) = kvK (ks ++ [x]) := by
  unfold putD
  rw [show kvK ks = kvF 0 ks from rfl, kv_any ks 0 x h]
  rw [if_neg Bool.false_ne_true]
  unfold kvK kvF
  rw [List.zipIdx_append, List.map_append]
  simp
theorem idx_not {ks : List Int} {x : Int} (h : x ∉ ks) : ks.idxOf x = ks.length := List.idxOf_eq_length h
theorem idx_snoc {ks : List Int} {x : Int} (h : x ∉ ks) : (ks ++ [x]).idxOf x = ks.length := by
  rw [List.idxOf_append, if_neg h]
  simp
/-- a table of ints, of any kinds of rows -/
def IsTb (d : PyData) (t : Tb) : Prop := ∃ rs, itemD d = some rs ∧ All2 (fun r d => itemD d = some (r.map PyData.int)) t rs
def preDy (ds : List PyData) : Prop := ∃ d t, ds = [d] ∧ IsTb d t ∧ t.length ≤ 16 ∧ ∀ r ∈ t, r.length ≤ 16
def postDy (ds : List PyData) (d : PyData) : Prop := ∀ d0 t, ds = [d0] → IsTb d0 t → d = tbT (dy t)
theorem isTb_inj {d : PyData} {t u : Tb} (h : IsTb d t) (k : IsTb d u) : t = u := by
  obtain ⟨rs, e, a⟩ := h
  obtain ⟨rs', e', b⟩ := k
  rw [e] at e'
  cases e'
  clear e
  induction t generalizing u rs with
  | nil =>
    cases rs with
    | nil => cases u with | nil => rfl | cons _ _ => exact b.elim
    | cons _ _ => exact a.elim
  | cons r t ih =>
    cases rs with
    | nil => exact a.elim
    | cons d rs =>
      cases u with
      | nil => exact b.elim
      | cons s u =>
        obtain ⟨a1, a2⟩ := a
        obtain ⟨b1, b2⟩ := b
        rw [a1] at b1
        have : r = s := by
          have e := Option.some.inj b1
          have inj : ∀ {x y : List Int}, x.map PyData.int = y.map PyData.int → x = y := by
            intro x
            induction x with
            | nil => intro y h; cases y with | nil => rfl | cons _ _ => cases h
            | cons p x ih =>
              intro y h
              cases y with
              | nil => cases h
              | cons q y =>
                rw [List.map_cons, List.map_cons] at h
                injection h with h1 h2
                injection h1 with h1
                rw [h1, ih h2]
          exact inj e
        rw [this, ih rs a2 b2]
theorem isTb_T (t : Tb) : IsTb (tbT t) t := by
  refine ⟨_, rfl, ?_⟩
  induction t with
  | nil => trivial
  | cons r t ih => exact ⟨rfl, ih⟩
theorem isTb_L (t : Tb) : IsTb (tbL t) t := by
  refine ⟨_, rfl, ?_⟩
  induction t with
  | nil => trivial
  | cons r t ih => exact ⟨rfl, ih⟩
theorem All2.getL {α β : Type} {R : α → β → Prop} : ∀ {as : List α} {bs : List β} {i : Nat} {b : β}, All2 R as bs → bs[i]? = some b → ∃ a, as[i]? = some a ∧ R a b := fun a e => a.get e
/-- x, y = {}, [] -/
theorem r_parNew {G : Gx} {env : En} {N : DE} {rest : List Stmt} {px py pz pt pos p1 p2 : Pos} {x y : Str} (i j : Nat) {k1 k2} (h : ∀ p, Rs G rest ((env.set i (.dk p [])).set j (.ow [])) N) (hnd : G.N.Nodup) (hil : i < env.length) (hjl : j < env.length)
    (hw : ∀ v : Env, v.scope = G.sc → swappedStores [.Tuple [.Name x px, .Name y py] k1 pt] (.Tuple [.Dict [] [] p1, .List [] p2] k2 pz) v = pure (some [x, y]))
    (hij : i ≠ j := by decide) (hi : G.N[i]? = some x := by rfl) (hj : G.N[j]? = some y := by rfl) (hx : G.sc.names.lookup x = some .local := by rfl) (hy : G.sc.names.lookup y = some .local := by rfl) :
    Rs G (.Assign [.Tuple [.Name x px, .Name y py] k1 pt] (.Tuple [.Dict [] [] p1, .List [] p2] k2 pz) pos :: rest) env N :=
  Rs.of (fun X => tSeq (tPar i j (tCons tDNewK (tCons (tLst tNil) tNil))) (tRs G rest)) (fun X hX => pss_cons (ps_par hX.g.calm (hX.nodup hnd) (hX.at' hi) (hX.at' hj) hij (by rw [hX.g.sc]; exact hx) (by rw [hX.g.sc]; exact hy) (pa_cons pe_dnewK (pa_cons (pe_lst pa_nil) pa_nil)) (hw _ hX.g.sc) rfl) (pssR hX rest)) fun X hX σ Hc H D R q =>
    fun p hp => ⟨Nat.zero_le _, fun l hl => ⟨_, _, rfl, by
      have g0 := go_new (o := .dK []) R hp
      have nd := own_ne_new R hp
      have hc := Same.free R.same hp
      have il := lt_of_N R hil
      have hs : ∀ {a : Nat} {s : Sl}, (env.set i (.dk p []))[a]? = some s → (a = i ∧ s = .dk p []) ∨ (a ≠ i ∧ env[a]? = some s) := by
        intro a s e
        by_cases hj : a = i
        · subst hj
          rw [List.getElem?_set_self hil] at e
          cases e
          exact .inl ⟨rfl, rfl⟩
        · rw [List.getElem?_set_ne (Ne.symm hj)] at e
          exact .inr ⟨hj, e⟩
      have g : Go Hc H σ env Hc (upd H p (.dK [])) (σ.set i (some (.ref p))) (env.set i (.dk p [])) := by
        refine ⟨⟨g0.rep.same, fun j s e => ?_, fun j l s t a h1 h2 h3 h4 h5 h6 => ?_, by rw [List.length_set, List.length_set]; exact R.len⟩, g0.core, g0.kp, g0.out, fun a o => ?_, g0.ex⟩
        · rcases hs e with ⟨e1, e2'⟩ | ⟨e1, e2'⟩
          · subst e1 e2'
            rw [List.getElem?_set_self il]
            exact ⟨[], rfl, hc, upd_same, trivial⟩
          · rw [List.getElem?_set_ne (Ne.symm e1)]
            exact g0.rep.ok j s e2'
        · rcases hs h1 with ⟨e1, e3⟩ | ⟨e1, e3⟩
          · subst e1
            rcases hs h2 with ⟨f1, f3⟩ | ⟨f1, f3⟩
            · exact f1.symm
            · rw [List.getElem?_set_self il] at h5
              cases h5
              rw [List.getElem?_set_ne (Ne.symm f1)] at h6
              exact (nd ⟨_, _, f3, h4, h6⟩).elim
          · rw [List.getElem?_set_ne (Ne.symm e1)] at h5
            rcases hs h2 with ⟨f1, f3⟩ | ⟨f1, f3⟩
            · subst f1
              rw [List.getElem?_set_self il] at h6
              cases h6
              exact (nd ⟨_, _, e3, h3, h5⟩).elim
            · rw [List.getElem?_set_ne (Ne.symm f1)] at h6
              exact R.inj j l s t a e3 f3 h3 h4 h5 h6
        · obtain ⟨j, s, e1, e2', e3⟩ := o
          rcases hs e1 with ⟨f1, f3⟩ | ⟨f1, f3⟩
          · subst f1
            rw [List.getElem?_set_self il] at e3
            cases e3
            exact .inr hp
          · rw [List.getElem?_set_ne (Ne.symm f1)] at e3
            exact .inl ⟨j, s, f3, e2', e3⟩
      have nw : Nw Hc (upd H p (.dK [])) (σ.set i (some (.ref p))) (env.set i (.dk p [])) l [] [] Hc (upd (upd H p (.dK [])) l (.lst [])) (env.set i (.dk p [])) := ⟨go_new g.rep hl, hl, upd_same, .nil, Same.free g.rep.same hl, own_ne_new g.rep hl⟩
      have g2 := go_asgOw (i := j) nw (lt_of_N g.rep (by rw [List.length_set]; exact hjl))
      exact tRs.use g2.rep (h p) (q.from (g.trans g2))⟩⟩
end TL

namespace TL
open PySem PySem.Spec PyProof.Rows L2
/-- a def that may be called -/
def Dc (P : Program) (w : World) (K : PySem.W.Frag) (mg : Str → Option Value) (base : Heap) (x : Str) (k : Nat) (ps : List Str) (sp : Sp) : Prop :=
  ∃ f fd, FnG P w K mg base k f fd ps sp ∧ mg x = some (.ref f) ∧ PySem.W.keepIn K (.ref f) = true ∧ Binds K fd ps []
theorem Dc.callee {P : Program} {w : World} {K : PySem.W.Frag} {mg : Str → Option Value} {base : Heap} {x : Str} {k j : Nat} {ps N : List Str} {sp : Sp} {st : Stmt} {A : Around} (D : Dc P w K mg base x j ps sp) (hr : Room k A) (hg : A.guards = some []) (h : j ≤ k) :
    ∃ f fd, Callee (GxOf P w K mg base N st A) x j f fd ps sp := by
  obtain ⟨f, fd, h1, h2, h3, h4⟩ := D
  exact ⟨f, fd, h1, hr.mono h, hg, h2, h3, h4⟩
theorem Callee.blk {G : Gx} {x : Str} {k : Nat} {f : Addr} {fd : FuncData} {ps : List Str} {sp : Sp} (C : Callee G x k f fd ps sp) (scope : Scope) : Callee (G.blk scope) x k f fd ps sp := ⟨C.fn, C.room, C.gd, C.mg, C.kp, C.bd⟩
theorem mem_ints {xs : List Int} {d : PyData} (h : d ∈ xs.map PyData.int) : ∃ z ∈ xs, d = .int z := by
  obtain ⟨z, hz, e⟩ := List.mem_map.mp h
  exact ⟨z, hz, e.symm⟩
theorem atI_int {α : Type} {l : List α} {i : Int} (h0 : 0 ≤ i) (h1 : i < l.length) : ∃ x ∈ l, atI l i = some x := by
  obtain ⟨j, ej⟩ := Int.eq_ofNat_of_zero_le h0
  have hj : j < l.length := by omega
  exact ⟨l[j], List.getElem_mem hj, by rw [ej]; exact atI_nat (List.getElem?_eq_getElem hj)⟩
def preOf (ds : List PyData) : Prop := ∃ xs, ds = [.list xs] ∧ xs ≠ [] ∧ xs.length < 100000
def postOf (ds : List PyData) (d : PyData) : Prop := ∃ xs, ds = [.list xs] ∧ d ∈ xs
/-- x, y = e, [], where the pair is made and taken apart -/
theorem r_unNew2 {G : Gx} {env : En} {N : DE} {rest : List Stmt} {e : Expr} {px py pz pt pos p2 : Pos} {x y : Str} (i j : Nat) {k1 k2} (h : W G e env fun d e1 => j < e1.length ∧ Rs G rest ((e1.set i (.va d)).set j (.ow [])) N) (hnd : G.N.Nodup)
    (hw : ∀ v : Env, v.scope = G.sc → swappedStores [.Tuple [.Name x px, .Name y py] k1 pt] (.Tuple [e, .List [] p2] k2 pz) v = pure none) (ns : noStar [e] = true := by rfl)
    (hi : G.N[i]? = some x := by rfl) (hj : G.N[j]? = some y := by rfl) (hx : Loc G.sc x := by first | exact Or.inl rfl | exact Or.inr rfl) (hy : Loc G.sc y := by first | exact Or.inl rfl | exact Or.inr rfl) :
    Rs G (.Assign [.Tuple [.Name x px, .Name y py] k1 pt] (.Tuple [e, .List [] p2] k2 pz) pos :: rest) env N :=
  Rs.of (fun X => tSeq (tAsg (tTup (tCons (tW G e) (tCons (tLst tNil) tNil))) (gTup X.K 2 (gCons (gName i) (gCons (gName j) gNil)))) (tRs G rest)) (fun X hX => pss_cons (ps_asg (pe_tup (pa_cons (peW hX.g e) (pa_cons (pe_lst pa_nil) pa_nil) (star_cons (noStar_cons ns).1)))
      (pg_tup hX.g.calm (pgs_cons (pg_name (i := i) (hX.nodup hnd) (hX.at' hi) (hX.loc hx) (.inl (hX.fn x))) (pgs_cons (pg_name (i := j) (hX.nodup hnd) (hX.at' hj) (hX.loc hy) (.inl (hX.fn y))) pgs_nil)) rfl rfl) rfl (hw _ hX.g.sc) rfl) (pssR hX rest)) fun X hX σ Hc H D R q =>
    tW.use R h fun v d e1 Hc1 H1 ⟨hjl, hr⟩ go t => ⟨Nat.zero_le _, fun l hl => ⟨by show 2 ≤ sizeLine; decide, fun T hT => by
      have hlT : l ≠ T := fun z => by
        subst z
        rw [upd_same] at hT
        cases hT
      have g1 := go_asg (j := i) (t := .va d) (o := some v) go.rep rfl ⟨v, rfl, t⟩
      have n1 := go_new (o := .lst []) g1.rep hl
      have n2 := go_new (o := .tup [v, .ref l]) n1.rep hT
      have nw : Nw Hc1 H1 (σ.set i (some v)) (e1.set i (.va d)) l [] [] Hc1 (upd (upd H1 l (.lst [])) T (.tup [v, .ref l])) (e1.set i (.va d)) :=
        ⟨n1.trans n2, hl, by rw [upd_ne hlT, upd_same], .nil, Same.free go.rep.same hl, own_ne_new g1.rep hl⟩
      have g2 := go_asgOw (i := j) nw (lt_of_N g1.rep (by rw [List.length_set]; exact hjl))
      exact ⟨T, _, rfl, SqT.of upd_same, rfl, v, [.ref l], rfl, .ref l, [], rfl, rfl, tRs.use g2.rep hr (q.from ((go.trans g1).trans g2))⟩⟩⟩
/-- the same, both plain locals -/
theorem r_parNew2 {G : Gx} {env : En} {N : DE} {rest : List Stmt} {e : Expr} {px py pz pt pos p2 : Pos} {x y : Str} (i j : Nat) {k1 k2} (h : W G e env fun d e1 => j < e1.length ∧ Rs G rest ((e1.set i (.va d)).set j (.ow [])) N) (hnd : G.N.Nodup)
    (hw : ∀ v : Env, v.scope = G.sc → swappedStores [.Tuple [.Name x px, .Name y py] k1 pt] (.Tuple [e, .List [] p2] k2 pz) v = pure (some [x, y])) (ns : noStar [e] = true := by rfl)
    (hij : i ≠ j := by decide) (hi : G.N[i]? = some x := by rfl) (hj : G.N[j]? = some y := by rfl) (hx : G.sc.names.lookup x = some .local := by rfl) (hy : G.sc.names.lookup y = some .local := by rfl) :
    Rs G (.Assign [.Tuple [.Name x px, .Name y py] k1 pt] (.Tuple [e, .List [] p2] k2 pz) pos :: rest) env N :=
  Rs.of (fun X => tSeq (tPar i j (tCons (tW G e) (tCons (tLst tNil) tNil))) (tRs G rest)) (fun X hX => pss_cons (ps_par hX.g.calm (hX.nodup hnd) (hX.at' hi) (hX.at' hj) hij (by rw [hX.g.sc]; exact hx) (by rw [hX.g.sc]; exact hy) (pa_cons (peW hX.g e) (pa_cons (pe_lst pa_nil) pa_nil) (star_cons (noStar_cons ns).1)) (hw _ hX.g.sc) rfl) (pssR hX rest)) fun X hX σ Hc H D R q =>
    tW.use R h fun v d e1 Hc1 H1 ⟨hjl, hr⟩ go t => ⟨Nat.zero_le _, fun l hl => ⟨v, .ref l, rfl, by
      have g1 := go_asg (j := i) (t := .va d) (o := some v) go.rep rfl ⟨v, rfl, t⟩
      have nw : Nw Hc1 H1 (σ.set i (some v)) (e1.set i (.va d)) l [] [] Hc1 (upd H1 l (.lst [])) (e1.set i (.va d)) := ⟨go_new g1.rep hl, hl, upd_same, .nil, Same.free go.rep.same hl, own_ne_new g1.rep hl⟩
      have g2 := go_asgOw (i := j) nw (lt_of_N g1.rep (by rw [List.length_set]; exact hjl))
      exact tRs.use g2.rep hr (q.from ((go.trans g1).trans g2))⟩⟩
end TL

namespace TL
open PySem PySem.Spec PyProof.Rows L2
def Sq (n : Nat) (t : Tb) : Prop := t.length = n ∧ ∀ r ∈ t, r.length = n
theorem rows_of {n : Nat} : ∀ {ds acc : List PyData}, All2 (fun _ y => ∃ r : List Int, y = rowL r ∧ r.length = n) ds acc → ∃ t : Tb, acc = t.map rowL ∧ t.length = ds.length ∧ ∀ r ∈ t, r.length = n
  | [], [], _ => ⟨[], rfl, rfl, fun _ h => by cases h⟩
  | _ :: _, _ :: _, ⟨⟨r, e, l⟩, h⟩ => by
    obtain ⟨t, e2, l2, h2⟩ := rows_of h
    exact ⟨r :: t, by rw [e, e2]; rfl, by rw [List.length_cons, List.length_cons, l2], fun s hs => by
      rcases List.mem_cons.mp hs with z | z
      · rw [z]; exact l
      · exact h2 s z⟩
  | [], _ :: _, h => h.elim
  | _ :: _, [], h => h.elim
theorem ints_of : ∀ {ds acc : List PyData}, All2 (fun _ y => ∃ z : Int, y = PyData.int z) ds acc → ∃ r : List Int, acc = r.map PyData.int ∧ r.length = ds.length
  | [], [], _ => ⟨[], rfl, rfl⟩
  | _ :: _, _ :: _, ⟨⟨r, e⟩, h⟩ => by
    obtain ⟨t, e2, l2⟩ := ints_of h
    exact ⟨r :: t, by rw [e, e2]; rfl, by rw [List.length_cons, List.length_cons, l2]⟩
  | [], _ :: _, h => h.elim
  | _ :: _, [], h => h.elim
theorem cj_grid {G' : Gx} {jx jy n : Nat} {sc2 : Scope} {y : Str} {py pos pr1 pr2 : Pos} {e1 elt : Expr} {e0 : En} {PF : List PyData → En → Prop} (Ec : Nat → En → Prop) (hn : n ≤ 100) (hm : G'.mg "range" = none) (hnd : G'.N.Nodup)
    (h0 : Ec 0 (e0.set jx .no)) (hx : ∀ c e, Ec c e → e.set jx .no = e) (hy : ∀ c e (i : Nat), Ec c e → (e.set jx (.va (.int (i : Int)))).set jy .no = e.set jx (.va (.int (i : Int))))
    (hr : ∀ c e (i : Nat), Ec c e → W G' e1 (e.set jx (.va (.int (i : Int)))) fun d e2 => d = .int (n : Int) ∧ e2 = e.set jx (.va (.int (i : Int))))
    (hel : ∀ c e (i j : Nat), i < n → j < n → c < n * n → Ec c e → W (G'.blk sc2) elt ((e.set jx (.va (.int (i : Int)))).set jy (.va (.int (j : Int)))) fun d e2 => (∃ z : Int, d = .int z) ∧ ∃ e3, Ec (c + 1) e3 ∧ e2.set jy .no = e3.set jx (.va (.int (i : Int))))
    (hF : ∀ (t : Tb) e, Sq n t → Ec (n * n) e → PF (t.map rowL) e)
    (hb : blkC G'.N G'.sc sc2 [(y, jy)] = true := by first | decide +kernel | (dsimp only [Gx.blk]; decide +kernel) | rfl) (hj : G'.N[jy]? = some y := by rfl)
    (hl : (relS sc2 G'.sc).names.lookup y = some .local ∨ (relS sc2 G'.sc).names.lookup y = some .cell := by first | exact .inl rfl | exact .inr rfl)
    (hf : sc2.names.lookup y = some .cell ∨ (relS sc2 G'.sc).names.lookup y = some .local := by first | exact .inl rfl | exact .inr rfl)
    (hg : GlG G' "range" := by rfl) (ns : noStar [e1] = true := by rfl) :
    CJ G' jx none (.ListComp elt [⟨.Name y py, .Call (.Name "range" pr1) [e1] [] pr2, [], 0⟩] sc2 pos) (rgD 0 n) e0 PF := by
  refine cj_all (fun _ d => ∃ r : List Int, d = rowL r ∧ r.length = n) (fun i e => Ec (i * n) e) (by rw [Nat.zero_mul]; exact h0) (fun i d e ed he => ?_) (fun acc e a he => ?_)
  · obtain ⟨hi, ed⟩ := rgD_get ed
    rw [Int.zero_add] at ed
    subst ed
    refine w_lc jy (t := none) (wi_rg hm (W.imp (hr _ e i he) fun d e2 ⟨q1, q2⟩ => ⟨n, q1, by omega, by omega, ?_⟩) hg ns) hnd hb hj hl hf
    subst q2
    rw [Int.toNat_natCast]
    refine ⟨by rw [rgD_len]; omega, cj_all (fun _ d => ∃ z : Int, d = .int z) (fun j e4 => ∃ e3, Ec (i * n + j) e3 ∧ e4 = e3.set jx (.va (.int (i : Int)))) ⟨e, he, hy _ e i he⟩ (fun j d e4 ed2 he4 => ?_) (fun acc e4 a he4 => ?_)⟩
    · obtain ⟨hj2, ed2⟩ := rgD_get ed2
      rw [Int.zero_add] at ed2
      subst ed2
      obtain ⟨e3, h3, ee⟩ := he4
      subst ee
      have hc : i * n + j < n * n := by
        have : i * n + n ≤ n * n := by
          have h2 : (i + 1) * n ≤ n * n := Nat.mul_le_mul_right n hi
          rw [Nat.add_mul, Nat.one_mul] at h2
          exact h2
        omega
      exact hel (i * n + j) e3 i j hi hj2 hc h3
    · obtain ⟨e3, h3, ee⟩ := he4
      subst ee
      obtain ⟨r, er, lr⟩ := ints_of a
      subst er
      rw [rgD_len] at lr h3
      refine ⟨⟨r, rfl, lr⟩, ?_⟩
      rw [List.set_set, hx _ e3 h3, Nat.add_mul, Nat.one_mul]
      exact h3
  · obtain ⟨t, et, lt, ht⟩ := rows_of a
    subst et
    rw [rgD_len] at lt he
    exact hF t e ⟨lt, ht⟩ he
end TL

namespace TL
open PySem PySem.Spec PyProof.Rows L2
theorem foldMax : ∀ (r : List Int) (x : Int), (r.foldl max x = x ∨ r.foldl max x ∈ r) ∧ x ≤ r.foldl max x ∧ ∀ y ∈ r, y ≤ r.foldl max x
  | [], x => ⟨.inl rfl, Int.le_refl _, fun _ h => by cases h⟩
  | z :: r, x => by
    obtain ⟨h1, h2, h3⟩ := foldMax r (max x z)
    rw [List.foldl_cons]
    refine ⟨?_, by omega, fun y hy => ?_⟩
    · rcases h1 with e | e
      · rw [e]
        by_cases h : x ≤ z
        · exact .inr (by rw [Int.max_eq_right h]; exact List.mem_cons_self)
        · exact .inl (Int.max_eq_left (by omega))
      · exact .inr (List.mem_cons_of_mem _ e)
    · rcases List.mem_cons.mp hy with e | e
      · rw [e]
        omega
      · exact h3 y e
def rMaxT (K : PySem.W.Frag) (A : Around) : List V → Hp → VK → Prop := fun vs H Q => ∃ (a : Addr) (ns : List Int), vs = [V.ref a] ∧ SqT K H a (ns.map V.int) ∧ ns ≠ [] ∧ A.units + 64 < cLine ∧ ∀ m, m ∈ ns → (∀ y, y ∈ ns → y ≤ m) → Q (.int m) H
theorem dps_ints {K : PySem.W.Frag} {H : Hp} : ∀ ns : List Int, DpAll K H (ns.map V.int) (ns.map PyData.int)
  | [] => .nil
  | n :: ns => .cons (.int n) (dps_ints ns)
theorem dep_ints : ∀ ns : List Int, PyData.depthAll (ns.map PyData.int) ≤ 1
  | [] => by simp [PyData.depthAll]
  | n :: ns => by
    have := dep_ints ns
    simp only [List.map_cons, PyData.depthAll, PyData.depth]
    omega
theorem cr_maxT {X : Cx} (hc : X.calm = true) : CallR X (.builtin "max") (rMaxT X.K X.A) := by
  intro pins s σ H vs us Q I r h
  obtain ⟨a, ns, e, hs, hne, hu, q⟩ := h
  subst e
  obtain ⟨its, rv, ⟨o, ho, hcl, n, hd⟩, _⟩ := I.tuple hs
  rw [Vals.ref1 r]
  obtain ⟨as, rd⟩ := Dp.readsAll I (ns.map PyData.int) _ its (dps_ints ns) rv
  cases ns with
  | nil => exact absurd rfl hne
  | cons x xs =>
    rw [List.map_cons] at rd
    refine PySem.W.max_tuple_data (I.ok.hd hc) (vs := its.toArray) ⟨o, ho, hcl, n, hd⟩ (by simpa using rd) ⟨fun p hp q hq => ?_, fun p hp => ?_⟩ ?_ fun i v h' tk bs hv hr hk => ?_
    · have hp' : p ∈ (x :: xs).map PyData.int := hp
      have hq' : q ∈ (x :: xs).map PyData.int := hq
      obtain ⟨y, _, e1⟩ := List.mem_map.mp hp'
      obtain ⟨z, _, e2⟩ := List.mem_map.mp hq'
      rw [← e1, ← e2]
      first | rfl | simp [PySem.W.alike] | decide
    · have hp' : p ∈ (x :: xs).map PyData.int := hp
      obtain ⟨y, _, e1⟩ := List.mem_map.mp hp'
      rw [← e1]
      exact fun z => by cases z
    · have := dep_ints (x :: xs)
      rw [List.map_cons] at this
      omega
    · rw [PySem.W.maxD_ints] at hr
      cases hr
      obtain ⟨h1, h2, h3⟩ := foldMax xs x
      refine ⟨.int (xs.foldl max x), H, I.kept hk, ⟨_, rfl⟩, q _ ?_ fun y hy => ?_⟩
      · rcases h1 with e | e
        · rw [e]
          exact List.mem_cons_self
        · exact List.mem_cons_of_mem _ e
      · rcases List.mem_cons.mp hy with e | e
        · rw [e]
          exact h2
        · exact h3 y e
/-- max of a tuple of ints -/
theorem w_maxT {G : Gx} {env : En} {P : PyData → En → Prop} {e : Expr} {p pos : Pos} (hu : G.A.units + 64 < cLine) (hm : G.mg "max" = none) (h : W G e env fun d e1 => ∃ zs : List Int, d = .tuple (zs.map PyData.int) ∧ zs ≠ [] ∧ ∀ m, m ∈ zs → (∀ y, y ∈ zs → y ≤ m) → P (.int m) e1) (hg : GlG G "max" := by rfl) (ns : noStar [e] = true := by rfl) : W G (.Call (.Name "max" p) [e] [] pos) env P :=
  w_callB (r := fun X => rMaxT X.K X.A) (fun X hX => cr_maxT hX.calm) boot_max hm hg (fun X hX => W.imp h fun d e1 ⟨zs, ed, ne, pn⟩ Hc H vs Q s t q => by
    subst ed
    cases t with
    | cons t u =>
      cases u
      cases t with
      | tup m k =>
        have ek := Trs.of_ints k
        subst ek
        exact ⟨_, zs, rfl, (m.mono s).sq, ne, by rw [hX.A]; exact hu, fun m hm hy => q _ _ Hc H (pn m hm hy) (.refl s) (.int _)⟩) ns (by decide) (by decide)
end TL

namespace TL
open PySem PySem.Spec PyProof.Rows L2
/-! what may be shown -/
structure NB (B D : Nat) (d : PyData) : Prop where
  sh : d.showable = true
  nd : d.hasDict = false
  ln : d.shown.length ≤ B
  dp : d.depth ≤ D
theorem NB.mono {B D B' D' : Nat} {d : PyData} (h : NB B D d) (h1 : B ≤ B') (h2 : D ≤ D') : NB B' D' d := ⟨h.sh, h.nd, Nat.le_trans h.ln h1, Nat.le_trans h.dp h2⟩
def tS (i : Int) : Str := Str.ofString (toString i)
theorem tS_len {i : Int} (h : i.natAbs < 10 ^ 12) : (tS i).length ≤ 13 := by
  have e := int_text_length_le10 (k := 12) (by decide) h
  unfold tS
  rw [PySem.ofString_length]
  simpa using e
theorem log_small {n : Nat} (h : n < 10 ^ 12) : n.log2 < 1920 := by
  by_cases h0 : n = 0
  · subst h0
    decide
  · exact (Nat.log2_lt h0).mpr (Nat.lt_trans h (by
      have e : (10 : Nat) ^ 12 ≤ 2 ^ 40 := by decide
      exact Nat.lt_of_le_of_lt e (Nat.pow_lt_pow_right (by decide) (by decide))))
theorem nb_int {i : Int} (h : i.natAbs < 10 ^ 12) : NB 13 1 (.int i) :=
  ⟨by simp only [PyData.showable]; exact decide_eq_true (log_small h), by simp only [PyData.hasDict], by simp only [PyData.shown]; exact tS_len h, by simp [PyData.depth]⟩
theorem nb_str {x : Str} (h : x.cps.toList.all (fun c => decide (c < 1114112)) = true) : NB (10 * x.length + 2) 1 (.str x) :=
  ⟨by simp only [PyData.showable], by simp only [PyData.hasDict], by
    simp only [PyData.shown]
    exact StrLaws.reprText_len x fun c hc => Nat.lt_trans (of_decide_eq_true (List.all_eq_true.mp h c hc)) (by decide), by simp [PyData.depth]⟩
theorem nb_bool {b : Bool} : NB 5 1 (.bool b) := ⟨by simp only [PyData.showable], by simp only [PyData.hasDict], by cases b <;> (simp only [PyData.shown]; decide), by simp [PyData.depth]⟩
theorem nb_none : NB 5 1 .none := ⟨by simp only [PyData.showable], by simp only [PyData.hasDict], by simp only [PyData.shown]; decide, by simp [PyData.depth]⟩
theorem nb_all {B D : Nat} : ∀ {xs : List PyData}, (∀ x ∈ xs, NB B D x) → PyData.showableAll xs = true ∧ PyData.hasDictAll xs = false ∧ ((PyData.shownAll xs).map (·.length)).sum ≤ xs.length * B ∧ (PyData.shownAll xs).length = xs.length ∧ PyData.depthAll xs ≤ D
  | [], _ => ⟨by simp [PyData.showableAll], by simp [PyData.hasDictAll], by simp [PyData.shownAll], by simp [PyData.shownAll], by simp [PyData.depthAll]⟩
  | x :: xs, h => by
    obtain ⟨h1, h2, h3, h4, h5⟩ := nb_all fun y hy => h y (List.mem_cons_of_mem _ hy)
    have k := h x List.mem_cons_self
    refine ⟨by simp [PyData.showableAll, k.sh, h1], by simp [PyData.hasDictAll, k.nd, h2], ?_, by simp [PyData.shownAll, h4], ?_⟩
    · simp only [PyData.shownAll, List.map_cons, List.sum_cons, List.length_cons, Nat.add_mul, Nat.one_mul]
      have := k.ln
      omega
    · simp only [PyData.depthAll]
      have := k.dp
      omega
theorem nb_list {B D : Nat} {xs : List PyData} (h : ∀ x ∈ xs, NB B D x) : NB (xs.length * (B + 2) + 3) (D + 1) (.list xs) := by
  obtain ⟨h1, h2, h3, h4, h5⟩ := nb_all h
  refine ⟨by simp only [PyData.showable, h1], by simp only [PyData.hasDict, h2], ?_, by simp only [PyData.depth]; omega⟩
  simp only [PyData.shown]
  have := listText_len_le (PyData.shownAll xs)
  rw [h4] at this
  rw [Nat.mul_add]
  omega
theorem nb_tuple {B D : Nat} {xs : List PyData} (h : ∀ x ∈ xs, NB B D x) : NB (xs.length * (B + 2) + 3) (D + 1) (.tuple xs) := by
  obtain ⟨h1, h2, h3, h4, h5⟩ := nb_all h
  refine ⟨by simp only [PyData.showable, h1], by simp only [PyData.hasDict, h2], ?_, by simp only [PyData.depth]; omega⟩
  simp only [PyData.shown]
  have := tupleText_len_le (PyData.shownAll xs)
  rw [h4] at this
  rw [Nat.mul_add]
  omega
def Small (t : Tb) : Prop := t.length ≤ 16 ∧ ∀ r ∈ t, r.length ≤ 16 ∧ ∀ x ∈ r, x.natAbs < 10 ^ 12
theorem nb_row {r : List Int} (h : r.length ≤ 16 ∧ ∀ x ∈ r, x.natAbs < 10 ^ 12) : NB 243 2 (rowT r) :=
  (nb_tuple (B := 13) (D := 1) (xs := r.map PyData.int) fun x hx => by
    obtain ⟨z, hz, e⟩ := mem_ints hx
    rw [e]
    exact nb_int (h.2 z hz)).mono (by rw [List.length_map]; have := h.1; omega) (Nat.le_refl _)
theorem nb_tb {t : Tb} (h : Small t) : NB 3923 3 (tbT t) :=
  (nb_tuple (B := 243) (D := 2) (xs := t.map rowT) fun x hx => by
    obtain ⟨r, hr, e⟩ := List.mem_map.mp hx
    rw [← e]
    exact nb_row (h.2 r hr)).mono (by rw [List.length_map]; have := h.1; omega) (Nat.le_refl _)
/-! texts of tables -/
def rowS (r : List Int) : Str := Str.join " " (r.map tS)
def textOf (t : Tb) : Str := Str.join "/" (t.map rowS)
theorem All2.comp {α β γ : Type} {R : α → β → Prop} {S : β → γ → Prop} : ∀ {as : List α} {bs : List β} {cs : List γ}, All2 R as bs → All2 S bs cs → All2 (fun a c => ∃ b, R a b ∧ S b c) as cs
  | [], [], [], _, _ => trivial
  | _ :: _, _ :: _, _ :: _, ⟨h1, h2⟩, ⟨k1, k2⟩ => ⟨⟨_, h1, k1⟩, All2.comp h2 k2⟩
  | [], _ :: _, _, h, _ => h.elim
  | _ :: _, [], _, h, _ => h.elim
  | _, [], _ :: _, _, k => k.elim
  | _, _ :: _, [], _, k => k.elim
theorem All2.eq_mapM {α β : Type} {R : α → β → Prop} {g : α → β} : ∀ {as : List α} {bs : List β}, (∀ a ∈ as, ∀ b, R a b → b = g a) → All2 R as bs → bs = as.map g
  | [], [], _, _ => rfl
  | a :: as, b :: bs, f, ⟨h, k⟩ => by
    rw [f a List.mem_cons_self b h, All2.eq_mapM (fun a ha => f a (List.mem_cons_of_mem _ ha)) k]
    rfl
  | [], _ :: _, _, h => h.elim
  | _ :: _, [], _, h => h.elim
theorem sum_le {α : Type} {f : α → Nat} {B : Nat} : ∀ {l : List α}, (∀ x ∈ l, f x ≤ B) → (l.map f).sum ≤ l.length * B
  | [], _ => by simp
  | x :: l, h => by
    have h1 := h x List.mem_cons_self
    have h2 := sum_le fun y hy => h y (List.mem_cons_of_mem _ hy)
    simp only [List.map_cons, List.sum_cons, List.length_cons, Nat.add_mul, Nat.one_mul]
    omega
theorem rowS_len {r : List Int} (h : r.length ≤ 16 ∧ ∀ x ∈ r, x.natAbs < 10 ^ 12) : (rowS r).length ≤ 224 := by
  have h1 := StrLaws.join_length_le " " (r.map tS)
  have h2 : ((r.map tS).map (·.length)).sum ≤ (r.map tS).length * 13 := sum_le fun x hx => by
    obtain ⟨z, hz, e⟩ := List.mem_map.mp hx
    rw [← e]
    exact tS_len (h.2 z hz)
  have e : (Str.ofString " ").length = 1 := by decide
  rw [List.length_map] at h2
  simp only [List.length_map, e] at h1
  have := h.1
  unfold rowS
  omega
theorem textOf_len {t : Tb} (h : Small t) : (textOf t).length ≤ 3600 := by
  have h1 := StrLaws.join_length_le "/" (t.map rowS)
  have h2 : ((t.map rowS).map (·.length)).sum ≤ (t.map rowS).length * 224 := sum_le fun x hx => by
    obtain ⟨z, hz, e⟩ := List.mem_map.mp hx
    rw [← e]
    exact rowS_len (h.2 z hz)
  have e : (Str.ofString "/").length = 1 := by decide
  rw [List.length_map] at h2
  simp only [List.length_map, e] at h1
  have := h.1
  unfold textOf
  omega
def preTx (ds : List PyData) : Prop := ∃ d t, ds = [d] ∧ IsTb d t ∧ Small t
def postTx (ds : List PyData) (d : PyData) : Prop := ∀ d0 t, ds = [d0] → IsTb d0 t → d = .str (textOf t)
def preLk (ds : List PyData) : Prop := ∃ a B D, ds = [a, a] ∧ isDisplay a = true ∧ NB B D a ∧ B ≤ 16777216 ∧ D ≤ 50
def postLk (_ : List PyData) (d : PyData) : Prop := d = .bool true
end TL

namespace TL
open PySem PySem.Spec PyProof.Rows L2
/-- 1 + the greatest, if there is one -/
def IsMany (t : Tb) (n : Int) : Prop := (t = [] ∧ n = 0) ∨ ((∃ r ∈ t, n - 1 ∈ r) ∧ ∀ r ∈ t, ∀ x ∈ r, x ≤ n - 1)
def isMaxRow (d y : PyData) : Prop := ∀ r : List Int, d = rowT r → ∃ m ∈ r, y = .int m ∧ ∀ z ∈ r, z ≤ m
theorem maxRows : ∀ {t : Tb} {acc : List PyData}, All2 isMaxRow (t.map rowT) acc → ∃ zs : List Int, acc = zs.map PyData.int ∧ All2 (fun r m => m ∈ r ∧ ∀ z ∈ r, z ≤ m) t zs
  | [], [], _ => ⟨[], rfl, trivial⟩
  | r :: t, _ :: _, ⟨h1, h2⟩ => by
    obtain ⟨m, hm, e, hz⟩ := h1 r rfl
    obtain ⟨zs, e2, a⟩ := maxRows h2
    exact ⟨m :: zs, by rw [e, e2]; rfl, ⟨hm, hz⟩, a⟩
  | [], _ :: _, h => h.elim
  | _ :: _, [], h => h.elim
theorem rowT_inj {r s : List Int} (h : rowT r = rowT s) : r = s := by
  have := isTb_inj (t := [r]) (u := [s]) (isTb_T [r]) (by
    have e : tbT [r] = tbT [s] := by unfold tbT; rw [List.map_cons, List.map_cons, h]
    rw [e]
    exact isTb_T [s])
  injection this
theorem tbT_inj {r s : Tb} (h : tbT r = tbT s) : r = s := isTb_inj (isTb_T r) (by rw [h]; exact isTb_T s)
theorem All2.memR {α β : Type} {R : α → β → Prop} : ∀ {as : List α} {bs : List β}, All2 R as bs → (∀ b ∈ bs, ∃ a ∈ as, R a b) ∧ ∀ a ∈ as, ∃ b ∈ bs, R a b
  | [], [], _ => ⟨(fun _ h => by cases h), (fun _ h => by cases h)⟩
  | a :: as, b :: bs, ⟨h, k⟩ => by
    obtain ⟨k1, k2⟩ := All2.memR k
    refine ⟨fun c hc => ?_, fun c hc => ?_⟩
    · rcases List.mem_cons.mp hc with e | e
      · rw [e]; exact ⟨a, List.mem_cons_self, h⟩
      · obtain ⟨d, hd, hr⟩ := k1 c e
        exact ⟨d, List.mem_cons_of_mem _ hd, hr⟩
    · rcases List.mem_cons.mp hc with e | e
      · rw [e]; exact ⟨b, List.mem_cons_self, h⟩
      · obtain ⟨d, hd, hr⟩ := k2 c e
        exact ⟨d, List.mem_cons_of_mem _ hd, hr⟩
  | [], _ :: _, h => h.elim
  | _ :: _, [], h => h.elim
def preMy (ds : List PyData) : Prop := ∃ t : Tb, ds = [tbT t] ∧ (∀ r ∈ t, r ≠ []) ∧ t.length < 1000
def postMy (ds : List PyData) (d : PyData) : Prop := ∀ t, ds = [tbT t] → ∃ n, d = .int n ∧ IsMany t n
end TL

namespace TL
open PySem PySem.Spec PyProof.Rows L2
theorem str_of_tl {x : Str} : x = ⟨(tl x).toArray⟩ := by cases x; rfl
theorem len_of_tl (x : Str) : x.length = (tl x).length := by cases x; simp [Str.length]
theorem tl_app (a b : Str) : tl (a ++ b) = tl a ++ tl b := by
  show (a.cps ++ b.cps).toList = _
  rw [Array.toList_append]
theorem tS_tl (n : Nat) : tl (tS (n : Int)) = numL n := tl_num n
def swH (c : Nat) : List Nat → Bool
  | [] => false
  | b :: _ => b == c
theorem sw1 {T y : Str} {A B : List Nat} {c : Nat} (hT : tl T = A ++ B) (hy : y.cps = #[c]) : Txt.startswith3 T y (A.length : Int) = swH c B := by
  have hl := len_of_tl T
  rw [hT, List.length_append] at hl
  have hf : fromIndex T.length (A.length : Int) = A.length := by
    unfold fromIndex
    rw [if_neg (by omega)]
    omega
  have hyl : y.length = 1 := by
    show y.cps.size = 1
    rw [hy]
    rfl
  unfold Txt.startswith3
  rw [hf, hyl]
  cases B with
  | nil =>
    have : ¬ A.length + 1 ≤ T.length := by simp at hl; omega
    simp [this, swH]
  | cons b B =>
    have h1 : A.length + 1 ≤ T.length := by simp at hl; omega
    simp only [h1, decide_true, Bool.true_and]
    show (T.cps.extract A.length (A.length + y.length) == y.cps) = (b == c)
    rw [hyl, hy]
    have e : T.cps.extract A.length (A.length + 1) = #[b] := by
      apply Array.toList_inj.mp
      rw [Array.toList_extract]
      show ((tl T).extract A.length (A.length + 1)) = [b]
      rw [hT, List.extract_eq_take_drop]
      simp
    rw [e]
    by_cases hb : b = c
    · subst hb
      simp
    · have : (b == c) = false := by simpa using hb
      rw [this]
      simp [hb]
theorem cut1 {T : Str} {A D B : List Nat} (hT : tl T = A ++ (D ++ B)) : cutS T (some (A.length : Int)) (some ((A.length : Int) + (D.length : Int))) = ⟨D.toArray⟩ := by
  have hl := len_of_tl T
  rw [hT, List.length_append, List.length_append] at hl
  have e : ((A.length : Int) + (D.length : Int)) = ((A.length + D.length : Nat) : Int) := by push_cast; rfl
  unfold cutS
  rw [e, HT.sIx_nat, HT.sIx_nat, Nat.min_eq_left (by omega), Nat.min_eq_left (by omega)]
  congr 2
  show ((tl T).drop A.length).take _ = D
  rw [hT, List.drop_left]
  have : A.length + D.length - A.length = D.length := by omega
  rw [this, List.take_left]
/-! the signs of a row, of a table -/
def rowC : List Nat → List Nat
  | [] => []
  | [x] => numL x
  | x :: y :: r => numL x ++ 32 :: rowC (y :: r)
def tabC : List (List Nat) → List Nat
  | [] => []
  | [r] => rowC r
  | r :: s :: t => rowC r ++ 47 :: tabC (s :: t)
abbrev up (r : List Nat) : List Int := r.map fun (n : Nat) => (n : Int)
theorem rowS_tl : ∀ r : List Nat, tl (rowS (up r)) = rowC r
  | [] => rfl
  | [x] => tS_tl x
  | x :: y :: r => by
    have ih := rowS_tl (y :: r)
    show tl (tS (x : Int) ++ (" " : Str) ++ rowS (up (y :: r))) = _
    rw [tl_app, tl_app, ih, tS_tl]
    show numL x ++ [32] ++ _ = _
    rw [List.append_assoc]
    rfl
theorem textOf_tl : ∀ t : List (List Nat), tl (textOf (t.map up)) = tabC t
  | [] => rfl
  | [r] => rowS_tl r
  | r :: s :: t => by
    have ih := textOf_tl (s :: t)
    show tl (rowS (up r) ++ ("/" : Str) ++ textOf ((s :: t).map up)) = _
    rw [tl_app, tl_app, ih, rowS_tl]
    show rowC r ++ [47] ++ _ = _
    rw [List.append_assoc]
    rfl
theorem lenS {T : Str} (h : T.length ≤ sizeLine) : lenD (.str T) = some T.length := if_pos h
theorem num_head : ∀ (n : Nat), 1 ≤ n → ∀ c l, numL n = c :: l → c ≠ 48 := by
  intro n
  induction n using Nat.strongRecOn with
  | _ n ih =>
    intro h1 c l e
    by_cases h : n < 10
    · rw [numL_lt h] at e
      cases e
      omega
    · rw [numL_step (by omega)] at e
      cases hq : numL (n / 10) with
      | nil => exact absurd hq (numL_ne _)
      | cons c' l' =>
        rw [hq] at e
        cases e
        exact ih (n / 10) (by omega) (by omega) _ _ hq
theorem num_len {n : Nat} (h : n < 1000) : 1 ≤ (numL n).length ∧ (numL n).length ≤ 3 := by
  refine ⟨?_, numL_len (k := 3) (by decide) h⟩
  cases hq : numL n with
  | nil => exact absurd hq (numL_ne _)
  | cons _ _ => simp
/-- what stands behind an entry is no digit -/
def noDig : List Nat → Prop
  | [] => True
  | b :: _ => b < 48 ∨ 57 < b
def preEe (ds : List PyData) : Prop := ∃ (T : Str) (A B : List Nat) (n : Nat), ds = [.str T, .int (A.length : Int)] ∧ tl T = A ++ (numL n ++ B) ∧ n < 1000 ∧ T.length ≤ 100000 ∧ noDig B
def postEe (ds : List PyData) (d : PyData) : Prop := ∀ (T : Str) (A B : List Nat) (n : Nat), ds = [.str T, .int (A.length : Int)] → tl T = A ++ (numL n ++ B) → n < 1000 → noDig B → d = .int ((A.length : Int) + ((numL n).length : Int))
def rowEnd : List Nat → Prop
  | [] => True
  | b :: _ => b = 47
def preRr (ds : List PyData) : Prop := ∃ (T : Str) (A B : List Nat) (r : List Nat) (m : Nat), ds = [.str T, .int (A.length : Int), .int (m : Int)] ∧ tl T = A ++ (rowC r ++ B) ∧ r ≠ [] ∧ (∀ x ∈ r, x < 1000) ∧ r.length ≤ m ∧ m ≤ 16 ∧ T.length ≤ 100000 ∧ rowEnd B
def postRr (ds : List PyData) (d : PyData) : Prop := ∀ (T : Str) (A B : List Nat) (r : List Nat) (m : Nat), ds = [.str T, .int (A.length : Int), .int (m : Int)] → tl T = A ++ (rowC r ++ B) → r ≠ [] → (∀ x ∈ r, x < 1000) → r.length ≤ m → rowEnd B →
  d = .tuple [.list ((up r).map .int), .int ((A.length : Int) + ((rowC r).length : Int))]
def preRd (ds : List PyData) : Prop := ∃ (t : List (List Nat)) (n : Nat), ds = [.str (textOf (t.map up))] ∧ t.length = n ∧ (∀ r ∈ t, r.length = n ∧ ∀ x ∈ r, x < 1000) ∧ n ≤ 16
def postRd (ds : List PyData) (d : PyData) : Prop := ∀ (t : List (List Nat)) (n : Nat), ds = [.str (textOf (t.map up))] → t.length = n → (∀ r ∈ t, r.length = n ∧ ∀ x ∈ r, x < 1000) → n ≤ 16 → d = tbT (dy (t.map up))
structure RrG where
  T : Str
  A : List Nat
  B : List Nat
  r : List Nat
  m : Nat
def preRg (g : RrG) (ds : List PyData) : Prop := ds = [.str g.T, .int (g.A.length : Int), .int (g.m : Int)] ∧ tl g.T = g.A ++ (rowC g.r ++ g.B) ∧ g.r ≠ [] ∧ (∀ x ∈ g.r, x < 1000) ∧ g.r.length ≤ g.m ∧ g.m ≤ 16 ∧ g.T.length ≤ 100000 ∧ rowEnd g.B
def postRg (g : RrG) (_ : List PyData) (d : PyData) : Prop := d = .tuple [.list ((up g.r).map .int), .int ((g.A.length : Int) + ((rowC g.r).length : Int))]
def rowTl : List Nat → List Nat
  | [] => []
  | y :: r => 32 :: rowC (y :: r)
theorem rowC_cons (x : Nat) (r : List Nat) : rowC (x :: r) = numL x ++ rowTl r := by
  cases r with
  | nil =>
    show numL x = numL x ++ []
    rw [List.append_nil]
  | cons y r => rfl
def tabTl : List (List Nat) → List Nat
  | [] => []
  | s :: t => 47 :: tabC (s :: t)
theorem tabC_cons (r : List Nat) (t : List (List Nat)) : tabC (r :: t) = rowC r ++ tabTl t := by
  cases t with
  | nil =>
    show rowC r = rowC r ++ []
    rw [List.append_nil]
  | cons y r => rfl
theorem tabTl_end (t : List (List Nat)) : rowEnd (tabTl t) := by cases t <;> first | trivial | rfl
theorem small_up {t : List (List Nat)} {n : Nat} (h1 : t.length = n) (h2 : ∀ r ∈ t, r.length = n ∧ ∀ x ∈ r, x < 1000) (h3 : n ≤ 16) : Small (t.map up) := by
  refine ⟨by rw [List.length_map]; omega, fun r hr => ?_⟩
  obtain ⟨s, hs, e⟩ := List.mem_map.mp hr
  subst e
  refine ⟨by rw [List.length_map]; have := (h2 s hs).1; omega, fun x hx => ?_⟩
  obtain ⟨y, hy, e⟩ := List.mem_map.mp hx
  subst e
  have := (h2 s hs).2 y hy
  show y < 10 ^ 12
  exact Nat.lt_trans this (by decide)
def preRe (t : List (List Nat)) (ds : List PyData) : Prop := ds = [.str (textOf (t.map up))] ∧ t.length ≤ 16 ∧ ∀ r ∈ t, r.length = t.length ∧ ∀ x ∈ r, x < 1000
def postRe (t : List (List Nat)) (_ : List PyData) (d : PyData) : Prop := d = tbT (dy (t.map up))
/-- x = [..], to be changed later -/
theorem r_lstOw {G : Gx} {env : En} {N : DE} {rest : List Stmt} {es : List Expr} {px pos p2 : Pos} {x : Str} (i : Nat) (hnd : G.N.Nodup) (h : WA G es env fun ds e1 => ds.length ≤ sizeLine ∧ i < e1.length ∧ Rs G rest (e1.set i (.ow ds)) N) (ns : noStar es = true := by rfl) (hi : G.N[i]? = some x := by rfl) (hx : Loc G.sc x := by first | exact Or.inl rfl | exact Or.inr rfl) : Rs G (.Assign [.Name x px] (.List es p2) pos :: rest) env N :=
  Rs.of (fun X => tSeq (tAsg (tLst (tWA G es)) (gName i)) (tRs G rest)) (fun X hX => pss_cons (ps_set (i := i) (hX.nodup hnd) (hX.at' hi) (hX.loc hx) (pe_lst (paW hX.g es ns)) rfl (.inl (hX.fn x))) (pssR hX rest)) fun X hX σ Hc H D R q =>
    tWA.use R h fun vs ds e1 Hc1 H1 ⟨hl, hil, hr⟩ go t => ⟨by rw [t.length]; exact hl, fun p hp => by
      have old : H p = none := by
        cases z : H p with
        | none => rfl
        | some o => exact absurd hp (go.ex p (by rw [z]; simp))
      have nw : Nw Hc H σ env p vs ds Hc1 (upd H1 p (.lst vs)) e1 := ⟨go.trans (go_new go.rep hp), old, upd_same, t, Same.free go.rep.same hp, own_ne_new go.rep hp⟩
      have g := go_asgOw nw (lt_of_N go.rep hil)
      exact tRs.use g.rep hr (q.from g)⟩
end TL

namespace TL
open PySem PySem.Spec PyProof.Rows L2
/-! the script, the start of the draws -/
section
variable {G : Gx} {env : En} {N : DE} {P : PyData → En → Prop} {a b : Expr} {pos px p2 : Pos} {x : Str}
theorem cut_ints (ns : List Int) (lo hi : Option Int) : ∃ ms : List Int, cutV (ns.map V.int) lo hi = ms.map V.int ∧ ms.length ≤ ns.length := by
  refine ⟨(ns.drop (HT.sIx ns.length 0 lo)).take (HT.sIx ns.length ns.length hi - HT.sIx ns.length 0 lo), ?_, ?_⟩
  · unfold cutV
    rw [List.length_map, List.map_take, List.map_drop]
  · rw [List.length_take, List.length_drop]
    omega
/-- x[b:] of the script -/
theorem w_rawFrom (i : Nat) {r : Addr} {ns : List Int} {φ : Hp → Prop} (he : env[i]? = some (.raw (.ref r) φ)) (hφ : ∀ Hc, φ Hc → SqL G.K Hc r (ns.map V.int)) (h : W G b env fun d e1 => ∃ j, d = .int j ∧ e1 = env ∧ ∀ ms : List Int, ms.length ≤ ns.length → P (.list (ms.map .int)) env)
    (hN : G.N[i]? = some x := by rfl) (hv : Vis G.sc x := by first | exact Or.inl rfl | exact Or.inr (Or.inl rfl) | exact Or.inr (Or.inr rfl)) (hd : (x == ("__debug__" : Str)) = false := by decide) (hcd : (x == ("__classdict__" : Str)) = false := by decide) :
    W G (.Subscript (.Name x px) (.Slice (some b) none none p2) pos) env P :=
  W.of (fun X => tSl (rSlL X.K) (tVar i) (tPart (tW G b)) tNoPart) (fun X hX => pe_slice sl_list (pvG hX i hN hv hd hcd) (po_some (peW hX b)) po_none) fun X hX σ Hc H Q R q => by
    obtain ⟨ev, _, _⟩ := R.ok i _ he
    refine ⟨_, ev, tW.use R h fun v d e1 Hc1 H1 ⟨j, ed, ee, pd⟩ go t => ?_⟩
    subst ed ee
    cases t
    obtain ⟨_, fx, _⟩ := go.rep.ok i _ he
    have sq := hφ _ fx
    rw [← hX.K] at sq
    obtain ⟨ms, em, lm⟩ := cut_ints ns (some j) none
    refine ⟨j, rfl, r, _, rfl, go.rep.same.seq sq, fun p hp => ?_⟩
    have x := Ext.new (o := .lst (cutV (ns.map V.int) (some j) none)) go.rep.same hp
    exact q _ _ _ _ _ (pd ms lm) (go.trans (x.go go.rep)) (.lst upd_same (by rw [em]; exact Trs.ints ms))
theorem w_rawTo (i : Nat) {r : Addr} {ns : List Int} {φ : Hp → Prop} (he : env[i]? = some (.raw (.ref r) φ)) (hφ : ∀ Hc, φ Hc → SqL G.K Hc r (ns.map V.int)) (h : W G b env fun d e1 => ∃ j, d = .int j ∧ e1 = env ∧ ∀ ms : List Int, ms.length ≤ ns.length → P (.list (ms.map .int)) env)
    (hN : G.N[i]? = some x := by rfl) (hv : Vis G.sc x := by first | exact Or.inl rfl | exact Or.inr (Or.inl rfl) | exact Or.inr (Or.inr rfl)) (hd : (x == ("__debug__" : Str)) = false := by decide) (hcd : (x == ("__classdict__" : Str)) = false := by decide) :
    W G (.Subscript (.Name x px) (.Slice none (some b) none p2) pos) env P :=
  W.of (fun X => tSl (rSlL X.K) (tVar i) tNoPart (tPart (tW G b))) (fun X hX => pe_slice sl_list (pvG hX i hN hv hd hcd) po_none (po_some (peW hX b))) fun X hX σ Hc H Q R q => by
    obtain ⟨ev, _, _⟩ := R.ok i _ he
    refine ⟨_, ev, tW.use R h fun v d e1 Hc1 H1 ⟨j, ed, ee, pd⟩ go t => ?_⟩
    subst ed ee
    cases t
    obtain ⟨_, fx, _⟩ := go.rep.ok i _ he
    have sq := hφ _ fx
    rw [← hX.K] at sq
    obtain ⟨ms, em, lm⟩ := cut_ints ns none (some j)
    refine ⟨j, rfl, r, _, rfl, go.rep.same.seq sq, fun p hp => ?_⟩
    have x := Ext.new (o := .lst (cutV (ns.map V.int) none (some j))) go.rep.same hp
    exact q _ _ _ _ _ (pd ms lm) (go.trans (x.go go.rep)) (.lst upd_same (by rw [em]; exact Trs.ints ms))
/-- len(x) of the script -/
theorem w_rawLen (i : Nat) {r : Addr} {ns : List Int} {φ : Hp → Prop} {p : Pos} (hm : G.mg "len" = none) (he : env[i]? = some (.raw (.ref r) φ)) (hφ : ∀ Hc, φ Hc → SqL G.K Hc r (ns.map V.int)) (h : P (.int ns.length) env)
    (hN : G.N[i]? = some x := by rfl) (hv : Vis G.sc x := by first | exact Or.inl rfl | exact Or.inr (Or.inl rfl) | exact Or.inr (Or.inr rfl)) (hg : GlG G "len" := by rfl) (hd : (x == ("__debug__" : Str)) = false := by decide) (hcd : (x == ("__classdict__" : Str)) = false := by decide) :
    W G (.Call (.Name "len" p) [.Name x px] [] pos) env P :=
  W.of (fun X => tCB (fun xs H Q => ∃ p ys, xs = [.ref p] ∧ (SqL X.K H p ys ∨ SqT X.K H p ys) ∧ Q (.int ys.length) H) (tCons (tVar i) tNil)) (fun X hX => pe_callB call_len_seq (glX hX hg) (by rw [hX.mg]; exact hm) boot_len (pa_cons (pvG hX i hN hv hd hcd) pa_nil)) fun X hX σ Hc H Q R q => by
    obtain ⟨ev, fx, _⟩ := R.ok i _ he
    have sq := hφ _ fx
    rw [← hX.K] at sq
    refine ⟨_, ev, r, _, rfl, .inl (R.same.seq sq), ?_⟩
    rw [List.length_map]
    exact q _ _ _ _ _ h (.refl R) (.int _)
/-- return {..}, four written keys -/
theorem r_retDict {rest : List Stmt} {k1 k2 k3 k4 : Str} {v1 v2 v3 v4 : Expr} {j1 j2 j3 j4 : Nat} {q1 q2 q3 q4 qd : Pos} (h : WA G [v1, v2, v3, v4] env fun ds e1 => ∃ d1 d2 d3 d4, ds = [d1, d2, d3, d4] ∧ N.rv [(.inr k1, d1), (.inr k2, d2), (.inr k3, d3), (.inr k4, d4)] e1)
    (hk : ∀ v1 v2 v3 v4 : V, mergeK [] [(Sum.inr k1, v1), (Sum.inr k2, v2), (Sum.inr k3, v3), (Sum.inr k4, v4)] = [(.inr k1, v1), (.inr k2, v2), (.inr k3, v3), (.inr k4, v4)]) :
    Rs G (.Return (some (.Dict [some (.Constant (.str k1) j1 q1), some (.Constant (.str k2) j2 q2), some (.Constant (.str k3) j3 q3), some (.Constant (.str k4) j4 q4)] [v1, v2, v3, v4] qd)) pos :: rest) env N :=
  Rs.of (fun X => tSeq (tRet (tDisp [(tC (.str k1), tW G v1), (tC (.str k2), tW G v2), (tC (.str k3), tW G v3), (tC (.str k4), tW G v4)])) tNever)
    (fun X hX => pss_cons (ps_ret (pe_disp (pps_cons pe_str (peW hX.g v1) (pps_cons pe_str (peW hX.g v2) (pps_cons pe_str (peW hX.g v3) (pps_cons pe_str (peW hX.g v4) pps_nil)))) rfl rfl (fun z => by cases z) (by show 4 ≤ 15; decide))) pss_never) fun X hX σ Hc H D R q => by
    intro p hp
    have g0 := go_new (o := .dK []) R hp
    have no0 := own_ne_new R hp
    have c0 := Same.free R.same hp
    have at0 : (upd H p (.dK [])) p = some (.dK []) := upd_same
    refine tW.use g0.rep h fun w1 d1 e1 Hc1 H1 h1 go1 t1 => ?_
    refine tW.use go1.rep h1 fun w2 d2 e2 Hc2 H2 h2 go2 t2 => ?_
    refine tW.use go2.rep h2 fun w3 d3 e3 Hc3 H3 h3 go3 t3 => ?_
    refine tW.use go3.rep h3 fun w4 d4 e4 Hc4 H4 h4 go4 t4 => ?_
    have g := ((go1.trans go2).trans go3).trans go4
    have at4 := g.kp p _ at0 no0
    have out4 := g.out p (by rw [at0]; simp) c0 no0
    have no4 : ¬ Own σ e4 p := fun z => (g.own p z).elim no0 fun z => by rw [at0] at z; cases z
    obtain ⟨d1', d2', d3', d4', ed, hrv⟩ := h4
    injection ed with e1 ed
    injection ed with e2 ed
    injection ed with e3 ed
    injection ed with e4 ed
    subst e1 e2 e3 e4
    refine ⟨at4, [(.inr k1, w1), (.inr k2, w2), (.inr k3, w3), (.inr k4, w4)], rfl, by show 4 ≤ 15; decide, ?_⟩
    rw [hk]
    have gg := g0.trans g
    refine q.rv p _ [(.inr k1, w1), (.inr k2, w2), (.inr k3, w3), (.inr k4, w4)] _ σ Hc4 _ hrv (go_write gg hp out4 no4) hp upd_same ?_ out4
    exact ⟨rfl, t1.mono (go2.core.trans (go3.core.trans go4.core)), ⟨rfl, t2.mono (go3.core.trans go4.core), ⟨rfl, t3.mono go4.core, ⟨rfl, t4, trivial⟩⟩⟩⟩
end
theorem mergeK4 (v1 v2 v3 v4 : V) : mergeK [] [((.inr "left" : Key), v1), (.inr "seed", v2), (.inr "cells", v3), (.inr "spot", v4)] = [(.inr "left", v1), (.inr "seed", v2), (.inr "cells", v3), (.inr "spot", v4)] := by
  show mergeK [] [(kL, v1), (kS, v2), (kC, v3), (kP, v4)] = [(kL, v1), (kS, v2), (kC, v3), (kP, v4)]
  simp [mergeK, putK, kne]
section
variable {P : Program} {w : World} {K : PySem.W.Frag} {mg : Str → Option Value} {base : Heap} {k : Nat} {f : Addr} {fd : FuncData} {N ps : List Str} {x qual : Str} {st : Stmt} {sd kd : Str}
def scφ (K : PySem.W.Frag) (a : Addr) (ns : List Int) : Hp → Prop := fun Hc => SqL K Hc a (ns.map V.int)
theorem scφ_mono {a : Addr} {ns : List Int} : ∀ H1 H2 : Hp, Same H1 H2 → scφ K a ns H1 → scφ K a ns H2 := fun _ _ s h => s.seq h
def spB (K : PySem.W.Frag) : Sp := fun vs H Q _ => ∃ (a : Addr) (j : Nat) (ns : List Int) (Hc : Hp), vs = [.ref a, .int (j : Int)] ∧ j ≤ 100 ∧ SqL K Hc a (ns.map V.int) ∧ ns.length ≤ 63 ∧ Same Hc H ∧
  ∀ p Hc' H', H p = none → Ext Hc H Hc' H' → MS Hc' H' p 0 → Q (.ref p) H'
theorem fnB (F : Fun K x qual st f fd) (S : FnScope N [sd, kd] (defScope st))
    (h : ∀ A, A.guards = some [] → Room k A → ∀ (a : Addr) (j : Nat) (ns : List Int), j ≤ 100 → ns.length ≤ 63 →
      Rs (GxOf P w K mg base N st A) (defBody st) (.raw (.ref a) (scφ K a ns) :: .va (.int (j : Int)) :: List.replicate (N.length - 2) .no)
        { nx := fun _ => False, rt := fun _ _ => False, rv := fun kvs _ => ∃ l s cs p, kvs = msD l s cs p ∧ cs ≠ [] ∧ cs.length ≤ 200 ∧ 0 ≤ s ∧ s < 2147483647 ∧ p = 0 }) : FnG P w K mg base (k + 1) f fd [sd, kd] (spB K) := by
  refine fnG_of F S (fun vs H Q E ⟨a, j, ns, Hc, ev, _⟩ => by rw [ev]; rfl) fun cdv A outer s0 H vs Q E hg hr ⟨a, j, ns, Hc, ev, hj, sq, hl, sm, q⟩ => ?_
  subst ev
  have eStart : L2.start N [V.ref a, V.int (j : Int)] = some (.ref a) :: some (.int (j : Int)) :: List.replicate (N.length - 2) none := rfl
  have get1 : ∀ {i : Nat} {u : Sl}, ((.raw (.ref a) (scφ K a ns) :: .va (.int (j : Int)) :: List.replicate (N.length - 2) .no : En))[i]? = some u → (i = 0 ∧ u = .raw (.ref a) (scφ K a ns)) ∨ (i = 1 ∧ u = .va (.int (j : Int))) ∨ u = .no := by
    intro i u e
    match i, e with
    | 0, e => cases e; exact .inl ⟨rfl, rfl⟩
    | 1, e => cases e; exact .inr (.inl ⟨rfl, rfl⟩)
    | j + 2, e =>
      have e' : (List.replicate (N.length - 2) Sl.no)[j]? = some u := e
      rw [List.getElem?_replicate] at e'
      split at e' <;> cases e'
      exact .inr (.inr rfl)
  have noown : ∀ {i : Nat} {u : Sl}, ((.raw (.ref a) (scφ K a ns) :: .va (.int (j : Int)) :: List.replicate (N.length - 2) .no : En))[i]? = some u → u.own = false := by
    intro i u e
    rcases get1 e with ⟨ei, eu⟩ | ⟨ei, eu⟩ | eu <;> (rw [eu]; rfl)
  have R : Rp Hc H (L2.start N [V.ref a, V.int (j : Int)]) (.raw (.ref a) (scφ K a ns) :: .va (.int (j : Int)) :: List.replicate (N.length - 2) .no) := by
    rw [eStart]
    refine ⟨sm, fun i u e => ?_, fun i l u v c e1 e2 e3 _ _ _ => ?_, by simp⟩
    · rcases get1 e with ⟨ei, eu⟩ | ⟨ei, eu⟩ | eu
      · subst ei eu
        exact ⟨rfl, sq, scφ_mono⟩
      · subst ei eu
        exact ⟨_, rfl, .int _⟩
      · subst eu
        trivial
    · rw [noown e1] at e3
      cases e3
  have own1 : ∀ {c : Addr}, ¬ Own (L2.start N [V.ref a, V.int (j : Int)]) (.raw (.ref a) (scφ K a ns) :: .va (.int (j : Int)) :: List.replicate (N.length - 2) .no) c := by
    rintro c ⟨i, u, e1, e2, _⟩
    rw [noown e1] at e2
    cases e2
  refine ⟨_, pssR inS_def _, tRs.use R (h (A.deeper (envOfC qual (defScope st) s0.heap.objs.size f cdv)) hg hr a j ns hj hl) ⟨fun _ _ _ _ z => z.elim, fun _ _ _ _ _ _ z => z.elim, fun _ _ _ _ z => z.elim, fun _ _ _ _ z => z.elim, fun p kvs ks e σ' Hc' H' ⟨l, s, cs, p0, ek, b1, b2, b3, b4, b5⟩ g hp hat htr hout => ?_⟩⟩
  subst ek b5
  have m := (ms_out (n := 0) (o := some (some (V.ref p))) ⟨ks, rfl, hout, hat, htr⟩ ⟨b1, b2, b3, b4, Int.le_refl _, Int.le_refl _⟩).2
  exact q p Hc' H' hp ⟨fun b o e => g.kp b o e own1, g.core, g.rep.same, fun b e c => g.out b e c own1⟩ m
/-- m = begun(script, j) -/
theorem r_begun {G : Gx} {env : En} {Nn : DE} {rest : List Stmt} {r : Addr} {ns : List Int} {b : Expr} {pn px2 pc pos : Pos} {xs y : Str} {fB : Addr} {fdB : FuncData} (i j : Nat) (C : Callee G x k fB fdB [sd, kd] (spB G.K)) (he : env[i]? = some (.raw (.ref r) (scφ G.K r ns))) (hns : ns.length ≤ 63)
    (h : W G b env fun d e1 => e1[i]? = some (.raw (.ref r) (scφ G.K r ns)) ∧ j < e1.length ∧ ∃ q : Nat, d = .int (q : Int) ∧ q ≤ 100 ∧ ∀ p, Rs G rest (e1.set j (.ms p 0)) Nn) (hnd : G.N.Nodup)
    {p0 : Pos} (hN : G.N[i]? = some xs := by rfl) (hv : Vis G.sc xs := by first | exact Or.inl rfl | exact Or.inr (Or.inl rfl) | exact Or.inr (Or.inr rfl)) (hj : G.N[j]? = some y := by rfl) (hy : Loc G.sc y := by first | exact Or.inl rfl | exact Or.inr rfl) (hg : GlG G x := by rfl) (nst : noStar [Expr.Name xs px2, b] = true := by rfl) (hdb : (x == ("__debug__" : Str)) = false := by decide)
    (hd : (xs == ("__debug__" : Str)) = false := by decide) (hcd : (xs == ("__classdict__" : Str)) = false := by decide) :
    Rs G (.Assign [.Name y p0] (.Call (.Name x pn) [.Name xs px2, b] [] pc) pos :: rest) env Nn :=
  Rs.of (fun X => tSeq (tAsg (fun σ H Q => tCons (tVar i) (tWA G [b]) σ H fun vs H1 => spB G.K vs H1 Q E0) (gName j)) (tRs G rest)) (fun X hX => by
    have c1 := C.fn
    rw [← hX.g.P, ← hX.g.w, ← hX.g.K, ← hX.g.mg, ← hX.g.base] at c1
    rw [← hX.g.K]
    exact pss_cons (ps_set (i := j) (hX.nodup hnd) (hX.at' hj) (hX.loc hy) (pe_callG c1 (by rw [hX.g.A]; exact C.room) (by rw [hX.g.A]; exact C.gd) (glX hX.g hg) (by rw [hX.g.mg]; exact C.mg) (by rw [hX.g.K]; exact C.kp) (by rw [hX.g.K]; exact C.bd)
      (pa_cons (pvG hX.g i hN hv hd hcd) (paW hX.g _ (noStar_cons nst).2) (star_cons (noStar_cons nst).1)) hdb (star_cons (noStar_cons nst).1) (star_any (noStar_cons nst).2)) rfl (.inl (hX.fn y))) (pssR hX rest)) fun X hX σ Hc H D R q => by
    obtain ⟨ev, _, _⟩ := R.ok i _ he
    refine ⟨_, ev, tW.use R h fun v d e1 Hc1 H1 ⟨he1, hjl, qn, ed, hq, hr⟩ go t => ?_⟩
    subst ed
    cases t
    obtain ⟨_, sq, _⟩ := go.rep.ok i _ he1
    refine ⟨r, qn, ns, Hc1, rfl, hq, sq, hns, go.rep.same, fun p Hc' H' hp ex ms => ?_⟩
    have g1 := ex.go go.rep
    have no1 := own_ne_new go.rep hp
    have il := lt_of_N go.rep hjl
    have hs : ∀ {l : Nat} {s : Sl}, (e1.set j (.ms p 0))[l]? = some s → (l = j ∧ s = .ms p 0) ∨ (l ≠ j ∧ e1[l]? = some s) := by
      intro l s e
      by_cases hl : l = j
      · subst hl
        rw [List.getElem?_set_self hjl] at e
        cases e
        exact .inl ⟨rfl, rfl⟩
      · rw [List.getElem?_set_ne (Ne.symm hl)] at e
        exact .inr ⟨hl, e⟩
    have g : Go Hc1 H1 σ e1 Hc' H' (σ.set j (some (.ref p))) (e1.set j (.ms p 0)) := by
      refine ⟨⟨g1.rep.same, fun l s e => ?_, fun l m s t c h1 h2 h3 h4 h5 h6 => ?_, by rw [List.length_set, List.length_set]; exact go.rep.len⟩, g1.core, g1.kp, g1.out, fun c o => ?_, g1.ex⟩
      · rcases hs e with ⟨f1, f2⟩ | ⟨f1, f2⟩
        · subst f1 f2
          rw [List.getElem?_set_self il]
          exact ⟨rfl, ms⟩
        · rw [List.getElem?_set_ne (Ne.symm f1)]
          exact g1.rep.ok l s f2
      · rcases hs h1 with ⟨f1, f3⟩ | ⟨f1, f3⟩
        · subst f1
          rcases hs h2 with ⟨z1, z3⟩ | ⟨z1, z3⟩
          · exact z1.symm
          · rw [List.getElem?_set_self il] at h5
            cases h5
            rw [List.getElem?_set_ne (Ne.symm z1)] at h6
            exact (no1 ⟨_, _, z3, h4, h6⟩).elim
        · rw [List.getElem?_set_ne (Ne.symm f1)] at h5
          rcases hs h2 with ⟨z1, z3⟩ | ⟨z1, z3⟩
          · subst z1
            rw [List.getElem?_set_self il] at h6
            cases h6
            exact (no1 ⟨_, _, f3, h3, h5⟩).elim
          · rw [List.getElem?_set_ne (Ne.symm z1)] at h6
            exact go.rep.inj l m s t c f3 z3 h3 h4 h5 h6
      · obtain ⟨l, s, f1, f2, f3⟩ := o
        rcases hs f1 with ⟨z1, z3⟩ | ⟨z1, z3⟩
        · subst z1
          rw [List.getElem?_set_self il] at f3
          cases f3
          exact .inr hp
        · rw [List.getElem?_set_ne (Ne.symm z1)] at f3
          exact .inl ⟨l, s, z3, f2, f3⟩
    exact tRs.use g.rep (hr p) (q.from (go.trans g))
end
end TL

namespace TL
open PySem PySem.Spec PyProof.Rows L2
/-! dyeings are numbered as met -/
def nums (n : Nat) : List Int := (List.range n).map fun (i : Nat) => (i : Int)
theorem nums_len (n : Nat) : (nums n).length = n := by unfold nums; rw [List.length_map, List.length_range]
theorem nums_mem {n : Nat} {x : Int} : x ∈ nums n ↔ 0 ≤ x ∧ x < n := by
  unfold nums
  rw [List.mem_map]
  constructor
  · rintro ⟨i, hi, e⟩
    have := List.mem_range.mp hi
    omega
  · rintro ⟨h1, h2⟩
    obtain ⟨j, ej⟩ := Int.eq_ofNat_of_zero_le h1
    exact ⟨j, List.mem_range.mpr (by omega), ej.symm⟩
theorem nums_succ (n : Nat) : nums (n + 1) = nums n ++ [(n : Int)] := by
  unfold nums
  rw [List.range_succ, List.map_append]
  rfl
theorem nums_nodup (n : Nat) : (nums n).Nodup := by
  unfold nums
  refine List.Pairwise.map _ (fun a b (h : a ≠ b) => ?_) List.nodup_range
  intro z
  exact h (by omega)
theorem nums_idx {n i : Nat} (h : i < n) : (nums n).idxOf (i : Int) = i := by
  have e0 : (nums n)[i]? = some (i : Int) := by
    unfold nums
    rw [List.getElem?_map, List.getElem?_range h]
    rfl
  obtain ⟨hl, e⟩ := List.getElem?_eq_some_iff.mp e0
  have := (nums_nodup n).idxOf_getElem i hl
  rw [e] at this
  exact this
theorem nk_mem {ks : List Int} {x : Int} (h : x ∈ ks) : nk ks x = ks := by unfold nk; rw [if_pos h]
theorem nk_not {ks : List Int} {x : Int} (h : x ∉ ks) : nk ks x = ks ++ [x] := by unfold nk; rw [if_neg h]
theorem again_line : ∀ (r ks : List Int), dyLine (nums ks.length) (dyLine ks r).1 = ((dyLine ks r).1, nums (dyLine ks r).2.length)
  | [], ks => rfl
  | x :: r, ks => by
    have ih := again_line r (nk ks x)
    show (((nums ks.length).idxOf (ks.idxOf x : Int) : Int) :: (dyLine (nk (nums ks.length) (ks.idxOf x : Int)) (dyLine (nk ks x) r).1).1, (dyLine (nk (nums ks.length) (ks.idxOf x : Int)) (dyLine (nk ks x) r).1).2) = ((ks.idxOf x : Int) :: (dyLine (nk ks x) r).1, nums (dyLine (nk ks x) r).2.length)
    by_cases h : x ∈ ks
    · have hi : ks.idxOf x < ks.length := List.idxOf_lt_length_of_mem h
      have hm : ((ks.idxOf x : Nat) : Int) ∈ nums ks.length := nums_mem.mpr ⟨by omega, by omega⟩
      rw [nk_mem h] at ih ⊢
      rw [nk_mem hm, ih, nums_idx hi]
    · have hi : ks.idxOf x = ks.length := idx_not h
      have hm : ((ks.length : Nat) : Int) ∉ nums ks.length := fun z => by
        have := (nums_mem.mp z).2
        omega
      rw [hi, nk_not h] at *
      rw [nk_not hm, idx_not hm, nums_len, ← nums_succ]
      rw [List.length_append] at ih
      have e1 : ks.length + [x].length = ks.length + 1 := rfl
      rw [e1] at ih
      rw [ih]
theorem again_tab : ∀ (t : Tb) (ks : List Int), dyTab (nums ks.length) (dyTab ks t).1 = ((dyTab ks t).1, nums (dyTab ks t).2.length)
  | [], ks => rfl
  | r :: t, ks => by
    have ih := again_tab t (dyLine ks r).2
    show ((dyLine (nums ks.length) (dyLine ks r).1).1 :: (dyTab (dyLine (nums ks.length) (dyLine ks r).1).2 (dyTab (dyLine ks r).2 t).1).1, (dyTab (dyLine (nums ks.length) (dyLine ks r).1).2 (dyTab (dyLine ks r).2 t).1).2) = _
    rw [again_line, ih]
    rfl
theorem dy_again (t : Tb) : dy (dy t) = dy t := by
  have := again_tab t []
  unfold dy
  show (dyTab (nums ([] : List Int).length) (dyTab [] t).1).1 = _
  rw [this]
theorem line_grow : ∀ (r ks : List Int), ks.length ≤ (dyLine ks r).2.length
  | [], ks => Nat.le_refl _
  | x :: r, ks => by
    have ih := line_grow r (nk ks x)
    have : ks.length ≤ (nk ks x).length := by
      unfold nk
      split
      · exact Nat.le_refl _
      · simp
    show ks.length ≤ (dyLine (nk ks x) r).2.length
    omega
theorem tab_grow : ∀ (t : Tb) (ks : List Int), ks.length ≤ (dyTab ks t).2.length
  | [], ks => Nat.le_refl _
  | r :: t, ks => by
    have h1 := line_grow r ks
    have h2 := tab_grow t (dyLine ks r).2
    show ks.length ≤ (dyTab (dyLine ks r).2 t).2.length
    omega
theorem line_in : ∀ (r ks : List Int), ∀ z ∈ (dyLine ks r).1, 0 ≤ z ∧ z < (dyLine ks r).2.length
  | [], ks, z, h => by cases h
  | x :: r, ks, z, h => by
    have ih := line_in r (nk ks x)
    have hg := line_grow r (nk ks x)
    have h' : z ∈ (ks.idxOf x : Int) :: (dyLine (nk ks x) r).1 := h
    show 0 ≤ z ∧ z < (dyLine (nk ks x) r).2.length
    rcases List.mem_cons.mp h' with e | e
    · rw [e]
      have : ks.idxOf x < (nk ks x).length := by
        by_cases hx : x ∈ ks
        · rw [nk_mem hx]
          exact List.idxOf_lt_length_of_mem hx
        · rw [nk_not hx, idx_not hx]
          simp
      omega
    · exact ih z e
theorem tab_in : ∀ (t : Tb) (ks : List Int), ∀ r ∈ (dyTab ks t).1, ∀ z ∈ r, 0 ≤ z ∧ z < (dyTab ks t).2.length
  | [], ks, r, h => by cases h
  | s :: t, ks, r, h => by
    intro z hz
    have h' : r ∈ (dyLine ks s).1 :: (dyTab (dyLine ks s).2 t).1 := h
    show 0 ≤ z ∧ z < (dyTab (dyLine ks s).2 t).2.length
    rcases List.mem_cons.mp h' with e | e
    · rw [e] at hz
      have := line_in s ks z hz
      have := tab_grow t (dyLine ks s).2
      omega
    · exact tab_in t (dyLine ks s).2 r e z hz
theorem tab_rows : ∀ (t : Tb) (ks : List Int) (n : Nat), (∀ r ∈ t, r.length = n) → (∀ r ∈ (dyTab ks t).1, r.length = n) ∧ (dyTab ks t).2.length ≤ ks.length + t.length * n
  | [], ks, n, _ => ⟨(fun _ h => by cases h), (by show ks.length ≤ ks.length + 0 * n; omega)⟩
  | s :: t, ks, n, h => by
    obtain ⟨h1, h2⟩ := tab_rows t (dyLine ks s).2 n fun r hr => h r (List.mem_cons_of_mem _ hr)
    have hs := h s List.mem_cons_self
    obtain ⟨l1, l2⟩ := dyLine_len s ks
    refine ⟨fun r hr => ?_, ?_⟩
    · have h' : r ∈ (dyLine ks s).1 :: (dyTab (dyLine ks s).2 t).1 := hr
      rcases List.mem_cons.mp h' with e | e
      · rw [e, l1, hs]
      · exact h1 r e
    · show (dyTab (dyLine ks s).2 t).2.length ≤ ks.length + (t.length + 1) * n
      rw [Nat.add_mul, Nat.one_mul]
      omega
/-- what a drawn table is worth -/
structure Dye (n : Nat) (t : Tb) : Prop where
  sq : Sq n t
  same : dy t = t
  low : ∀ r ∈ t, ∀ z ∈ r, 0 ≤ z ∧ z < (n * n : Nat)
theorem dye_of {n : Nat} {t : Tb} (h : Sq n t) : Dye n (dy t) := by
  obtain ⟨h1, h2⟩ := tab_rows t [] n h.2
  refine ⟨⟨by unfold dy; rw [dyTab_len]; exact h.1, h1⟩, dy_again t, fun r hr z hz => ?_⟩
  have := tab_in t [] r hr z hz
  rw [h.1] at h2
  simp only [List.length_nil, Nat.zero_add] at h2
  omega
/-- tables of natural numbers -/
theorem nat_tb : ∀ {t : Tb}, (∀ r ∈ t, ∀ z ∈ r, 0 ≤ z) → ∃ u : List (List Nat), t = u.map up
  | [], _ => ⟨[], rfl⟩
  | r :: t, h => by
    obtain ⟨u, eu⟩ := nat_tb fun s hs => h s (List.mem_cons_of_mem _ hs)
    have hr : ∀ {l : List Int}, (∀ z ∈ l, 0 ≤ z) → ∃ v : List Nat, l = up v := by
      intro l
      induction l with
      | nil => exact fun _ => ⟨[], rfl⟩
      | cons z l ih =>
        intro h
        obtain ⟨v, ev⟩ := ih fun y hy => h y (List.mem_cons_of_mem _ hy)
        obtain ⟨j, ej⟩ := Int.eq_ofNat_of_zero_le (h z List.mem_cons_self)
        exact ⟨j :: v, by rw [ej, ev]; rfl⟩
    obtain ⟨v, ev⟩ := hr (h r List.mem_cons_self)
    exact ⟨v :: u, by rw [ev, eu]; rfl⟩
theorem rowC_low : ∀ r : List Nat, ∀ c ∈ rowC r, c < 1114112
  | [], c, h => by cases h
  | [x], c, h => by
    have := numL_digits x c h
    omega
  | x :: y :: r, c, h => by
    have h' : c ∈ numL x ++ 32 :: rowC (y :: r) := h
    rcases List.mem_append.mp h' with e | e
    · have := numL_digits x c e
      omega
    · rcases List.mem_cons.mp e with e | e
      · omega
      · exact rowC_low (y :: r) c e
theorem tabC_low : ∀ t : List (List Nat), ∀ c ∈ tabC t, c < 1114112
  | [], c, h => by cases h
  | [r], c, h => rowC_low r c h
  | r :: s :: t, c, h => by
    have h' : c ∈ rowC r ++ 47 :: tabC (s :: t) := h
    rcases List.mem_append.mp h' with e | e
    · exact rowC_low r c e
    · rcases List.mem_cons.mp e with e | e
      · omega
      · exact tabC_low (s :: t) c e
theorem nb_text {t : List (List Nat)} (h : Small (t.map up)) : NB 36002 1 (.str (textOf (t.map up))) :=
  (nb_str (List.all_eq_true.mpr fun c hc => decide_eq_true (tabC_low t c (by
    have e : (textOf (t.map up)).cps.toList = tabC t := textOf_tl t
    rw [← e]
    exact hc)))).mono (by have := textOf_len h; omega) (Nat.le_refl _)
theorem small_of {n : Nat} {t : Tb} (h : Sq n t) (hn : n ≤ 16) (hb : ∀ r ∈ t, ∀ z ∈ r, z.natAbs < 10 ^ 12) : Small t :=
  ⟨by have := h.1; omega, fun r hr => ⟨by have := h.2 r hr; omega, hb r hr⟩⟩
def preSh (ds : List PyData) : Prop := ∃ n : Nat, ds = [.int n] ∧ n ≤ 300
def postSh (ds : List PyData) (d : PyData) : Prop := ∃ (n : Nat) (p : List Int), ds = [.int n] ∧ d = .tuple (p.map .int) ∧ p.Perm (nums n)
def preDr (ds : List PyData) : Prop := ∃ k : Nat, ds = [.int k] ∧ k ≤ 16
def postDr (ds : List PyData) (d : PyData) : Prop := ∃ (k n : Nat) (t : Tb), ds = [.int k] ∧ d = tbT (dy t) ∧ Sq n t ∧ n ≤ k
theorem pd_int {b : Int} {d : PyData} (h : postD [.int b] d) : ∃ i, d = .int i ∧ 0 ≤ i ∧ i < b := by
  obtain ⟨b', i, e1, e2, h1, h2⟩ := h
  injection e1 with e1 _
  injection e1 with e1
  subst e1
  exact ⟨i, e2, h1, h2⟩
end TL

namespace TL
open PySem PySem.Spec PyProof.Rows L2
/-! the law's own def, and its end -/
def spL (K : PySem.W.Frag) : Sp := fun vs H Q _ => ∃ (a : Addr) (ns : List Int), vs = [.ref a] ∧ SqL K H a (ns.map V.int) ∧ ns.length ≤ 63 ∧ ∀ H', Q (.bl true) H'
section
variable {P : Program} {w : World} {K : PySem.W.Frag} {mg : Str → Option Value} {base : Heap} {k : Nat} {f : Addr} {fd : FuncData} {N ps : List Str} {x qual : Str} {st : Stmt} {sd : Str}
theorem fnL (F : Fun K x qual st f fd) (S : FnScope N [sd] (defScope st))
    (h : ∀ A, A.guards = some [] → Room k A → ∀ (a : Addr) (ns : List Int), ns.length ≤ 63 →
      Rs (GxOf P w K mg base N st A) (defBody st) (.raw (.ref a) (scφ K a ns) :: List.replicate (N.length - 1) .no) { nx := fun _ => False, rt := fun d _ => d = .bool true }) : FnG P w K mg base (k + 1) f fd [sd] (spL K) := by
  refine fnG_of F S (fun vs H Q E ⟨a, ns, ev, _⟩ => by rw [ev]; rfl) fun cdv A outer s0 H vs Q E hg hr ⟨a, ns, ev, sq, hl, q⟩ => ?_
  subst ev
  have eStart : L2.start N [V.ref a] = some (.ref a) :: List.replicate (N.length - 1) none := rfl
  have get1 : ∀ {i : Nat} {u : Sl}, ((.raw (.ref a) (scφ K a ns) :: List.replicate (N.length - 1) .no : En))[i]? = some u → (i = 0 ∧ u = .raw (.ref a) (scφ K a ns)) ∨ u = .no := by
    intro i u e
    match i, e with
    | 0, e => cases e; exact .inl ⟨rfl, rfl⟩
    | j + 1, e =>
      have e' : (List.replicate (N.length - 1) Sl.no)[j]? = some u := e
      rw [List.getElem?_replicate] at e'
      split at e' <;> cases e'
      exact .inr rfl
  have noown : ∀ {i : Nat} {u : Sl}, ((.raw (.ref a) (scφ K a ns) :: List.replicate (N.length - 1) .no : En))[i]? = some u → u.own = false := by
    intro i u e
    rcases get1 e with ⟨ei, eu⟩ | eu <;> (rw [eu]; rfl)
  have R : Rp H H (L2.start N [V.ref a]) (.raw (.ref a) (scφ K a ns) :: List.replicate (N.length - 1) .no) := by
    rw [eStart]
    refine ⟨.refl H, fun i u e => ?_, fun i l u v c e1 e2 e3 _ _ _ => ?_, by simp⟩
    · rcases get1 e with ⟨ei, eu⟩ | eu
      · subst ei eu
        exact ⟨rfl, sq, scφ_mono⟩
      · subst eu
        trivial
    · rw [noown e1] at e3
      cases e3
  refine ⟨_, pssR inS_def _, tRs.use R (h (A.deeper (envOfC qual (defScope st) s0.heap.objs.size f cdv)) hg hr a ns hl) ⟨fun _ _ _ _ z => z.elim, fun v d e σ' Hc' H' ed g tv => ?_, fun _ _ _ _ z => z.elim, fun _ _ _ _ z => z.elim, fun _ _ _ _ _ _ _ z => z.elim⟩⟩
  have ed' : d = .bool true := ed
  subst ed'
  cases tv
  exact q H'
end
/-- the law is called behind the top -/
theorem law_callG {P : Program} {w : World} {K : PySem.W.Frag} {mg mb : Str → Option Value} {k : Nat} {fa a : Addr} {fd : FuncData} {x : Str} {sp : Sp} {s1 : Shared} {vs : List Value} {ns : List Int}
    (KX : K.In s1.heap) (hns : s1.heap.Ns mainGlobals mg) (hb : s1.heap.Ns builtinsNs mb) (hbb : ∀ x : Str, x ≠ "__name__" → mb x = bootBuiltins x) (hlim : s1.heap.NoLimit) (hg : s1.gens = #[])
    (ha : s1.heap.get? a = some { cls := .type "list", data := .seq vs.toArray }) (hi : IntsAre vs ns) (hl : ns.length ≤ sizeLine) (hr : Room k callerA)
    (F : ∀ base : Heap, K.In base → base.Ns mainGlobals mg → FnG P w K mg base k fa fd [x] sp) (hbind : ∀ (s : Shared) (u : Value), BindsTo s fd ⟨[u], []⟩ [(x, u)])
    (hsp : ∀ H : Hp, Only H → SqL K H a (ns.map V.int) → sp [.ref a] H (fun v _ => v = .bl true) E0) :
    codeAny (model P w) callerA (.call (.ref fa) ⟨[.ref a], []⟩) (fun r s' => r = .ok (.ret (.bool true)) ∧ OldK s1.heap s'.heap ∧ s'.os = s1.os ∧ AllBare s'.gens) s1 := by
  have rv := vals_ints hi
  have lenV := hi.length
  have core : ∀ H : Hp, Only H → SqL K H a (ns.map V.int) → HOk P w H s1.heap → (∀ b, H b ≠ none → b = a) → (H a ≠ none → K.lookup a = none) →
      codeAny (model P w) callerA (.call (.ref fa) ⟨[.ref a], []⟩) (fun r s' => r = .ok (.ret (.bool true)) ∧ OldK s1.heap s'.heap ∧ s'.os = s1.os ∧ AllBare s'.gens) s1 := by
    intro H hO hS hok hA hK
    have nA : ∀ {b : Addr}, b ≠ a → H b = none := fun {b} ne => by
      cases q : H b with
      | none => rfl
      | some u => exact absurd (hA b (by rw [q]; simp)) ne
    have notd : ∀ {b : Addr} {o : Obj} {es : Array DictEntry} {ep : Nat}, s1.heap.get? b = some o → o.data = .dict es ep → H b = none := by
      intro b o es ep e d
      refine nA fun z => ?_
      subst z
      rw [ha] at e
      cases e
      have d' : Data.seq vs.toArray _ = Data.dict es ep := d
      cases d'
    have nsK : ∀ {b : Addr} {m : Str → Option Value}, s1.heap.Ns b m → (hidT s1.heap H).Ns b m := by
      rintro b m ⟨o, es, ep, e, d, r⟩
      exact ⟨o, es, ep, hidT_get e (notd e d), d, r⟩
    have hKb : K.In (hidT s1.heap H) := by
      intro b o e
      refine hidT_get (KX b o e) ?_
      by_cases z : b = a
      · subst z
        cases q : H b with
        | none => rfl
        | some u =>
          have e' := hK (by rw [q]; simp)
          rw [e'] at e
          cases e
      · exact nA z
    have hM : Mod K mg (hidT s1.heap H) := by
      obtain ⟨mc, h1, h2⟩ := hlim
      exact ⟨hKb, nsK hns, ⟨mb, nsK hb, hbb⟩, ⟨mc, nsK h1, h2⟩⟩
    have e0 : Env0 P w K mg (hidT s1.heap H) callerA [] s1 H := by
      refine ⟨rfl, hM, fun b o e => of_hidT e, Nat.le_of_eq (hidT_size _ _), trivial, fun b hb => ?_, hok, .of_eq hg⟩
      cases (show b ∈ ([] : List Addr) from hb)
    have run := (F _ hKb (nsK hns)).run callerA [] s1 H ⟨[.ref a], []⟩ [.ref a] [.ref a] _ _ rfl hr e0 (hbind s1 (.ref a)) (.cons rfl .nil) (hsp H hO hS)
    refine codeAny_mono run fun r s' h => ?_
    cases r with
    | error e => exact h.elim
    | ok fl =>
      cases fl with
      | next => exact h.elim
      | brk => exact h.elim
      | cont => exact h.elim
      | ret u =>
        obtain ⟨v, H', os, bare, un, hok', r', q⟩ := h
        have q' : v = .bl true := q
        subst q'
        have ru : u = Value.bool true := r'
        subst ru
        refine ⟨rfl, OldK.of_keep fun b o e => ?_, os, bare⟩
        cases q : H b with
        | none => exact un.keep b o e q (fun z => by cases (show b ∈ ([] : List Addr) from z)) (by simp)
        | some u =>
          rcases hO b with z | ⟨ob, xs, z⟩
          · rw [q] at z
            cases z
          · have e1 := (hok b _ z).1
            have e2 := (hok' b _ (un.frzs b ob _ z)).1
            rw [e] at e1
            cases e1
            exact e2
  cases hk : K.lookup a with
  | some o =>
    have e := KX a o hk
    rw [ha] at e
    cases e
    refine core (fun _ => none) (fun _ => .inl rfl) (.inr ⟨_, vs.toArray, _, hk, rfl, rfl, rfl, ?_, ?_⟩) (fun b u z => ?_) (fun b z => absurd rfl z) fun z => absurd rfl z
    · rw [List.size_toArray, lenV]
      exact hl
    · simpa using rv
    · cases (show (none : Option HO) = some u from z)
  | none =>
    let H1 : Hp := fun b => if b = a then some (.frz { cls := .type "list", data := .seq vs.toArray } (.lst (ns.map V.int))) else none
    have atA : H1 a = some (.frz { cls := .type "list", data := .seq vs.toArray } (.lst (ns.map V.int))) := if_pos rfl
    have off : ∀ {b : Addr}, b ≠ a → H1 b = none := fun h => if_neg h
    refine core H1 (fun b => ?_) (.inl (.inr ⟨_, atA⟩)) (fun b u z => ?_) (fun b z => ?_) fun _ => hk
    · by_cases hb : b = a
      · exact .inr ⟨_, _, by rw [hb]; exact atA⟩
      · exact .inl (off hb)
    · by_cases hb : b = a
      · subst hb
        rw [atA] at z
        cases z
        exact ⟨ha, by rw [List.length_map]; exact hl, vs, _, rv, ha⟩
      · rw [off hb] at z
        cases z
    · by_cases hb : b = a
      · exact hb
      · exact absurd (off hb) z
theorem walk_ofG {l : PySem.W.OpenLaw} {n k : Nat} {q : Program} {loose : List Str} {XP : (Str → Option Value) → Heap → Prop} {YP : World → Heap → Prop} {d : DefRec} {K : Params → PySem.W.Frag} {sp : PySem.W.Frag → Sp} {x : Str}
    (hn : l.most = some n) (hn2 : n ≤ sizeLine) (hdf : d.params.defaults = []) (hr : Room k callerA)
    (hY : ∀ (w : World) (h : Heap), YP w h → (K w.params).In h)
    (F : ∀ (w : World) (mg : Str → Option Value) (fa : Addr) (h : Heap), (K w.params).In h → h.Ns mainGlobals mg → mg d.name = some (.ref fa) →
      ∃ fd : FuncData, (∀ (s : Shared) (u : Value), BindsTo s fd ⟨[u], []⟩ [(x, u)]) ∧ ∀ base : Heap, (K w.params).In base → base.Ns mainGlobals mg → FnG l.prog w (K w.params) mg base k fa fd [x] (sp (K w.params)))
    (hsp : ∀ (K : PySem.W.Frag) (H : Hp) (a : Addr) (ns : List Int), ns.length ≤ n → Only H → SqL K H a (ns.map V.int) → sp K [.ref a] H (fun v _ => v = .bl true) E0) :
    PySem.W.WalkO q loose XP YP l.row.toRowW d [] (fun f vs => PySem.call f vs) := by
  apply Att.attach_call hn hdf
  intro w s0 s1 mg mb fa o pm cd doc a vs ns G Y ho hd hcd hmg hobj hints hlen hg
  have KX := hY w _ Y
  obtain ⟨fd, hb, hF⟩ := F w mg fa _ KX G.T.g hmg
  exact law_callG KX G.T.g G.T.b G.T.builtins G.T.nolimit hg hobj hints (Nat.le_trans hlen hn2) hr hF hb fun H hO hS => hsp (K w.params) H a ns hlen hO hS
end TL

/-! dicts whose keys are tuples, nested too, and whose values are the numbers of their keys -/
namespace TL
open PySem PySem.Spec PyProof.Rows L2
mutual
theorem nk_is {P : Program} {w : World} {H : Hp} {h : Heap} (ok : HOk P w H h) : ∀ {v : V} {d : PyData} {k : NestedKey} {u : Value}, Tr H v d → nkD d = some k → RelV v u → NestedIs h k u
  | _, _, k, u, .non, e, r => by
    cases e
    obtain rfl : u = .none := r
    exact .none
  | _, _, k, u, .bl b, e, r => by
    cases e
    obtain rfl : u = .bool b := r
    exact .bool rfl
  | _, _, k, u, .int i, e, r => by
    cases e
    obtain ⟨t, rfl⟩ := r
    exact .int _ _
  | _, _, k, u, .str x, e, r => by
    cases e
    obtain ⟨t, rfl⟩ := r
    exact .text _ _
  | _, _, k, u, @Tr.tup _ a vs ds x t, e, r => by
    obtain rfl : u = .ref a := r
    obtain ⟨o, o1, o2, o3⟩ := x
    obtain ⟨hg, _, its, rv, o', hg', hc', n, hd'⟩ := ok a _ o3
    rw [hg] at hg'
    cases hg'
    have e' : (nkDs ds).map NestedKey.tup = some k := e
    cases q : nkDs ds with
    | none => rw [q] at e'; cases e'
    | some ks =>
      rw [q] at e'
      cases e'
      exact .tup hg o1 hd' (by simpa using nks_is ok t q rv)
  | _, _, k, u, .lst _ _, e, r => by cases e
theorem nks_is {P : Program} {w : World} {H : Hp} {h : Heap} (ok : HOk P w H h) : ∀ {vs : List V} {ds : List PyData} {ks : List NestedKey} {us : List Value}, Trs H vs ds → nkDs ds = some ks → Vals vs us → NestedAll h ks us
  | _, _, ks, us, .nil, e, r => by
    cases e
    cases r
    exact .nil
  | _, _, ks, us, @Trs.cons _ v d vs ds t ts, e, r => by
    have e' : (match nkD d, nkDs ds with | some k, some ks => some (k :: ks) | _, _ => none) = some ks := e
    cases q1 : nkD d with
    | none => rw [q1] at e'; cases e'
    | some k =>
      cases q2 : nkDs ds with
      | none => rw [q1, q2] at e'; cases e'
      | some ks' =>
        rw [q1, q2] at e'
        cases e'
        cases r with
        | cons r1 r2 => exact .cons (nk_is ok t q1 r1) (nks_is ok ts q2 r2)
end
theorem NkT.is {P : Program} {w : World} {H : Hp} {h : Heap} {k : NestedKey} {b : Addr} (ok : HOk P w H h) (n : NkT H (k, b)) : (nestedKind P w).is h k b := by
  obtain ⟨⟨d, t, e⟩, l⟩ := n
  exact ⟨nk_is ok t e rfl, l⟩
section
variable {xs : List (NestedKey × Addr × Value)} {k : NestedKey}
theorem atKey_cons {x : NestedKey × Addr × Value} : atKey (x :: xs) k = if x.1 = k then some x.2 else atKey xs k := by
  unfold atKey
  by_cases h : x.1 = k
  · simp [h]
  · simp [h]
theorem atKey_no : ∀ {xs : List (NestedKey × Addr × Value)}, k ∉ xs.map (·.1) → atKey xs k = none
  | [], _ => rfl
  | x :: xs, h => by
    rw [List.map_cons, List.mem_cons, not_or] at h
    rw [atKey_cons, if_neg (fun e => h.1 e.symm)]
    exact atKey_no h.2
theorem atKey_yes : ∀ {xs : List (NestedKey × Addr × Value)}, k ∈ xs.map (·.1) → ∃ x, xs[(xs.map (·.1)).idxOf k]? = some x ∧ atKey xs k = some x.2
  | [], h => by simp at h
  | x :: xs, h => by
    rw [atKey_cons, List.map_cons, List.idxOf_cons]
    by_cases e : x.1 = k
    · refine ⟨x, ?_, if_pos e⟩
      rw [show (x.1 == k) = true from beq_iff_eq.mpr e]
      rfl
    · have h' : k ∈ xs.map (·.1) := by
        rw [List.map_cons] at h
        exact (List.mem_cons.mp h).resolve_left fun z => e z.symm
      obtain ⟨y, h1, h2⟩ := atKey_yes h'
      refine ⟨y, ?_, by rw [if_neg e]; exact h2⟩
      rw [show (x.1 == k) = false from beq_eq_false_iff_ne.mpr e]
      simpa using h1
end
section
variable {X : Cx} {pins : List (Addr × Obj)} {σ : L2.St} {H : Hp} {s : Shared} {p b : Addr} {ka : List (NestedKey × Addr)} {ks : List NestedKey} {k : NestedKey}
theorem dn_obj {P : Program} {w : World} {h : Heap} {xs : List (NestedKey × Addr × Value)} (hd : (p == sysModules) = false) (h1 : xs.map (fun x => (x.1, x.2.1)) = ka) (h2 : ∀ (i : Nat) x, xs[i]? = some x → ∃ t, x.2.2 = .int (i : Int) t) (dd : h.DictOfH (nestedKind P w) p xs) :
    ObjOk P w H h p (.ext (DnO P w p ka)) := by
  obtain ⟨o, es, ep, g1, g2, g3, g4, g5, g6⟩ := dd
  refine ⟨⟨hd, xs, o, es, ep, h1, h2, g1, g2, g3, g4, g6⟩, ⟨o, g1⟩, fun ha hb ⟨q0, xs', o', es', ep', q1, q2, q3, q4⟩ kk => ⟨q0, xs', o', es', ep', q1, q2, kk o' q3, q4⟩⟩
theorem dn_at (I : Inv X pins σ H s) (hp : H p = some (.ext (DnO X.prog X.w p ka))) (dk : DnK H ka ks) : ∃ xs : List (NestedKey × Addr × Value), (p == sysModules) = false ∧ xs.map (fun x => (x.1, x.2.1)) = ka ∧ xs.map (·.1) = ks ∧ (∀ (i : Nat) x, xs[i]? = some x → ∃ t, x.2.2 = .int (i : Int) t) ∧ s.heap.DictOfH (nestedKind X.prog X.w) p xs := by
  obtain ⟨⟨hd, xs, o, es, ep, h1, h2, g1, g2, g3, g4, g6⟩, _, _⟩ := I.hok p _ hp
  have h3 : xs.map (·.1) = ks := by
    rw [← dk.1, ← h1, List.map_map]
    rfl
  refine ⟨xs, hd, h1, h3, h2, o, es, ep, g1, g2, g3, g4, fun x hx => ?_, g6⟩
  exact (dk.2 (x.1, x.2.1) (by rw [← h1]; exact List.mem_map.mpr ⟨x, hx, rfl⟩)).is I.hok
theorem nk_room (hu : X.A.units + 64 < cLine) : (nestedKind X.prog X.w).room X.A.in1 := by
  show X.A.in1.units + 8 < cLine
  rw [Around.in1_units]
  omega
/-- k not in d -/
def rNinN (X : Cx) : R2 := fun x y H Q => ∃ (p b : Addr) (ka : List (NestedKey × Addr)) (ks : List NestedKey) (k : NestedKey), x = .ref b ∧ y = .ref p ∧ H p = some (.ext (DnO X.prog X.w p ka)) ∧ DnK H ka ks ∧ NkT H (k, b) ∧ Q (.bl (!decide (k ∈ ks))) H
theorem op_ninN (hu : X.A.units + 64 < cLine) : OpR X (compareOp .NotIn) (rNinN X) := by
  intro pins s σ H x y v u Q I rx ry h
  obtain ⟨p, b, ka, ks, k, ex, ey, hp, dk, nk, q⟩ := h
  subst ex ey
  obtain rfl : v = Value.ref b := rx
  obtain rfl : u = Value.ref p := ry
  obtain ⟨xs, hd, h1, h3, h2, dd⟩ := dn_at I hp dk
  refine wpAny_notIn_heap (nk_room hu) (nk.is I.hok) hd dd ?_
  have e : (atKey xs k).isSome = decide (k ∈ ks) := by
    rw [← h3]
    by_cases m : k ∈ xs.map (·.1)
    · obtain ⟨x, _, z⟩ := atKey_yes m
      rw [z, decide_eq_true m]
      rfl
    · rw [atKey_no m, decide_eq_false m]
      rfl
  rw [e]
  exact ⟨.bl _, H, I.tok _, rfl, q⟩
/-- d[k] -/
def tDGetN (X : Cx) (td ty : TE) : TE := fun σ H Q => td σ H fun x H1 => ty σ H1 fun y H2 => ∃ (p b : Addr) (ka : List (NestedKey × Addr)) (ks : List NestedKey) (k : NestedKey), x = .ref p ∧ y = .ref b ∧ H2 p = some (.ext (DnO X.prog X.w p ka)) ∧ DnK H2 ka ks ∧ NkT H2 (k, b) ∧ k ∈ ks ∧ Q (.int (ks.idxOf k : Nat)) H2
theorem pe_dgetN {o i : Expr} {td ty : TE} {pos : Pos} (hu : X.A.units + 64 < cLine) (ho : PE X o td) (hi : PE X i ty) (hs : NoSl i) : PE X (.Subscript o i pos) (tDGetN X td ty) := by
  refine ⟨fun pins s σ H Q I h => ?_⟩
  refine subD_of PySem.F.slot_dict_getitem.lookup hs (thn (ho.run pins s σ H _ I h) fun u s1 ⟨x, H1, I1, rx, q1⟩ => thn (hi.run pins s1 σ H1 _ I1 q1) fun iv s2 ⟨y, H2, I2, ry, p, b, ka, ks, k, ex, ey, hp, dk, nk, hk, q2⟩ => ?_)
  subst ex ey
  obtain rfl : u = Value.ref p := rx
  obtain rfl : iv = Value.ref b := ry
  obtain ⟨xs, hd, h1, h3, h2, dd⟩ := dn_at I2 hp dk
  subst h3
  obtain ⟨x, z1, z2⟩ := atKey_yes hk
  obtain ⟨t, et⟩ := h2 _ _ z1
  refine ⟨dd.typeIs, wpAny_getItem_heap (nk_room hu) (nk.is I2.hok) dd z2 ?_⟩
  exact ⟨.int _, H2, I2.tok _, ⟨t, et⟩, q2⟩
theorem new_vals {xs : List (NestedKey × Addr × Value)} {t : Tok} (h2 : ∀ (i : Nat) x, xs[i]? = some x → ∃ t, x.2.2 = .int (i : Int) t) : ∀ (i : Nat) x, (xs ++ [(k, b, .int (xs.length : Int) t)])[i]? = some x → ∃ t, x.2.2 = .int (i : Int) t := fun i x e => by
  by_cases hi : i < xs.length
  · rw [List.getElem?_append_left hi] at e
    exact h2 i x e
  · rw [List.getElem?_append_right (by omega)] at e
    have : i = xs.length := by
      have := (List.getElem?_eq_some_iff.mp e).1
      simp at this
      omega
    subst this
    rw [Nat.sub_self] at e
    cases e
    exact ⟨t, rfl⟩
/-- the dict with one key more -/
theorem dn_more {h' : Heap} {t' : Nat} {xs : List (NestedKey × Addr × Value)} {t : Tok} (I : Inv X pins σ H s) (hp : H p = some (.ext (DnO X.prog X.w p ka))) (hd : (p == sysModules) = false) (h1 : xs.map (fun x => (x.1, x.2.1)) = ka) (h3 : xs.map (·.1) = ks) (h2 : ∀ (i : Nat) x, xs[i]? = some x → ∃ t, x.2.2 = .int (i : Int) t) (hk : k ∉ ks)
    (dd : h'.DictOfH (nestedKind X.prog X.w) p (storedH xs k b (.int (xs.length : Int) t))) (hs : Heap.SameBut p s.heap h') : Inv X pins σ (upd H p (.ext (DnO X.prog X.w p (ka ++ [(k, b)])))) { s with heap := h', toks := t' } := by
  rw [storedH_new (atKey_no (by rw [h3]; exact hk))] at dd
  have he : ∃ q, h'.get? p = some q := let ⟨q, _, _, hq, _⟩ := dd; ⟨q, hq⟩
  exact d_write I (by rw [hp]; exact True.intro) hs he (dn_obj hd (by rw [List.map_append, h1]; rfl) (new_vals h2) dd)
/-- d[k] = the number of the keys, k new -/
def sDPutN (X : Cx) (td ty tv : TE) : TS := fun D σ H => tv σ H fun v H1 => td σ H1 fun x H2 => ty σ H2 fun y H3 => ∃ (p b : Addr) (ka : List (NestedKey × Addr)) (ks : List NestedKey) (k : NestedKey), v = .int (ks.length : Nat) ∧ x = .ref p ∧ y = .ref b ∧ H3 p = some (.ext (DnO X.prog X.w p ka)) ∧ DnK H3 ka ks ∧ NkT H3 (k, b) ∧ k ∉ ks ∧ ks.length ≤ sizeLine ∧ D.nx σ (upd H3 p (.ext (DnO X.prog X.w p (ka ++ [(k, b)]))))
theorem ps_dputN {o i value : Expr} {td ty tv : TE} {pos pos' : Pos} (hu : X.A.units + 64 < cLine) (ho : PE X o td) (hi : PE X i ty) (hv : PE X value tv) (hs : swapsWith value (some (.Subscript o i pos')) pos.line X.env = pure false) :
    PS X (.Assign [.Subscript o i pos'] value pos) (sDPutN X td ty tv) := by
  refine ⟨fun pins s σ H D I h => ?_⟩
  refine wpAny_Assign_Subscript (thn (hv.run pins s σ H _ I h) fun r s1 ⟨v, H1, I1, rv, q1⟩ => thn (ho.run pins s1 σ H1 _ I1 q1) fun u s2 ⟨x, H2, I2, rx, q2⟩ => thn (hi.run pins s2 σ H2 _ I2 q2) fun iv s3 ⟨y, H3, I3, ry, p, b, ka, ks, k, ev, ex, ey, hp, dk, nk, hk, hz, q3⟩ => ?_) hs
  subst ev ex ey
  obtain rfl : u = Value.ref p := rx
  obtain rfl : iv = Value.ref b := ry
  obtain ⟨t, rfl⟩ := rv
  obtain ⟨xs, hd, h1, h3, h2, dd⟩ := dn_at I3 hp dk
  have hl : xs.length = ks.length := by rw [← h3, List.length_map]
  refine wpAny_setItem_heap (hsz := by rw [hl]; exact hz) (nk_room hu) (nk.is I3.hok) dd fun h' dd' hs' => ?_
  rw [← hl] at dd'
  exact ⟨σ, _, dn_more I3 hp hd h1 h3 h2 hk dd' hs', q3⟩
/-- d.setdefault(k, the number of the keys) -/
def tDSetdN (X : Cx) (td ty tx : TE) : TE := fun σ H Q => td σ H fun x H1 => ∃ (p : Addr) (ka0 : List (NestedKey × Addr)) (ks0 : List NestedKey), x = .ref p ∧ H1 p = some (.ext (DnO X.prog X.w p ka0)) ∧ DnK H1 ka0 ks0 ∧ ty σ H1 fun y H2 => tx σ H2 fun z H3 => ∃ (b : Addr) (ka : List (NestedKey × Addr)) (ks : List NestedKey) (k : NestedKey), y = .ref b ∧ z = .int (ks.length : Nat) ∧ H3 p = some (.ext (DnO X.prog X.w p ka)) ∧ DnK H3 ka ks ∧ NkT H3 (k, b) ∧ ks.length ≤ sizeLine ∧
  (k ∈ ks → Q (.int (ks.idxOf k : Nat)) H3) ∧ (k ∉ ks → Q z (upd H3 p (.ext (DnO X.prog X.w p (ka ++ [(k, b)])))))
theorem pe_dsetdN {o e f : Expr} {td ty tx : TE} {apos cpos : Pos} (hu : X.A.units + 64 < cLine) (ho : PE X o td) (he : PE X e ty) (hf : PE X f tx) (m : M2 X o "setdefault" apos e f cpos) : PE X (.Call (.Attribute o "setdefault" apos) [e, f] [] cpos) (tDSetdN X td ty tx) := by
  refine ⟨fun pins s σ H Q I h => ?_⟩
  refine wpAny_Call_method m.base m.few m.line PySem.F.plainAttrs_dict PySem.F.slot_dict_setdefault PySem.F.type_dict_setdefault (thn (ho.run pins s σ H _ I h) fun u s1 ⟨x, H1, I1, rx, p, ka0, ks0, ex, hp0, dk0, q1⟩ => ?_)
  subst ex
  obtain rfl : u = Value.ref p := rx
  obtain ⟨xs0, hd0, _, _, _, dd0⟩ := dn_at I1 hp0 dk0
  refine ⟨dd0.typeIs, fun a' q => by cases q; obtain ⟨ob, _, _, g1, g2, _⟩ := dd0; exact ⟨ob, g1, g2.2.1⟩, ?_⟩
  rw [m.trees]
  refine Calls.callWith_builtin rfl (Calls.evalArgs_plain (Calls.spliced_cons (thn (he.run pins s1 σ H1 _ I1 q1) fun iv s2 ⟨y, H2, I2, ry, q2⟩ =>
    Calls.spliced_cons (thn (hf.run pins s2 σ H2 _ I2 q2) fun fv s3 ⟨z, H3, I3, rz, b, ka, ks, k, ey, ez, hp, dk, nk, hz, q3, q4⟩ => Calls.spliced_nil ?_))))
  subst ey ez
  obtain rfl : iv = Value.ref b := ry
  obtain ⟨t, rfl⟩ := rz
  obtain ⟨xs, hd, h1, h3, h2, dd⟩ := dn_at I3 hp dk
  have hl : xs.length = ks.length := by rw [← h3, List.length_map]
  refine call_setdefault_heap (hsz := by rw [hl]; exact hz) (nk_room hu) (nk.is I3.hok) hd dd (fun pr hpr => ?_) fun hn h' dd' hs' => ?_
  · by_cases hk : k ∈ ks
    · subst h3
      obtain ⟨x, z1, z2⟩ := atKey_yes hk
      rw [hpr] at z2
      cases z2
      obtain ⟨t', et⟩ := h2 _ _ z1
      exact ⟨.int _, H3, I3.tok _, ⟨t', et⟩, q3 hk⟩
    · rw [atKey_no (by rw [h3]; exact hk)] at hpr
      cases hpr
  · have hk : k ∉ ks := fun hk => by
      subst h3
      obtain ⟨x, z1, z2⟩ := atKey_yes hk
      rw [hn] at z2
      cases z2
    rw [← hl] at dd'
    exact ⟨.int (ks.length : Nat), _, dn_more I3 hp hd h1 h3 h2 hk dd' hs', ⟨t, rfl⟩, q4 hk⟩
/-- len(d) -/
theorem call_lenN : CallR X (.builtin "len") (fun xs H Q => ∃ (p : Addr) (ka : List (NestedKey × Addr)) (ks : List NestedKey), xs = [V.ref p] ∧ H p = some (.ext (DnO X.prog X.w p ka)) ∧ DnK H ka ks ∧ ks.length < 1000000 ∧ Q (.int (ks.length : Nat)) H) := by
  intro pins s σ H xs us Q I r h
  obtain ⟨p, ka, ks, rfl, hp, dk, hl0, q⟩ := h
  obtain ⟨u, rfl, ru⟩ := vals1 r
  obtain rfl : u = Value.ref p := ru
  obtain ⟨xs, hd, h1, h3, h2, dd⟩ := dn_at I hp dk
  have hl : xs.length = ks.length := by rw [← h3, List.length_map]
  refine call_len_dictH hd dd (by omega) ?_
  rw [hl]
  exact ⟨.int (ks.length : Nat), H, I.tok _, ⟨_, rfl⟩, q⟩
/-- {} -/
theorem pe_dnewN {pos : Pos} : PE X (.Dict [] [] pos) fun _ H Q => ∀ p, H p = none → Q (.ref p) (upd H p (.ext (DnO X.prog X.w p []))) := ⟨fun pins s σ H Q I h =>
  wpAny_Dict_empty ⟨.ref s.heap.objs.size, _, I.laid (a := s.heap.objs.size) (o := .ext (DnO X.prog X.w s.heap.objs.size [])) (t' := s.toks) (fun _ _ q => Heap.get?_push_of_some _ q) (Nat.le_refl _)
    (dn_obj (xs := []) (beq_eq_false_iff_ne.mpr (Ne.symm (Nat.ne_of_lt I.big))) rfl (fun i x e => by simp at e) (Heap.DictOfH.new s.heap)), rfl, h _ (I.hok.fresh (Nat.le_refl _))⟩⟩
end
end TL

/-! the layer's rules for them -/
namespace TL
open PySem PySem.Spec PyProof.Rows L2
/-- a tuple that is a key -/
def KeyD (d : PyData) (k : NestedKey) : Prop := (∃ ds, d = .tuple ds) ∧ nkD d = some k ∧ k.depth ≤ 8
theorem KeyD.at {Hc : Hp} {v : V} {d : PyData} {k : NestedKey} (t : Tr Hc v d) (h : KeyD d k) : ∃ b, v = .ref b ∧ NkT Hc (k, b) := by
  obtain ⟨⟨ds, e⟩, h2, h3⟩ := h
  subst e
  cases t with
  | @tup a vs _ m u => exact ⟨a, rfl, ⟨_, .tup m u, h2⟩, h3⟩
section
variable {G : Gx} {env : En} {N : DE} {rest : List Stmt} {e a b : Expr} {pos px : Pos} {x : Str} {P : PyData → En → Prop} {PB : Bool → En → Prop}
/-- x = {} -/
theorem r_dnewN (i : Nat) (hnd : G.N.Nodup) (hil : i < env.length) (h : ∀ p, Rs G rest (env.set i (.dn G.P G.w p [])) N) {p2 : Pos} (hi : G.N[i]? = some x := by rfl) (hx : Loc G.sc x := by first | exact Or.inl rfl | exact Or.inr rfl) : Rs G (.Assign [.Name x px] (.Dict [] [] p2) pos :: rest) env N :=
  Rs.of (fun X => tSeq (tAsg (fun _ H Q => ∀ p, H p = none → Q (.ref p) (upd H p (.ext (DnO X.prog X.w p [])))) (gName i)) (tRs G rest)) (fun X hX => pss_cons (ps_set (i := i) (hX.nodup hnd) (hX.at' hi) (hX.loc hx) pe_dnewN rfl (.inl (hX.fn x))) (pssR hX rest)) fun X hX σ Hc H D R q =>
    fun p hp => by
      rw [hX.g.P, hX.g.w]
      have g0 := go_new (o := .ext (DnO G.P G.w p [])) R hp
      have nd := own_ne_new R hp
      have hc := Same.free R.same hp
      have il := lt_of_N R hil
      have hs : ∀ {j : Nat} {s : Sl}, (env.set i (.dn G.P G.w p []))[j]? = some s → (j = i ∧ s = .dn G.P G.w p []) ∨ (j ≠ i ∧ env[j]? = some s) := by
        intro j s e
        by_cases hj : j = i
        · subst hj
          rw [List.getElem?_set_self hil] at e
          cases e
          exact .inl ⟨rfl, rfl⟩
        · rw [List.getElem?_set_ne (Ne.symm hj)] at e
          exact .inr ⟨hj, e⟩
      have g : Go Hc H σ env Hc (upd H p (.ext (DnO G.P G.w p []))) (σ.set i (some (.ref p))) (env.set i (.dn G.P G.w p [])) := by
        refine ⟨⟨g0.rep.same, fun j s e => ?_, fun j l s t a h1 h2 h3 h4 h5 h6 => ?_, by rw [List.length_set, List.length_set]; exact R.len⟩, g0.core, g0.kp, g0.out, fun a o => ?_, g0.ex⟩
        · rcases hs e with ⟨e1, e2'⟩ | ⟨e1, e2'⟩
          · subst e1 e2'
            rw [List.getElem?_set_self il]
            exact ⟨rfl, hc, [], upd_same, rfl, fun _ h => (nomatch h)⟩
          · rw [List.getElem?_set_ne (Ne.symm e1)]
            exact g0.rep.ok j s e2'
        · rcases hs h1 with ⟨e1, e3⟩ | ⟨e1, e3⟩
          · subst e1
            rcases hs h2 with ⟨f1, f3⟩ | ⟨f1, f3⟩
            · exact f1.symm
            · rw [List.getElem?_set_self il] at h5
              cases h5
              rw [List.getElem?_set_ne (Ne.symm f1)] at h6
              exact (nd ⟨_, _, f3, h4, h6⟩).elim
          · rw [List.getElem?_set_ne (Ne.symm e1)] at h5
            rcases hs h2 with ⟨f1, f3⟩ | ⟨f1, f3⟩
            · subst f1
              rw [List.getElem?_set_self il] at h6
              cases h6
              exact (nd ⟨_, _, e3, h3, h5⟩).elim
            · rw [List.getElem?_set_ne (Ne.symm f1)] at h6
              exact R.inj j l s t a e3 f3 h3 h4 h5 h6
        · obtain ⟨j, s, e1, e2', e3⟩ := o
          rcases hs e1 with ⟨f1, f3⟩ | ⟨f1, f3⟩
          · subst f1
            rw [List.getElem?_set_self il] at e3
            cases e3
            exact .inr hp
          · rw [List.getElem?_set_ne (Ne.symm f1)] at e3
            exact .inl ⟨j, s, f3, e2', e3⟩
      exact tRs.use g.rep (h p) (q.from g)
/-- k not in x -/
theorem wt_dninN (i : Nat) (hu : G.A.units + 64 < cLine) (h : W G a env fun dk e2 => ∃ p ks k, e2[i]? = some (.dn G.P G.w p ks) ∧ KeyD dk k ∧ PB (!decide (k ∈ ks)) e2)
    (hi : G.N[i]? = some x := by rfl) (hv : Vis G.sc x := by first | exact Or.inl rfl | exact Or.inr (Or.inl rfl) | exact Or.inr (Or.inr rfl))
    (hd : (x == ("__debug__" : Str)) = false := by decide) (hcd : (x == ("__classdict__" : Str)) = false := by decide) : WT G (.Compare a [.NotIn] [.Name x px] pos) env PB :=
  WT.of (fun X => tTest (tOp (rNinN X) (tW G a) (tVar i))) (fun X hX => pt_cmpR (op_ninN (by rw [hX.A]; exact hu)) (peW hX a) (pvG hX i hi hv hd hcd) rfl) fun X hX σ Hc H Q R q => by
    refine tW.use R h fun v dk e2 Hc2 H2 ⟨p, ks, k, e3, ek, pd⟩ go t => ?_
    obtain ⟨ep, c0, ka, m0, t0⟩ := go.rep.ok i _ e3
    obtain ⟨b, ev, nk⟩ := ek.at t
    refine ⟨_, ep, p, b, ka, ks, k, ev, rfl, by rw [hX.P, hX.w]; exact m0, t0.mono go.rep.same, ⟨⟨nk.1.choose, nk.1.choose_spec.1.mono go.rep.same, nk.1.choose_spec.2⟩, nk.2⟩, _, rfl, q _ _ _ _ pd go⟩
/-- x[k] -/
theorem w_dgetN (i : Nat) {p0 : Addr} {ks0 : List NestedKey} (hu : G.A.units + 64 < cLine) (he : env[i]? = some (.dn G.P G.w p0 ks0)) (h : W G a env fun dk e2 => ∃ ks k, e2[i]? = some (.dn G.P G.w p0 ks) ∧ KeyD dk k ∧ k ∈ ks ∧ P (.int (ks.idxOf k : Nat)) e2)
    (hi : G.N[i]? = some x := by rfl) (hv : Vis G.sc x := by first | exact Or.inl rfl | exact Or.inr (Or.inl rfl) | exact Or.inr (Or.inr rfl)) (hs : NoSl a := by exact fun _ _ => rfl)
    (hd : (x == ("__debug__" : Str)) = false := by decide) (hcd : (x == ("__classdict__" : Str)) = false := by decide) : W G (.Subscript (.Name x px) a pos) env P :=
  W.of (fun X => tDGetN X (tVar i) (tW G a)) (fun X hX => pe_dgetN (by rw [hX.A]; exact hu) (pvG hX i hi hv hd hcd) (peW hX a) hs) fun X hX σ Hc H Q R q => by
    obtain ⟨ep, c0, ka0, m0, t0⟩ := R.ok i _ he
    refine ⟨_, ep, tW.use R h fun v dk e2 Hc2 H2 ⟨ks, k, e3, ek, hk, pd⟩ go t => ?_⟩
    obtain ⟨ep2, c2, ka, m2, t2⟩ := go.rep.ok i _ e3
    obtain ⟨b, ev, nk⟩ := ek.at t
    exact ⟨p0, b, ka, ks, k, rfl, ev, by rw [hX.P, hX.w]; exact m2, t2.mono go.rep.same, ⟨⟨nk.1.choose, nk.1.choose_spec.1.mono go.rep.same, nk.1.choose_spec.2⟩, nk.2⟩, hk, q _ _ _ _ _ pd go (.int _)⟩
/-- len(x) -/
theorem w_lenDN (i : Nat) {p0 : Addr} {ks : List NestedKey} (hm : G.mg "len" = none) (he : env[i]? = some (.dn G.P G.w p0 ks)) (hl : ks.length < 1000000) (h : P (.int (ks.length : Nat)) env) {p : Pos}
    (hi : G.N[i]? = some x := by rfl) (hv : Vis G.sc x := by first | exact Or.inl rfl | exact Or.inr (Or.inl rfl) | exact Or.inr (Or.inr rfl)) (hg : GlG G "len" := by rfl)
    (hd : (x == ("__debug__" : Str)) = false := by decide) (hcd : (x == ("__classdict__" : Str)) = false := by decide) : W G (.Call (.Name "len" p) [.Name x px] [] pos) env P :=
  W.of (fun X => tCB (fun xs H Q => ∃ (p : Addr) (ka : List (NestedKey × Addr)) (ks : List NestedKey), xs = [V.ref p] ∧ H p = some (.ext (DnO X.prog X.w p ka)) ∧ DnK H ka ks ∧ ks.length < 1000000 ∧ Q (.int (ks.length : Nat)) H) (tCons (tVar i) tNil)) (fun X hX => pe_callB call_lenN (glX hX hg) (by rw [hX.mg]; exact hm) boot_len (pa_cons (pvG hX i hi hv hd hcd) pa_nil)) fun X hX σ Hc H Q R q => by
    obtain ⟨ep, c0, ka, m0, t0⟩ := R.ok i _ he
    exact ⟨_, ep, p0, ka, ks, rfl, by rw [hX.P, hX.w]; exact m0, t0.mono R.same, hl, q _ _ _ _ _ h (.refl R) (.int _)⟩
/-- x[k] = the number of the keys -/
theorem r_dputN (i : Nat) (hu : G.A.units + 64 < cLine) (h : W G e env fun d e1 => ∃ p ks1, e1[i]? = some (.dn G.P G.w p ks1) ∧ W G a e1 fun dk e2 => ∃ ks k, e2[i]? = some (.dn G.P G.w p ks) ∧ d = .int (ks.length : Nat) ∧ KeyD dk k ∧ k ∉ ks ∧ ks.length < 100000 ∧ Rs G rest (e2.set i (.dn G.P G.w p (ks ++ [k]))) N)
    {ps2 : Pos} (hi : G.N[i]? = some x := by rfl) (hv : Vis G.sc x := by first | exact Or.inl rfl | exact Or.inr (Or.inl rfl) | exact Or.inr (Or.inr rfl))
    (hs : ∀ (v : Env) l, v.scope = G.sc → swapsWith e (some (.Subscript (.Name x px) a ps2)) l v = pure false := by exact fun _ _ _ => rfl)
    (hd : (x == ("__debug__" : Str)) = false := by decide) (hcd : (x == ("__classdict__" : Str)) = false := by decide) : Rs G (.Assign [.Subscript (.Name x px) a ps2] e pos :: rest) env N :=
  Rs.of (fun X => tSeq (sDPutN X (tVar i) (tW G a) (tW G e)) (tRs G rest)) (fun X hX => pss_cons (ps_dputN (by rw [hX.g.A]; exact hu) (pvG hX.g i hi hv hd hcd) (peW hX.g a) (peW hX.g e) (hs _ _ hX.g.sc)) (pssR hX rest)) fun X hX σ Hc H D R q =>
    tW.use R h fun v d e1 Hc1 H1 ⟨p, ks1, he, hr⟩ go t => by
      obtain ⟨ep, c0, ka0, m0, _⟩ := go.rep.ok i _ he
      refine ⟨_, ep, tW.use go.rep hr fun k' dk e2 Hc2 H2 ⟨ks, k, ed, dd, ek, hk, hl, hr2⟩ go2 tk => ?_⟩
      subst dd
      cases t
      obtain ⟨ep1, c1, ka, m1, t1⟩ := go2.rep.ok i _ ed
      obtain ⟨b, ev, nk⟩ := ek.at tk
      refine ⟨p, b, ka, ks, k, rfl, rfl, ev, by rw [hX.g.P, hX.g.w]; exact m1, t1.mono go2.rep.same, ⟨⟨nk.1.choose, nk.1.choose_spec.1.mono go2.rep.same, nk.1.choose_spec.2⟩, nk.2⟩, hk, Nat.le_trans (Nat.le_of_lt hl) (by decide), ?_⟩
      rw [hX.g.P, hX.g.w]
      have g := go_own (o := .ext (DnO G.P G.w p (ka ++ [(k, b)]))) (t := .dn G.P G.w p (ks ++ [k])) go2.rep ed rfl ep1 c1 rfl (by
        rw [ep1]
        refine ⟨rfl, c1, ka ++ [(k, b)], upd_same, by rw [List.map_append, t1.1]; rfl, fun pr hpr => ?_⟩
        rcases List.mem_append.mp hpr with z | z
        · exact t1.2 pr z
        · rw [List.mem_singleton.mp z]
          exact nk)
      exact tRs.use g.rep hr2 (q.from ((go.trans go2).trans g))
/-- x.setdefault(k, the number of the keys) -/
theorem w_dsetN (i : Nat) {p : Addr} {ks0 : List NestedKey} (hu : G.A.units + 64 < cLine) (he : env[i]? = some (.dn G.P G.w p ks0)) (h : W G a env fun dk e1 => W G b e1 fun d e2 => ∃ ks k, e2[i]? = some (.dn G.P G.w p ks) ∧ d = .int (ks.length : Nat) ∧ KeyD dk k ∧ ks.length < 100000 ∧
      (k ∈ ks → P (.int (ks.idxOf k : Nat)) e2) ∧ (k ∉ ks → P d (e2.set i (.dn G.P G.w p (ks ++ [k])))))
    {pa pc : Pos} (hi : G.N[i]? = some x := by rfl) (hv : Vis G.sc x := by first | exact Or.inl rfl | exact Or.inr (Or.inl rfl) | exact Or.inr (Or.inr rfl)) (ns : noStar [a, b] = true := by rfl) (hline : (pa.endLine == pc.line) = true := by rfl)
    (hd : (x == ("__debug__" : Str)) = false := by decide) (hcd : (x == ("__classdict__" : Str)) = false := by decide) : W G (.Call (.Attribute (.Name x px) "setdefault" pa) [a, b] [] pc) env P :=
  W.of (fun X => tDSetdN X (tVar i) (tW G a) (tW G b)) (fun X hX => pe_dsetdN (by rw [hX.A]; exact hu) (pvG hX i hi hv hd hcd) (peW hX a) (peW hX b) ⟨rfl, by rw [star_cons (noStar_cons ns).1, star_cons (noStar_cons (noStar_cons ns).2).1]; rfl, hline, by rw [star_cons (noStar_cons ns).1, star_cons (noStar_cons (noStar_cons ns).2).1]; rfl⟩) fun X hX σ Hc H Q R q => by
    obtain ⟨ep, c0, ka0, m0, t0⟩ := R.ok i _ he
    refine ⟨_, ep, p, ka0, ks0, rfl, by rw [hX.P, hX.w]; exact m0, t0.mono R.same, tW.use R h fun v dk e1 Hc1 H1 h2 go t => tW.use go.rep h2 fun w d e2 Hc2 H2 ⟨ks, k, ed, dd, ek, hl, h3, h4⟩ go2 tw => ?_⟩
    subst dd
    cases tw
    obtain ⟨ep1, c1, ka, m1, t1⟩ := go2.rep.ok i _ ed
    obtain ⟨b', ev, nk0⟩ := ek.at t
    have nk : NkT Hc2 (k, b') := ⟨⟨nk0.1.choose, nk0.1.choose_spec.1.mono go2.core, nk0.1.choose_spec.2⟩, nk0.2⟩
    refine ⟨b', ka, ks, k, ev, rfl, by rw [hX.P, hX.w]; exact m1, t1.mono go2.rep.same, ⟨⟨nk.1.choose, nk.1.choose_spec.1.mono go2.rep.same, nk.1.choose_spec.2⟩, nk.2⟩, Nat.le_trans (Nat.le_of_lt hl) (by decide), fun hk => q _ _ _ _ _ (h3 hk) (go.trans go2) (.int _), fun hk => ?_⟩
    rw [hX.P, hX.w]
    have g := go_own (o := .ext (DnO G.P G.w p (ka ++ [(k, b')]))) (t := .dn G.P G.w p (ks ++ [k])) go2.rep ed rfl ep1 c1 rfl (by
      rw [ep1]
      refine ⟨rfl, c1, ka ++ [(k, b')], upd_same, by rw [List.map_append, t1.1]; rfl, fun pr hpr => ?_⟩
      rcases List.mem_append.mp hpr with z | z
      · exact t1.2 pr z
      · rw [List.mem_singleton.mp z]
        exact nk)
    exact q _ _ _ _ _ (h4 hk) ((go.trans go2).trans g) (.int _)
end
end TL

/-! numbering anew does not see which numbers stand for the dyes -/
namespace TL
open PySem PySem.Spec PyProof.Rows L2
section
variable {f : Int → Int} {S : List Int} (inj : ∀ a ∈ S, ∀ b ∈ S, f a = f b → a = b)
include inj
theorem idx_inj : ∀ (ks : List Int) (x : Int), (∀ z ∈ ks, z ∈ S) → x ∈ S → (ks.map f).idxOf (f x) = ks.idxOf x
  | [], x, _, _ => rfl
  | a :: ks, x, h, hx => by
    have ih := idx_inj ks x (fun z hz => h z (List.mem_cons_of_mem _ hz)) hx
    rw [List.map_cons, List.idxOf_cons, List.idxOf_cons, ih]
    by_cases e : a = x
    · subst e
      simp
    · have e2 : f a ≠ f x := fun z => e (inj a (h a List.mem_cons_self) x hx z)
      rw [beq_eq_false_iff_ne.mpr e, beq_eq_false_iff_ne.mpr e2]
theorem nk_inj (ks : List Int) (x : Int) (h : ∀ z ∈ ks, z ∈ S) (hx : x ∈ S) : nk (ks.map f) (f x) = (nk ks x).map f ∧ ∀ z ∈ nk ks x, z ∈ S := by
  unfold nk
  by_cases e : x ∈ ks
  · rw [if_pos e, if_pos (List.mem_map_of_mem e)]
    exact ⟨rfl, h⟩
  · rw [if_neg e, if_neg (fun z => by
      obtain ⟨y, hy, e2⟩ := List.mem_map.mp z
      rw [inj y (h y hy) x hx e2] at hy
      exact e hy)]
    refine ⟨by rw [List.map_append]; rfl, fun z hz => ?_⟩
    rcases List.mem_append.mp hz with hz | hz
    · exact h z hz
    · rw [List.mem_singleton.mp hz]
      exact hx
theorem line_inj : ∀ (r ks : List Int), (∀ z ∈ r, z ∈ S) → (∀ z ∈ ks, z ∈ S) → dyLine (ks.map f) (r.map f) = ((dyLine ks r).1, (dyLine ks r).2.map f) ∧ ∀ z ∈ (dyLine ks r).2, z ∈ S
  | [], ks, _, h => ⟨rfl, h⟩
  | x :: r, ks, hr, h => by
    obtain ⟨n1, n2⟩ := nk_inj inj ks x h (hr x List.mem_cons_self)
    obtain ⟨i1, i2⟩ := line_inj r (nk ks x) (fun z hz => hr z (List.mem_cons_of_mem _ hz)) n2
    refine ⟨?_, i2⟩
    show (((ks.map f).idxOf (f x) : Int) :: (dyLine (nk (ks.map f) (f x)) (r.map f)).1, (dyLine (nk (ks.map f) (f x)) (r.map f)).2) = _
    rw [n1, i1, idx_inj inj ks x h (hr x List.mem_cons_self)]
    rfl
theorem tab_inj : ∀ (t : Tb) (ks : List Int), (∀ r ∈ t, ∀ z ∈ r, z ∈ S) → (∀ z ∈ ks, z ∈ S) → (dyTab (ks.map f) (t.map fun r => r.map f)).1 = (dyTab ks t).1
  | [], ks, _, _ => rfl
  | r :: t, ks, ht, h => by
    obtain ⟨i1, i2⟩ := line_inj inj r ks (ht r List.mem_cons_self) h
    have ih := tab_inj t (dyLine ks r).2 (fun q hq => ht q (List.mem_cons_of_mem _ hq)) i2
    show (dyLine (ks.map f) (r.map f)).1 :: (dyTab (dyLine (ks.map f) (r.map f)).2 (t.map fun r => r.map f)).1 = _
    rw [i1]
    show (dyLine ks r).1 :: (dyTab ((dyLine ks r).2.map f) (t.map fun r => r.map f)).1 = _
    rw [ih]
    rfl
theorem dy_inj (t : Tb) (ht : ∀ r ∈ t, ∀ z ∈ r, z ∈ S) : dy (t.map fun r => r.map f) = dy t := tab_inj inj t [] ht (fun _ h => (nomatch h))
end
end TL

/-! numbering anew is a change of names; so it may be done at once behind any rearranging -/
namespace TL
open PySem PySem.Spec PyProof.Rows L2
theorem idx_app {ks e : List Int} {x : Int} (h : x ∈ ks) : (ks ++ e).idxOf x = ks.idxOf x := by rw [List.idxOf_append, if_pos h]
theorem nk_idx (ks : List Int) (x : Int) : (∃ e, nk ks x = ks ++ e) ∧ x ∈ nk ks x ∧ (nk ks x).idxOf x = ks.idxOf x := by
  unfold nk
  by_cases h : x ∈ ks
  · rw [if_pos h]
    exact ⟨⟨[], (List.append_nil ks).symm⟩, h, rfl⟩
  · rw [if_neg h]
    refine ⟨⟨[x], rfl⟩, List.mem_append_right _ (List.mem_singleton.mpr rfl), ?_⟩
    rw [List.idxOf_append, if_neg h, List.idxOf_eq_length h]
    simp
theorem line_idx : ∀ (r ks : List Int), (∃ e, (dyLine ks r).2 = ks ++ e) ∧ (∀ x ∈ r, x ∈ (dyLine ks r).2) ∧ (dyLine ks r).1 = r.map fun x => ((dyLine ks r).2.idxOf x : Int)
  | [], ks => ⟨⟨[], (List.append_nil ks).symm⟩, fun x h => (nomatch h), rfl⟩
  | y :: r, ks => by
    obtain ⟨⟨e, he⟩, hm, hi⟩ := nk_idx ks y
    obtain ⟨⟨e2, he2⟩, h2, h3⟩ := line_idx r (nk ks y)
    have e3 : (dyLine ks (y :: r)).2 = (dyLine (nk ks y) r).2 := rfl
    rw [e3]
    refine ⟨⟨e ++ e2, by rw [he2, he, List.append_assoc]⟩, fun x hx => ?_, ?_⟩
    · rcases List.mem_cons.mp hx with q | q
      · rw [q, he2]
        exact List.mem_append_left _ hm
      · exact h2 x q
    · show (ks.idxOf y : Int) :: (dyLine (nk ks y) r).1 = _
      rw [List.map_cons, h3]
      have e4 : (dyLine (nk ks y) r).2.idxOf y = ks.idxOf y := by rw [he2, idx_app hm, hi]
      rw [e4]
theorem tab_idx : ∀ (t : Tb) (ks : List Int), (∃ e, (dyTab ks t).2 = ks ++ e) ∧ (∀ r ∈ t, ∀ x ∈ r, x ∈ (dyTab ks t).2) ∧ (dyTab ks t).1 = t.map fun r => r.map fun x => ((dyTab ks t).2.idxOf x : Int)
  | [], ks => ⟨⟨[], (List.append_nil ks).symm⟩, fun r h => (nomatch h), rfl⟩
  | r :: t, ks => by
    obtain ⟨⟨e, he⟩, hm, hi⟩ := line_idx r ks
    obtain ⟨⟨e2, he2⟩, h2, h3⟩ := tab_idx t (dyLine ks r).2
    have e3 : (dyTab ks (r :: t)).2 = (dyTab (dyLine ks r).2 t).2 := rfl
    rw [e3]
    refine ⟨⟨e ++ e2, by rw [he2, he, List.append_assoc]⟩, fun q hq x hx => ?_, ?_⟩
    · rcases List.mem_cons.mp hq with z | z
      · subst z
        rw [he2]
        exact List.mem_append_left _ (hm x hx)
      · exact h2 q z x hx
    · show (dyLine ks r).1 :: (dyTab (dyLine ks r).2 t).1 = _
      rw [List.map_cons, h3, hi]
      refine congrArg (· :: _) (List.map_congr_left fun x hx => ?_)
      rw [he2, idx_app (hm x hx)]
theorem idx_of_inj {ks : List Int} : ∀ a ∈ ks, ∀ b ∈ ks, ((ks.idxOf a : Nat) : Int) = (ks.idxOf b : Nat) → a = b := fun a ha b hb e => by
  have e' : ks.idxOf a = ks.idxOf b := by exact_mod_cast e
  have h1 := List.getElem_idxOf (List.idxOf_lt_length_of_mem ha)
  have h2 := List.getElem_idxOf (List.idxOf_lt_length_of_mem hb)
  rw [← h1, ← h2]
  simp only [e']
/-- numbering anew: a change of names that keeps unlike ones unlike -/
theorem dy_names (t : Tb) : ∃ (f : Int → Int) (S : List Int), (∀ a ∈ S, ∀ b ∈ S, f a = f b → a = b) ∧ (∀ r ∈ t, ∀ z ∈ r, z ∈ S) ∧ dy t = t.map fun r => r.map f := by
  obtain ⟨_, h2, h3⟩ := tab_idx t []
  exact ⟨fun x => ((dyTab [] t).2.idxOf x : Int), (dyTab [] t).2, idx_of_inj, h2, h3⟩
end TL

/-! numbering of tables of keys -/
namespace TL
open PySem PySem.Spec PyProof.Rows L2
abbrev KTb := List (List NestedKey)
def gnk (ks : List NestedKey) (x : NestedKey) : List NestedKey := if x ∈ ks then ks else ks ++ [x]
def gLine : List NestedKey → List NestedKey → List Int × List NestedKey
  | ks, [] => ([], ks)
  | ks, x :: r => ((ks.idxOf x : Int) :: (gLine (gnk ks x) r).1, (gLine (gnk ks x) r).2)
def gTab : List NestedKey → KTb → Tb × List NestedKey
  | ks, [] => ([], ks)
  | ks, r :: t => ((gLine ks r).1 :: (gTab (gLine ks r).2 t).1, (gTab (gLine ks r).2 t).2)
def gdy (t : KTb) : Tb := (gTab [] t).1
theorem gLine_snoc : ∀ (r : List NestedKey) (ks : List NestedKey) (x : NestedKey), gLine ks (r ++ [x]) = ((gLine ks r).1 ++ [((gLine ks r).2.idxOf x : Int)], gnk (gLine ks r).2 x)
  | [], ks, x => rfl
  | y :: r, ks, x => by
    show ((ks.idxOf y : Int) :: (gLine (gnk ks y) (r ++ [x])).1, (gLine (gnk ks y) (r ++ [x])).2) = _
    rw [gLine_snoc r (gnk ks y) x]
    rfl
theorem gTab_snoc : ∀ (t : KTb) (ks : List NestedKey) (r : List NestedKey), gTab ks (t ++ [r]) = ((gTab ks t).1 ++ [(gLine (gTab ks t).2 r).1], (gLine (gTab ks t).2 r).2)
  | [], ks, r => rfl
  | s :: t, ks, r => by
    show ((gLine ks s).1 :: (gTab (gLine ks s).2 (t ++ [r])).1, (gTab (gLine ks s).2 (t ++ [r])).2) = _
    rw [gTab_snoc t (gLine ks s).2 r]
    rfl
theorem gnk_len (ks : List NestedKey) (x : NestedKey) : (gnk ks x).length ≤ ks.length + 1 := by
  unfold gnk
  split
  · omega
  · rw [List.length_append]; show ks.length + 1 ≤ _; omega
theorem gLine_len : ∀ (r ks : List NestedKey), (gLine ks r).2.length ≤ ks.length + r.length ∧ (gLine ks r).1.length = r.length
  | [], ks => ⟨Nat.le_refl _, rfl⟩
  | x :: r, ks => by
    have h := gLine_len r (gnk ks x)
    have := gnk_len ks x
    exact ⟨by show (gLine (gnk ks x) r).2.length ≤ ks.length + (r.length + 1); omega, by show (gLine (gnk ks x) r).1.length + 1 = r.length + 1; omega⟩
section
variable {ι : NestedKey → Int} {S : List NestedKey} (inj : ∀ a ∈ S, ∀ b ∈ S, ι a = ι b → a = b)
include inj
theorem gidx : ∀ (ks : List NestedKey) (x : NestedKey), (∀ z ∈ ks, z ∈ S) → x ∈ S → (ks.map ι).idxOf (ι x) = ks.idxOf x
  | [], x, _, _ => rfl
  | a :: ks, x, h, hx => by
    have ih := gidx ks x (fun z hz => h z (List.mem_cons_of_mem _ hz)) hx
    rw [List.map_cons, List.idxOf_cons, List.idxOf_cons, ih]
    by_cases e : a = x
    · subst e
      simp
    · have e2 : ι a ≠ ι x := fun z => e (inj a (h a List.mem_cons_self) x hx z)
      rw [show (ι a == ι x) = false from beq_eq_false_iff_ne.mpr e2, show (a == x) = false from beq_eq_false_iff_ne.mpr e]
theorem gnk_map (ks : List NestedKey) (x : NestedKey) (h : ∀ z ∈ ks, z ∈ S) (hx : x ∈ S) : nk (ks.map ι) (ι x) = (gnk ks x).map ι ∧ ∀ z ∈ gnk ks x, z ∈ S := by
  have hm : ι x ∈ ks.map ι ↔ x ∈ ks := by
    constructor
    · intro m
      obtain ⟨z, hz, e⟩ := List.mem_map.mp m
      rw [← inj z (h z hz) x hx e]
      exact hz
    · exact fun m => List.mem_map.mpr ⟨x, m, rfl⟩
  unfold nk gnk
  by_cases e : x ∈ ks
  · rw [if_pos e, if_pos (hm.mpr e)]
    exact ⟨rfl, h⟩
  · rw [if_neg e, if_neg (fun z => e (hm.mp z)), List.map_append]
    refine ⟨rfl, fun z hz => ?_⟩
    rcases List.mem_append.mp hz with q | q
    · exact h z q
    · rw [List.mem_singleton.mp q]
      exact hx
theorem gLine_map : ∀ (r ks : List NestedKey), (∀ z ∈ r, z ∈ S) → (∀ z ∈ ks, z ∈ S) → dyLine (ks.map ι) (r.map ι) = ((gLine ks r).1, (gLine ks r).2.map ι) ∧ ∀ z ∈ (gLine ks r).2, z ∈ S
  | [], ks, _, hk => ⟨rfl, hk⟩
  | x :: r, ks, hr, hk => by
    have hx := hr x List.mem_cons_self
    obtain ⟨h1, h2⟩ := gnk_map inj ks x hk hx
    obtain ⟨h3, h4⟩ := gLine_map r (gnk ks x) (fun z hz => hr z (List.mem_cons_of_mem _ hz)) h2
    refine ⟨?_, h4⟩
    show (((ks.map ι).idxOf (ι x) : Int) :: (dyLine (nk (ks.map ι) (ι x)) (r.map ι)).1, (dyLine (nk (ks.map ι) (ι x)) (r.map ι)).2) = _
    rw [h1, h3, gidx inj ks x hk hx]
    rfl
theorem gTab_map : ∀ (t : KTb) (ks : List NestedKey), (∀ r ∈ t, ∀ z ∈ r, z ∈ S) → (∀ z ∈ ks, z ∈ S) → (dyTab (ks.map ι) (t.map fun r => r.map ι)).1 = (gTab ks t).1
  | [], ks, _, _ => rfl
  | r :: t, ks, ht, hk => by
    obtain ⟨h1, h2⟩ := gLine_map inj r ks (ht r List.mem_cons_self) hk
    show (dyLine (ks.map ι) (r.map ι)).1 :: (dyTab (dyLine (ks.map ι) (r.map ι)).2 (t.map fun r => r.map ι)).1 = _
    rw [h1]
    show (gLine ks r).1 :: (dyTab ((gLine ks r).2.map ι) (t.map fun r => r.map ι)).1 = _
    rw [gTab_map t _ (fun s hs => ht s (List.mem_cons_of_mem _ hs)) h2]
    rfl
end
/-- the numbering of keys is that of integers that stand for them -/
theorem gdy_dy (t : KTb) : ∃ ι : NestedKey → Int, (∀ a b : NestedKey, (∃ r ∈ t, a ∈ r) → (∃ r ∈ t, b ∈ r) → ι a = ι b → a = b) ∧ gdy t = dy (t.map fun r => r.map ι) := by
  let S : List NestedKey := t.flatMap id
  have mS : ∀ a : NestedKey, (∃ r ∈ t, a ∈ r) → a ∈ S := fun a ⟨r, hr, ha⟩ => List.mem_flatMap.mpr ⟨r, hr, ha⟩
  have inj : ∀ a ∈ S, ∀ b ∈ S, ((S.idxOf a : Nat) : Int) = (S.idxOf b : Nat) → a = b := fun a ha b hb e => by
    have e' : S.idxOf a = S.idxOf b := by omega
    have h1 := List.getElem_idxOf (List.idxOf_lt_length_of_mem ha)
    have h2 := List.getElem_idxOf (List.idxOf_lt_length_of_mem hb)
    rw [← h1, ← h2]
    simp only [e']
  refine ⟨fun a => (S.idxOf a : Nat), fun a b ha hb e => inj a (mS a ha) b (mS b hb) e, ?_⟩
  exact (gTab_map inj t [] (fun r hr z hz => mS z ⟨r, hr, hz⟩) (fun _ h => nomatch h)).symm
/-! tables by functions -/
def tabF {α : Type} (n : Nat) (f : Nat → Nat → α) : List (List α) := (List.range n).map fun i => (List.range n).map fun j => f i j
theorem tabF_map {α β : Type} (n : Nat) (f : Nat → Nat → α) (g : α → β) : (tabF n f).map (fun r => r.map g) = tabF n fun i j => g (f i j) := by
  unfold tabF
  rw [List.map_map]
  refine List.map_congr_left fun i _ => ?_
  show ((List.range n).map fun j => f i j).map g = _
  rw [List.map_map]
  rfl
theorem tabF_sq (n : Nat) (f : Nat → Nat → Int) : Sq n (tabF n f) := by
  refine ⟨by rw [tabF, List.length_map, List.length_range], fun r hr => ?_⟩
  obtain ⟨i, _, e⟩ := List.mem_map.mp hr
  rw [← e, List.length_map, List.length_range]
theorem tabF_mem {α : Type} {n : Nat} {f : Nat → Nat → α} {z : α} : (∃ r ∈ tabF n f, z ∈ r) ↔ ∃ i j, i < n ∧ j < n ∧ f i j = z := by
  constructor
  · rintro ⟨r, hr, hz⟩
    obtain ⟨i, hi, e⟩ := List.mem_map.mp hr
    rw [← e] at hz
    obtain ⟨j, hj, e2⟩ := List.mem_map.mp hz
    exact ⟨i, j, List.mem_range.mp hi, List.mem_range.mp hj, e2⟩
  · rintro ⟨i, j, hi, hj, e⟩
    exact ⟨_, List.mem_map.mpr ⟨i, List.mem_range.mpr hi, rfl⟩, List.mem_map.mpr ⟨j, List.mem_range.mpr hj, e⟩⟩
theorem tabF_congr {α : Type} {n : Nat} {f g : Nat → Nat → α} (h : ∀ i j, i < n → j < n → f i j = g i j) : tabF n f = tabF n g := by
  unfold tabF
  refine List.map_congr_left fun i hi => List.map_congr_left fun j hj => h i j (List.mem_range.mp hi) (List.mem_range.mp hj)
def dyF (n : Nat) (f : Nat → Nat → Int) : Tb := dy (tabF n f)
def gdyF (n : Nat) (f : Nat → Nat → NestedKey) : Tb := gdy (tabF n f)
/-- what is dyed alike is numbered alike -/
theorem dyF_eq {n : Nat} {f g : Nat → Nat → Int} (h : ∀ i j k l, i < n → j < n → k < n → l < n → (f i j = f k l ↔ g i j = g k l)) : dyF n f = dyF n g := by
  classical
  let φ : Int → Int := fun x => if e : ∃ i j, i < n ∧ j < n ∧ f i j = x then g e.choose e.choose_spec.choose else 0
  have hφ : ∀ i j, i < n → j < n → φ (f i j) = g i j := fun i j hi hj => by
    have e : ∃ i' j', i' < n ∧ j' < n ∧ f i' j' = f i j := ⟨i, j, hi, hj, rfl⟩
    show (if e : ∃ i' j', i' < n ∧ j' < n ∧ f i' j' = f i j then g e.choose e.choose_spec.choose else 0) = g i j
    rw [dif_pos e]
    have s := e.choose_spec.choose_spec
    exact (h _ _ i j s.1 s.2.1 hi hj).mp s.2.2
  have e1 : tabF n g = (tabF n f).map fun r => r.map φ := by
    rw [tabF_map]
    exact tabF_congr fun i j hi hj => (hφ i j hi hj).symm
  unfold dyF
  rw [e1]
  refine (dy_inj (S := (tabF n f).flatMap id) (f := φ) (fun a ha b hb e => ?_) (tabF n f) fun r hr z hz => List.mem_flatMap.mpr ⟨r, hr, hz⟩).symm
  obtain ⟨r, hr, ha'⟩ := List.mem_flatMap.mp ha
  obtain ⟨s, hs, hb'⟩ := List.mem_flatMap.mp hb
  obtain ⟨i, j, hi, hj, e1⟩ := tabF_mem.mp ⟨r, hr, ha'⟩
  obtain ⟨k, l, hk, hl, e2⟩ := tabF_mem.mp ⟨s, hs, hb'⟩
  subst e1 e2
  rw [hφ i j hi hj, hφ k l hk hl] at e
  exact (h i j k l hi hj hk hl).mpr e
theorem gdyF_dyF {n : Nat} {f : Nat → Nat → NestedKey} {g : Nat → Nat → Int} (h : ∀ i j k l, i < n → j < n → k < n → l < n → (f i j = f k l ↔ g i j = g k l)) : gdyF n f = dyF n g := by
  obtain ⟨ι, i1, i2⟩ := gdy_dy (tabF n f)
  unfold gdyF
  rw [i2, tabF_map]
  refine dyF_eq fun i j k l hi hj hk hl => ⟨fun e => (h i j k l hi hj hk hl).mp (i1 _ _ (tabF_mem.mpr ⟨i, j, hi, hj, rfl⟩) (tabF_mem.mpr ⟨k, l, hk, hl, rfl⟩) e), fun e => ?_⟩
  show ι (f i j) = ι (f k l)
  rw [(h i j k l hi hj hk hl).mpr e]
theorem gdyF_eq {n : Nat} {f g : Nat → Nat → NestedKey} (h : ∀ i j k l, i < n → j < n → k < n → l < n → (f i j = f k l ↔ g i j = g k l)) : gdyF n f = gdyF n g := by
  obtain ⟨ι, i1, i2⟩ := gdy_dy (tabF n g)
  rw [gdyF_dyF (g := fun i j => ι (g i j)) fun i j k l hi hj hk hl => ⟨fun e => by rw [(h i j k l hi hj hk hl).mp e], fun e => (h i j k l hi hj hk hl).mpr (i1 _ _ (tabF_mem.mpr ⟨i, j, hi, hj, rfl⟩) (tabF_mem.mpr ⟨k, l, hk, hl, rfl⟩) e)⟩]
  unfold dyF gdyF
  rw [i2, tabF_map]
theorem gdyF_dye (n : Nat) (f : Nat → Nat → NestedKey) : Dye n (gdyF n f) := by
  obtain ⟨ι, _, i2⟩ := gdy_dy (tabF n f)
  unfold gdyF
  rw [i2, tabF_map]
  exact dye_of (tabF_sq n _)
theorem gdy_dye {n : Nat} {t : KTb} (h1 : t.length = n) (h2 : ∀ r ∈ t, r.length = n) : Dye n (gdy t) := by
  obtain ⟨ι, _, i2⟩ := gdy_dy t
  rw [i2]
  refine dye_of ⟨by rw [List.length_map]; exact h1, fun r hr => ?_⟩
  obtain ⟨s, hs, e⟩ := List.mem_map.mp hr
  rw [← e, List.length_map]
  exact h2 s hs
/-- a table by its entries -/
def atN (t : Tb) (i j : Nat) : Int := (t.getD i []).getD j 0
theorem tab_atN {n : Nat} {t : Tb} (h : Sq n t) : t = tabF n (atN t) := by
  unfold tabF
  apply List.ext_getElem
  · rw [List.length_map, List.length_range, h.1]
  · intro i h1 h2
    rw [List.getElem_map, List.getElem_range]
    have hr := h.2 t[i] (List.getElem_mem h1)
    apply List.ext_getElem
    · rw [List.length_map, List.length_range, hr]
    · intro j h3 h4
      rw [List.getElem_map, List.getElem_range]
      unfold atN
      rw [List.getD_eq_getElem?_getD (l := t), List.getElem?_eq_getElem h1]
      show _ = t[i].getD j 0
      rw [List.getD_eq_getElem?_getD, List.getElem?_eq_getElem h3]
      rfl
theorem atN_tabF {n i j : Nat} {f : Nat → Nat → Int} (hi : i < n) (hj : j < n) : atN (tabF n f) i j = f i j := by
  unfold atN tabF
  rw [List.getD_eq_getElem?_getD (l := (List.range n).map _), List.getElem?_map, List.getElem?_range hi]
  show ((List.range n).map fun j => f i j).getD j 0 = f i j
  rw [List.getD_eq_getElem?_getD, List.getElem?_map, List.getElem?_range hj]
  rfl
theorem dye_dyF {n : Nat} {t : Tb} (h : Dye n t) : t = dyF n (atN t) := by
  unfold dyF
  rw [← tab_atN h.sq, h.same]
/-- what is numbered alike is dyed alike -/
theorem atN_dyF {n i j k l : Nat} {f : Nat → Nat → Int} (hi : i < n) (hj : j < n) (hk : k < n) (hl : l < n) : atN (dyF n f) i j = atN (dyF n f) k l ↔ f i j = f k l := by
  obtain ⟨g, S, h1, h2, h3⟩ := dy_names (tabF n f)
  unfold dyF
  rw [h3, tabF_map, atN_tabF hi hj, atN_tabF hk hl]
  have m : ∀ i j, i < n → j < n → f i j ∈ S := fun i j hi hj => by
    obtain ⟨r, hr, hz⟩ := tabF_mem.mpr ⟨i, j, hi, hj, (rfl : f i j = f i j)⟩
    exact h2 r hr _ hz
  exact ⟨fun e => h1 _ (m i j hi hj) _ (m k l hk hl) e, fun e => by rw [e]⟩
theorem atN_gdyF {n i j k l : Nat} {f : Nat → Nat → NestedKey} (hi : i < n) (hj : j < n) (hk : k < n) (hl : l < n) : atN (gdyF n f) i j = atN (gdyF n f) k l ↔ f i j = f k l := by
  obtain ⟨ι, i1, i2⟩ := gdy_dy (tabF n f)
  have e : gdyF n f = dyF n fun i j => ι (f i j) := by
    unfold gdyF dyF
    rw [i2, tabF_map]
  rw [e, atN_dyF hi hj hk hl]
  exact ⟨fun e => i1 _ _ (tabF_mem.mpr ⟨i, j, hi, hj, rfl⟩) (tabF_mem.mpr ⟨k, l, hk, hl, rfl⟩) e, fun e => by rw [e]⟩
end TL

/-! tables of keys -/
namespace TL
open PySem PySem.Spec PyProof.Rows L2
def KRow (r : List NestedKey) (d : PyData) : Prop := ∃ es, itemD d = some es ∧ All2 (fun k e => KeyD e k) r es
/-- a table of keys, of any kinds of rows -/
def IsTbN (d : PyData) (t : KTb) : Prop := ∃ rs, itemD d = some rs ∧ All2 KRow t rs
def preDyN (ds : List PyData) : Prop := ∃ d t, ds = [d] ∧ IsTbN d t ∧ t.length ≤ 16 ∧ ∀ r ∈ t, r.length ≤ 16
def postDyN (ds : List PyData) (d : PyData) : Prop := ∀ d0 t, ds = [d0] → IsTbN d0 t → d = tbT (gdy t)
theorem all2_inj {α β : Type} {R : α → β → Prop} (h : ∀ a b c, R a c → R b c → a = b) : ∀ {as bs : List α} {cs : List β}, All2 R as cs → All2 R bs cs → as = bs
  | [], [], [], _, _ => rfl
  | [], _ :: _, [], _, k => k.elim
  | _ :: _, _, [], h, _ => h.elim
  | [], _, _ :: _, h, _ => h.elim
  | _ :: _, [], _ :: _, _, k => k.elim
  | a :: as, b :: bs, c :: cs, ⟨h1, h2⟩, ⟨k1, k2⟩ => by rw [h a b c h1 k1, all2_inj h h2 k2]
theorem kRow_inj {r s : List NestedKey} {d : PyData} (h : KRow r d) (k : KRow s d) : r = s := by
  obtain ⟨es, e, a⟩ := h
  obtain ⟨es', e', b⟩ := k
  rw [e] at e'
  cases e'
  exact all2_inj (fun a b c ha hb => by
    have := ha.2.1.symm.trans hb.2.1
    exact Option.some.inj this) a b
theorem isTbN_inj {d : PyData} {t u : KTb} (h : IsTbN d t) (k : IsTbN d u) : t = u := by
  obtain ⟨rs, e, a⟩ := h
  obtain ⟨rs', e', b⟩ := k
  rw [e] at e'
  cases e'
  exact all2_inj (R := KRow) (fun a b c ha hb => kRow_inj ha hb) a b
theorem item_len {d : PyData} {rs : List PyData} (h : itemD d = some rs) : lenD d = some rs.length := by
  cases d <;> first | (cases h; rfl) | cases h
theorem gidx_not {ks : List NestedKey} {x : NestedKey} (h : x ∉ ks) : ks.idxOf x = ks.length := List.idxOf_eq_length h
theorem gidx_snoc {ks : List NestedKey} {x : NestedKey} (h : x ∉ ks) : (ks ++ [x]).idxOf x = ks.length := by
  rw [List.idxOf_append, if_neg h]
  simp
theorem gTab_len : ∀ (t : KTb) (ks : List NestedKey), (gTab ks t).1.length = t.length
  | [], ks => rfl
  | r :: t, ks => by
    show (gTab (gLine ks r).2 t).1.length + 1 = t.length + 1
    rw [gTab_len t]
/-- x, y = {}, [] -/
theorem r_parNewN {G : Gx} {env : En} {N : DE} {rest : List Stmt} {px py pz pt pos p1 p2 : Pos} {x y : Str} (i j : Nat) {k1 k2} (h : ∀ p, Rs G rest ((env.set i (.dn G.P G.w p [])).set j (.ow [])) N) (hnd : G.N.Nodup) (hil : i < env.length) (hjl : j < env.length)
    (hw : ∀ v : Env, v.scope = G.sc → swappedStores [.Tuple [.Name x px, .Name y py] k1 pt] (.Tuple [.Dict [] [] p1, .List [] p2] k2 pz) v = pure (some [x, y]))
    (hij : i ≠ j := by decide) (hi : G.N[i]? = some x := by rfl) (hj : G.N[j]? = some y := by rfl) (hx : G.sc.names.lookup x = some .local := by rfl) (hy : G.sc.names.lookup y = some .local := by rfl) :
    Rs G (.Assign [.Tuple [.Name x px, .Name y py] k1 pt] (.Tuple [.Dict [] [] p1, .List [] p2] k2 pz) pos :: rest) env N :=
  Rs.of (fun X => tSeq (tPar i j (tCons (fun _ H Q => ∀ p, H p = none → Q (.ref p) (upd H p (.ext (DnO X.prog X.w p [])))) (tCons (tLst tNil) tNil))) (tRs G rest)) (fun X hX => pss_cons (ps_par hX.g.calm (hX.nodup hnd) (hX.at' hi) (hX.at' hj) hij (by rw [hX.g.sc]; exact hx) (by rw [hX.g.sc]; exact hy) (pa_cons pe_dnewN (pa_cons (pe_lst pa_nil) pa_nil)) (hw _ hX.g.sc) rfl) (pssR hX rest)) fun X hX σ Hc H D R q =>
    fun p hp => ⟨Nat.zero_le _, fun l hl => ⟨_, _, rfl, by
      show tRs G rest D _ _
      rw [hX.g.P, hX.g.w] at hl ⊢
      have g0 := go_new (o := .ext (DnO G.P G.w p [])) R hp
      have nd := own_ne_new R hp
      have hc := Same.free R.same hp
      have il := lt_of_N R hil
      have hs : ∀ {a : Nat} {s : Sl}, (env.set i (.dn G.P G.w p []))[a]? = some s → (a = i ∧ s = .dn G.P G.w p []) ∨ (a ≠ i ∧ env[a]? = some s) := by
        intro a s e
        by_cases hj : a = i
        · subst hj
          rw [List.getElem?_set_self hil] at e
          cases e
          exact .inl ⟨rfl, rfl⟩
        · rw [List.getElem?_set_ne (Ne.symm hj)] at e
          exact .inr ⟨hj, e⟩
      have g : Go Hc H σ env Hc (upd H p (.ext (DnO G.P G.w p []))) (σ.set i (some (.ref p))) (env.set i (.dn G.P G.w p [])) := by
        refine ⟨⟨g0.rep.same, fun j s e => ?_, fun j l s t a h1 h2 h3 h4 h5 h6 => ?_, by rw [List.length_set, List.length_set]; exact R.len⟩, g0.core, g0.kp, g0.out, fun a o => ?_, g0.ex⟩
        · rcases hs e with ⟨e1, e2'⟩ | ⟨e1, e2'⟩
          · subst e1 e2'
            rw [List.getElem?_set_self il]
            exact ⟨rfl, hc, [], upd_same, rfl, fun _ h => (nomatch h)⟩
          · rw [List.getElem?_set_ne (Ne.symm e1)]
            exact g0.rep.ok j s e2'
        · rcases hs h1 with ⟨e1, e3⟩ | ⟨e1, e3⟩
          · subst e1
            rcases hs h2 with ⟨f1, f3⟩ | ⟨f1, f3⟩
            · exact f1.symm
            · rw [List.getElem?_set_self il] at h5
              cases h5
              rw [List.getElem?_set_ne (Ne.symm f1)] at h6
              exact (nd ⟨_, _, f3, h4, h6⟩).elim
          · rw [List.getElem?_set_ne (Ne.symm e1)] at h5
            rcases hs h2 with ⟨f1, f3⟩ | ⟨f1, f3⟩
            · subst f1
              rw [List.getElem?_set_self il] at h6
              cases h6
              exact (nd ⟨_, _, e3, h3, h5⟩).elim
            · rw [List.getElem?_set_ne (Ne.symm f1)] at h6
              exact R.inj j l s t a e3 f3 h3 h4 h5 h6
        · obtain ⟨j, s, e1, e2', e3⟩ := o
          rcases hs e1 with ⟨f1, f3⟩ | ⟨f1, f3⟩
          · subst f1
            rw [List.getElem?_set_self il] at e3
            cases e3
            exact .inr hp
          · rw [List.getElem?_set_ne (Ne.symm f1)] at e3
            exact .inl ⟨j, s, f3, e2', e3⟩
      have nw : Nw Hc (upd H p (.ext (DnO G.P G.w p []))) (σ.set i (some (.ref p))) (env.set i (.dn G.P G.w p [])) l [] [] Hc (upd (upd H p (.ext (DnO G.P G.w p []))) l (.lst [])) (env.set i (.dn G.P G.w p [])) := ⟨go_new g.rep hl, hl, upd_same, .nil, Same.free g.rep.same hl, own_ne_new g.rep hl⟩
      have g2 := go_asgOw (i := j) nw (lt_of_N g.rep (by rw [List.length_set]; exact hjl))
      exact tRs.use g2.rep (h p) (q.from (g.trans g2))⟩⟩
end TL

/-! tuple + tuple, sorted; tables of keys that are known by their sizes alone -/
namespace TL
open PySem PySem.Spec PyProof.Rows L2
/-- t + u, neither empty, with the object that it is -/
def rCatF (K : PySem.W.Frag) : R2 := fun x y H Q => ∃ a b xs ys, x = .ref a ∧ y = .ref b ∧ SqT K H a xs ∧ SqT K H b ys ∧ xs.length + ys.length ≤ sizeLine ∧
  (xs = [] → Q (.ref b) H) ∧ (xs ≠ [] → ys = [] → Q (.ref a) H) ∧ (xs ≠ [] → ys ≠ [] → ∀ (p : Addr) (o : Obj), H p = none → o.cls = .type "tuple" → o.dict = none → Q (.ref p) (upd H p (.frz o (.tup (xs ++ ys)))))
theorem op_catF {X : Cx} : OpR X (binaryOp .Add) (rCatF X.K) := by
  intro pins s σ H x y v u Q I rx ry h
  obtain ⟨a, b, xs, ys, rfl, rfl, ha, hb, hz, q0, q1, q2⟩ := h
  cases rx
  cases ry
  obtain ⟨its, r1, p1, _⟩ := I.tuple ha
  obtain ⟨its2, r2, p2, _⟩ := I.tuple hb
  by_cases hx : xs = []
  · subst hx
    cases r1
    exact cat_tup0 p1 p2 ⟨.ref b, H, I, rfl, q0 rfl⟩
  replace q1 := q1 hx
  replace q2 := q2 hx
  refine HT.cat_tup p1 p2 (fun z => hx (r1.nil_iff.mp z)) (fun z => ⟨.ref a, H, I, rfl, q1 (r2.nil_iff.mp z)⟩) (fun z => ?_) (by rw [← r1.length, ← r2.length]; exact hz)
  refine ⟨.ref s.heap.objs.size, _, I.laid (t' := s.toks) (o := .frz { cls := .type "tuple", data := .seq (its ++ its2).toArray } (.tup (xs ++ ys))) (fun b ob q => Heap.get?_push_of_some _ q) (Nat.le_refl _) ?_, rfl, q2 (fun w => z (r2.nil_iff.mpr w)) _ { cls := .type "tuple", data := .seq (its ++ its2).toArray } (I.hok.fresh (Nat.le_refl _)) rfl rfl⟩
  exact ⟨Heap.get?_push_size _ rfl, by rw [List.length_append]; exact hz, _, r1.append r2, IsTup.new _ _⟩
section
variable {G : Gx} {env : En} {P : PyData → En → Prop} {a b e : Expr} {pos p : Pos}
theorem w_catT (h : W G a env fun x e1 => ∃ xs, x = .tuple xs ∧ W G b e1 fun y e2 => ∃ ys, y = .tuple ys ∧ xs.length + ys.length ≤ sizeLine ∧ P (.tuple (xs ++ ys)) e2) : W G (.BinOp a .Add b pos) env P :=
  w_bin (r := fun X => rCatF X.K) (fun _ _ => op_catF) fun X hX => W.imp h fun x e1 ⟨xs, ex, h2⟩ => W.imp h2 fun y e2 ⟨ys, ey, hl, pd⟩ => by
    subst ex
    subst ey
    intro Hc H u' v' Q s t1 t2 q
    cases t1 with
    | @tup a1 vs1 _ m1 k1 =>
      cases t2 with
      | @tup a2 vs2 _ m2 k2 =>
        refine ⟨_, _, vs1, vs2, rfl, rfl, (m1.mono s).sq, (m2.mono s).sq, by rw [k1.length, k2.length]; exact hl, fun z => ?_, fun _ z => ?_, fun _ z p' o hp o1 o2 => ?_⟩
        · have e0 : xs = [] := List.eq_nil_of_length_eq_zero (by rw [← k1.length, z]; rfl)
          rw [e0, List.nil_append] at pd
          exact q _ _ Hc H pd (.refl s) (.tup m2 k2)
        · have e0 : ys = [] := List.eq_nil_of_length_eq_zero (by rw [← k2.length, z]; rfl)
          rw [e0, List.append_nil] at pd
          exact q _ _ Hc H pd (.refl s) (.tup m1 k1)
        · have x := Ext.new (o := .frz o (.tup (vs1 ++ vs2))) s hp
          exact q _ _ _ _ pd x (.tup ⟨o, o1, o2, upd_same⟩ (Trs.append (k1.mono x.core) (k2.mono x.core)))
theorem trs_perm {H : Hp} : ∀ {vs ys : List V}, ys.Perm vs → ∀ {ds : List PyData}, Trs H vs ds → ∃ es, es.Perm ds ∧ Trs H ys es := by
  intro vs ys h
  induction h with
  | nil => intro ds t; cases t; exact ⟨[], .refl _, .nil⟩
  | cons x _ ih =>
    intro ds t
    cases t with
    | cons t1 t2 =>
      obtain ⟨es, e1, e2⟩ := ih t2
      exact ⟨_ :: es, e1.cons _, .cons t1 e2⟩
  | swap x y l =>
    intro ds t
    cases t with
    | cons t1 t2 =>
      cases t2 with
      | cons t2 t3 => exact ⟨_, List.Perm.swap _ _ _, .cons t2 (.cons t1 t3)⟩
  | trans _ _ ih1 ih2 =>
    intro ds t
    obtain ⟨es, e1, e2⟩ := ih2 t
    obtain ⟨fs, f1, f2⟩ := ih1 e2
    exact ⟨fs, f1.trans e1, f2⟩
def prD (q : Int × Int) : PyData := .tuple [.int q.1, .int q.2]
/-- sorted of pairs -/
theorem w_sortedP (hm : G.mg "sorted" = none) (h : W G e env fun d e1 => ∃ ps : List (Int × Int), d = .list (ps.map prD) ∧ ps.length < 64 ∧ (∀ q ∈ ps, (0 ≤ q.1 ∧ q.1 < 1000) ∧ 0 ≤ q.2 ∧ q.2 < 1000) ∧ ∀ es : List PyData, es.Perm (ps.map prD) → P (.list es) e1)
    (hg : GlG G "sorted" := by rfl) (ns : noStar [e] = true := by rfl) : W G (.Call (.Name "sorted" p) [e] [] pos) env P :=
  w_callB (r := fun X => rSortU X.K 2 1000) (fun X _ => cr_sortT (by decide)) PyProof.Rows.boot_sorted hm hg (fun X hX => W.imp h fun d e1 ⟨ps, ed, hl, hb, pn⟩ Hc H vs Q s t q => by
    subst ed
    cases t with
    | cons t u =>
      cases u
      cases t with
      | @lst a ws _ m k =>
        have hwl := k.length
        refine ⟨a, ws, rfl, SqL.of (s _ _ m), by rw [hwl, List.length_map]; exact hl, fun x hx => ?_, fun ys pp hp _ hnew => ?_⟩
        · obtain ⟨i, hi⟩ := List.getElem?_of_mem hx
          obtain ⟨d, ed, td⟩ := k.getV hi
          rw [List.getElem?_map] at ed
          cases qq : ps[i]? with
          | none => rw [qq] at ed; cases ed
          | some w =>
            rw [qq] at ed
            cases ed
            obtain ⟨b1, b2⟩ := hb w (List.mem_of_getElem? qq)
            cases td with
            | @tup t0 vs0 _ m0 k0 =>
              refine ⟨[w.1, w.2], ⟨t0, rfl, ?_⟩, rfl, fun z hz => ?_⟩
              · rw [Trs.of_ints (ns := [w.1, w.2]) k0] at m0
                exact (m0.mono s).sq
              · rcases List.mem_cons.mp hz with e | hz
                · rw [e]; exact b1
                · rw [List.mem_singleton.mp hz]; exact b2
        · obtain ⟨es, e1, e2⟩ := trs_perm hp k
          have x := Ext.new (o := .lst ys) s hnew
          exact q _ _ _ _ (pn es e1) x (.lst upd_same (e2.mono x.core))) ns (by decide) (by decide)
/-- sorted of ints -/
theorem w_sortedI (hm : G.mg "sorted" = none) (h : W G e env fun d e1 => ∃ zs : List Int, d = .list (zs.map PyData.int) ∧ ∀ ys : List Int, ys.Perm zs → ys.Pairwise (· ≤ ·) → P (.list (ys.map PyData.int)) e1)
    (hg : GlG G "sorted" := by rfl) (ns : noStar [e] = true := by rfl) : W G (.Call (.Name "sorted" p) [e] [] pos) env P :=
  w_callB (r := fun X => rSortedI X.K) (fun X _ => cr_sortedI) PyProof.Rows.boot_sorted hm hg (fun X hX => W.imp h fun d e1 ⟨zs, ed, pn⟩ Hc H vs Q s t q => by
    subst ed
    cases t with
    | cons t u =>
      cases u
      cases t with
      | @lst a ws _ m k =>
        have ek := Trs.of_ints k
        subst ek
        refine ⟨a, zs, rfl, SqL.of (s _ _ m), fun ys pp hp hs hnew => ?_⟩
        have x := Ext.new (o := .lst (ys.map V.int)) s hnew
        exact q _ _ _ _ (pn ys hp hs) x (.lst upd_same (Trs.ints ys))) ns (by decide) (by decide)
end
/-- x, y, z = a, b, [] -/
theorem r_parNew3 {G : Gx} {env : En} {N : DE} {rest : List Stmt} {a b : Expr} {px py pw pz pt pos p2 : Pos} {x y z : Str} (i j l : Nat) {k1 k2} (h : WA G [a, b] env fun ds e1 => ∃ d d', ds = [d, d'] ∧ l < e1.length ∧ Rs G rest (((e1.set i (.va d)).set j (.va d')).set l (.ow [])) N) (hnd : G.N.Nodup)
    (hw : ∀ v : Env, v.scope = G.sc → swappedStores [.Tuple [.Name x px, .Name y py, .Name z pw] k1 pt] (.Tuple [a, b, .List [] p2] k2 pz) v = pure (some [x, y, z])) (ns : noStar [a, b] = true := by rfl)
    (hij : i ≠ j := by decide) (hil : i ≠ l := by decide) (hjl : j ≠ l := by decide) (hi : G.N[i]? = some x := by rfl) (hj : G.N[j]? = some y := by rfl) (hl : G.N[l]? = some z := by rfl) (hx : G.sc.names.lookup x = some .local := by rfl) (hy : G.sc.names.lookup y = some .local := by rfl) (hz : G.sc.names.lookup z = some .local := by rfl) :
    Rs G (.Assign [.Tuple [.Name x px, .Name y py, .Name z pw] k1 pt] (.Tuple [a, b, .List [] p2] k2 pz) pos :: rest) env N :=
  Rs.of (fun X => tSeq (tPar3 i j l (tCons (tW G a) (tCons (tW G b) (tCons (tLst tNil) tNil)))) (tRs G rest)) (fun X hX => pss_cons (ps_par3 hX.g.calm (hX.nodup hnd) (hX.at' hi) (hX.at' hj) (hX.at' hl) hij hil hjl (by rw [hX.g.sc]; exact hx) (by rw [hX.g.sc]; exact hy) (by rw [hX.g.sc]; exact hz) (pa_cons (peW hX.g a) (pa_cons (peW hX.g b) (pa_cons (pe_lst pa_nil) pa_nil) (star_cons (noStar_cons (noStar_cons ns).2).1)) (star_cons (noStar_cons ns).1)) (hw _ hX.g.sc) rfl) (pssR hX rest)) fun X hX σ Hc H D R q =>
    tW.use R h fun v d e1 Hc1 H1 h2 go t => tW.use go.rep h2 fun v' d' e2 Hc2 H2 ⟨d0, d0', ed, hll, hr⟩ go2 t2 => ⟨Nat.zero_le _, fun la hla => ⟨v, v', .ref la, rfl, by
      injection ed with ed1 ed2
      injection ed2 with ed2 _
      subst ed1 ed2
      have g1 := go_asg (j := i) (t := .va d) (o := some v) go2.rep rfl ⟨v, rfl, t.mono go2.core⟩
      have g2 := go_asg (j := j) (t := .va d') (o := some v') g1.rep rfl ⟨v', rfl, t2⟩
      have nw : Nw Hc2 H2 ((σ.set i (some v)).set j (some v')) ((e2.set i (.va d)).set j (.va d')) la [] [] Hc2 (upd H2 la (.lst [])) ((e2.set i (.va d)).set j (.va d')) := ⟨go_new g2.rep hla, hla, upd_same, .nil, Same.free go2.rep.same hla, own_ne_new g2.rep hla⟩
      have g3 := go_asgOw (i := l) nw (lt_of_N g2.rep (by rw [List.length_set, List.length_set]; exact hll))
      exact tRs.use g3.rep hr (q.from ((((go.trans go2).trans g1).trans g2).trans g3))⟩⟩
/-! tables known by their sizes -/
theorem key_tup {ds : List PyData} {ks : List NestedKey} (h : nkDs ds = some ks) (hd : NestedKey.depthAll ks ≤ 7) : KeyD (.tuple ds) (.tup ks) := by
  refine ⟨⟨ds, rfl⟩, ?_, ?_⟩
  · show (nkDs ds).map NestedKey.tup = _
    rw [h]
    rfl
  · show NestedKey.depthAll ks + 1 ≤ 8
    omega
theorem nks_ints : ∀ ns : List Int, nkDs (ns.map PyData.int) = some (ns.map NestedKey.num) ∧ NestedKey.depthAll (ns.map NestedKey.num) = 0
  | [] => ⟨rfl, rfl⟩
  | n :: ns => by
    obtain ⟨h1, h2⟩ := nks_ints ns
    refine ⟨?_, ?_⟩
    · show (match nkD (.int n), nkDs (ns.map PyData.int) with | some k, some ks => some (k :: ks) | _, _ => none) = _
      rw [h1]
      rfl
    · show max (NestedKey.depth (.num n)) (NestedKey.depthAll (ns.map NestedKey.num)) = 0
      rw [h2]
      rfl
theorem key_ints (ns : List Int) : KeyD (.tuple (ns.map PyData.int)) (.tup (ns.map NestedKey.num)) := key_tup (nks_ints ns).1 (by rw [(nks_ints ns).2]; decide)
theorem all2_of {α β : Type} {R : α → β → Prop} : ∀ {bs : List β}, (∀ b ∈ bs, ∃ a, R a b) → ∃ as, All2 R as bs
  | [], _ => ⟨[], trivial⟩
  | b :: bs, h => by
    obtain ⟨a, ha⟩ := h b List.mem_cons_self
    obtain ⟨as, has⟩ := all2_of (bs := bs) fun x hx => h x (List.mem_cons_of_mem _ hx)
    exact ⟨a :: as, ha, has⟩
/-- a row of n keys -/
def KL (n : Nat) (row : PyData) : Prop := ∃ es, itemD row = some es ∧ es.length = n ∧ ∀ e ∈ es, ∃ k, KeyD e k
theorem tbK {n : Nat} {d : PyData} {rows : List PyData} (h : itemD d = some rows) (hl : rows.length = n) (hr : ∀ row ∈ rows, KL n row) (hn : n ≤ 16) : preDyN [d] ∧ ∀ d', postDyN [d] d' → ∃ u, d' = tbT u ∧ Dye n u := by
  have hr' : ∀ row ∈ rows, ∃ r, KRow r row ∧ r.length = n := fun row hm => by
    obtain ⟨es, e1, e2, e3⟩ := hr row hm
    obtain ⟨r, a⟩ := all2_of e3
    exact ⟨r, ⟨es, e1, a⟩, by rw [a.length]; exact e2⟩
  obtain ⟨t, a⟩ := all2_of (R := fun (r : List NestedKey) row => KRow r row ∧ r.length = n) hr'
  have a1 : All2 KRow t rows := a.imp fun _ _ z => z.1
  have tl : t.length = n := by rw [a.length]; exact hl
  have rl : ∀ r ∈ t, r.length = n := by
    have : ∀ {t : KTb} {rows : List PyData}, All2 (fun (r : List NestedKey) row => KRow r row ∧ r.length = n) t rows → ∀ r ∈ t, r.length = n := by
      intro t
      induction t with
      | nil => intro rows _ r hr; cases hr
      | cons s t ih =>
        intro rows h r hr
        cases rows with
        | nil => exact h.elim
        | cons d rows =>
          rcases List.mem_cons.mp hr with e | hr
          · rw [e]; exact h.1.2
          · exact ih h.2 r hr
    exact this a
  have tb : IsTbN d t := ⟨rows, h, a1⟩
  refine ⟨⟨d, t, rfl, tb, by omega, fun r hr => by rw [rl r hr]; exact hn⟩, fun d' pd => ⟨gdy t, pd d t rfl tb, gdy_dye tl rl⟩⟩
/-- generators of dyeings, of a dyeing -/
def preG (ds : List PyData) : Prop := ∃ (n : Nat) (t : Tb), ds = [tbT t] ∧ Dye n t ∧ n ≤ 16
def postG (ds : List PyData) (d : PyData) : Prop := ∀ (n : Nat) (t : Tb), ds = [tbT t] → Dye n t → ∃ u, d = tbT u ∧ Dye n u
theorem postG_of {n : Nat} {t : Tb} {d : PyData} {u : Tb} (ht : Dye n t) (e : d = tbT u) (hu : Dye n u) : postG [tbT t] d := fun n' t' e' ht' => by
  injection e' with e' _
  have := tbT_inj e'
  subst this
  have : n = n' := by rw [← ht.sq.1, ← ht'.sq.1]
  subst this
  exact ⟨u, e, hu⟩
theorem dye_many {n : Nat} {t : Tb} (ht : Dye n t) (hn : n ≤ 16) : preMy [tbT t] := by
  refine ⟨t, rfl, fun r hr z => ?_, by have := ht.sq.1; omega⟩
  have h1 := ht.sq.2 r hr
  rw [z] at h1
  have h2 := ht.sq.1
  have h3 := List.length_pos_of_mem hr
  simp at h1
  omega
end TL

/-! sorted of pairs of ints, with the sequence that it has -/
namespace TL
open PySem PySem.Spec PyProof.Rows L2
def cdP (q : Int × Int) : Int := q.1 * 1000 + q.2
section
variable {G : Gx} {env : En} {P : PyData → En → Prop} {e : Expr} {pos p : Pos}
theorem trs_pairs {H : Hp} : ∀ {vs : List V} {ps : List (Int × Int)}, Trs H vs (ps.map prD) → ∀ (i : Nat) (q : Int × Int), ps[i]? = some q → ∃ v t, vs[i]? = some v ∧ v = .ref t ∧ TX H t [.int q.1, .int q.2]
  | [], [], _, i, q, e => by simp at e
  | [], _ :: _, t, _, _, _ => nomatch t
  | v :: vs, p :: ps, .cons t u, 0, q, e => by
    cases e
    cases t with
    | @tup t0 vs0 _ m0 k0 =>
      rw [Trs.of_ints (ns := [p.1, p.2]) k0] at m0
      exact ⟨_, t0, rfl, rfl, m0⟩
  | v :: vs, p :: ps, .cons t u, i + 1, q, e => by
    obtain ⟨v', t', h1, h2, h3⟩ := trs_pairs u i q (by simpa using e)
    exact ⟨v', t', by simpa using h1, h2, h3⟩
/-- a permutation of a tracked list of pairs is one of the pairs -/
theorem perm_pairs {H : Hp} {vs ys : List V} {ps : List (Int × Int)} (h : ys.Perm vs) (t : Trs H vs (ps.map prD)) : ∃ qs : List (Int × Int), qs.Perm ps ∧ Trs H ys (qs.map prD) := by
  induction h generalizing ps with
  | nil => cases ps with | nil => exact ⟨[], .nil, .nil⟩ | cons _ _ => cases t
  | cons x _ ih =>
    cases ps with
    | nil => cases t
    | cons q ps =>
      cases t with
      | cons t u =>
        obtain ⟨qs, h1, h2⟩ := ih u
        exact ⟨q :: qs, h1.cons q, .cons t h2⟩
  | swap x y l =>
    cases ps with
    | nil => cases t
    | cons q ps =>
      cases ps with
      | nil => cases t with | cons _ u => cases u
      | cons q2 ps =>
        cases t with
        | cons t u =>
          cases u with
          | cons t2 u => exact ⟨q2 :: q :: ps, List.Perm.swap q q2 ps, .cons t2 (.cons t u)⟩
  | trans _ _ ih1 ih2 =>
    obtain ⟨qs, h1, h2⟩ := ih2 t
    obtain ⟨rs, h3, h4⟩ := ih1 h2
    exact ⟨rs, h3.trans h1, h4⟩
theorem code_pairK (x y : Int) : TS.code 1000 [x, y] = cdP (x, y) := by
  have e1 : (1000 : Int) ^ 1 = 1000 := by decide
  have e0 : (1000 : Int) ^ 0 = 1 := by decide
  show x * 1000 ^ 1 + (y * 1000 ^ 0 + 0) = x * 1000 + y
  rw [e1, e0, Int.mul_one, Int.add_zero]
theorem w_sortedPs (hm : G.mg "sorted" = none) (h : W G e env fun d e1 => ∃ ps : List (Int × Int), d = .list (ps.map prD) ∧ ps.length < 64 ∧ (∀ q ∈ ps, (0 ≤ q.1 ∧ q.1 < 1000) ∧ 0 ≤ q.2 ∧ q.2 < 1000) ∧ ∀ qs : List (Int × Int), qs.Perm ps → qs.Pairwise (fun a b => cdP a ≤ cdP b) → P (.list (qs.map prD)) e1)
    (hg : GlG G "sorted" := by rfl) (ns : noStar [e] = true := by rfl) : W G (.Call (.Name "sorted" p) [e] [] pos) env P :=
  w_callB (r := fun X => rSortU X.K 2 1000) (fun X _ => cr_sortT (by decide)) PyProof.Rows.boot_sorted hm hg (fun X hX => W.imp h fun d e1 ⟨ps, ed, hl, hb, pn⟩ Hc H vs Q s t q => by
    subst ed
    cases t with
    | cons t u =>
      cases u
      cases t with
      | @lst a ws _ m k =>
        have hwl := k.length
        rw [List.length_map] at hwl
        refine ⟨a, ws, rfl, SqL.of (s _ _ m), by rw [hwl]; exact hl, fun x hx => ?_, fun ys pp hp hpw hnew => ?_⟩
        · obtain ⟨i, hi⟩ := List.getElem?_of_mem hx
          have hip : i < ps.length := by have := (List.getElem?_eq_some_iff.mp hi).1; omega
          obtain ⟨v, t0, h1, h2, h3⟩ := trs_pairs k i ps[i] (List.getElem?_eq_getElem hip)
          rw [hi] at h1
          cases h1
          obtain ⟨b1, b2⟩ := hb ps[i] (List.getElem_mem hip)
          refine ⟨[ps[i].1, ps[i].2], ⟨t0, h2, (h3.mono s).sq⟩, rfl, fun z hz => ?_⟩
          rcases List.mem_cons.mp hz with e | hz
          · rw [e]; exact b1
          · rw [List.mem_singleton.mp hz]; exact b2
        · obtain ⟨qs, e1, e2⟩ := perm_pairs hp k
          have lq := e2.length
          rw [List.length_map] at lq
          have x := Ext.new (o := .lst ys) s hnew
          refine q _ _ _ _ (pn qs e1 ?_) x (.lst upd_same (e2.mono x.core))
          refine List.pairwise_iff_getElem.mpr fun i j hi hj hij => ?_
          obtain ⟨v1, t1, a1, a2, a3⟩ := trs_pairs e2 i qs[i] (List.getElem?_eq_getElem hi)
          obtain ⟨v2, t2, b1, b2, b3⟩ := trs_pairs e2 j qs[j] (List.getElem?_eq_getElem hj)
          have hi' : i < ys.length := by omega
          have hj' : j < ys.length := by omega
          have r := List.pairwise_iff_getElem.mp hpw i j hi' hj' hij
          rw [List.getElem?_eq_getElem hi'] at a1
          rw [List.getElem?_eq_getElem hj'] at b1
          have a1 := Option.some.inj a1
          have b1 := Option.some.inj b1
          have z := r [qs[i].1, qs[i].2] [qs[j].1, qs[j].2] ⟨t1, by rw [a1, a2], (a3.mono s).sq⟩ ⟨t2, by rw [b1, b2], (b3.mono s).sq⟩
          rw [code_pairK, code_pairK] at z
          exact z) ns (by decide) (by decide)
end
end TL

/-! the one sorted sequence of some pairs -/
namespace TL
open PySem PySem.Spec PyProof.Rows L2
def ins (a : Int × Int) : List (Int × Int) → List (Int × Int)
  | [] => [a]
  | b :: l => if cdP a ≤ cdP b then a :: b :: l else b :: ins a l
def srt : List (Int × Int) → List (Int × Int)
  | [] => []
  | a :: l => ins a (srt l)
theorem ins_perm (a : Int × Int) : ∀ l, (ins a l).Perm (a :: l)
  | [] => .refl _
  | b :: l => by
    unfold ins
    split
    · exact .refl _
    · exact ((ins_perm a l).cons b).trans (List.Perm.swap a b l)
theorem srt_perm : ∀ l, (srt l).Perm l
  | [] => .refl _
  | a :: l => (ins_perm a _).trans ((srt_perm l).cons a)
theorem ins_sorted (a : Int × Int) : ∀ {l}, l.Pairwise (fun a b => cdP a ≤ cdP b) → (ins a l).Pairwise fun a b => cdP a ≤ cdP b
  | [], _ => List.pairwise_singleton _ _
  | b :: l, h => by
    unfold ins
    rw [List.pairwise_cons] at h
    split
    · rename_i hab
      refine List.pairwise_cons.mpr ⟨fun c hc => ?_, List.pairwise_cons.mpr h⟩
      rcases List.mem_cons.mp hc with e | hc
      · rw [e]; exact hab
      · exact Int.le_trans hab (h.1 c hc)
    · rename_i hab
      refine List.pairwise_cons.mpr ⟨fun c hc => ?_, ins_sorted a h.2⟩
      rcases List.mem_cons.mp ((ins_perm a l).mem_iff.mp hc) with e | hc
      · rw [e]; omega
      · exact h.1 c hc
theorem srt_sorted : ∀ l, (srt l).Pairwise fun a b => cdP a ≤ cdP b
  | [] => .nil
  | a :: l => ins_sorted a (srt_sorted l)
def BdP (q : Int × Int) : Prop := (0 ≤ q.1 ∧ q.1 < 1000) ∧ 0 ≤ q.2 ∧ q.2 < 1000
theorem cd_inj {p q : Int × Int} (hp : BdP p) (hq : BdP q) (h : cdP p = cdP q) : p = q := by
  obtain ⟨p1, p2⟩ := p
  obtain ⟨q1, q2⟩ := q
  unfold cdP at h
  unfold BdP at hp hq
  simp only at h hp hq
  have h1 : p1 = q1 := by omega
  have h2 : p2 = q2 := by omega
  rw [h1, h2]
theorem srt_uniq : ∀ {l m : List (Int × Int)}, l.Perm m → l.Pairwise (fun a b => cdP a ≤ cdP b) → m.Pairwise (fun a b => cdP a ≤ cdP b) → (∀ q ∈ l, BdP q) → l = m
  | [], m, p, _, _, _ => (List.Perm.nil_eq p)
  | a :: l, [], p, _, _, _ => absurd p.length_eq (by simp)
  | a :: l, b :: m, p, h1, h2, hb => by
    rw [List.pairwise_cons] at h1 h2
    have ab : cdP a ≤ cdP b := by
      rcases List.mem_cons.mp (p.mem_iff.mpr List.mem_cons_self) with e | h
      · rw [e]; exact Int.le_refl _
      · exact h1.1 b h
    have ba : cdP b ≤ cdP a := by
      rcases List.mem_cons.mp (p.mem_iff.mp List.mem_cons_self) with e | h
      · rw [e]; exact Int.le_refl _
      · exact h2.1 a h
    have e : a = b := cd_inj (hb a List.mem_cons_self) (hb b (p.mem_iff.mpr List.mem_cons_self)) (by omega)
    subst e
    rw [srt_uniq (List.Perm.cons_inv p) h1.2 h2.2 fun q hq => hb q (List.mem_cons_of_mem _ hq)]
theorem srt_of {l m : List (Int × Int)} (p : l.Perm m) (h : l.Pairwise fun a b => cdP a ≤ cdP b) (hb : ∀ q ∈ m, BdP q) : l = srt m :=
  srt_uniq (p.trans (srt_perm m).symm) h (srt_sorted m) fun q hq => hb q (p.mem_iff.mp hq)
theorem srt_eq {l m : List (Int × Int)} (hl : ∀ q ∈ l, BdP q) : srt l = srt m ↔ l.Perm m :=
  ⟨fun e => (srt_perm l).symm.trans (e ▸ srt_perm m), fun p => srt_of ((srt_perm l).trans p) (srt_sorted l) fun q hq => hl q (p.mem_iff.mpr hq)⟩
/-! the rounds of counting, as tables of keys -/
def pkP (q : Int × Int) : NestedKey := .tup [.num q.1, .num q.2]
def btw (n : Nat) (t : Tb) (x y : Nat) : List (Int × Int) := (List.range n).map fun z => (atN t x z, atN t z y)
def bgF (t : Tb) (x y : Nat) : NestedKey := .tup [.num (atN t x y), .num (atN t y x), .num (if x = y then 1 else 0)]
def rdF (n : Nat) (t : Tb) (x y : Nat) : NestedKey := .tup (.num (atN t x y) :: (srt (btw n t x y)).map pkP)
def bgN (n : Nat) (t : Tb) : Tb := gdyF n (bgF t)
def rdN (n : Nat) (t : Tb) : Tb := gdyF n (rdF n t)
def postBg (ds : List PyData) (d : PyData) : Prop := ∀ (n : Nat) (t : Tb), ds = [tbT t] → Dye n t → d = tbT (bgN n t)
def postRn (ds : List PyData) (d : PyData) : Prop := ∀ (n : Nat) (t : Tb), ds = [tbT t] → Dye n t → d = tbT (rdN n t)
theorem nks_pairs : ∀ qs : List (Int × Int), nkDs (qs.map prD) = some (qs.map pkP) ∧ NestedKey.depthAll (qs.map pkP) ≤ 1
  | [] => ⟨rfl, Nat.zero_le _⟩
  | q :: qs => by
    obtain ⟨h1, h2⟩ := nks_pairs qs
    refine ⟨?_, ?_⟩
    · show (match nkD (prD q), nkDs (qs.map prD) with | some k, some ks => some (k :: ks) | _, _ => none) = _
      rw [h1]
      rfl
    · show max (NestedKey.depth (.tup [.num q.1, .num q.2])) (NestedKey.depthAll (qs.map pkP)) ≤ 1
      exact Nat.max_le.mpr ⟨Nat.le_refl _, h2⟩
def rdD (n : Nat) (t : Tb) (x y : Nat) : PyData := .tuple ([.int (atN t x y)] ++ (srt (btw n t x y)).map prD)
theorem rd_key (n : Nat) (t : Tb) (x y : Nat) : KeyD (rdD n t x y) (rdF n t x y) := by
  obtain ⟨k1, k2⟩ := nks_pairs (srt (btw n t x y))
  refine key_tup (ks := .num (atN t x y) :: (srt (btw n t x y)).map pkP) ?_ ?_
  · show (match nkD (.int (atN t x y)), nkDs ((srt (btw n t x y)).map prD) with | some k, some ks => some (k :: ks) | _, _ => none) = _
    rw [k1]
    rfl
  · show max 0 (NestedKey.depthAll _) ≤ 7
    omega
/-- what a round keeps apart -/
theorem rd_iff {n : Nat} {t : Tb} (hb : ∀ x y, x < n → y < n → 0 ≤ atN t x y ∧ atN t x y < 1000) {i j k l : Nat} (hi : i < n) (hj : j < n) : rdF n t i j = rdF n t k l ↔ atN t i j = atN t k l ∧ (btw n t i j).Perm (btw n t k l) := by
  have inj : ∀ {a b : List (Int × Int)}, a.map pkP = b.map pkP → a = b := by
    intro a
    induction a with
    | nil => intro b h; cases b with | nil => rfl | cons _ _ => cases h
    | cons p a ih =>
      intro b h
      cases b with
      | nil => cases h
      | cons q b =>
        rw [List.map_cons, List.map_cons] at h
        injection h with h1 h2
        unfold pkP at h1
        injection h1 with h1
        injection h1 with h3 h1
        injection h1 with h4 _
        injection h3 with h3
        injection h4 with h4
        rw [ih h2, Prod.ext h3 h4]
  have bd : ∀ q ∈ btw n t i j, BdP q := fun q hq => by
    obtain ⟨z, hz, e⟩ := List.mem_map.mp hq
    have hz' := List.mem_range.mp hz
    rw [← e]
    exact ⟨hb i z hi hz', hb z j hz' hj⟩
  unfold rdF
  constructor
  · intro h
    injection h with h
    injection h with h1 h2
    injection h1 with h1
    exact ⟨h1, (srt_eq bd).mp (inj h2)⟩
  · rintro ⟨h1, h2⟩
    rw [h1, (srt_eq bd).mpr h2]
end TL

/-! closings: the coarsest closed dyeing within a dyeing, by rounds of counting -/
namespace TL
open PySem PySem.Spec PyProof.Rows L2
/-- what s dyes alike, t dyes alike -/
def Wi (n : Nat) (s t : Tb) : Prop := ∀ i j k l, i < n → j < n → k < n → l < n → atN s i j = atN s k l → atN t i j = atN t k l
theorem Wi.refl (n : Nat) (t : Tb) : Wi n t t := fun _ _ _ _ _ _ _ _ h => h
theorem Wi.trans {n : Nat} {s t u : Tb} (h : Wi n s t) (k : Wi n t u) : Wi n s u := fun i j x y hi hj hx hy e => k i j x y hi hj hx hy (h i j x y hi hj hx hy e)
theorem Wi.eq {n : Nat} {s t : Tb} (hs : Dye n s) (ht : Dye n t) (h : Wi n s t) (k : Wi n t s) : s = t := by
  rw [dye_dyF hs, dye_dyF ht]
  exact dyF_eq fun i j x y hi hj hx hy => ⟨h i j x y hi hj hx hy, k i j x y hi hj hx hy⟩
theorem line_all : ∀ (r ks : List Int) (i : Nat), ks.length ≤ i → i < (dyLine ks r).2.length → (i : Int) ∈ (dyLine ks r).1
  | [], ks, i, h1, h2 => by
    have : i < ks.length := h2
    omega
  | x :: r, ks, i, h1, h2 => by
    have h2 : i < (dyLine (nk ks x) r).2.length := h2
    show (i : Int) ∈ (ks.idxOf x : Int) :: (dyLine (nk ks x) r).1
    by_cases hx : x ∈ ks
    · have e : nk ks x = ks := by unfold nk; rw [if_pos hx]
      rw [e] at h2 ⊢
      exact List.mem_cons_of_mem _ (line_all r ks i h1 h2)
    · have e : nk ks x = ks ++ [x] := by unfold nk; rw [if_neg hx]
      by_cases hi : i = ks.length
      · rw [List.idxOf_eq_length hx, hi]
        exact List.mem_cons_self
      · exact List.mem_cons_of_mem _ (line_all r (nk ks x) i (by rw [e, List.length_append]; show ks.length + 1 ≤ i; omega) h2)
theorem tab_all : ∀ (t : Tb) (ks : List Int) (i : Nat), ks.length ≤ i → i < (dyTab ks t).2.length → ∃ r ∈ (dyTab ks t).1, (i : Int) ∈ r
  | [], ks, i, h1, h2 => by
    have : i < ks.length := h2
    omega
  | s :: t, ks, i, h1, h2 => by
    have h2 : i < (dyTab (dyLine ks s).2 t).2.length := h2
    by_cases h : i < (dyLine ks s).2.length
    · exact ⟨_, List.mem_cons_self, line_all s ks i h1 h⟩
    · obtain ⟨r, hr, hi⟩ := tab_all t (dyLine ks s).2 i (by omega) h2
      exact ⟨r, List.mem_cons_of_mem _ hr, hi⟩
/-- how many dyes -/
def mny (t : Tb) : Nat := (dyTab [] t).2.length
theorem Dye.dense {n : Nat} {t : Tb} (h : Dye n t) {v : Nat} (hv : v < mny t) : ∃ x y, x < n ∧ y < n ∧ atN t x y = (v : Int) := by
  obtain ⟨r, hr, hi⟩ := tab_all t [] v (Nat.zero_le _) hv
  rw [show (dyTab [] t).1 = t from h.same] at hr
  rw [tab_atN h.sq] at hr
  exact tabF_mem.mp ⟨r, hr, hi⟩
theorem Dye.bd {n : Nat} {t : Tb} (h : Dye n t) {x y : Nat} (hx : x < n) (hy : y < n) : 0 ≤ atN t x y ∧ atN t x y < mny t := by
  obtain ⟨r, hr, hz⟩ := tabF_mem.mpr ⟨x, y, hx, hy, (rfl : atN t x y = atN t x y)⟩
  rw [← tab_atN h.sq] at hr
  exact tab_in t [] r (by rw [show (dyTab [] t).1 = t from h.same]; exact hr) _ hz
theorem Dye.mny_le {n : Nat} {t : Tb} (h : Dye n t) : mny t ≤ n * n := by
  have := (tab_rows t [] n h.sq.2).2
  rw [h.sq.1, List.length_nil, Nat.zero_add] at this
  exact this
theorem nd_le : ∀ {l m : List Nat}, l.Nodup → (∀ x ∈ l, x ∈ m) → l.length ≤ m.length
  | [], _, _, _ => Nat.zero_le _
  | a :: l, m, h, k => by
    obtain ⟨h1, h2⟩ := List.nodup_cons.mp h
    have ha := k a List.mem_cons_self
    have := nd_le (m := m.erase a) h2 fun x hx => (List.mem_erase_of_ne (fun (e : x = a) => h1 (by rw [← e]; exact hx))).mpr (k x (List.mem_cons_of_mem _ hx))
    rw [List.length_erase_of_mem ha] at this
    have : 0 < m.length := List.length_pos_of_mem ha
    rw [List.length_cons]
    omega
theorem Wi.nat {n : Nat} {s t : Tb} (hs : Dye n s) (ht : Dye n t) (h : Wi n s t) : ∃ φ : Nat → Nat, ∀ x y, x < n → y < n → φ (atN s x y).toNat = (atN t x y).toNat := by
  classical
  refine ⟨fun v => if e : ∃ x y, x < n ∧ y < n ∧ (atN s x y).toNat = v then (atN t e.choose e.choose_spec.choose).toNat else 0, fun x y hx hy => ?_⟩
  have e : ∃ x' y', x' < n ∧ y' < n ∧ (atN s x' y').toNat = (atN s x y).toNat := ⟨x, y, hx, hy, rfl⟩
  show (if e : ∃ x' y', x' < n ∧ y' < n ∧ (atN s x' y').toNat = (atN s x y).toNat then (atN t e.choose e.choose_spec.choose).toNat else 0) = _
  rw [dif_pos e]
  have sp := e.choose_spec.choose_spec
  have b1 := hs.bd sp.1 sp.2.1
  have b2 := hs.bd hx hy
  rw [h _ _ x y sp.1 sp.2.1 hx hy (by have := sp.2.2; omega)]
theorem Wi.mny_le {n : Nat} {s t : Tb} (hs : Dye n s) (ht : Dye n t) (h : Wi n s t) : mny t ≤ mny s := by
  obtain ⟨φ, hφ⟩ := h.nat hs ht
  have := nd_le (l := List.range (mny t)) (m := (List.range (mny s)).map φ) List.nodup_range fun v hv => by
    obtain ⟨x, y, hx, hy, e⟩ := ht.dense (List.mem_range.mp hv)
    have b := hs.bd hx hy
    refine List.mem_map.mpr ⟨(atN s x y).toNat, List.mem_range.mpr (by omega), ?_⟩
    rw [hφ x y hx hy, e]
    rfl
  rw [List.length_range, List.length_map, List.length_range] at this
  exact this
/-- as many dyes: the same dyeing -/
theorem Wi.same {n : Nat} {s t : Tb} (hs : Dye n s) (ht : Dye n t) (h : Wi n s t) (hm : mny s = mny t) : s = t := by
  refine h.eq hs ht fun i j k l hi hj hk hl e => ?_
  by_cases ne : atN s i j = atN s k l
  · exact ne
  exfalso
  obtain ⟨φ, hφ⟩ := h.nat hs ht
  have b1 := hs.bd hi hj
  have b2 := hs.bd hk hl
  have := nd_le (l := List.range (mny t)) (m := ((List.range (mny s)).erase (atN s i j).toNat).map φ) List.nodup_range fun v hv => by
    obtain ⟨x, y, hx, hy, e2⟩ := ht.dense (List.mem_range.mp hv)
    have b := hs.bd hx hy
    by_cases q : (atN s x y).toNat = (atN s i j).toNat
    · refine List.mem_map.mpr ⟨(atN s k l).toNat, (List.mem_erase_of_ne (by omega)).mpr (List.mem_range.mpr (by omega)), ?_⟩
      rw [hφ k l hk hl, ← e, ← hφ i j hi hj, ← q, hφ x y hx hy, e2]
      rfl
    · refine List.mem_map.mpr ⟨(atN s x y).toNat, (List.mem_erase_of_ne q).mpr (List.mem_range.mpr (by omega)), ?_⟩
      rw [hφ x y hx hy, e2]
      rfl
  rw [List.length_range, List.length_map, List.length_erase_of_mem (List.mem_range.mpr (by omega)), List.length_range] at this
  omega
/-! the rounds -/
theorem low1000 {n : Nat} {t : Tb} (h : Dye n t) (hn : n ≤ 16) : ∀ x y, x < n → y < n → 0 ≤ atN t x y ∧ atN t x y < 1000 := fun x y hx hy => by
  have b := h.bd hx hy
  have m := h.mny_le
  have : n * n ≤ 16 * 16 := Nat.mul_le_mul hn hn
  omega
theorem rdN_iff {n : Nat} {t : Tb} (h : Dye n t) (hn : n ≤ 16) {i j k l : Nat} (hi : i < n) (hj : j < n) (hk : k < n) (hl : l < n) : atN (rdN n t) i j = atN (rdN n t) k l ↔ atN t i j = atN t k l ∧ (btw n t i j).Perm (btw n t k l) :=
  (atN_gdyF hi hj hk hl).trans (rd_iff (low1000 h hn) hi hj)
theorem rdN_dye (n : Nat) (t : Tb) : Dye n (rdN n t) := gdyF_dye n _
theorem bgN_dye (n : Nat) (t : Tb) : Dye n (bgN n t) := gdyF_dye n _
theorem rdN_wi {n : Nat} {t : Tb} (h : Dye n t) (hn : n ≤ 16) : Wi n (rdN n t) t := fun i j k l hi hj hk hl e => ((rdN_iff h hn hi hj hk hl).mp e).1
theorem bg_iff (t : Tb) (i j k l : Nat) : bgF t i j = bgF t k l ↔ atN t i j = atN t k l ∧ atN t j i = atN t l k ∧ (i = j ↔ k = l) := by
  unfold bgF
  constructor
  · intro h
    injection h with h
    injection h with h1 h
    injection h with h2 h
    injection h with h3 _
    injection h1 with h1
    injection h2 with h2
    injection h3 with h3
    refine ⟨h1, h2, ?_⟩
    by_cases e1 : i = j <;> by_cases e2 : k = l <;> simp [e1, e2] at h3 ⊢
  · rintro ⟨h1, h2, h3⟩
    rw [h1, h2]
    by_cases e1 : i = j
    · rw [if_pos e1, if_pos (h3.mp e1)]
    · rw [if_neg e1, if_neg fun z => e1 (h3.mpr z)]
theorem bgN_iff {n : Nat} {t : Tb} {i j k l : Nat} (hi : i < n) (hj : j < n) (hk : k < n) (hl : l < n) : atN (bgN n t) i j = atN (bgN n t) k l ↔ atN t i j = atN t k l ∧ atN t j i = atN t l k ∧ (i = j ↔ k = l) :=
  (atN_gdyF hi hj hk hl).trans (bg_iff t i j k l)
theorem bgN_wi (n : Nat) (t : Tb) : Wi n (bgN n t) t := fun i j k l hi hj hk hl e => ((bgN_iff hi hj hk hl).mp e).1
/-- the round by round closing; k rounds at the most -/
def cloK (n : Nat) : Nat → Tb → Tb
  | 0, t => t
  | k + 1, t => if mny (rdN n t) = mny t then t else cloK n k (rdN n t)
def cloN (n : Nat) (t : Tb) : Tb := cloK n 260 (bgN n t)
theorem cloK_fix {n : Nat} (hn : n ≤ 16) : ∀ (k : Nat) (t : Tb), Dye n t → 257 ≤ mny t + k → Dye n (cloK n k t) ∧ rdN n (cloK n k t) = cloK n k t ∧ Wi n (cloK n k t) t
  | 0, t, h, hk => by
    have := h.mny_le
    have : n * n ≤ 16 * 16 := Nat.mul_le_mul hn hn
    omega
  | k + 1, t, h, hk => by
    show Dye n (if mny (rdN n t) = mny t then t else cloK n k (rdN n t)) ∧ rdN n (if mny (rdN n t) = mny t then t else cloK n k (rdN n t)) = (if mny (rdN n t) = mny t then t else cloK n k (rdN n t)) ∧ Wi n (if mny (rdN n t) = mny t then t else cloK n k (rdN n t)) t
    have w := rdN_wi h hn
    have hd := rdN_dye n t
    by_cases e : mny (rdN n t) = mny t
    · rw [if_pos e]
      exact ⟨h, w.same hd h e, .refl _ _⟩
    · rw [if_neg e]
      have le := w.mny_le hd h
      obtain ⟨h1, h2, h3⟩ := cloK_fix hn k (rdN n t) hd (by omega)
      exact ⟨h1, h2, h3.trans w⟩
/-- what the middles and the turned pairs ask -/
structure Fit (n : Nat) (t : Tb) : Prop where
  mid : ∀ i j k l, i < n → j < n → k < n → l < n → atN t i j = atN t k l → (i = j ↔ k = l)
  trn : ∀ i j k l, i < n → j < n → k < n → l < n → atN t i j = atN t k l → atN t j i = atN t l k
/-- a closed dyeing -/
structure Clo (n : Nat) (t : Tb) : Prop extends Fit n t where
  cnt : ∀ i j k l, i < n → j < n → k < n → l < n → atN t i j = atN t k l → (btw n t i j).Perm (btw n t k l)
theorem bgN_fit (n : Nat) (t : Tb) : Fit n (bgN n t) :=
  ⟨fun i j k l hi hj hk hl e => ((bgN_iff hi hj hk hl).mp e).2.2, fun i j k l hi hj hk hl e => by
    obtain ⟨h1, h2, h3⟩ := (bgN_iff hi hj hk hl).mp e
    exact (bgN_iff hj hi hl hk).mpr ⟨h2, h1, ⟨fun z => (h3.mp z.symm).symm, fun z => (h3.mpr z.symm).symm⟩⟩⟩
theorem Fit.turn {n : Nat} {t : Tb} (h : Fit n t) : ∃ τ : Int → Int, ∀ x y, x < n → y < n → τ (atN t x y) = atN t y x := by
  classical
  refine ⟨fun v => if e : ∃ x y, x < n ∧ y < n ∧ atN t x y = v then atN t e.choose_spec.choose e.choose else 0, fun x y hx hy => ?_⟩
  have e : ∃ x' y', x' < n ∧ y' < n ∧ atN t x' y' = atN t x y := ⟨x, y, hx, hy, rfl⟩
  show (if e : ∃ x' y', x' < n ∧ y' < n ∧ atN t x' y' = atN t x y then atN t e.choose_spec.choose e.choose else 0) = _
  rw [dif_pos e]
  have sp := e.choose_spec.choose_spec
  exact h.trn _ _ x y sp.1 sp.2.1 hx hy sp.2.2
theorem rdN_fit {n : Nat} {t : Tb} (hd : Dye n t) (hn : n ≤ 16) (h : Fit n t) : Fit n (rdN n t) := by
  obtain ⟨τ, hτ⟩ := h.turn
  have hb : ∀ i j, i < n → j < n → btw n t j i = (btw n t i j).map fun q => (τ q.2, τ q.1) := fun i j hi hj => by
    unfold btw
    rw [List.map_map]
    refine List.map_congr_left fun z hz => ?_
    have hz := List.mem_range.mp hz
    show (atN t j z, atN t z i) = (τ (atN t z j), τ (atN t i z))
    rw [hτ z j hz hj, hτ i z hi hz]
  refine ⟨fun i j k l hi hj hk hl e => h.mid i j k l hi hj hk hl ((rdN_iff hd hn hi hj hk hl).mp e).1, fun i j k l hi hj hk hl e => ?_⟩
  obtain ⟨h1, h2⟩ := (rdN_iff hd hn hi hj hk hl).mp e
  refine (rdN_iff hd hn hj hi hl hk).mpr ⟨h.trn i j k l hi hj hk hl h1, ?_⟩
  rw [hb i j hi hj, hb k l hk hl]
  exact h2.map _
theorem cloK_fit {n : Nat} (hn : n ≤ 16) : ∀ (k : Nat) (t : Tb), Dye n t → Fit n t → Fit n (cloK n k t)
  | 0, t, _, h => h
  | k + 1, t, hd, h => by
    show Fit n (if mny (rdN n t) = mny t then t else cloK n k (rdN n t))
    split
    · exact h
    · exact cloK_fit hn k _ (rdN_dye n t) (rdN_fit hd hn h)
theorem clo_dye {n : Nat} (hn : n ≤ 16) (t : Tb) : Dye n (cloN n t) := (cloK_fix hn 260 (bgN n t) (bgN_dye n t) (by omega)).1
theorem clo_wi {n : Nat} (hn : n ≤ 16) (t : Tb) : Wi n (cloN n t) t := (cloK_fix hn 260 (bgN n t) (bgN_dye n t) (by omega)).2.2.trans (bgN_wi n t)
/-- the closing is closed -/
theorem clo_clo {n : Nat} (hn : n ≤ 16) (t : Tb) : Clo n (cloN n t) := by
  obtain ⟨h1, h2, _⟩ := cloK_fix hn 260 (bgN n t) (bgN_dye n t) (by omega)
  refine ⟨cloK_fit hn 260 (bgN n t) (bgN_dye n t) (bgN_fit n t), fun i j k l hi hj hk hl e => ?_⟩
  have e' : atN (cloK n 260 (bgN n t)) i j = atN (cloK n 260 (bgN n t)) k l := e
  rw [← h2] at e'
  exact ((rdN_iff h1 hn hi hj hk hl).mp e').2
theorem Wi.map {n : Nat} {s t : Tb} (h : Wi n s t) : ∃ φ : Int → Int, ∀ x y, x < n → y < n → φ (atN s x y) = atN t x y := by
  classical
  refine ⟨fun v => if e : ∃ x y, x < n ∧ y < n ∧ atN s x y = v then atN t e.choose e.choose_spec.choose else 0, fun x y hx hy => ?_⟩
  have e : ∃ x' y', x' < n ∧ y' < n ∧ atN s x' y' = atN s x y := ⟨x, y, hx, hy, rfl⟩
  show (if e : ∃ x' y', x' < n ∧ y' < n ∧ atN s x' y' = atN s x y then atN t e.choose e.choose_spec.choose else 0) = _
  rw [dif_pos e]
  have sp := e.choose_spec.choose_spec
  exact h _ _ x y sp.1 sp.2.1 hx hy sp.2.2
/-- a closed dyeing within s is within its next round -/
theorem Clo.rd {n : Nat} {u s : Tb} (hu : Clo n u) (hd : Dye n s) (hn : n ≤ 16) (h : Wi n u s) : Wi n u (rdN n s) := fun i j k l hi hj hk hl e => by
  obtain ⟨φ, hφ⟩ := h.map
  have hb : ∀ i j, i < n → j < n → btw n s i j = (btw n u i j).map fun q => (φ q.1, φ q.2) := fun i j hi hj => by
    unfold btw
    rw [List.map_map]
    refine List.map_congr_left fun z hz => ?_
    have hz := List.mem_range.mp hz
    show (atN s i z, atN s z j) = (φ (atN u i z), φ (atN u z j))
    rw [hφ i z hi hz, hφ z j hz hj]
  refine (rdN_iff hd hn hi hj hk hl).mpr ⟨h i j k l hi hj hk hl e, ?_⟩
  rw [hb i j hi hj, hb k l hk hl]
  exact (hu.cnt i j k l hi hj hk hl e).map _
theorem Clo.bg {n : Nat} {u t : Tb} (hu : Fit n u) (h : Wi n u t) : Wi n u (bgN n t) := fun i j k l hi hj hk hl e =>
  (bgN_iff hi hj hk hl).mpr ⟨h i j k l hi hj hk hl e, h j i l k hj hi hl hk (hu.trn i j k l hi hj hk hl e), hu.mid i j k l hi hj hk hl e⟩
theorem cloK_max {n : Nat} (hn : n ≤ 16) {u : Tb} (hu : Clo n u) : ∀ (k : Nat) (t : Tb), Dye n t → Wi n u t → Wi n u (cloK n k t)
  | 0, t, _, h => h
  | k + 1, t, hd, h => by
    show Wi n u (if mny (rdN n t) = mny t then t else cloK n k (rdN n t))
    split
    · exact h
    · exact cloK_max hn hu k _ (rdN_dye n t) (hu.rd hd hn h)
/-- .. and the coarsest one of those within the dyeing -/
theorem clo_max {n : Nat} (hn : n ≤ 16) {u t : Tb} (hu : Clo n u) (h : Wi n u t) : Wi n u (cloN n t) := cloK_max hn hu 260 _ (bgN_dye n t) (Clo.bg hu.toFit h)
theorem clo_self {n : Nat} (hn : n ≤ 16) {t : Tb} (hd : Dye n t) (h : Clo n t) : cloN n t = t := (clo_wi hn t).eq (clo_dye hn t) hd (clo_max hn h (.refl n t))
theorem clo_again {n : Nat} (hn : n ≤ 16) (t : Tb) : cloN n (cloN n t) = cloN n t := clo_self hn (clo_dye hn t) (clo_clo hn t)
theorem clo_mono {n : Nat} (hn : n ≤ 16) {s t : Tb} (h : Wi n s t) : Wi n (cloN n s) (cloN n t) := clo_max hn (clo_clo hn s) ((clo_wi hn s).trans h)
/-- it is the closing, what is closed, within the dyeing, and the coarsest -/
theorem clo_uniq {n : Nat} (hn : n ≤ 16) {u t : Tb} (hd : Dye n u) (h : Clo n u) (hw : Wi n u t) (hm : ∀ v, Dye n v → Clo n v → Wi n v t → Wi n v u) : cloN n t = u :=
  (hm _ (clo_dye hn t) (clo_clo hn t) (clo_wi hn t)).eq (clo_dye hn t) hd (clo_max hn h hw)
end TL

/-! ints in sequence -/
namespace TL
open PySem PySem.Spec PyProof.Rows L2
def insI (a : Int) : List Int → List Int
  | [] => [a]
  | b :: l => if a ≤ b then a :: b :: l else b :: insI a l
def srtI : List Int → List Int
  | [] => []
  | a :: l => insI a (srtI l)
theorem insI_perm (a : Int) : ∀ l, (insI a l).Perm (a :: l)
  | [] => .refl _
  | b :: l => by
    unfold insI
    split
    · exact .refl _
    · exact ((insI_perm a l).cons b).trans (List.Perm.swap a b l)
theorem srtI_perm : ∀ l, (srtI l).Perm l
  | [] => .refl _
  | a :: l => (insI_perm a _).trans ((srtI_perm l).cons a)
theorem insI_sorted (a : Int) : ∀ {l : List Int}, l.Pairwise (· ≤ ·) → (insI a l).Pairwise (· ≤ ·)
  | [], _ => List.pairwise_singleton _ _
  | b :: l, h => by
    unfold insI
    rw [List.pairwise_cons] at h
    split
    · rename_i hab
      refine List.pairwise_cons.mpr ⟨fun c hc => ?_, List.pairwise_cons.mpr h⟩
      rcases List.mem_cons.mp hc with e | hc
      · rw [e]; exact hab
      · exact Int.le_trans hab (h.1 c hc)
    · rename_i hab
      refine List.pairwise_cons.mpr ⟨fun c hc => ?_, insI_sorted a h.2⟩
      rcases List.mem_cons.mp ((insI_perm a l).mem_iff.mp hc) with e | hc
      · rw [e]; omega
      · exact h.1 c hc
theorem srtI_sorted : ∀ l : List Int, (srtI l).Pairwise (· ≤ ·)
  | [] => .nil
  | a :: l => insI_sorted a (srtI_sorted l)
theorem srtI_uniq : ∀ {l m : List Int}, l.Perm m → l.Pairwise (· ≤ ·) → m.Pairwise (· ≤ ·) → l = m
  | [], m, p, _, _ => (List.Perm.nil_eq p)
  | a :: l, [], p, _, _ => absurd p.length_eq (by simp)
  | a :: l, b :: m, p, h1, h2 => by
    rw [List.pairwise_cons] at h1 h2
    have ab : a ≤ b := by
      rcases List.mem_cons.mp (p.mem_iff.mpr List.mem_cons_self) with e | h
      · rw [e]; exact Int.le_refl _
      · exact h1.1 b h
    have ba : b ≤ a := by
      rcases List.mem_cons.mp (p.mem_iff.mp List.mem_cons_self) with e | h
      · rw [e]; exact Int.le_refl _
      · exact h2.1 a h
    have e : a = b := by omega
    subst e
    rw [srtI_uniq (List.Perm.cons_inv p) h1.2 h2.2]
theorem srtI_of {l m : List Int} (p : l.Perm m) (h : l.Pairwise (· ≤ ·)) : l = srtI m := srtI_uniq (p.trans (srtI_perm m).symm) h (srtI_sorted m)
theorem srtI_eq {l m : List Int} : srtI l = srtI m ↔ l.Perm m := ⟨fun e => (srtI_perm l).symm.trans (e ▸ srtI_perm m), fun p => srtI_of ((srtI_perm l).trans p) (srtI_sorted l)⟩
theorem srtI_len (l : List Int) : (srtI l).length = l.length := (srtI_perm l).length_eq
/-! how many -/
theorem many_eq {n : Nat} {t : Tb} (h : Dye n t) {z : Int} (hz : IsMany t z) : z = (mny t : Int) := by
  rcases hz with ⟨e, e2⟩ | ⟨⟨r, hr, hm⟩, ha⟩
  · subst e e2
    rfl
  · have b := tab_in t [] r (by rw [show (dyTab [] t).1 = t from h.same]; exact hr) _ hm
    have b' : 0 ≤ z - 1 ∧ z - 1 < (mny t : Int) := b
    have hp : mny t - 1 < mny t := by omega
    obtain ⟨x, y, hx, hy, e⟩ := h.dense hp
    obtain ⟨r', hr', hz'⟩ := tabF_mem.mpr ⟨x, y, hx, hy, (rfl : atN t x y = atN t x y)⟩
    rw [← tab_atN h.sq] at hr'
    have := ha r' hr' _ hz'
    omega
/-! what stands between, as the program codes it -/
def codeL (r : Int) (row col : List Int) : List Int := List.zipWith (fun i j => r * i + j) row col
def colT (n : Nat) (t : Tb) : Tb := (List.range n).map fun j => t.map fun r => r.getD j 0
def btwT (n : Nat) (t : Tb) : List (List (List Int)) := t.map fun row => (colT n t).map fun c => srtI (codeL (mny t) row c)
def btD (n : Nat) (t : Tb) : PyData := .list ((btwT n t).map fun l => .list (l.map fun c => .tuple (c.map .int)))
theorem codeL_at {n : Nat} {t : Tb} (h : Sq n t) {x y : Nat} (hx : x < n) (hy : y < n) : codeL (mny t) (t.getD x []) ((colT n t).getD y []) = (List.range n).map fun z => (mny t : Int) * atN t x z + atN t z y := by
  have lt : (t.getD x []).length = n := by
    rw [List.getD_eq_getElem?_getD, List.getElem?_eq_getElem (by rw [h.1]; exact hx)]
    exact h.2 _ (List.getElem_mem _)
  have ec : (colT n t).getD y [] = t.map fun r => r.getD y 0 := by
    unfold colT
    rw [List.getD_eq_getElem?_getD, List.getElem?_map, List.getElem?_range hy]
    rfl
  rw [ec]
  unfold codeL
  apply List.ext_getElem
  · rw [List.length_zipWith, List.length_map, List.length_map, List.length_range, h.1, lt, Nat.min_self]
  · intro z h1 h2
    rw [List.length_map, List.length_range] at h2
    rw [List.getElem_zipWith, List.getElem_map, List.getElem_map, List.getElem_range]
    unfold atN
    rw [List.getD_eq_getElem?_getD (l := t.getD x []), List.getElem?_eq_getElem (by rw [lt]; exact h2), List.getD_eq_getElem?_getD (l := t) (i := z), List.getElem?_eq_getElem (by rw [h.1]; exact h2)]
    rfl
end TL

/-! zip of any number of tuples, at the library's level -/
namespace ZN
open PySem
open PySem.Sem (wp)
abbrev IsTup (h : Heap) (T : Addr) (a : Array Value) : Prop := h.get? T = some { cls := .type "tuple", data := .seq a }
structure ZE where
  it : Addr
  l : Addr
  xs : Array Value
structure ZA (z TO : Addr) (L : List ZE) : Prop where
  TOz : TO ≠ z
  itz : ∀ e ∈ L, e.it ≠ z
  itTO : ∀ e ∈ L, e.it ≠ TO
  lz : ∀ e ∈ L, e.l ≠ z
  lTO : ∀ e ∈ L, e.l ≠ TO
  lit : ∀ e ∈ L, ∀ e' ∈ L, e.l ≠ e'.it
  nd : ∀ (i j : Nat) (e e' : ZE), L[i]? = some e → L[j]? = some e' → e.it = e'.it → i = j
structure Lp (h0 h : Heap) (z TI TO : Addr) (L : List ZE) (p k : Nat) : Prop where
  hz : IsZip h z TI TO .ellipsis
  to : ∃ kept : Array Value, IsTup h TO kept ∧ kept.size = L.length ∧ ∀ (j : Nat) (e : ZE), j < k → L[j]? = some e → ∃ x, e.xs[p]? = some x ∧ kept[j]? = some x
  done : ∀ (j : Nat) (e : ZE), j < k → L[j]? = some e → h.IsTupleIter e.it e.l (p + 1)
  rest : ∀ (j : Nat) (e : ZE), k ≤ j → L[j]? = some e → h.IsTupleIter e.it e.l p
  tup : ∀ e ∈ L, h.IsTuple e.l e.xs
  size : h.objs.size = h0.objs.size
  kp : ∀ c o, c ≠ z → c ≠ TO → (∀ e ∈ L, c ≠ e.it) → h0.get? c = some o → h.get? c = some o
section
variable {prog : Program} {w : World} {A : Around} {E : Value → Shared → Prop} {s : Shared}
theorem updateSeq_tup {T : Addr} {a : Array Value} {x : Value} {k : Nat} {Q : Unit → Shared → Prop} (hz : a.size ≤ sizeLine) (hT : IsTup s.heap T a)
    (h : ∀ h', IsTup h' T (a.setIfInBounds k x) → Heap.SameBut T s.heap h' → Q () { s with heap := h' }) :
    wpAny (model prog w) A (updateSeq T (·.setIfInBounds k x)) Q E s := by
  refine wpAny_updateSeq hT rfl (h _ ?_ (Heap.SameBut.update ..)) hz (by rw [Array.size_setIfInBounds]; exact Nat.le_succ_of_le hz)
  show Heap.get? _ _ = _
  rw [Heap.get?_update_self _ hT rfl]
  simp [Obj.mapSeq]
theorem loop {β : Type} {f : Value × Nat → β → Sem (ForInStep β)} {b : β} {L : List ZE} {S : Nat → Shared → Prop}
    (step : ∀ (k : Nat) (e : ZE) (s : Shared) (Q : ForInStep β → Shared → Prop), L[k]? = some e → S k s → (∀ s', S (k + 1) s' → Q (.yield b) s') → wpAny (model prog w) A (f (.ref e.it, k) b) Q E s) :
    ∀ (R : List ZE) (k : Nat), R = L.drop k → k ≤ L.length → ∀ (s : Shared) (Q : β → Shared → Prop), S k s → (∀ s', S L.length s' → Q b s') → wpAny (model prog w) A (forIn ((R.map fun e => Value.ref e.it).zipIdx k) b f) Q E s
  | [], k, hR, hk, s, Q, hS, hQ => by
    have hl : k = L.length := by
      have := congrArg List.length hR
      rw [List.length_drop] at this
      simp only [List.length_nil] at this
      omega
    subst hl
    simp only [List.map_nil, List.zipIdx_nil, List.forIn_nil]
    exact wpAny_pure (hQ s hS)
  | e :: R, k, hR, hk, s, Q, hS, hQ => by
    have he : L[k]? = some e := by
      have := congrArg (fun l => l[0]?) hR
      simp only [List.getElem?_cons_zero, List.getElem?_drop, Nat.add_zero] at this
      exact this.symm
    have hlt : k < L.length := (List.getElem?_eq_some_iff.mp he).1
    simp only [List.map_cons, List.zipIdx_cons, List.forIn_cons]
    refine wpAny_bind (step k e s _ he hS fun s' hS' => ?_)
    refine loop step R (k + 1) ?_ (by omega) s' Q hS' hQ
    have := congrArg List.tail hR
    rw [List.tail_cons, List.tail_drop] at this
    exact this
theorem zip_next_item {z TI TO : Addr} {L : List ZE} {p : Nat} {kept : Array Value} {Q : Value → Shared → Prop} (D : ZA z TO L) (hne : L ≠ []) (hL : L.length ≤ sizeLine)
    (hz : IsZip s.heap z TI TO .none) (hTI : IsTup s.heap TI (L.map fun e => Value.ref e.it).toArray) (hTO : IsTup s.heap TO kept) (hk : kept.size = L.length)
    (hit : ∀ e ∈ L, s.heap.IsTupleIter e.it e.l p) (htup : ∀ e ∈ L, s.heap.IsTuple e.l e.xs) (hx : ∀ e ∈ L, ∃ x, e.xs[p]? = some x)
    (hQ : ∀ h' (new : Array Value), IsZip h' z TI TO (rawInt s.heap.objs.size) → IsTup h' TO new → IsTup h' s.heap.objs.size new → new.size = L.length → (∀ (j : Nat) (e : ZE), L[j]? = some e → ∃ x, e.xs[p]? = some x ∧ new[j]? = some x) → (∀ e ∈ L, h'.IsTupleIter e.it e.l (p + 1)) → h'.objs.size = s.heap.objs.size + 1 →
      (∀ c o, c ≠ z → c ≠ TO → (∀ e ∈ L, c ≠ e.it) → s.heap.get? c = some o → h'.get? c = some o) → Q (.ref s.heap.objs.size) { s with heap := h' }) :
    wpAny (model prog w) A (Builtin.«zip.__next__» ⟨[.ref z], []⟩) (fun fin s' => ∃ v, fin = .done (.ret v) ∧ Q v s') E s := by
  show wpAny _ _ (field (.ref z) 2 >>= _) _ _ _
  refine wpAny_bind (wpAny_field hz rfl (x := .bool false) rfl ?_)
  show wpAny _ _ (field (.ref z) 3 >>= _) _ _ _
  refine wpAny_bind (wpAny_field hz rfl (x := .ref TI) rfl ?_)
  refine wpAny_bind (wpAny_seqItems hTI rfl ?_)
  have ne : (L.map fun e => Value.ref e.it).toArray.isEmpty = false := by
    cases L with
    | nil => exact absurd rfl hne
    | cons _ _ => rfl
  simp only [ne]
  rw [if_neg Bool.false_ne_true]
  show wpAny _ _ (Builtin.SmallTypes.ownedTupleIsFree (.ref z) >>= _) _ _ _
  refine wpAny_bind ?_
  unfold Builtin.SmallTypes.ownedTupleIsFree
  refine wpAny_bind (wpAny_field hz rfl (x := .none) rfl (wpAny_pure ?_))
  simp only [if_true]
  refine wpAny_bind (wpAny_rule ?_)
  refine wpAny_bind (wpAny_field hz rfl (x := .ref TO) rfl ?_)
  refine wpAny_bind (wpAny_setField_rec hz (by simp) fun h₁ hz₁ hs₁ => ?_)
  replace hz₁ : IsZip h₁ z TI TO .ellipsis := hz₁
  refine wpAny_bind ?_
  refine loop (L := L) (S := fun k s' => ∃ h', s' = { s with heap := h' } ∧ Lp s.heap h' z TI TO L p k) (fun k e s1 Q1 he ⟨h', es, lp⟩ q1 => ?_) L 0 rfl (Nat.zero_le _) _ _ ⟨h₁, rfl, ?_⟩ fun s2 ⟨h2, es, lp⟩ => ?_
  · subst es
    obtain ⟨kt, hTO', hks, hkx⟩ := lp.to
    have hm := List.mem_of_getElem? he
    obtain ⟨x, hxx⟩ := hx e hm
    have hkl : k < L.length := (List.getElem?_eq_some_iff.mp he).1
    refine wpAny_bind (wpAny_onRaise ?_)
    show wpAny _ _ (Builtin.SmallTypes.nextOf (.ref e.it) >>= _) _ _ _
    refine wpAny_bind (RZ.nextOf_tuple_item (lp.rest k e (Nat.le_refl k) he) (lp.tup e hm) hxx fun h₂ h1₂ hs₂ => wpAny_pure ?_)
    have hTO₂ : IsTup h₂ TO kt := hs₂.extBut _ _ (D.itTO e hm).symm hTO'
    refine wpAny_bind (wpAny_seqItems hTO₂ rfl ?_)
    refine wpAny_bind (updateSeq_tup (by omega) hTO₂ fun h₃ hTO₃ hs₃ => ?_)
    refine wpAny_bind (wpAny_letGo (wpAny_pure ?_))
    have itne : ∀ (j : Nat) (e' : ZE), L[j]? = some e' → j ≠ k → e'.it ≠ e.it := fun j e' h1 h2 h3 => h2 (D.nd j k e' e h1 he h3)
    refine q1 _ ⟨h₃, rfl, hs₃.extBut _ _ D.TOz.symm (hs₂.extBut _ _ (D.itz e hm).symm lp.hz), ⟨kt.setIfInBounds k x, hTO₃, by rw [Array.size_setIfInBounds]; exact hks, fun j e' hj he' => ?_⟩, fun j e' hj he' => ?_, fun j e' hj he' => ?_, fun e' he' => ?_, hs₃.1.trans (hs₂.1.trans lp.size), fun c o c1 c2 c3 y => hs₃.extBut _ _ c2 (hs₂.extBut _ _ (c3 e hm) (lp.kp c o c1 c2 c3 y))⟩
    · by_cases hjk : j = k
      · subst hjk
        rw [he] at he'
        cases he'
        exact ⟨x, hxx, by rw [Array.getElem?_setIfInBounds_self_of_lt (by omega)]⟩
      · obtain ⟨y, h1, h2⟩ := hkx j e' (by omega) he'
        exact ⟨y, h1, by rw [Array.getElem?_setIfInBounds_ne (Ne.symm hjk)]; exact h2⟩
    · by_cases hjk : j = k
      · subst hjk
        rw [he] at he'
        cases he'
        exact h1₂.extBut hs₃.extBut (D.itTO e hm)
      · have hm' := List.mem_of_getElem? he'
        exact ((lp.done j e' (by omega) he').extBut hs₂.extBut (itne j e' he' hjk)).extBut hs₃.extBut (D.itTO e' hm')
    · have hm' := List.mem_of_getElem? he'
      exact ((lp.rest j e' (by omega) he').extBut hs₂.extBut (itne j e' he' (by omega))).extBut hs₃.extBut (D.itTO e' hm')
    · exact ((lp.tup e' he').extBut hs₂.extBut (D.lit e' he' e hm)).extBut hs₃.extBut (D.lTO e' he')
  · refine ⟨hz₁, ⟨kept, hs₁.extBut _ _ D.TOz hTO, hk, fun j e hj => absurd hj (Nat.not_lt_zero j)⟩, fun j e hj => absurd hj (Nat.not_lt_zero j), fun j e _ he => ?_, fun e he => ?_, hs₁.1, fun c o c1 _ _ x => hs₁.extBut _ _ c1 x⟩
    · exact (hit e (List.mem_of_getElem? he)).extBut hs₁.extBut (D.itz e (List.mem_of_getElem? he))
    · exact (htup e he).extBut hs₁.extBut (D.lz e he)
  · subst es
    obtain ⟨new, hTO₅, hns, hnx⟩ := lp.to
    have hz₅ := lp.hz
    have hsz := lp.size
    refine wpAny_bind (wpAny_seqItems hTO₅ rfl ?_)
    refine wpAny_bind (wpAny_newTuple ?_ (by rw [Array.length_toList]; omega))
    have hzlt : z < h2.objs.size := Heap.lt_size hz₅
    show wpAny _ _ (Builtin.SmallTypes.ownedTupleHandOut (.ref z) (.ref h2.objs.size) >>= _) _ _ _
    refine wpAny_bind ?_
    unfold Builtin.SmallTypes.ownedTupleHandOut
    have hz₆ : IsZip (h2.push { cls := .type "tuple", data := .seq new.toList.toArray }) z TI TO .ellipsis := Heap.get?_push_of_some _ hz₅
    refine wpAny_bind (wpAny_setField_rec hz₆ (by simp) fun h₇ hz₇ hs₇ => ?_)
    replace hz₇ : IsZip h₇ z TI TO (rawInt h2.objs.size) := hz₇
    refine wpAny_setField_rec hz₇ (by simp) fun h₈ hz₈ hs₈ => ?_
    replace hz₈ : IsZip h₈ z TI TO (rawInt h2.objs.size) := hz₈
    have up : ∀ c o, c ≠ z → h2.get? c = some o → h₈.get? c = some o := fun c o c1 e => hs₈.extBut _ _ c1 (hs₇.extBut _ _ c1 (Heap.get?_push_of_some _ e))
    have hT₈ : IsTup h₈ h2.objs.size new := by
      have e0 : new.toList.toArray = new := by simp
      have g0 : (h2.push { cls := .type "tuple", data := .seq new.toList.toArray }).get? h2.objs.size = some { cls := .type "tuple", data := .seq new.toList.toArray } := Heap.get?_push_size _ rfl
      have := hs₈.extBut _ _ (Nat.ne_of_gt hzlt) (hs₇.extBut _ _ (Nat.ne_of_gt hzlt) g0)
      rw [e0] at this
      exact this
    have hz8 : h₈.objs.size = h2.objs.size + 1 := by rw [hs₈.1, hs₇.1, Heap.size_push]
    rw [hsz] at hz₈ hT₈ hz8
    refine wpAny_pure ⟨_, rfl, ?_⟩
    show Q (.ref h2.objs.size) _
    rw [hsz]
    refine hQ h₈ new hz₈ (up _ _ D.TOz hTO₅) hT₈ hns (fun j e he => hnx j e (List.getElem?_eq_some_iff.mp he).1 he) (fun e he => ?_) hz8 fun c o c1 c2 c3 y => up c o c1 (lp.kp c o c1 c2 c3 y)
    obtain ⟨j, hj⟩ := List.getElem?_of_mem he
    exact (lp.done j e (List.getElem?_eq_some_iff.mp hj).1 hj).at fun o y => up _ o (D.itz e he) y
theorem zip_next_end {z TI TO : Addr} {L : List ZE} {p : Nat} {kept : Array Value} {Q : Fin → Shared → Prop} (hh : A.handled = none) (D : ZA z TO L)
    (hz : IsZip s.heap z TI TO .none) (hTI : IsTup s.heap TI (L.map fun e => Value.ref e.it).toArray) (hTO : IsTup s.heap TO kept)
    (hit : ∀ e ∈ L, s.heap.IsTupleIter e.it e.l p) (htup : ∀ e ∈ L, s.heap.IsTuple e.l e.xs) (hx : ∀ e ∈ L, e.xs[p]? = none)
    (hE : ∀ h' e, (∀ c o, c ≠ z → c ≠ TO → (∀ e ∈ L, c ≠ e.it) → s.heap.get? c = some o → h'.get? c = some o) → (∃ o, h'.get? e = some o ∧ o.cls = .type "StopIteration") → E (.ref e) { s with heap := h' }) :
    wpAny (model prog w) A (Builtin.«zip.__next__» ⟨[.ref z], []⟩) Q E s := by
  show wpAny _ _ (field (.ref z) 2 >>= _) _ _ _
  refine wpAny_bind (wpAny_field hz rfl (x := .bool false) rfl ?_)
  show wpAny _ _ (field (.ref z) 3 >>= _) _ _ _
  refine wpAny_bind (wpAny_field hz rfl (x := .ref TI) rfl ?_)
  refine wpAny_bind (wpAny_seqItems hTI rfl ?_)
  cases L with
  | nil =>
    show wpAny _ _ (rule _ >>= _) _ _ _
    refine wpAny_bind (wpAny_rule ?_)
    refine wpAny_bind ?_
    unfold Builtin.SmallTypes.stopIteration
    show wpAny _ _ (newExc (.type "StopIteration") [] >>= _) _ _ _
    refine wpAny_bind ?_
    simp only [newExc, newTuple]
    refine wpAny_bind (wpAny_newObj_type ?_ (by size_fits))
    refine wpAny_bind (m := firstArgMember _ _) (wpAny_of_eq (a := Value.none) (by first | rfl | (simp only [firstArgMember]; rfl)) ?_)
    refine wpAny_newObj_type ?_ (by size_fits)
    simp only [raiseNew]
    refine wpAny_bind (wpAny_handled ?_)
    first | rw [show A.in1.handled = none from hh] | rw [hh]
    refine wpAny_bind (wpAny_pure (wpAny_throw ?_))
    exact hE _ _ (fun c o _ _ _ x => Heap.get?_push_of_some _ (Heap.get?_push_of_some _ x)) ⟨_, Heap.get?_push_size _ rfl, rfl⟩
  | cons e R =>
    have ne : ((e :: R).map fun e => Value.ref e.it).toArray.isEmpty = false := rfl
    simp only [ne]
    rw [if_neg Bool.false_ne_true]
    show wpAny _ _ (Builtin.SmallTypes.ownedTupleIsFree (.ref z) >>= _) _ _ _
    refine wpAny_bind ?_
    unfold Builtin.SmallTypes.ownedTupleIsFree
    refine wpAny_bind (wpAny_field hz rfl (x := .none) rfl (wpAny_pure ?_))
    simp only [if_true]
    refine wpAny_bind (wpAny_rule ?_)
    refine wpAny_bind (wpAny_field hz rfl (x := .ref TO) rfl ?_)
    refine wpAny_bind (wpAny_setField_rec hz (by simp) fun h₁ hz₁ hs₁ => ?_)
    replace hz₁ : IsZip h₁ z TI TO .ellipsis := hz₁
    refine wpAny_bind ?_
    have hm : e ∈ e :: R := List.mem_cons_self
    simp only [List.map_cons, List.zipIdx_cons, List.forIn_cons]
    refine wpAny_bind (wpAny_bind (wpAny_onRaise ?_))
    show wpAny _ _ (Builtin.SmallTypes.nextOf (.ref e.it) >>= _) _ _ _
    refine wpAny_bind (RZ.nextOf_tuple_end hh ((hit e hm).extBut hs₁.extBut (D.itz e hm)) ((htup e hm).extBut hs₁.extBut (D.lz e hm)) (hx e hm) fun h₂ e' hs₂ he => ?_)
    obtain ⟨oe, hoe, hce⟩ := he
    have hz₂ : IsZip h₂ z TI TO .ellipsis := hs₂ _ _ (D.itz e hm).symm hz₁
    have hez : e' ≠ z := fun x => by subst x; rw [hz₂] at hoe; cases hoe; simp at hce
    refine wpAny_setField_rec hz₂ (by simp) fun h₃ _ hs₃ => hE h₃ e' (fun c o c1 _ c3 x => hs₃.extBut _ _ c1 (hs₂ _ _ (c3 e hm) (hs₁.extBut _ _ c1 x))) ⟨oe, hs₃.extBut _ _ hez hoe, hce⟩
theorem pyNext_item {z TI TO : Addr} {L : List ZE} {p : Nat} {kept : Array Value} {Q : Option Value → Shared → Prop} (D : ZA z TO L) (hne : L ≠ []) (hL : L.length ≤ sizeLine)
    (hz : IsZip s.heap z TI TO .none) (hTI : IsTup s.heap TI (L.map fun e => Value.ref e.it).toArray) (hTO : IsTup s.heap TO kept) (hk : kept.size = L.length)
    (hit : ∀ e ∈ L, s.heap.IsTupleIter e.it e.l p) (htup : ∀ e ∈ L, s.heap.IsTuple e.l e.xs) (hx : ∀ e ∈ L, ∃ x, e.xs[p]? = some x)
    (hQ : ∀ h' (new : Array Value), IsZip h' z TI TO (rawInt s.heap.objs.size) → IsTup h' TO new → IsTup h' s.heap.objs.size new → new.size = L.length → (∀ (j : Nat) (e : ZE), L[j]? = some e → ∃ x, e.xs[p]? = some x ∧ new[j]? = some x) → (∀ e ∈ L, h'.IsTupleIter e.it e.l (p + 1)) → h'.objs.size = s.heap.objs.size + 1 →
      (∀ c o, c ≠ z → c ≠ TO → (∀ e ∈ L, c ≠ e.it) → s.heap.get? c = some o → h'.get? c = some o) → Q (some (.ref s.heap.objs.size)) { s with heap := h' }) :
    wpAny (model prog w) A (pyNext (.ref z)) Q E s := by
  have hT : s.TypeIs (.ref z) "zip" := ⟨_, hz, rfl⟩
  unfold pyNext
  exact wpAny_bind (wpAny_attempt (wpAny_callSpecial?_slot (name := Str.ofString "__next__") hT F.slot_zip_next
    (wpAny_call_entry F.slot_zip_next hT F.entry_zip_next
      (zip_next_item D hne hL hz hTI hTO hk hit htup hx fun h' new a1 a2 a3 a4 a5 a6 a7 a8 => wpAny_pure (hQ h' new a1 a2 a3 a4 a5 a6 a7 a8)) (F.args_zip_next_1 _))))
theorem pyNext_end {z TI TO : Addr} {L : List ZE} {p : Nat} {kept : Array Value} {Q : Option Value → Shared → Prop} (hh : A.handled = none) (D : ZA z TO L)
    (hz : IsZip s.heap z TI TO .none) (hTI : IsTup s.heap TI (L.map fun e => Value.ref e.it).toArray) (hTO : IsTup s.heap TO kept)
    (hit : ∀ e ∈ L, s.heap.IsTupleIter e.it e.l p) (htup : ∀ e ∈ L, s.heap.IsTuple e.l e.xs) (hx : ∀ e ∈ L, e.xs[p]? = none)
    (hQ : ∀ h', (∀ c o, c ≠ z → c ≠ TO → (∀ e ∈ L, c ≠ e.it) → s.heap.get? c = some o → h'.get? c = some o) → Q none { s with heap := h' }) : wpAny (model prog w) A (pyNext (.ref z)) Q E s := by
  have hT : s.TypeIs (.ref z) "zip" := ⟨_, hz, rfl⟩
  unfold pyNext
  refine wpAny_bind (wpAny_attempt (wpAny_callSpecial?_slot (name := Str.ofString "__next__") hT F.slot_zip_next
    (wpAny_call_entry F.slot_zip_next hT F.entry_zip_next (zip_next_end hh D hz hTI hTO hit htup hx fun h' e hk he => ?_) (F.args_zip_next_1 _))))
  obtain ⟨o, ho, hc⟩ := he
  refine wpAny_bind (wpAny_isInstance (T := "StopIteration") (b := true) ⟨o, ho, hc⟩ isSubtype_stop ?_)
  exact wpAny_pure (hQ _ hk)
/-! the tuple handed out before is still held -/
theorem loop2 {β : Type} {f : Value → β → Sem (ForInStep β)} {L : List ZE} {S : Nat → β → Shared → Prop}
    (step : ∀ (k : Nat) (e : ZE) (b : β) (s : Shared) (Q : ForInStep β → Shared → Prop), L[k]? = some e → S k b s → (∀ b' s', S (k + 1) b' s' → Q (.yield b') s') → wpAny (model prog w) A (f (.ref e.it) b) Q E s) :
    ∀ (R : List ZE) (k : Nat), R = L.drop k → k ≤ L.length → ∀ (b : β) (s : Shared) (Q : β → Shared → Prop), S k b s → (∀ b' s', S L.length b' s' → Q b' s') → wpAny (model prog w) A (forIn (R.map fun e => Value.ref e.it) b f) Q E s
  | [], k, hR, hk, b, s, Q, hS, hQ => by
    have hl : k = L.length := by
      have := congrArg List.length hR
      rw [List.length_drop] at this
      simp only [List.length_nil] at this
      omega
    subst hl
    simp only [List.map_nil, List.forIn_nil]
    exact wpAny_pure (hQ b s hS)
  | e :: R, k, hR, hk, b, s, Q, hS, hQ => by
    have he : L[k]? = some e := by
      have := congrArg (fun l => l[0]?) hR
      simp only [List.getElem?_cons_zero, List.getElem?_drop, Nat.add_zero] at this
      exact this.symm
    have hlt : k < L.length := (List.getElem?_eq_some_iff.mp he).1
    simp only [List.map_cons, List.forIn_cons]
    refine wpAny_bind (step k e b s _ he hS fun b' s' hS' => ?_)
    refine loop2 step R (k + 1) ?_ (by omega) b' s' Q hS' hQ
    have := congrArg List.tail hR
    rw [List.tail_cons, List.tail_drop] at this
    exact this
structure Lq (h0 h : Heap) (z TI TO T : Addr) (L : List ZE) (p k : Nat) (acc : Array Value) : Prop where
  hz : PySem.IsZipHeld h z TI TO T true
  asz : acc.size = k
  av : ∀ (j : Nat) (e : ZE), j < k → L[j]? = some e → ∃ x, e.xs[p]? = some x ∧ acc[j]? = some x
  done : ∀ (j : Nat) (e : ZE), j < k → L[j]? = some e → h.IsTupleIter e.it e.l (p + 1)
  rest : ∀ (j : Nat) (e : ZE), k ≤ j → L[j]? = some e → h.IsTupleIter e.it e.l p
  tup : ∀ e ∈ L, h.IsTuple e.l e.xs
  size : h.objs.size = h0.objs.size
  kp : ∀ c o, c ≠ z → (∀ e ∈ L, c ≠ e.it) → h0.get? c = some o → h.get? c = some o
theorem zip_next_item_held {z TI TO T : Addr} {f : Bool} {oT : Obj} {L : List ZE} {p : Nat} {Q : Value → Shared → Prop} (D : ZA z TO L) (hne : L ≠ []) (hL : L.length ≤ sizeLine)
    (hz : PySem.IsZipHeld s.heap z TI TO T f) (hT : s.heap.get? T = some oT) (hTI : IsTup s.heap TI (L.map fun e => Value.ref e.it).toArray)
    (hit : ∀ e ∈ L, s.heap.IsTupleIter e.it e.l p) (htup : ∀ e ∈ L, s.heap.IsTuple e.l e.xs) (hx : ∀ e ∈ L, ∃ x, e.xs[p]? = some x)
    (hQ : ∀ h' (new : Array Value), PySem.IsZipHeld h' z TI TO T true → IsTup h' s.heap.objs.size new → new.size = L.length → (∀ (j : Nat) (e : ZE), L[j]? = some e → ∃ x, e.xs[p]? = some x ∧ new[j]? = some x) → (∀ e ∈ L, h'.IsTupleIter e.it e.l (p + 1)) → h'.objs.size = s.heap.objs.size + 1 →
      (∀ c o, c ≠ z → (∀ e ∈ L, c ≠ e.it) → s.heap.get? c = some o → h'.get? c = some o) → Q (.ref s.heap.objs.size) { s with heap := h' }) :
    wpAny (model prog w) A (Builtin.«zip.__next__» ⟨[.ref z], []⟩) (fun fin s' => ∃ v, fin = .done (.ret v) ∧ Q v s') E s := by
  show wpAny _ _ (field (.ref z) 2 >>= _) _ _ _
  refine wpAny_bind (wpAny_field hz rfl (x := .bool false) rfl ?_)
  show wpAny _ _ (field (.ref z) 3 >>= _) _ _ _
  refine wpAny_bind (wpAny_field hz rfl (x := .ref TI) rfl ?_)
  refine wpAny_bind (wpAny_seqItems hTI rfl ?_)
  have ne : (L.map fun e => Value.ref e.it).toArray.isEmpty = false := by
    cases L with
    | nil => exact absurd rfl hne
    | cons _ _ => rfl
  simp only [ne]
  rw [if_neg Bool.false_ne_true]
  show wpAny _ _ (Builtin.SmallTypes.ownedTupleIsFree (.ref z) >>= _) _ _ _
  refine wpAny_bind (PySem.wpAny_tupleHeld_zip hz hT fun h₁ hz₁ hs₁ => ?_)
  simp only [Bool.false_eq_true, if_false]
  refine wpAny_bind ?_
  rw [← Array.forIn_toList]
  refine loop2 (L := L) (S := fun k b s' => ∃ h' acc, b = (none, acc) ∧ s' = { s with heap := h' } ∧ Lq s.heap h' z TI TO T L p k acc) ?st L 0 rfl (Nat.zero_le _) _ _ _ ⟨h₁, #[], rfl, rfl, ?ini⟩ ?fi
  case st =>
    intro k e b s1 Q1 he ⟨h', acc, eb, es, lp⟩ q1
    subst es eb
    have hm := List.mem_of_getElem? he
    obtain ⟨x, hxx⟩ := hx e hm
    have hkl : k < L.length := (List.getElem?_eq_some_iff.mp he).1
    refine wpAny_bind (wpAny_holding ?_)
    show wpAny _ _ (Builtin.SmallTypes.nextOf (.ref e.it) >>= _) _ _ _
    refine wpAny_bind (RZ.nextOf_tuple_item (lp.rest k e (Nat.le_refl k) he) (lp.tup e hm) hxx fun h₂ h1₂ hs₂ => wpAny_pure ?_)
    refine wpAny_pure ?_
    have itne : ∀ (j : Nat) (e' : ZE), L[j]? = some e' → j ≠ k → e'.it ≠ e.it := fun j e' h1 h2 h3 => h2 (D.nd j k e' e h1 he h3)
    refine q1 _ _ ⟨h₂, acc.push x, rfl, rfl, hs₂.extBut _ _ (D.itz e hm).symm lp.hz, by rw [Array.size_push, lp.asz], fun j e' hj he' => ?_, fun j e' hj he' => ?_, fun j e' hj he' => ?_, fun e' he' => ?_, hs₂.1.trans lp.size, fun c o c1 c3 y => hs₂.extBut _ _ (c3 e hm) (lp.kp c o c1 c3 y)⟩
    · by_cases hjk : j = k
      · subst hjk
        rw [he] at he'
        cases he'
        refine ⟨x, hxx, ?_⟩
        have := lp.asz
        subst this
        exact Array.getElem?_push_size
      · obtain ⟨y, h1, h2⟩ := lp.av j e' (by omega) he'
        refine ⟨y, h1, ?_⟩
        rw [Array.getElem?_push, if_neg (by rw [lp.asz]; exact hjk)]
        exact h2
    · by_cases hjk : j = k
      · subst hjk
        rw [he] at he'
        cases he'
        exact h1₂
      · exact (lp.done j e' (by omega) he').extBut hs₂.extBut (itne j e' he' hjk)
    · exact (lp.rest j e' (by omega) he').extBut hs₂.extBut (itne j e' he' (by omega))
    · exact (lp.tup e' he').extBut hs₂.extBut (D.lit e' he' e hm)
  case ini =>
    refine ⟨hz₁, rfl, fun j e hj => absurd hj (Nat.not_lt_zero j), fun j e hj => absurd hj (Nat.not_lt_zero j), fun j e _ he => ?_, fun e he => ?_, hs₁.1, fun c o c1 _ x => hs₁.extBut _ _ c1 x⟩
    · exact (hit e (List.mem_of_getElem? he)).extBut hs₁.extBut (D.itz e (List.mem_of_getElem? he))
    · exact (htup e he).extBut hs₁.extBut (D.lz e he)
  case fi =>
    intro b2 s2 ⟨h2, new, eb, es, lp⟩
    subst es eb
    have hsz := lp.size
    show wpAny _ _ (newTuple new.toList >>= _) _ _ _
    refine wpAny_bind (wpAny_newTuple ?_ (by rw [Array.length_toList, lp.asz]; exact hL))
    refine wpAny_pure ⟨_, rfl, ?_⟩
    show Q (.ref h2.objs.size) _
    have e0 : new.toList.toArray = new := by simp
    rw [e0]
    have hp : IsTup (h2.push { cls := .type "tuple", data := .seq new }) h2.objs.size new := Heap.get?_push_size _ rfl
    have hz4 : (h2.push { cls := .type "tuple", data := .seq new }).objs.size = h2.objs.size + 1 := Heap.size_push ..
    rw [hsz] at hp hz4 ⊢
    refine hQ _ new (Heap.get?_push_of_some _ lp.hz) hp lp.asz (fun j e he => lp.av j e (List.getElem?_eq_some_iff.mp he).1 he) (fun e he => ?_) hz4 fun c o c1 c3 y => Heap.get?_push_of_some _ (lp.kp c o c1 c3 y)
    obtain ⟨j, hj⟩ := List.getElem?_of_mem he
    exact (lp.done j e (List.getElem?_eq_some_iff.mp hj).1 hj).at fun o y => Heap.get?_push_of_some _ y
theorem zip_next_end_held {z TI TO T : Addr} {f : Bool} {oT : Obj} {L : List ZE} {p : Nat} {Q : Fin → Shared → Prop} (hh : A.handled = none) (D : ZA z TO L) (hne : L ≠ [])
    (hz : PySem.IsZipHeld s.heap z TI TO T f) (hT : s.heap.get? T = some oT) (hTI : IsTup s.heap TI (L.map fun e => Value.ref e.it).toArray)
    (hit : ∀ e ∈ L, s.heap.IsTupleIter e.it e.l p) (htup : ∀ e ∈ L, s.heap.IsTuple e.l e.xs) (hx : ∀ e ∈ L, e.xs[p]? = none)
    (hE : ∀ h' e, (∀ c o, c ≠ z → (∀ e ∈ L, c ≠ e.it) → s.heap.get? c = some o → h'.get? c = some o) → (∃ o, h'.get? e = some o ∧ o.cls = .type "StopIteration") → E (.ref e) { s with heap := h' }) :
    wpAny (model prog w) A (Builtin.«zip.__next__» ⟨[.ref z], []⟩) Q E s := by
  show wpAny _ _ (field (.ref z) 2 >>= _) _ _ _
  refine wpAny_bind (wpAny_field hz rfl (x := .bool false) rfl ?_)
  show wpAny _ _ (field (.ref z) 3 >>= _) _ _ _
  refine wpAny_bind (wpAny_field hz rfl (x := .ref TI) rfl ?_)
  refine wpAny_bind (wpAny_seqItems hTI rfl ?_)
  cases L with
  | nil => exact absurd rfl hne
  | cons e R =>
    have ne : ((e :: R).map fun e => Value.ref e.it).toArray.isEmpty = false := rfl
    simp only [ne]
    rw [if_neg Bool.false_ne_true]
    show wpAny _ _ (Builtin.SmallTypes.ownedTupleIsFree (.ref z) >>= _) _ _ _
    refine wpAny_bind (PySem.wpAny_tupleHeld_zip hz hT fun h₁ hz₁ hs₁ => ?_)
    simp only [Bool.false_eq_true, if_false]
    refine wpAny_bind ?_
    rw [← Array.forIn_toList]
    have hm : e ∈ e :: R := List.mem_cons_self
    simp only [List.map_cons, List.forIn_cons]
    refine wpAny_bind (wpAny_bind (wpAny_holding ?_))
    show wpAny _ _ (Builtin.SmallTypes.nextOf (.ref e.it) >>= _) _ _ _
    exact wpAny_bind (RZ.nextOf_tuple_end hh ((hit e hm).extBut hs₁.extBut (D.itz e hm)) ((htup e hm).extBut hs₁.extBut (D.lz e hm)) (hx e hm) fun h₂ e' hs₂ he => hE h₂ e' (fun c o c1 c3 x => hs₂ _ _ (c3 e hm) (hs₁.extBut _ _ c1 x)) he)
theorem pyNext_item_held {z TI TO T : Addr} {f : Bool} {oT : Obj} {L : List ZE} {p : Nat} {Q : Option Value → Shared → Prop} (D : ZA z TO L) (hne : L ≠ []) (hL : L.length ≤ sizeLine)
    (hz : PySem.IsZipHeld s.heap z TI TO T f) (hT : s.heap.get? T = some oT) (hTI : IsTup s.heap TI (L.map fun e => Value.ref e.it).toArray)
    (hit : ∀ e ∈ L, s.heap.IsTupleIter e.it e.l p) (htup : ∀ e ∈ L, s.heap.IsTuple e.l e.xs) (hx : ∀ e ∈ L, ∃ x, e.xs[p]? = some x)
    (hQ : ∀ h' (new : Array Value), PySem.IsZipHeld h' z TI TO T true → IsTup h' s.heap.objs.size new → new.size = L.length → (∀ (j : Nat) (e : ZE), L[j]? = some e → ∃ x, e.xs[p]? = some x ∧ new[j]? = some x) → (∀ e ∈ L, h'.IsTupleIter e.it e.l (p + 1)) → h'.objs.size = s.heap.objs.size + 1 →
      (∀ c o, c ≠ z → (∀ e ∈ L, c ≠ e.it) → s.heap.get? c = some o → h'.get? c = some o) → Q (some (.ref s.heap.objs.size)) { s with heap := h' }) :
    wpAny (model prog w) A (pyNext (.ref z)) Q E s := by
  have hTy : s.TypeIs (.ref z) "zip" := ⟨_, hz, rfl⟩
  unfold pyNext
  exact wpAny_bind (wpAny_attempt (wpAny_callSpecial?_slot (name := Str.ofString "__next__") hTy F.slot_zip_next
    (wpAny_call_entry F.slot_zip_next hTy F.entry_zip_next
      (zip_next_item_held D hne hL hz hT hTI hit htup hx fun h' new a1 a3 a4 a5 a6 a7 a8 => wpAny_pure (hQ h' new a1 a3 a4 a5 a6 a7 a8)) (F.args_zip_next_1 _))))
theorem pyNext_end_held {z TI TO T : Addr} {f : Bool} {oT : Obj} {L : List ZE} {p : Nat} {Q : Option Value → Shared → Prop} (hh : A.handled = none) (D : ZA z TO L) (hne : L ≠ [])
    (hz : PySem.IsZipHeld s.heap z TI TO T f) (hT : s.heap.get? T = some oT) (hTI : IsTup s.heap TI (L.map fun e => Value.ref e.it).toArray)
    (hit : ∀ e ∈ L, s.heap.IsTupleIter e.it e.l p) (htup : ∀ e ∈ L, s.heap.IsTuple e.l e.xs) (hx : ∀ e ∈ L, e.xs[p]? = none)
    (hQ : ∀ h', (∀ c o, c ≠ z → (∀ e ∈ L, c ≠ e.it) → s.heap.get? c = some o → h'.get? c = some o) → Q none { s with heap := h' }) : wpAny (model prog w) A (pyNext (.ref z)) Q E s := by
  have hTy : s.TypeIs (.ref z) "zip" := ⟨_, hz, rfl⟩
  unfold pyNext
  refine wpAny_bind (wpAny_attempt (wpAny_callSpecial?_slot (name := Str.ofString "__next__") hTy F.slot_zip_next
    (wpAny_call_entry F.slot_zip_next hTy F.entry_zip_next (zip_next_end_held hh D hne hz hT hTI hit htup hx fun h' e hk he => ?_) (F.args_zip_next_1 _))))
  obtain ⟨o, ho, hc⟩ := he
  refine wpAny_bind (wpAny_isInstance (T := "StopIteration") (b := true) ⟨o, ho, hc⟩ isSubtype_stop ?_)
  exact wpAny_pure (hQ _ hk)
end
end ZN

/-! a list out of a zip of any number of tuples, all of one length -/
namespace ZN
open PySem
open PySem.Sem (wp)
structure ZS (h0 h : Heap) (z TI TO S B : Addr) (L : List ZE) (i : Nat) (acc : Array Value) : Prop where
  zs : (i = 0 ∧ IsZip h z TI TO .none ∧ ∃ kept, IsTup h TO kept ∧ kept.size = L.length) ∨ 0 < i ∧ ∃ T oT f, PySem.IsZipHeld h z TI TO T f ∧ h.get? T = some oT ∧ B ≤ T
  ti : IsTup h TI (L.map fun e => Value.ref e.it).toArray
  it : ∀ e ∈ L, h.IsTupleIter e.it e.l i
  tup : ∀ e ∈ L, h.IsTuple e.l e.xs
  sl : ∃ c, h.get? S = some { cls := .type "list", dict := none, data := .seq acc c, slots := #[] }
  asz : acc.size = i
  av : ∀ (j : Nat), j < i → ∃ a new, acc[j]? = some (.ref a) ∧ B ≤ a ∧ IsTup h a new ∧ new.size = L.length ∧ ∀ (q : Nat) (e : ZE), L[q]? = some e → ∃ x, e.xs[j]? = some x ∧ new[q]? = some x
  inj : ∀ (j j' : Nat) (a : Addr), acc[j]? = some (.ref a) → acc[j']? = some (.ref a) → j = j'
  big : B ≤ h.objs.size
  kp : ∀ c o, c ≠ z → c ≠ TO → c ≠ S → (∀ e ∈ L, c ≠ e.it) → h0.get? c = some o → h.get? c = some o
structure ZF (h0 h : Heap) (z TO S B : Addr) (L : List ZE) (n : Nat) (acc : Array Value) : Prop where
  sl : ∃ c, h.get? S = some { cls := .type "list", dict := none, data := .seq acc c, slots := #[] }
  asz : acc.size = n
  av : ∀ (j : Nat), j < n → ∃ a new, acc[j]? = some (.ref a) ∧ B ≤ a ∧ IsTup h a new ∧ new.size = L.length ∧ ∀ (q : Nat) (e : ZE), L[q]? = some e → ∃ x, e.xs[j]? = some x ∧ new[q]? = some x
  inj : ∀ (j j' : Nat) (a : Addr), acc[j]? = some (.ref a) → acc[j']? = some (.ref a) → j = j'
  kp : ∀ c o, c ≠ z → c ≠ TO → c ≠ S → (∀ e ∈ L, c ≠ e.it) → h0.get? c = some o → h.get? c = some o
/-- where all stands -/
structure ZB (z TI TO S B : Addr) (L : List ZE) : Prop where
  d : ZA z TO L
  zB : z < B
  TOB : TO < B
  SB : S < B
  itB : ∀ e ∈ L, e.it < B
  TIz : TI ≠ z
  TITO : TI ≠ TO
  TIS : TI ≠ S
  TIit : ∀ e ∈ L, TI ≠ e.it
  Sz : S ≠ z
  STO : S ≠ TO
  Sit : ∀ e ∈ L, S ≠ e.it
  Sl : ∀ e ∈ L, e.l ≠ S
section
variable {prog : Program} {w : World} {A : Around} {E : Value → Shared → Prop} {s : Shared}
theorem ZB.nb {z TI TO S B : Addr} {L : List ZE} (Z : ZB z TI TO S B L) {a : Addr} (ha : B ≤ a) : a ≠ z ∧ a ≠ TO ∧ a ≠ S ∧ ∀ e ∈ L, a ≠ e.it :=
  ⟨fun q => by rw [q] at ha; exact absurd Z.zB (Nat.not_lt.mpr ha), fun q => by rw [q] at ha; exact absurd Z.TOB (Nat.not_lt.mpr ha), fun q => by rw [q] at ha; exact absurd Z.SB (Nat.not_lt.mpr ha), fun e he q => by rw [q] at ha; exact absurd (Z.itB e he) (Nat.not_lt.mpr ha)⟩
theorem ZS.fin {h0 h h' : Heap} {z TI TO S B : Addr} {L : List ZE} {n : Nat} {acc : Array Value} (Z : ZB z TI TO S B L) (st : ZS h0 h z TI TO S B L n acc) (hk : ∀ c o, c ≠ z → c ≠ TO → (∀ e ∈ L, c ≠ e.it) → h.get? c = some o → h'.get? c = some o) : ZF h0 h' z TO S B L n acc := by
  obtain ⟨c, hc⟩ := st.sl
  refine ⟨⟨c, hk _ _ Z.Sz Z.STO Z.Sit hc⟩, st.asz, fun j hj => ?_, st.inj, fun c o c1 c2 c3 c4 y => hk _ _ c1 c2 c4 (st.kp c o c1 c2 c3 c4 y)⟩
  obtain ⟨a, nw, e1, e2, e3, e4, e5⟩ := st.av j hj
  exact ⟨a, nw, e1, e2, hk _ _ (Z.nb e2).1 (Z.nb e2).2.1 (Z.nb e2).2.2.2 e3, e4, e5⟩
/-- one more item -/
theorem zs_push {h0 h h' h'' : Heap} {z TI TO S B : Addr} {L : List ZE} {i : Nat} {acc new : Array Value} (Z : ZB z TI TO S B L) (st : ZS h0 h z TI TO S B L i acc)
    (hz : PySem.IsZipHeld h' z TI TO h.objs.size false ∨ ∃ T oT, PySem.IsZipHeld h' z TI TO T true ∧ h.get? T = some oT ∧ B ≤ T) (hT : IsTup h' h.objs.size new) (hns : new.size = L.length) (hnx : ∀ (q : Nat) (e : ZE), L[q]? = some e → ∃ x, e.xs[i]? = some x ∧ new[q]? = some x)
    (hit : ∀ e ∈ L, h'.IsTupleIter e.it e.l (i + 1)) (hsz : h'.objs.size = h.objs.size + 1) (hk : ∀ c o, c ≠ z → c ≠ TO → (∀ e ∈ L, c ≠ e.it) → h.get? c = some o → h'.get? c = some o)
    (hs'' : Heap.SameBut S h' h'') (hS'' : ∃ c, h''.get? S = some { cls := .type "list", dict := none, data := .seq (acc.push (.ref h.objs.size)) c, slots := #[] }) :
    ZS h0 h'' z TI TO S B L (i + 1) (acc.push (.ref h.objs.size)) := by
  have hlt : ∀ (j : Nat) (a : Addr), acc[j]? = some (.ref a) → a < h.objs.size := fun j a e => by
    have hj : j < i := by rw [← st.asz]; exact (Array.getElem?_eq_some_iff.mp e).1
    obtain ⟨a', nw, e1, _, e2, _⟩ := st.av j hj
    rw [e] at e1
    cases e1
    exact Heap.lt_size e2
  have nb : ∀ {a : Addr}, B ≤ a → a ≠ z ∧ a ≠ TO ∧ a ≠ S ∧ ∀ e ∈ L, a ≠ e.it := fun {a} ha => ⟨fun q => by rw [q] at ha; exact absurd Z.zB (Nat.not_lt.mpr ha), fun q => by rw [q] at ha; exact absurd Z.TOB (Nat.not_lt.mpr ha), fun q => by rw [q] at ha; exact absurd Z.SB (Nat.not_lt.mpr ha), fun e he q => by rw [q] at ha; exact absurd (Z.itB e he) (Nat.not_lt.mpr ha)⟩
  have kk : ∀ c o, c ≠ z → c ≠ TO → c ≠ S → (∀ e ∈ L, c ≠ e.it) → h.get? c = some o → h''.get? c = some o := fun c o c1 c2 c3 c4 y => hs''.extBut _ _ c3 (hk c o c1 c2 c4 y)
  refine ⟨.inr ⟨Nat.succ_pos i, ?_⟩, kk _ _ Z.TIz Z.TITO Z.TIS Z.TIit st.ti, fun e he => (hit e he).extBut hs''.extBut (Z.Sit e he).symm, fun e he => ?_, hS'', by rw [Array.size_push, st.asz], fun j hj => ?_, fun j j' a e1 e2 => ?_, by rw [hs''.1, hsz]; exact Nat.le_succ_of_le st.big, fun c o c1 c2 c3 c4 y => kk c o c1 c2 c3 c4 (st.kp c o c1 c2 c3 c4 y)⟩
  · rcases hz with hz | ⟨T, oT, hz, hT', hB⟩
    · exact ⟨h.objs.size, _, false, hs''.extBut _ _ Z.Sz.symm hz, hs''.extBut _ _ (nb st.big).2.2.1 hT, st.big⟩
    · exact ⟨T, oT, true, hs''.extBut _ _ Z.Sz.symm hz, kk _ _ (nb hB).1 (nb hB).2.1 (nb hB).2.2.1 (nb hB).2.2.2 hT', hB⟩
  · exact (st.tup e he).at fun o y => kk _ _ (Z.d.lz e he) (Z.d.lTO e he) (Z.Sl e he) (fun e' he' => Z.d.lit e he e' he') y
  · by_cases hji : j = i
    · subst hji
      refine ⟨h.objs.size, new, ?_, st.big, hs''.extBut _ _ (nb st.big).2.2.1 hT, hns, hnx⟩
      have := st.asz
      subst this
      exact Array.getElem?_push_size
    · obtain ⟨a, nw, e1, e2, e3, e4, e5⟩ := st.av j (by omega)
      refine ⟨a, nw, ?_, e2, kk _ _ (nb e2).1 (nb e2).2.1 (nb e2).2.2.1 (nb e2).2.2.2 e3, e4, e5⟩
      rw [Array.getElem?_push, if_neg (by rw [st.asz]; exact hji)]
      exact e1
  · rw [Array.getElem?_push] at e1 e2
    split at e1 <;> split at e2
    · omega
    · cases e1
      exact absurd (hlt j' _ e2) (Nat.lt_irrefl _)
    · cases e2
      exact absurd (hlt j _ e1) (Nat.lt_irrefl _)
    · exact st.inj j j' a e1 e2
theorem extend_zip {h0 : Heap} {z TI TO S B : Addr} {L : List ZE} {n : Nat} {R : Result → Shared → Prop} (hh : A.handled = none) (Z : ZB z TI TO S B L) (hL : L.length ≤ sizeLine) (hn : n ≤ sizeLine) (hne : 0 < n → L ≠ []) (hsz : ∀ e ∈ L, e.xs.size = n) (res : Value) :
    ∀ (k i : Nat) (s : Shared) (acc : Array Value), n - i = k → i ≤ n → ZS h0 s.heap z TI TO S B L i acc →
    (∀ h' acc', ZF h0 h' z TO S B L n acc' → R (.ok (.ret res)) { s with heap := h' }) → codeAny (model prog w) A (.builtin "list.extend.loop" ⟨[.ref S, .ref z, res], []⟩) R s := by
  intro k
  induction k with
  | zero =>
    intro i s acc hk hi st hR
    have hin : i = n := by omega
    subst hin
    have hx : ∀ e ∈ L, e.xs[i]? = none := fun e he => by rw [Array.getElem?_eq_none_iff, hsz e he]; exact Nat.le_refl _
    refine codeAny_builtin F.entry_extend_loop ?_
    rw [Around.under_plainId F.plain_extend_loop _]
    show wpAny _ A.in1 (pyNext (.ref z) >>= _) _ _ s
    rcases st.zs with ⟨_, hz, kept, hTO, _⟩ | ⟨h0i, T, oT, f, hz, hT, _⟩
    · exact wpAny_bind (pyNext_end hh Z.d hz st.ti hTO st.it st.tup hx fun h' hk => wpAny_pure (hR h' acc (st.fin Z hk)))
    · exact wpAny_bind (pyNext_end_held hh Z.d (hne h0i) hz hT st.ti st.it st.tup hx fun h' hk => wpAny_pure (hR h' acc (st.fin Z fun c o c1 _ c3 y => hk c o c1 c3 y)))
  | succ k ih =>
    intro i s acc hk hi st hR
    have hlt : i < n := by omega
    have hx : ∀ e ∈ L, ∃ x, e.xs[i]? = some x := fun e he => ⟨_, Array.getElem?_eq_getElem (by rw [hsz e he]; exact hlt)⟩
    have sz1 : acc.size ≤ sizeLine := by rw [st.asz]; omega
    have sz2 : (acc.push (.ref s.heap.objs.size)).size ≤ sizeLine + 1 := by rw [Array.size_push]; omega
    obtain ⟨c, hS⟩ := st.sl
    refine codeAny_builtin F.entry_extend_loop ?_
    rw [Around.under_plainId F.plain_extend_loop _]
    show wpAny _ A.in1 (pyNext (.ref z) >>= _) _ _ s
    rcases st.zs with ⟨_, hz, kept, hTO, hks⟩ | ⟨h0i, T, oT, f, hz, hT, hB⟩
    · refine wpAny_bind (pyNext_item Z.d (hne (by omega)) hL hz st.ti hTO hks st.it st.tup hx fun h' new a1 a2 a3 a4 a5 a6 a7 a8 => ?_)
      show wpAny _ A.in1 (updateSeq S (·.push (.ref s.heap.objs.size)) >>= _) _ _ _
      have hS' := a8 _ _ Z.Sz Z.STO Z.Sit hS
      refine wpAny_bind (wpAny_updateSeq hS' rfl (wpAny_pure ⟨plainId_quiet F.plain_extend_loop _, ih (i + 1) _ _ (by omega) hlt (zs_push Z st (.inl a1) a3 a4 a5 a6 a7 a8 (Heap.SameBut.update ..) ⟨_, Heap.get?_update_self _ hS' rfl⟩) fun h'' acc' F => hR h'' acc' F⟩) sz1 sz2)
    · refine wpAny_bind (pyNext_item_held Z.d (hne (by omega)) hL hz hT st.ti st.it st.tup hx fun h' new a1 a3 a4 a5 a6 a7 a8 => ?_)
      show wpAny _ A.in1 (updateSeq S (·.push (.ref s.heap.objs.size)) >>= _) _ _ _
      have hS' := a8 _ _ Z.Sz Z.Sit hS
      refine wpAny_bind (wpAny_updateSeq hS' rfl (wpAny_pure ⟨plainId_quiet F.plain_extend_loop _, ih (i + 1) _ _ (by omega) hlt (zs_push Z st (.inr ⟨T, oT, a1, hT, hB⟩) a3 a4 a5 a6 a7 (fun c o c1 _ c3 y => a8 c o c1 c3 y) (Heap.SameBut.update ..) ⟨_, Heap.get?_update_self _ hS' rfl⟩) fun h'' acc' F => hR h'' acc' F⟩) sz1 sz2)
end
end ZN

/-! tuple(z), list(z): z a fresh zip of any number of tuples, all of one length -/
namespace ZN
open PySem
open PySem.Sem (wp)
theorem nolen_zip : typeLookup (.type "zip") "__len__" = pure none := by rw [typeLookup_type, builtinLookup_eq_fast]; kernel_rfl
theorem nohint_zip : typeLookup (.type "zip") "__length_hint__" = pure none := by rw [typeLookup_type, builtinLookup_eq_fast]; kernel_rfl
/-- a fresh zip -/
structure ZN0 (h : Heap) (z TI TO : Addr) (L : List ZE) : Prop where
  d : ZA z TO L
  hz : IsZip h z TI TO .none
  to : ∃ kept, IsTup h TO kept ∧ kept.size = L.length
  ti : IsTup h TI (L.map fun e => Value.ref e.it).toArray
  it : ∀ e ∈ L, h.IsTupleIter e.it e.l 0
  tup : ∀ e ∈ L, h.IsTuple e.l e.xs
  TIz : TI ≠ z
  TITO : TI ≠ TO
  TIit : ∀ e ∈ L, TI ≠ e.it
section
variable {prog : Program} {w : World} {A : Around} {E : Value → Shared → Prop} {s : Shared}
theorem itlt {h : Heap} {a l : Addr} {k : Nat} (x : h.IsTupleIter a l k) : a < h.objs.size := by
  obtain ⟨_, e, _⟩ := x
  exact Heap.lt_size e
theorem tplt {h : Heap} {a : Addr} {xs : Array Value} (x : h.IsTuple a xs) : a < h.objs.size := by
  obtain ⟨_, e, _⟩ := x
  exact Heap.lt_size e
theorem ZN0.zb {h : Heap} {z TI TO : Addr} {L : List ZE} (F : ZN0 h z TI TO L) : ZB z TI TO h.objs.size (h.objs.size + 1) L := by
  obtain ⟨kept, hTO, _⟩ := F.to
  have ne : ∀ {c : Addr} {o : Obj}, h.get? c = some o → h.objs.size ≠ c := fun e => Nat.ne_of_gt (Heap.lt_size e)
  exact ⟨F.d, Nat.lt_succ_of_lt (Heap.lt_size F.hz), Nat.lt_succ_of_lt (Heap.lt_size hTO), Nat.lt_succ_self _, fun e he => Nat.lt_succ_of_lt (itlt (F.it e he)), F.TIz, F.TITO, (ne F.ti).symm, F.TIit, ne F.hz, ne hTO, fun e he => Nat.ne_of_gt (itlt (F.it e he)), fun e he => Nat.ne_of_lt (tplt (F.tup e he))⟩
theorem collect_zip {z TI TO : Addr} {L : List ZE} {n : Nat} {Q : List Value → Shared → Prop} (hh : A.handled = none) (Y : ZN0 s.heap z TI TO L) (hL : L.length ≤ sizeLine) (hn : n ≤ sizeLine) (hne : 0 < n → L ≠ []) (hsz : ∀ e ∈ L, e.xs.size = n)
    (hQ : ∀ h' acc, ZF (s.heap.push { cls := .type "list", data := .seq ([] : List Value).toArray }) h' z TO s.heap.objs.size (s.heap.objs.size + 1) L n acc → Q acc.toList { s with heap := h' }) :
    wpAny (model prog w) A (collect (.ref z)) Q E s := by
  have Z := Y.zb
  have hSI : s.heap.objs.size ≠ z := Z.Sz
  have p1 : ∀ {c : Addr} {o : Obj}, s.heap.get? c = some o → (s.heap.push { cls := .type "list", data := .seq ([] : List Value).toArray }).get? c = some o := fun e => Heap.get?_push_of_some _ e
  have hz1 : IsZip (s.heap.push { cls := .type "list", data := .seq ([] : List Value).toArray }) z TI TO .none := p1 Y.hz
  have hT1 : ({ s with heap := s.heap.push { cls := .type "list", data := .seq ([] : List Value).toArray } } : Shared).TypeIs (.ref z) "zip" := ⟨_, hz1, rfl⟩
  unfold collect
  refine wpAny_bind (wpAny_runValue (codeAny_builtin F.entry_proto_collect ?_))
  rw [Around.under_plainId F.plain_proto_collect _]
  show wpAny _ A.in1 (newList [] >>= fun l => again (.builtin "list.__iadd__" ⟨[l, .ref z], []⟩)) _ _ s
  refine wpAny_bind (wpAny_newObj_type ?_)
  refine wpAny_pure ⟨plainId_quiet F.plain_list_iadd _, codeAny_builtin F.entry_list_iadd ?_⟩
  rw [Around.under_plainId F.plain_list_iadd _]
  show wpAny _ A.in1 (Builtin.List.listExtendWith (.ref s.heap.objs.size) (.ref z) (.ref s.heap.objs.size)) _ _ _
  unfold Builtin.List.listExtendWith
  refine wpAny_bind (wpAny_typeOf hT1 ?_)
  have h1 : Builtin.List.listSameRef (.ref s.heap.objs.size) (.ref z) = false := by simp [Builtin.List.listSameRef, hSI]
  have h2 : (Value.type "zip" == Value.type "list") = false := by decide
  have h3 : (Value.type "zip" == Value.type "tuple") = false := by decide
  simp only [h1, h2, h3, Bool.or_false, Bool.false_eq_true, if_false]
  refine wpAny_bind (wpAny_pyIter_zip hz1 ?_)
  refine wpAny_bind (wpAny_holding ?_)
  unfold Builtin.List.listLengthHint
  refine wpAny_bind (wpAny_specialOf hT1 nolen_zip ?_)
  show wpAny _ A.in1 (specialOf (Value.ref z) (Str.ofString "__length_hint__") >>= _) _ _ _
  refine wpAny_bind (wpAny_specialOf hT1 nohint_zip ?_)
  refine wpAny_pure ?_
  show wpAny _ A.in1 (rule "list.extend.makes-room" >>= fun _ => Builtin.List.listTouch (.ref s.heap.objs.size) >>= fun _ =>
    again (.builtin "list.extend.loop" ⟨[.ref s.heap.objs.size, .ref z, .ref s.heap.objs.size], []⟩)) _ _ _
  refine wpAny_bind (wpAny_rule ?_)
  have hS₁ : (s.heap.push { cls := .type "list", data := .seq ([] : List Value).toArray }).get? s.heap.objs.size = some { cls := .type "list", data := .seq ([] : List Value).toArray } := Heap.get?_push_size _ rfl
  refine wpAny_bind ?_
  show wpAny _ A.in1 (updateSeq s.heap.objs.size (·.push .none) >>= fun _ => updateSeq s.heap.objs.size (·.pop)) _ _ _
  refine wpAny_bind (wpAny_updateSeq hS₁ rfl ?_)
  have hS₂ := Heap.get?_update_self (Obj.mapSeq (·.push Value.none)) hS₁ rfl
  refine wpAny_updateSeq hS₂ rfl ?_
  have hS₃ := Heap.get?_update_self (Obj.mapSeq (·.pop)) hS₂ rfl
  have b1 : Heap.SameBut s.heap.objs.size (s.heap.push { cls := .type "list", data := .seq ([] : List Value).toArray }) ((s.heap.push { cls := .type "list", data := .seq ([] : List Value).toArray }).update s.heap.objs.size (Obj.mapSeq (·.push Value.none))) := Heap.SameBut.update ..
  have b2 : Heap.SameBut s.heap.objs.size ((s.heap.push { cls := .type "list", data := .seq ([] : List Value).toArray }).update s.heap.objs.size (Obj.mapSeq (·.push Value.none))) (((s.heap.push { cls := .type "list", data := .seq ([] : List Value).toArray }).update s.heap.objs.size (Obj.mapSeq (·.push Value.none))).update s.heap.objs.size (Obj.mapSeq (·.pop))) := Heap.SameBut.update ..
  have oth : ∀ b o, b ≠ s.heap.objs.size → (s.heap.push { cls := .type "list", data := .seq ([] : List Value).toArray }).get? b = some o →
      (((s.heap.push { cls := .type "list", data := .seq ([] : List Value).toArray }).update s.heap.objs.size (Obj.mapSeq (·.push Value.none))).update s.heap.objs.size (Obj.mapSeq (·.pop))).get? b = some o := fun b o hb e => b2.extBut _ _ hb (b1.extBut _ _ hb e)
  have sz3 : (((s.heap.push { cls := .type "list", data := .seq ([] : List Value).toArray }).update s.heap.objs.size (Obj.mapSeq (·.push Value.none))).update s.heap.objs.size (Obj.mapSeq (·.pop))).objs.size = s.heap.objs.size + 1 := by rw [b2.1, b1.1, Heap.size_push]
  obtain ⟨kept, hTO, hks⟩ := Y.to
  refine wpAny_pure ⟨plainId_quiet F.plain_extend_loop _, extend_zip (h0 := s.heap.push { cls := .type "list", data := .seq ([] : List Value).toArray }) (B := s.heap.objs.size + 1) (acc := #[]) hh Z hL hn hne hsz _ n 0 _ rfl (Nat.zero_le _)
    ⟨.inl ⟨rfl, oth _ _ Z.Sz.symm hz1, kept, oth _ _ Z.STO.symm (p1 hTO), hks⟩, oth _ _ Z.TIS (p1 Y.ti), fun e he => (Y.it e he).at fun o y => oth _ _ (Z.Sit e he).symm (p1 y), fun e he => (Y.tup e he).at fun o y => oth _ _ (Z.Sl e he) (p1 y), ⟨_, hS₃⟩, rfl, fun j hj => absurd hj (Nat.not_lt_zero j), fun j j' a e1 _ => by simp at e1, Nat.le_of_eq sz3.symm, fun c o c1 c2 c3 c4 y => oth _ _ c3 y⟩ fun h' acc' ff => ?_⟩
  obtain ⟨c, hc⟩ := ff.sl
  show wpAny _ A (load s.heap.objs.size >>= _) _ _ _
  refine wpAny_bind (wpAny_load hc ?_)
  exact wpAny_pure (hQ h' acc' ff)
theorem code_tuple_new_zip {z TI TO : Addr} {L : List ZE} {n : Nat} {Q₁ : Value → Shared → Prop} (hh : A.handled = none) (Y : ZN0 s.heap z TI TO L) (hL : L.length ≤ sizeLine) (hn : n ≤ sizeLine) (hne : 0 < n → L ≠ []) (hsz : ∀ e ∈ L, e.xs.size = n)
    (h : ∀ h' acc, ZF (s.heap.push { cls := .type "list", data := .seq ([] : List Value).toArray }) h' z TO s.heap.objs.size (s.heap.objs.size + 1) L n acc → Q₁ (.ref h'.objs.size) { s with heap := h'.push { cls := .type "tuple", data := .seq acc } }) :
    codeAny (model prog w) A (.call (.builtin "tuple.__new__") ⟨[.type "tuple", .ref z], []⟩) (wants Q₁ E) s := by
  refine codeAny_of_tree ?_
  show wpAny _ A.in1 (do checkBuiltinCall "tuple.__new__" ⟨[.type "tuple", .ref z], []⟩; again (.builtin "tuple.__new__" ⟨[.type "tuple", .ref z], []⟩)) _ _ s
  refine wpAny_bind (wpAny_of_eq (F.newCall_tuple_1 _) (wpAny_pure ⟨plainId_quiet F.plain_tuple_new _, codeAny_builtin F.entry_tuple_new ?_⟩))
  rw [Around.under_plainId F.plain_tuple_new _]
  have hsub := sub_tuple_self
  have hinit := init_tuple_lookup
  have hmh := madeHere_tuple
  have hTI : s.TypeIs (.ref z) "zip" := ⟨_, Y.hz, rfl⟩
  have hh1 : A.in1.handled = none := hh
  wp_walk using wpAny_typeOf hTI, collect_zip (A := A.in1) hh1 Y hL hn hne hsz
  intro h' acc ff
  show wpAny _ _ (Builtin.Tuple.tupleExact acc.toList.toArray >>= fun v => ret v) _ _ _
  unfold Builtin.Tuple.tupleExact
  refine wpAny_bind (wpAny_newObj_type ?_ (by show acc.toList.toArray.size ≤ sizeLine; simp only [Array.toArray_toList]; rw [ff.asz]; exact hn))
  refine wpAny_pure ?_
  have e : acc.toList.toArray = acc := by simp
  rw [e]
  exact h h' acc ff
theorem call_tuple_zip {z TI TO : Addr} {L : List ZE} {n : Nat} {Q : Value → Shared → Prop} (hh : A.handled = none) (Y : ZN0 s.heap z TI TO L) (hL : L.length ≤ sizeLine) (hn : n ≤ sizeLine) (hne : 0 < n → L ≠ []) (hsz : ∀ e ∈ L, e.xs.size = n)
    (hQ : ∀ h' acc, ZF (s.heap.push { cls := .type "list", data := .seq ([] : List Value).toArray }) h' z TO s.heap.objs.size (s.heap.objs.size + 1) L n acc → Q (.ref h'.objs.size) { s with heap := h'.push { cls := .type "tuple", data := .seq acc } }) :
    wpAny (model prog w) A (call (.type "tuple") [.ref z]) Q E s := by
  refine callType_codes (Q₁ := fun obj s₁ => s₁.TypeIs obj "tuple" ∧ Q obj s₁) F.called_tuple (F.typeCall_tuple_1 _) F.entry_object_init
    (code_tuple_new_zip (A := A.in1) hh Y hL hn hne hsz fun h' acc ff => ⟨⟨_, Heap.get?_push_size _ rfl, rfl⟩, hQ h' acc ff⟩) fun obj s₁ h₁ => ?_
  exact ⟨h₁.1, F.args_object_init_2 obj _, object_init_meets F.called_tuple.init.lookup F.called_tuple.made (by decide) prog w A.in1 _ s₁ ⟨h₁.1, rfl, h₁.2⟩⟩
end
end ZN

/-! zip(..) of any number of tuples -/
namespace ZN
open PySem
open PySem.Sem (wp)
theorem typeCall_zip (vs : List Value) : checkTypeCall "zip" ⟨vs, []⟩ = pure () := by kernel_rfl
theorem newCall_zip : ∀ vs : List Value, vs.length ≤ 16 → checkBuiltinCall "zip.__new__" ⟨.type "zip" :: vs, []⟩ = pure ()
  | [], _ => by kernel_rfl
  | [a0], _ => by kernel_rfl
  | [a0, a1], _ => by kernel_rfl
  | [a0, a1, a2], _ => by kernel_rfl
  | [a0, a1, a2, a3], _ => by kernel_rfl
  | [a0, a1, a2, a3, a4], _ => by kernel_rfl
  | [a0, a1, a2, a3, a4, a5], _ => by kernel_rfl
  | [a0, a1, a2, a3, a4, a5, a6], _ => by kernel_rfl
  | [a0, a1, a2, a3, a4, a5, a6, a7], _ => by kernel_rfl
  | [a0, a1, a2, a3, a4, a5, a6, a7, a8], _ => by kernel_rfl
  | [a0, a1, a2, a3, a4, a5, a6, a7, a8, a9], _ => by kernel_rfl
  | [a0, a1, a2, a3, a4, a5, a6, a7, a8, a9, a10], _ => by kernel_rfl
  | [a0, a1, a2, a3, a4, a5, a6, a7, a8, a9, a10, a11], _ => by kernel_rfl
  | [a0, a1, a2, a3, a4, a5, a6, a7, a8, a9, a10, a11, a12], _ => by kernel_rfl
  | [a0, a1, a2, a3, a4, a5, a6, a7, a8, a9, a10, a11, a12, a13], _ => by kernel_rfl
  | [a0, a1, a2, a3, a4, a5, a6, a7, a8, a9, a10, a11, a12, a13, a14], _ => by kernel_rfl
  | [a0, a1, a2, a3, a4, a5, a6, a7, a8, a9, a10, a11, a12, a13, a14, a15], _ => by kernel_rfl
  | _ :: _ :: _ :: _ :: _ :: _ :: _ :: _ :: _ :: _ :: _ :: _ :: _ :: _ :: _ :: _ :: _ :: r, h => absurd h (by simp only [List.length_cons]; omega)
open PySem.F in
theorem args_init (obj : Value) : ∀ vs : List Value, vs.length ≤ 16 → argsOk "object.__init__" ⟨obj :: vs, []⟩ := by
  intro vs hv
  unfold argsOk; rw [signature?_of (id := "object.__init__") (n := ['_', '_', 't', 'i', 'n', 'i', '_', '_']) (o := ['t', 'c', 'e', 'j', 'b', 'o']) (by kernel_rfl) owner_object]
  match vs, hv with
  | [], _ => kernel_rfl
  | [a0], _ => kernel_rfl
  | [a0, a1], _ => kernel_rfl
  | [a0, a1, a2], _ => kernel_rfl
  | [a0, a1, a2, a3], _ => kernel_rfl
  | [a0, a1, a2, a3, a4], _ => kernel_rfl
  | [a0, a1, a2, a3, a4, a5], _ => kernel_rfl
  | [a0, a1, a2, a3, a4, a5, a6], _ => kernel_rfl
  | [a0, a1, a2, a3, a4, a5, a6, a7], _ => kernel_rfl
  | [a0, a1, a2, a3, a4, a5, a6, a7, a8], _ => kernel_rfl
  | [a0, a1, a2, a3, a4, a5, a6, a7, a8, a9], _ => kernel_rfl
  | [a0, a1, a2, a3, a4, a5, a6, a7, a8, a9, a10], _ => kernel_rfl
  | [a0, a1, a2, a3, a4, a5, a6, a7, a8, a9, a10, a11], _ => kernel_rfl
  | [a0, a1, a2, a3, a4, a5, a6, a7, a8, a9, a10, a11, a12], _ => kernel_rfl
  | [a0, a1, a2, a3, a4, a5, a6, a7, a8, a9, a10, a11, a12, a13], _ => kernel_rfl
  | [a0, a1, a2, a3, a4, a5, a6, a7, a8, a9, a10, a11, a12, a13, a14], _ => kernel_rfl
  | [a0, a1, a2, a3, a4, a5, a6, a7, a8, a9, a10, a11, a12, a13, a14, a15], _ => kernel_rfl
  | _ :: _ :: _ :: _ :: _ :: _ :: _ :: _ :: _ :: _ :: _ :: _ :: _ :: _ :: _ :: _ :: _ :: r, h => exact absurd h (by simp only [List.length_cons]; omega)
/-- the iterators of what is zipped, from address N on -/
def mk (N : Nat) (src : List (Addr × Array Value)) : List ZE := (src.zipIdx N).map fun q => ⟨q.2, q.1.1, q.1.2⟩
theorem mk_get {N : Nat} {src : List (Addr × Array Value)} {j : Nat} {e : ZE} (h : (mk N src)[j]? = some e) : ∃ p, src[j]? = some p ∧ e = ⟨N + j, p.1, p.2⟩ := by
  unfold mk at h
  rw [List.getElem?_map, List.getElem?_zipIdx] at h
  cases hp : src[j]? with
  | none => rw [hp] at h; cases h
  | some p =>
    rw [hp] at h
    cases h
    exact ⟨p, rfl, rfl⟩
theorem mk_mem {N : Nat} {src : List (Addr × Array Value)} {e : ZE} (h : e ∈ mk N src) : N ≤ e.it ∧ e.it < N + src.length ∧ (e.l, e.xs) ∈ src := by
  obtain ⟨j, hj⟩ := List.getElem?_of_mem h
  obtain ⟨p, hp, ee⟩ := mk_get hj
  subst ee
  have := (List.getElem?_eq_some_iff.mp hp).1
  exact ⟨Nat.le_add_right _ _, by show N + j < _; omega, List.mem_of_getElem? hp⟩
theorem mk_len {N : Nat} {src : List (Addr × Array Value)} : (mk N src).length = src.length := by
  unfold mk
  rw [List.length_map, List.length_zipIdx]
section
variable {prog : Program} {w : World} {A : Around} {E : Value → Shared → Prop}
theorem iter_loop {f : Value → Array Value → Sem (ForInStep (Array Value))}
    (step : ∀ (p : Addr × Array Value) (acc : Array Value) (s : Shared) (Q : ForInStep (Array Value) → Shared → Prop), s.heap.IsTuple p.1 p.2 →
      Q (.yield (acc.push (.ref s.heap.objs.size))) { s with heap := s.heap.push { cls := .type "tuple_iterator", data := .fields #[.ref p.1, .int 0 0] } } → wpAny (model prog w) A (f (.ref p.1) acc) Q E s) :
    ∀ (src : List (Addr × Array Value)) (acc : Array Value) (s : Shared) (Q : Array Value → Shared → Prop), (∀ p ∈ src, s.heap.IsTuple p.1 p.2) →
      (∀ h', (∀ e ∈ mk s.heap.objs.size src, h'.IsTupleIter e.it e.l 0) → h'.objs.size = s.heap.objs.size + src.length → (∀ c o, s.heap.get? c = some o → h'.get? c = some o) → Q (acc ++ ((mk s.heap.objs.size src).map fun e => Value.ref e.it).toArray) { s with heap := h' }) →
      wpAny (model prog w) A (forIn (src.map fun p => Value.ref p.1) acc f) Q E s
  | [], acc, s, Q, ht, hQ => by
    simp only [List.map_nil, List.forIn_nil]
    have := hQ s.heap (fun e he => by simp [mk] at he) rfl (fun c o y => y)
    simp only [mk, List.zipIdx_nil, List.map_nil, Array.append_empty] at this
    exact wpAny_pure this
  | p :: src, acc, s, Q, ht, hQ => by
    simp only [List.map_cons, List.forIn_cons]
    refine wpAny_bind (step p acc s _ (ht p List.mem_cons_self) ?_)
    have sz : (s.heap.push { cls := .type "tuple_iterator", data := .fields #[.ref p.1, .int 0 0] }).objs.size = s.heap.objs.size + 1 := Heap.size_push ..
    have g0 : (s.heap.push { cls := .type "tuple_iterator", data := .fields #[.ref p.1, .int 0 0] }).get? s.heap.objs.size = some { cls := .type "tuple_iterator", data := .fields #[.ref p.1, .int 0 0] } := Heap.get?_push_size _ rfl
    refine iter_loop step src _ _ Q (fun q hq => (ht q (List.mem_cons_of_mem _ hq)).push _) fun h' h1 h2 h3 => ?_
    have em : mk s.heap.objs.size (p :: src) = ⟨s.heap.objs.size, p.1, p.2⟩ :: mk (s.heap.objs.size + 1) src := by
      simp only [mk, List.zipIdx_cons, List.map_cons]
    rw [sz] at h1 h2
    have := hQ h' (fun e he => ?_) (by rw [h2, List.length_cons]; omega) fun c o y => h3 c o (Heap.get?_push_of_some _ y)
    · rw [em, List.map_cons] at this
      show Q _ _
      rw [sz]
      have ea : acc.push (Value.ref s.heap.objs.size) ++ ((mk (s.heap.objs.size + 1) src).map fun e => Value.ref e.it).toArray = acc ++ (Value.ref s.heap.objs.size :: (mk (s.heap.objs.size + 1) src).map fun e => Value.ref e.it).toArray := by
        apply Array.ext'
        simp
      rw [ea]
      exact this
    · rw [em] at he
      rcases List.mem_cons.mp he with e1 | e1
      · rw [e1]
        exact ⟨_, h3 _ _ g0, rfl, rfl⟩
      · exact h1 e e1
theorem iterAll_tup {s : Shared} {src : List (Addr × Array Value)} {Q : List Value → Shared → Prop} (ht : ∀ p ∈ src, s.heap.IsTuple p.1 p.2)
    (hQ : ∀ h', (∀ e ∈ mk s.heap.objs.size src, h'.IsTupleIter e.it e.l 0) → h'.objs.size = s.heap.objs.size + src.length → (∀ c o, s.heap.get? c = some o → h'.get? c = some o) → Q ((mk s.heap.objs.size src).map fun e => Value.ref e.it) { s with heap := h' }) :
    wpAny (model prog w) A (Builtin.SmallTypes.iterAll (src.map fun p => Value.ref p.1)) Q E s := by
  unfold Builtin.SmallTypes.iterAll
  refine wpAny_bind (iter_loop (fun p acc s Q hp q => ?_) src #[] s _ ht fun h' h1 h2 h3 => ?_)
  · refine wpAny_bind (wpAny_holding (wpAny_pyIter_tuple hp ?_))
    exact wpAny_pure q
  · refine wpAny_pure ?_
    have := hQ h' h1 h2 h3
    simpa using this
theorem zip_new (src : List (Addr × Array Value)) (hl : src.length ≤ 16) :
    Meets (Builtin.«zip.__new__» ⟨.type "zip" :: src.map fun p => Value.ref p.1, []⟩) (fun _ R s => (∀ p ∈ src, s.heap.IsTuple p.1 p.2) ∧ ∀ h' z TI TO, ZN0 h' z TI TO (mk s.heap.objs.size src) → s.heap.objs.size ≤ z → s.heap.objs.size ≤ TO → s.heap.objs.size ≤ h'.objs.size → (∀ c o, s.heap.get? c = some o → h'.get? c = some o) → R (.ok (.ret (.ref z))) { s with heap := h' }) :=
  .of_wp fun prog w A R s h => by
    obtain ⟨ht, h⟩ := h
    have hsub := sub_zip
    have it : ∀ {Q : List Value → Shared → Prop} {E : Value → Shared → Prop}, (∀ h', (∀ e ∈ mk s.heap.objs.size src, h'.IsTupleIter e.it e.l 0) → h'.objs.size = s.heap.objs.size + src.length → (∀ c o, s.heap.get? c = some o → h'.get? c = some o) → Q ((mk s.heap.objs.size src).map fun e => Value.ref e.it) { s with heap := h' }) → wpAny (model prog w) A.in1 (Builtin.SmallTypes.iterAll (src.map fun p => Value.ref p.1)) Q E s := fun hQ => iterAll_tup ht hQ
    wp_walk using it
    intro h' h1 h2 h3
    have l1 : ((mk s.heap.objs.size src).map fun e => Value.ref e.it).length ≤ sizeLine := by
      rw [List.length_map, mk_len]
      exact Nat.le_trans hl (by decide)
    have l2 : (((mk s.heap.objs.size src).map fun e => Value.ref e.it).map fun _ => Value.none).length ≤ sizeLine := by
      rw [List.length_map]
      exact l1
    refine wpAny_bind (wpAny_newTuple ?_ l1)
    refine wpAny_bind (wpAny_newTuple ?_ l2)
    have s1 : (h'.push { cls := .type "tuple", data := .seq ((mk s.heap.objs.size src).map fun e => Value.ref e.it).toArray }).objs.size = h'.objs.size + 1 := Heap.size_push ..
    have s2 : ((h'.push { cls := .type "tuple", data := .seq ((mk s.heap.objs.size src).map fun e => Value.ref e.it).toArray }).push { cls := .type "tuple", data := .seq (((mk s.heap.objs.size src).map fun e => Value.ref e.it).map fun _ => Value.none).toArray }).objs.size = h'.objs.size + 2 := by rw [Heap.size_push, s1]
    show wpAny _ _ (newObj (.type "zip") (.fields #[.none, .bool false, .bool false, .ref h'.objs.size, .ref (h'.push { cls := .type "tuple", data := .seq ((mk s.heap.objs.size src).map fun e => Value.ref e.it).toArray }).objs.size]) >>= fun v => ret v) _ _ _
    refine wpAny_bind (wpAny_newObj_type ?_ (by size_fits))
    refine wpAny_pure ⟨_, rfl, ?_⟩
    have up : ∀ {c : Addr} {o o1 o2 o3 : Obj}, h'.get? c = some o → (((h'.push o1).push o2).push o3).get? c = some o := fun y => Heap.get?_push_of_some _ (Heap.get?_push_of_some _ (Heap.get?_push_of_some _ y))
    have hlt : ∀ {e : ZE}, e ∈ mk s.heap.objs.size src → e.it < h'.objs.size := fun he => by rw [h2]; exact (mk_mem he).2.1
    have hll : ∀ {e : ZE}, e ∈ mk s.heap.objs.size src → e.l < s.heap.objs.size := fun he => by
      obtain ⟨_, y, _⟩ := ht _ (mk_mem he).2.2
      exact Heap.lt_size y
    have hle : s.heap.objs.size ≤ h'.objs.size := by omega
    show R (.ok (.ret (.ref ((h'.push { cls := .type "tuple", data := .seq ((mk s.heap.objs.size src).map fun e => Value.ref e.it).toArray }).push { cls := .type "tuple", data := .seq (((mk s.heap.objs.size src).map fun e => Value.ref e.it).map fun _ => Value.none).toArray }).objs.size))) _
    refine h _ _ h'.objs.size (h'.objs.size + 1) ⟨⟨?_, fun e he => ?_, fun e he => ?_, fun e he => ?_, fun e he => ?_, fun e he e' he' => ?_, fun i j e e' h4 h5 h6 => ?_⟩, ?_, ⟨(((mk s.heap.objs.size src).map fun e => Value.ref e.it).map fun _ => Value.none).toArray, ?_, ?_⟩, ?_, fun e he => (h1 e he).at fun o y => up y, fun e he => (ht _ (mk_mem he).2.2).at fun o y => up (h3 _ _ y), ?_, ?_, fun e he => ?_⟩ (by rw [s2]; exact Nat.le_trans hle (Nat.le_add_right _ 2)) (Nat.le_succ_of_le hle) (by rw [Heap.size_push, s2]; exact Nat.le_trans hle (Nat.le_add_right _ 3)) fun c o y => up (h3 c o y)
    · rw [s2]; exact Nat.ne_of_lt (Nat.lt_succ_self _)
    · rw [s2]; exact Nat.ne_of_lt (Nat.lt_of_lt_of_le (hlt he) (Nat.le_add_right _ 2))
    · exact Nat.ne_of_lt (Nat.lt_succ_of_lt (hlt he))
    · rw [s2]; exact Nat.ne_of_lt (Nat.lt_of_lt_of_le (hll he) (Nat.le_trans hle (Nat.le_add_right _ 2)))
    · exact Nat.ne_of_lt (Nat.lt_of_lt_of_le (hll he) (Nat.le_succ_of_le hle))
    · exact Nat.ne_of_lt (Nat.lt_of_lt_of_le (hll he) (mk_mem he').1)
    · obtain ⟨p, hp, ep⟩ := mk_get h4
      obtain ⟨q, hq, eq⟩ := mk_get h5
      rw [ep, eq] at h6
      have h7 : s.heap.objs.size + i = s.heap.objs.size + j := h6
      omega
    · have g : Heap.get? (((h'.push { cls := .type "tuple", data := .seq ((mk s.heap.objs.size src).map fun e => Value.ref e.it).toArray }).push { cls := .type "tuple", data := .seq (((mk s.heap.objs.size src).map fun e => Value.ref e.it).map fun _ => Value.none).toArray }).push { cls := .type "zip", data := .fields #[.none, .bool false, .bool false, .ref h'.objs.size, .ref (h'.push { cls := .type "tuple", data := .seq ((mk s.heap.objs.size src).map fun e => Value.ref e.it).toArray }).objs.size] }) ((h'.push { cls := .type "tuple", data := .seq ((mk s.heap.objs.size src).map fun e => Value.ref e.it).toArray }).push { cls := .type "tuple", data := .seq (((mk s.heap.objs.size src).map fun e => Value.ref e.it).map fun _ => Value.none).toArray }).objs.size = some { cls := .type "zip", data := .fields #[.none, .bool false, .bool false, .ref h'.objs.size, .ref (h'.push { cls := .type "tuple", data := .seq ((mk s.heap.objs.size src).map fun e => Value.ref e.it).toArray }).objs.size] } := Heap.get?_push_size _ rfl
      rw [s1] at g ⊢
      exact g
    · refine Heap.get?_push_of_some _ ?_
      rw [← s1]
      exact Heap.get?_push_size _ rfl
    · rw [List.size_toArray, List.length_map, List.length_map]
    · exact Heap.get?_push_of_some _ (Heap.get?_push_of_some _ (Heap.get?_push_size _ rfl))
    · rw [s2]; exact Nat.ne_of_lt (Nat.lt_of_lt_of_le (Nat.lt_succ_self _) (Nat.le_succ _))
    · exact Nat.ne_of_lt (Nat.lt_succ_self _)
    · exact Nat.ne_of_gt (hlt he)
theorem call_zip {s : Shared} {src : List (Addr × Array Value)} {Q : Value → Shared → Prop} (hl : src.length ≤ 16) (ht : ∀ p ∈ src, s.heap.IsTuple p.1 p.2)
    (h : ∀ h' z TI TO, ZN0 h' z TI TO (mk s.heap.objs.size src) → s.heap.objs.size ≤ z → s.heap.objs.size ≤ TO → s.heap.objs.size ≤ h'.objs.size → (∀ c o, s.heap.get? c = some o → h'.get? c = some o) → Q (.ref z) { s with heap := h' }) :
    wpAny (model prog w) A (call (.type "zip") (src.map fun p => Value.ref p.1)) Q E s := by
  have hl' : (src.map fun p => Value.ref p.1).length ≤ 16 := by rw [List.length_map]; exact hl
  exact callType_new F.called_zip (by decide) (typeCall_zip _) (newCall_zip _ hl') (fun obj => args_init obj _ hl') F.entry_zip_new (zip_new src hl) ⟨ht, fun h' z TI TO Y n1 n2 n3 hk => ⟨⟨_, Y.hz, rfl⟩, h h' z TI TO Y n1 n2 n3 hk⟩⟩
end
end ZN

/-! list(z): z a fresh zip of any number of tuples, all of one length -/
namespace ZN
open PySem
open PySem.Sem (wp)
section
variable {prog : Program} {w : World} {A : Around} {E : Value → Shared → Prop} {s : Shared}
theorem ext_zip_at {h g : Heap} {z TI TO : Addr} {L : List ZE} {n c0 : Nat} {R : Result → Shared → Prop} (hh : A.handled = none) (Y : ZN0 h z TI TO L) (hL : L.length ≤ sizeLine) (hn : n ≤ sizeLine) (hne : 0 < n → L ≠ []) (hsz : ∀ e ∈ L, e.xs.size = n)
    (hS : g.get? h.objs.size = some { cls := .type "list", dict := none, data := .seq #[] c0, slots := #[] }) (hsz2 : g.objs.size = h.objs.size + 1) (hk : ∀ b o, b ≠ h.objs.size → h.get? b = some o → g.get? b = some o)
    (hR : ∀ h' acc, ZF h h' z TO h.objs.size (h.objs.size + 1) L n acc → R (.ok (.ret .none)) { s with heap := h' }) :
    wpAny (model prog w) A.in1 (Builtin.List.listExtendWith (.ref h.objs.size) (.ref z) .none)
      (fun fin s' => match fin with | .done f => R (.ok f) s' | .again c' => c'.quiet = true ∧ codeAny (model prog w) A c' R s') (fun e s' => R (.error e) s') { s with heap := g } := by
  have Z := Y.zb
  have hSI : h.objs.size ≠ z := Z.Sz
  have ne : ∀ {b : Addr} {o : Obj}, h.get? b = some o → b ≠ h.objs.size := fun e => Nat.ne_of_lt (Heap.lt_size e)
  have p1 : ∀ {b : Addr} {o : Obj}, h.get? b = some o → g.get? b = some o := fun e => hk _ _ (ne e) e
  have hz1 : IsZip g z TI TO .none := p1 Y.hz
  have hT1 : ({ s with heap := g } : Shared).TypeIs (.ref z) "zip" := ⟨_, hz1, rfl⟩
  unfold Builtin.List.listExtendWith
  refine wpAny_bind (wpAny_typeOf hT1 ?_)
  have h1 : Builtin.List.listSameRef (.ref h.objs.size) (.ref z) = false := by simp [Builtin.List.listSameRef, hSI]
  have h2 : (Value.type "zip" == Value.type "list") = false := by decide
  have h3 : (Value.type "zip" == Value.type "tuple") = false := by decide
  simp only [h1, h2, h3, Bool.or_false, Bool.false_eq_true, if_false]
  refine wpAny_bind (wpAny_pyIter_zip hz1 ?_)
  refine wpAny_bind (wpAny_holding ?_)
  unfold Builtin.List.listLengthHint
  refine wpAny_bind (wpAny_specialOf hT1 nolen_zip ?_)
  show wpAny _ A.in1 (specialOf (Value.ref z) (Str.ofString "__length_hint__") >>= _) _ _ _
  refine wpAny_bind (wpAny_specialOf hT1 nohint_zip ?_)
  refine wpAny_pure ?_
  show wpAny _ A.in1 (rule "list.extend.makes-room" >>= fun _ => Builtin.List.listTouch (.ref h.objs.size) >>= fun _ =>
    again (.builtin "list.extend.loop" ⟨[.ref h.objs.size, .ref z, .none], []⟩)) _ _ _
  refine wpAny_bind (wpAny_rule ?_)
  refine wpAny_bind ?_
  show wpAny _ A.in1 (updateSeq h.objs.size (·.push .none) >>= fun _ => updateSeq h.objs.size (·.pop)) _ _ _
  refine wpAny_bind (wpAny_updateSeq hS rfl ?_)
  have hS₂ := Heap.get?_update_self (Obj.mapSeq (·.push Value.none)) hS rfl
  refine wpAny_updateSeq hS₂ rfl ?_
  have hS₃ := Heap.get?_update_self (Obj.mapSeq (·.pop)) hS₂ rfl
  have b1 : Heap.SameBut h.objs.size g (g.update h.objs.size (Obj.mapSeq (·.push Value.none))) := Heap.SameBut.update ..
  have b2 : Heap.SameBut h.objs.size (g.update h.objs.size (Obj.mapSeq (·.push Value.none))) ((g.update h.objs.size (Obj.mapSeq (·.push Value.none))).update h.objs.size (Obj.mapSeq (·.pop))) := Heap.SameBut.update ..
  have oth : ∀ b o, b ≠ h.objs.size → g.get? b = some o → ((g.update h.objs.size (Obj.mapSeq (·.push Value.none))).update h.objs.size (Obj.mapSeq (·.pop))).get? b = some o := fun b o hb e => b2.extBut _ _ hb (b1.extBut _ _ hb e)
  have sz3 : ((g.update h.objs.size (Obj.mapSeq (·.push Value.none))).update h.objs.size (Obj.mapSeq (·.pop))).objs.size = h.objs.size + 1 := by rw [b2.1, b1.1, hsz2]
  obtain ⟨kept, hTO, hks⟩ := Y.to
  exact wpAny_pure ⟨plainId_quiet F.plain_extend_loop _, extend_zip (h0 := h) (B := h.objs.size + 1) (acc := #[]) hh Z hL hn hne hsz _ n 0 _ rfl (Nat.zero_le _)
    ⟨.inl ⟨rfl, oth _ _ Z.Sz.symm hz1, kept, oth _ _ Z.STO.symm (p1 hTO), hks⟩, oth _ _ Z.TIS (p1 Y.ti), fun e he => (Y.it e he).at fun o y => oth _ _ (Z.Sit e he).symm (p1 y), fun e he => (Y.tup e he).at fun o y => oth _ _ (Z.Sl e he) (p1 y), ⟨_, hS₃⟩, rfl, fun j hj => absurd hj (Nat.not_lt_zero j), fun j j' a e1 _ => by simp at e1, Nat.le_of_eq sz3.symm, fun c o c1 c2 c3 c4 y => oth _ _ c3 (p1 y)⟩ fun h' acc' ff => hR h' acc' ff⟩
theorem list_init_zip {h : Heap} {z TI TO : Addr} {L : List ZE} {n : Nat} {R : Result → Shared → Prop} (hh : A.handled = none) (Y : ZN0 h z TI TO L) (hL : L.length ≤ sizeLine) (hn : n ≤ sizeLine) (hne : 0 < n → L ≠ []) (hsz : ∀ e ∈ L, e.xs.size = n)
    (hR : ∀ h' acc, ZF h h' z TO h.objs.size (h.objs.size + 1) L n acc → R (.ok (.ret .none)) { s with heap := h' }) :
    wpAny (model prog w) A.in1 (Builtin.«list.__init__» ⟨[.ref h.objs.size, .ref z], []⟩)
      (fun fin s' => match fin with | .done f => R (.ok f) s' | .again c' => c'.quiet = true ∧ codeAny (model prog w) A c' R s') (fun e s' => R (.error e) s') { s with heap := h.push { cls := .type "list", data := .seq #[] } } := by
  have hS : (h.push { cls := .type "list", data := .seq #[] }).get? h.objs.size = some { cls := .type "list", data := .seq #[] } := Heap.get?_push_size _ rfl
  show wpAny _ _ (do let old ← Builtin.List.listItems (.ref h.objs.size); Builtin.List.listUpdate (.ref h.objs.size) (fun _ => #[]); letGo old.toList.reverse; Builtin.List.listExtendWith (.ref h.objs.size) (.ref z) .none) _ _ _
  refine wpAny_bind ?_
  unfold Builtin.List.listItems
  refine wpAny_bind (wpAny_seqItems hS rfl (wpAny_pure ?_))
  show wpAny _ _ (updateSeq h.objs.size (fun _ => #[]) >>= fun _ => letGo (#[] : Array Value).toList.reverse >>= fun _ => Builtin.List.listExtendWith (.ref h.objs.size) (.ref z) .none) _ _ _
  refine wpAny_bind (wpAny_updateSeq hS rfl ?_)
  have hS₂ := Heap.get?_update_self (Obj.mapSeq (fun _ => (#[] : Array Value))) hS rfl
  have sb : Heap.SameBut h.objs.size (h.push { cls := .type "list", data := .seq #[] }) ((h.push { cls := .type "list", data := .seq #[] }).update h.objs.size (Obj.mapSeq (fun _ => (#[] : Array Value)))) := Heap.SameBut.update ..
  refine wpAny_bind (wpAny_letGo ?_)
  exact ext_zip_at (s := s) (h := h) hh Y hL hn hne hsz hS₂ (by rw [sb.1, Heap.size_push]) (fun b o hb e => sb.extBut _ _ hb (Heap.get?_push_of_some _ e)) hR
theorem call_list_zip {z TI TO : Addr} {L : List ZE} {n : Nat} {Q : Value → Shared → Prop} (hh : A.handled = none) (Y : ZN0 s.heap z TI TO L) (hL : L.length ≤ sizeLine) (hn : n ≤ sizeLine) (hne : 0 < n → L ≠ []) (hsz : ∀ e ∈ L, e.xs.size = n)
    (hQ : ∀ h' acc, ZF s.heap h' z TO s.heap.objs.size (s.heap.objs.size + 1) L n acc → Q (.ref s.heap.objs.size) { s with heap := h' }) : wpAny (model prog w) A (call (.type "list") [.ref z]) Q E s := by
  refine callType_codes (Q₁ := fun obj s₁ => obj = .ref s.heap.objs.size ∧ s₁ = { s with heap := s.heap.push { cls := .type "list", data := .seq #[] } }) F.called_list (F.typeCall_list_1 _) F.entry_list_init
    (code_list_new _ ⟨rfl, rfl⟩) fun obj s₁ h₁ => ?_
  obtain ⟨rfl, rfl⟩ := h₁
  have hS : (s.heap.push { cls := .type "list", data := .seq #[] }).get? s.heap.objs.size = some { cls := .type "list", data := .seq #[] } := Heap.get?_push_size _ rfl
  refine ⟨⟨_, hS, rfl⟩, F.args_list_init_2 _ _, list_init_zip (A := A.in1) (s := s) (h := s.heap) hh Y hL hn hne hsz fun h' acc ff => ⟨rfl, hQ h' acc ff⟩⟩
end
end ZN

/-! tuple(zip(*d)) in the layer -/
namespace TL
open PySem PySem.Spec PyProof.Rows L2
/-- new tuples of a later heap are taken in -/
theorem adopt {X : Cx} {pins : List (Addr × Obj)} {σ : L2.St} {s : Shared} {h' : Heap} : ∀ (as : List (Addr × List V × List Value)) (H : Hp) (G : Heap), Inv X pins σ H { s with heap := G } → (∀ b o, G.get? b = some o → h'.get? b = some o) →
    (∀ p ∈ as, G.get? p.1 = none ∧ H p.1 = none ∧ h'.get? p.1 = some { cls := .type "tuple", data := .seq p.2.2.toArray } ∧ Vals p.2.1 p.2.2 ∧ p.2.1.length ≤ sizeLine) → (as.map (·.1)).Nodup →
    ∃ H', Inv X pins σ H' { s with heap := h' } ∧ Same H H' ∧ (∀ p ∈ as, TX H' p.1 p.2.1) ∧ ∀ b, b ∉ as.map (·.1) → H' b = H b
  | [], H, G, I, k, ha, nd => ⟨H, I.kept (t' := s.toks) k, .refl H, fun p hp => (nomatch hp), fun b _ => rfl⟩
  | p :: as, H, G, I, k, ha, nd => by
    obtain ⟨g1, g2, g3, g4, g5⟩ := ha p List.mem_cons_self
    rw [List.map_cons, List.nodup_cons] at nd
    obtain ⟨G', r1, r2⟩ := restrict h' fun b => (G.get? b).isSome || decide (b = p.1)
    have kG : ∀ b o, G.get? b = some o → G'.get? b = some o := fun b o e => by
      rw [r1 b (by rw [e]; rfl)]
      exact k b o e
    have gp : G'.get? p.1 = some { cls := .type "tuple", data := .seq p.2.2.toArray } := by
      rw [r1 p.1 (by rw [decide_eq_true rfl, Bool.or_true])]
      exact g3
    have k' : ∀ b o, G'.get? b = some o → h'.get? b = some o := fun b o e => by
      cases q : ((G.get? b).isSome || decide (b = p.1)) with
      | true => rw [← r1 b q]; exact e
      | false => rw [r2 b q] at e; cases e
    have I2 : Inv X pins σ (upd H p.1 (.frz { cls := .type "tuple", data := .seq p.2.2.toArray } (.tup p.2.1))) { s with heap := G' } := I.laidN (t' := s.toks) kG g1 g2 (show ObjOk X.prog X.w _ _ _ (.frz _ (.tup p.2.1)) from ⟨gp, g5, p.2.2, g4, ⟨_, gp, rfl, _, rfl⟩⟩)
    have ne : ∀ q ∈ as, q.1 ≠ p.1 := fun q hq e => nd.1 (List.mem_map.mpr ⟨q, hq, e⟩)
    have hh : ∀ q ∈ as, G'.get? q.1 = none ∧ upd H p.1 (.frz { cls := .type "tuple", data := .seq p.2.2.toArray } (.tup p.2.1)) q.1 = none ∧ h'.get? q.1 = some { cls := .type "tuple", data := .seq q.2.2.toArray } ∧ Vals q.2.1 q.2.2 ∧ q.2.1.length ≤ sizeLine := fun q hq => by
      obtain ⟨q1, q2, q3, q4, q5⟩ := ha q (List.mem_cons_of_mem _ hq)
      refine ⟨r2 q.1 ?_, by rw [upd_ne (ne q hq)]; exact q2, q3, q4, q5⟩
      rw [q1, decide_eq_false (ne q hq)]
      rfl
    obtain ⟨H', J, sm, at', off⟩ := adopt as _ G' I2 k' hh nd.2
    refine ⟨H', J, fun b o e => sm b o (by rw [upd_ne (ne_of_none e g2)]; exact e), fun q hq => ?_, fun b hb => ?_⟩
    · rcases List.mem_cons.mp hq with e | e
      · rw [e]
        exact TX.mono sm ⟨_, rfl, rfl, upd_same⟩
      · exact at' q e
    · rw [List.map_cons, List.mem_cons, not_or] at hb
      rw [off b hb.2, upd_ne hb.1]
theorem vals_of_get : ∀ {vs : List V} {us : List Value}, vs.length = us.length → (∀ (i : Nat) v u, vs[i]? = some v → us[i]? = some u → RelV v u) → Vals vs us
  | [], [], _, _ => .nil
  | [], _ :: _, h, _ => by cases h
  | _ :: _, [], h, _ => by cases h
  | v :: vs, u :: us, h, k => .cons (k 0 v u rfl rfl) (vals_of_get (by simpa using h) fun i a b e1 e2 => k (i + 1) a b (by simpa using e1) (by simpa using e2))
theorem vals_refs : ∀ {as : List Addr} {us : List Value}, Vals (as.map V.ref) us → us = as.map Value.ref
  | [], _, .nil => rfl
  | a :: as, _, .cons e r => by
    have e' : _ = Value.ref a := e
    rw [e', vals_refs r]
    rfl
/-- the rows as the machine has them -/
theorem srcs {X : Cx} {pins : List (Addr × Obj)} {σ : L2.St} {H : Hp} {s : Shared} (I : Inv X pins σ H s) : ∀ (rs : List (Addr × List V)), (∀ r ∈ rs, SqT X.K H r.1 r.2) →
    ∃ src : List (Addr × Array Value), src.map (·.1) = rs.map (·.1) ∧ (∀ p ∈ src, s.heap.IsTuple p.1 p.2) ∧ ∀ (i : Nat) r p, rs[i]? = some r → src[i]? = some p → Vals r.2 p.2.toList
  | [], _ => ⟨[], rfl, fun p hp => (nomatch hp), fun i r p e _ => by simp at e⟩
  | r :: rs, h => by
    obtain ⟨src, h1, h2, h3⟩ := srcs I rs fun q hq => h q (List.mem_cons_of_mem _ hq)
    obtain ⟨its, rv, it, _⟩ := I.tuple (h r List.mem_cons_self)
    refine ⟨(r.1, its.toArray) :: src, by rw [List.map_cons, List.map_cons, h1], fun p hp => ?_, fun i r' p e1 e2 => ?_⟩
    · rcases List.mem_cons.mp hp with e | e
      · rw [e]
        exact it
      · exact h2 p e
    · cases i with
      | zero =>
        cases e1
        cases e2
        simpa using rv
      | succ i => exact h3 i r' p (by simpa using e1) (by simpa using e2)
/-- the columns as the machine has them -/
theorem cols {h : Heap} {B n : Nat} {acc : Array Value} {rs : List (Addr × List V)} {L : List ZN.ZE} (hL : L.length = rs.length) (hrl : ∀ r ∈ rs, r.2.length = n)
    (hV : ∀ (i : Nat) r (e : ZN.ZE), rs[i]? = some r → L[i]? = some e → Vals r.2 e.xs.toList)
    (av : ∀ (j : Nat), j < n → ∃ a new, acc[j]? = some (.ref a) ∧ B ≤ a ∧ ZN.IsTup h a new ∧ new.size = L.length ∧ ∀ (q : Nat) (e : ZN.ZE), L[q]? = some e → ∃ x, e.xs[j]? = some x ∧ new[q]? = some x) :
    ∀ k, k ≤ n → ∃ cs : List (Addr × List V × List Value), cs.length = k ∧ ∀ (j : Nat) c, cs[j]? = some c → acc[j]? = some (.ref c.1) ∧ B ≤ c.1 ∧ h.get? c.1 = some { cls := .type "tuple", data := .seq c.2.2.toArray } ∧ Vals c.2.1 c.2.2 ∧ c.2.1.length = rs.length ∧ ∀ (i : Nat) r, rs[i]? = some r → ∃ v, r.2[j]? = some v ∧ c.2.1[i]? = some v
  | 0, _ => ⟨[], rfl, fun j c e => by simp at e⟩
  | k + 1, hk => by
    obtain ⟨cs, h1, h2⟩ := cols hL hrl hV av k (by omega)
    obtain ⟨a, new, e1, e2, e3, e4, e5⟩ := av k (by omega)
    refine ⟨cs ++ [(a, rs.map fun r => r.2.getD k .non, new.toList)], by rw [List.length_append, h1]; rfl, fun j c e => ?_⟩
    by_cases hj : j < cs.length
    · rw [List.getElem?_append_left hj] at e
      exact h2 j c e
    · have hjk : j = k := by
        have := (List.getElem?_eq_some_iff.mp e).1
        rw [List.length_append, h1] at this
        simp only [List.length_cons, List.length_nil] at this
        omega
      subst hjk
      rw [List.getElem?_append_right (by omega), h1, Nat.sub_self] at e
      cases e
      have cv : ∀ (i : Nat) r, rs[i]? = some r → r.2[j]? = some (r.2.getD j .non) := fun i r er => by
        have := hrl r (List.mem_of_getElem? er)
        rw [List.getD_eq_getElem?_getD, List.getElem?_eq_getElem (by omega)]
        rfl
      refine ⟨e1, e2, by simpa using e3, vals_of_get (by show (rs.map _).length = new.toList.length; rw [List.length_map]; exact (Array.length_toList.trans (e4.trans hL)).symm) fun i v u ev eu => ?_, by rw [List.length_map], fun i r er => ⟨_, cv i r er, by rw [List.getElem?_map, er]; rfl⟩⟩
      rw [List.getElem?_map] at ev
      cases er : rs[i]? with
      | none => rw [er] at ev; cases ev
      | some r =>
        rw [er] at ev
        cases ev
        have hi : i < L.length := by rw [hL]; exact (List.getElem?_eq_some_iff.mp er).1
        obtain ⟨x, x1, x2⟩ := e5 i _ (List.getElem?_eq_getElem hi)
        obtain ⟨u', u1, u2⟩ := (hV i r _ er (List.getElem?_eq_getElem hi)).get (cv i r er)
        rw [Array.getElem?_toList] at u1 eu
        rw [x2] at eu
        rw [x1] at u1
        cases eu
        cases u1
        exact u2
/-- tuple(zip(*e)) -/
def tTZ (K : PySem.W.Frag) (te : TE) : TE := fun σ H Q => te σ H fun x H1 => ∃ (p : Addr) (rs : List (Addr × List V)) (n : Nat), x = V.ref p ∧ SqT K H1 p ((rs.map (·.1)).map V.ref) ∧ (∀ r ∈ rs, SqT K H1 r.1 r.2) ∧ (∀ r ∈ rs, r.2.length = n) ∧ rs.length ≤ 16 ∧ n ≤ sizeLine ∧ (0 < n → rs ≠ []) ∧
  ∀ (H' : Hp) (q : Addr) (cs : List (Addr × List V)), Same H1 H' → cs.length = n → (∀ (j : Nat) c, cs[j]? = some c → H1 c.1 = none ∧ TX H' c.1 c.2 ∧ c.2.length = rs.length ∧ ∀ (i : Nat) r, rs[i]? = some r → ∃ v, r.2[j]? = some v ∧ c.2[i]? = some v) →
    H1 q = none → TX H' q ((cs.map (·.1)).map V.ref) → Q (.ref q) H'
theorem pe_tupZip {X : Cx} {e : Expr} {te : TE} {p1 p2 p3 pos pos2 : Pos} (hc : X.calm = true) (hg : Gl X "tuple") (hm : X.mg "tuple" = none) (hgz : Gl X "zip") (hmz : X.mg "zip" = none) (he : PE X e te) : PE X (.Call (.Name "tuple" p1) [.Call (.Name "zip" p2) [.Starred e p3] [] pos2] [] pos) (tTZ X.K te) := by
  refine ⟨fun pins s σ H Q I h => ?_⟩
  have inner : wpAny (model X.prog X.w) X.A (eval (.Call (.Name "zip" p2) [.Starred e p3] [] pos2) X.env) (fun v s1 => wpAny (model X.prog X.w) X.A (call (.type "tuple") [v]) (EP X pins σ Q) X.xe s1) X.xe s := by
    refine Call_ (ld_blt I hgz hmz PyProof.Rows.boot_zip ?_)
    show wpAny _ _ (callWith pos2 (.type "zip") [] (backTo pos2 (starEach [.Starred e p3] X.env)) []) _ _ _
    rw [show starEach [.Starred e p3] X.env = [(true, eval e X.env)] from rfl]
    refine PySem.W.ks_call (P := fun _ => True) rfl (fun h _ => ⟨.machine, .inr (.inl rfl), fun A Q E s _ q => wpAny_pure q⟩) (PySem.W.ks_lone ?_)
    refine thn (he.run pins s σ H _ I h) fun v s1 ⟨y, H1, I1, ry, p, rs, n, ey, hp, hr, hrl, h16, hn, hne, q⟩ => ?_
    subst ey
    obtain rfl : v = Value.ref p := ry
    refine StX.star_any I1 (.inl hp) fun us s2 I2 rv => ⟨trivial, ?_⟩
    have eu := vals_refs rv
    obtain ⟨src, es, ht, hv⟩ := srcs I2 rs hr
    have sl : src.length = rs.length := by have := congrArg List.length es; rwa [List.length_map, List.length_map] at this
    have eu2 : us = src.map fun p => Value.ref p.1 := by
      rw [eu, ← es, List.map_map]
      rfl
    subst eu2
    show wpAny _ _ (call (.type "zip") (src.map fun p => Value.ref p.1)) _ _ _
    refine ZN.call_zip (by rw [sl]; exact h16) ht fun h1 z TI TO Y n1 n2 n3 hk => ?_
    have hLl : (ZN.mk s2.heap.objs.size src).length = rs.length := by rw [ZN.mk_len, sl]
    have hV : ∀ (i : Nat) r (e : ZN.ZE), rs[i]? = some r → (ZN.mk s2.heap.objs.size src)[i]? = some e → Vals r.2 e.xs.toList := fun i r e e1 e2 => by
      obtain ⟨p, hp, ee⟩ := ZN.mk_get e2
      rw [ee]
      exact hv i r p e1 hp
    refine ZN.call_tuple_zip (n := n) (I2.ok.hd hc) Y (by rw [hLl]; exact Nat.le_trans h16 (by decide)) hn (fun h0 z => hne h0 (List.eq_nil_of_length_eq_zero (by rw [← hLl, z]; rfl))) (fun e he => ?_) fun h' acc ff => ?_
    · obtain ⟨i, hi⟩ := List.getElem?_of_mem he
      have hil : i < rs.length := by rw [← hLl]; exact (List.getElem?_eq_some_iff.mp hi).1
      have := (hV i _ e (List.getElem?_eq_getElem hil) hi).length
      rw [hrl _ (List.getElem_mem hil), Array.length_toList] at this
      exact this.symm
    obtain ⟨cs, cl, cf⟩ := cols hLl hrl hV ff.av n (Nat.le_refl n)
    have old : ∀ b o, s2.heap.get? b = some o → (h'.push { cls := .type "tuple", data := .seq acc }).get? b = some o := fun b o e => by
      have lb := Heap.lt_size e
      refine Heap.get?_push_of_some _ (ff.kp b o (Nat.ne_of_lt (Nat.lt_of_lt_of_le lb n1)) (Nat.ne_of_lt (Nat.lt_of_lt_of_le lb n2)) (Nat.ne_of_lt (Nat.lt_of_lt_of_le lb n3)) (fun e' he' => Nat.ne_of_lt (Nat.lt_of_lt_of_le lb (ZN.mk_mem he').1)) (Heap.get?_push_of_some _ (hk b o e)))
    have gn : ∀ {a : Addr}, s2.heap.objs.size ≤ a → s2.heap.get? a = none := fun {a} ha => by
      cases q : s2.heap.get? a with
      | none => rfl
      | some o => exact absurd (Heap.lt_size q) (Nat.not_lt.mpr ha)
    have Bn : ∀ {a : Addr}, h1.objs.size + 1 ≤ a → s2.heap.objs.size ≤ a := fun ha => Nat.le_trans n3 (Nat.le_trans (Nat.le_succ _) ha)
    have hsz : s2.heap.objs.size ≤ h'.objs.size := by
      obtain ⟨c, hS⟩ := ff.sl
      exact Nat.le_trans n3 (Nat.le_of_lt (Heap.lt_size hS))
    have cg : ∀ c ∈ cs, s2.heap.objs.size ≤ c.1 ∧ c.1 < h'.objs.size ∧ h'.get? c.1 = some { cls := .type "tuple", data := .seq c.2.2.toArray } ∧ Vals c.2.1 c.2.2 ∧ c.2.1.length = rs.length := fun c hc => by
      obtain ⟨j, hj⟩ := List.getElem?_of_mem hc
      obtain ⟨_, f2, f3, f4, f5, _⟩ := cf j c hj
      exact ⟨Bn f2, Heap.lt_size f3, f3, f4, f5⟩
    have accV : Vals ((cs.map (·.1)).map V.ref) acc.toList := by
      refine vals_of_get ?_ fun i v u e1 e2 => ?_
      · rw [List.length_map, List.length_map, cl]
        exact (Array.length_toList.trans ff.asz).symm
      · rw [List.getElem?_map, List.getElem?_map] at e1
        cases q : cs[i]? with
        | none => rw [q] at e1; cases e1
        | some c =>
          rw [q] at e1
          cases e1
          have := (cf i c q).1
          rw [Array.getElem?_toList, this] at e2
          cases e2
          exact rfl
    have nd1 : (cs.map (·.1)).Nodup := by
      rw [List.nodup_iff_pairwise_ne, List.pairwise_iff_getElem]
      intro i j hi hj hij e
      rw [List.length_map] at hi hj
      rw [List.getElem_map, List.getElem_map] at e
      have f1 := (cf i _ (List.getElem?_eq_getElem hi)).1
      have f2 := (cf j _ (List.getElem?_eq_getElem hj)).1
      rw [e] at f1
      have := ff.inj i j _ f1 f2
      omega
    have gA : ∀ c ∈ cs ++ [(h'.objs.size, (cs.map (·.1)).map V.ref, acc.toList)], s2.heap.get? c.1 = none ∧ H1 c.1 = none ∧ (h'.push { cls := .type "tuple", data := .seq acc }).get? c.1 = some { cls := .type "tuple", data := .seq c.2.2.toArray } ∧ Vals c.2.1 c.2.2 ∧ c.2.1.length ≤ sizeLine := fun c hc => by
      rcases List.mem_append.mp hc with hc | hc
      · obtain ⟨f1, f2, f3, f4, f5⟩ := cg c hc
        exact ⟨gn f1, I2.hok.fresh f1, Heap.get?_push_of_some _ f3, f4, by rw [f5]; exact Nat.le_trans h16 (by decide)⟩
      · rw [List.mem_singleton.mp hc]
        refine ⟨gn hsz, I2.hok.fresh hsz, ?_, accV, by rw [List.length_map, List.length_map, cl]; exact hn⟩
        have e0 : acc.toList.toArray = acc := by simp
        show (h'.push { cls := .type "tuple", data := .seq acc }).get? h'.objs.size = some { cls := .type "tuple", data := .seq acc.toList.toArray }
        rw [e0]
        exact Heap.get?_push_size _ rfl
    have ndA : ((cs ++ [(h'.objs.size, (cs.map (·.1)).map V.ref, acc.toList)]).map (·.1)).Nodup := by
      rw [List.map_append, List.nodup_append]
      refine ⟨nd1, by simp, fun a ha b hb e => ?_⟩
      obtain ⟨c, hc, ec⟩ := List.mem_map.mp ha
      have eb : b = h'.objs.size := by simpa using hb
      have := (cg c hc).2.1
      rw [ec, e, eb] at this
      exact Nat.lt_irrefl _ this
    obtain ⟨H', J, sm, at', off⟩ := adopt (X := X) (s := s2) (h' := h'.push { cls := .type "tuple", data := .seq acc }) (cs ++ [(h'.objs.size, (cs.map (·.1)).map V.ref, acc.toList)]) H1 s2.heap I2 old gA ndA
    refine ⟨V.ref h'.objs.size, H', J, rfl, q H' h'.objs.size (cs.map fun c => (c.1, c.2.1)) sm (by rw [List.length_map, cl]) (fun j c e => ?_) (I2.hok.fresh hsz) ?_⟩
    · rw [List.getElem?_map] at e
      cases qq : cs[j]? with
      | none => rw [qq] at e; cases e
      | some c' =>
        rw [qq] at e
        cases e
        have hm := List.mem_of_getElem? qq
        exact ⟨I2.hok.fresh (cg c' hm).1, at' c' (List.mem_append_left _ hm), (cf j c' qq).2.2.2.2.1, (cf j c' qq).2.2.2.2.2⟩
    · have z := at' _ (List.mem_append_right _ (List.mem_singleton.mpr rfl))
      have e1 : (cs.map fun c => (c.1, c.2.1)).map (·.1) = cs.map (·.1) := by rw [List.map_map]; rfl
      rw [e1]
      exact z
  exact Call_ (ld_blt I hg hm boot_tuple (PyProof.Rows.callWith_type1 (args_cons (thn inner fun v s1 hv => args_nil hv))))
end TL

/-! tuple(zip(*d)), d a tuple of tuples of one length -/
namespace TL
open PySem PySem.Spec PyProof.Rows L2
theorem trs_of_get {H : Hp} : ∀ {vs : List V} {ds : List PyData}, vs.length = ds.length → (∀ (i : Nat) v d, vs[i]? = some v → ds[i]? = some d → Tr H v d) → Trs H vs ds
  | [], [], _, _ => .nil
  | [], _ :: _, h, _ => by cases h
  | _ :: _, [], h, _ => by cases h
  | v :: vs, d :: ds, h, k => .cons (k 0 v d rfl rfl) (trs_of_get (by simpa using h) fun i a b e1 e2 => k (i + 1) a b (by simpa using e1) (by simpa using e2))
theorem zrows_of {H : Hp} : ∀ {rows : List (List PyData)} {vs : List V}, Trs H vs (rows.map PyData.tuple) →
    ∃ rs : List (Addr × List V), vs = (rs.map (·.1)).map V.ref ∧ rs.length = rows.length ∧ ∀ (i : Nat) r row, rs[i]? = some r → rows[i]? = some row → TX H r.1 r.2 ∧ Trs H r.2 row
  | [], _, .nil => ⟨[], rfl, rfl, fun i r row e _ => by simp at e⟩
  | row :: rows, _, .cons t u => by
    obtain ⟨rs, h1, h2, h3⟩ := zrows_of u
    cases t with
    | @tup a vs _ m k =>
      refine ⟨(a, vs) :: rs, by rw [h1]; rfl, by rw [List.length_cons, List.length_cons, h2], fun i r row' e1 e2 => ?_⟩
      cases i with
      | zero =>
        cases e1
        cases e2
        exact ⟨m, k⟩
      | succ i => exact h3 i r row' (by simpa using e1) (by simpa using e2)
def colsD (n : Nat) (rows : List (List PyData)) : List (List PyData) := (List.range n).map fun j => rows.map fun r => r.getD j .none
theorem w_tupZip {G : Gx} {env : En} {P : PyData → En → Prop} {e : Expr} {p1 p2 p3 pos pos2 : Pos} (m1 : G.mg "tuple" = none) (m2 : G.mg "zip" = none)
    (h : W G e env fun d e1 => ∃ (rows : List (List PyData)) (n : Nat), d = .tuple (rows.map PyData.tuple) ∧ (∀ r ∈ rows, r.length = n) ∧ rows.length ≤ 16 ∧ n ≤ sizeLine ∧ (0 < n → rows ≠ []) ∧ P (.tuple ((colsD n rows).map PyData.tuple)) e1)
    (hg : GlG G "tuple" := by rfl) (hg2 : GlG G "zip" := by rfl) : W G (.Call (.Name "tuple" p1) [.Call (.Name "zip" p2) [.Starred e p3] [] pos2] [] pos) env P :=
  W.of (fun X => tTZ X.K (tW G e)) (fun X hX => pe_tupZip hX.calm (glX hX hg) (by rw [hX.mg]; exact m1) (glX hX hg2) (by rw [hX.mg]; exact m2) (peW hX e)) fun X hX σ Hc H Q R q =>
    tW.use R h fun v d e1 Hc1 H1 ⟨rows, n, ed, hl, h16, hn, hne, pd⟩ go t => by
      subst ed
      cases t with
      | @tup a vs _ m k =>
        obtain ⟨rs, ev, el, hr⟩ := zrows_of k
        subst ev
        have rowAt : ∀ r ∈ rs, ∃ row ∈ rows, TX Hc1 r.1 r.2 ∧ Trs Hc1 r.2 row := fun r hm => by
          obtain ⟨i, hi⟩ := List.getElem?_of_mem hm
          have hil : i < rows.length := by rw [← el]; exact (List.getElem?_eq_some_iff.mp hi).1
          exact ⟨_, List.getElem_mem hil, hr i r _ hi (List.getElem?_eq_getElem hil)⟩
        refine ⟨a, rs, n, rfl, (m.mono go.rep.same).sq, fun r hm => ?_, fun r hm => ?_, by rw [el]; exact h16, hn, fun h0 z => hne h0 (List.eq_nil_of_length_eq_zero (by rw [← el, z]; rfl)), fun H' q0 cs sm cl cf hq hq' => ?_⟩
        · obtain ⟨row, _, h1, _⟩ := rowAt r hm
          exact (h1.mono go.rep.same).sq
        · obtain ⟨row, h0, _, h2⟩ := rowAt r hm
          rw [h2.length]
          exact hl row h0
        · let Hc' : Hp := fun b => if H1 b = none then H' b else Hc1 b
          have inN : ∀ {b : Addr}, H1 b = none → Hc' b = H' b := fun hb => if_pos hb
          have inX : ∀ {b : Addr} {xs : List V}, H1 b = none → TX H' b xs → TX Hc' b xs := fun hb ⟨o, o1, o2, o3⟩ => ⟨o, o1, o2, by rw [inN hb]; exact o3⟩
          have inO : ∀ {b : Addr}, H1 b ≠ none → Hc' b = Hc1 b := fun hb => if_neg hb
          have core : Same Hc1 Hc' := fun b o eo => by
            rw [inO (by rw [go.rep.same b o eo]; simp)]
            exact eo
          have x : Ext Hc1 H1 Hc' H' := by
            refine ⟨sm, core, fun b o eo => ?_, fun b hb hc => by rw [inO hb]; exact hc⟩
            by_cases hb : H1 b = none
            · rw [inN hb] at eo
              exact eo
            · rw [inO hb] at eo
              exact sm b o (go.rep.same b o eo)
          refine q _ _ e1 Hc' H' pd (go.trans (x.go go.rep)) (.tup (inX hq hq') (trs_of_get ?_ fun j v d ev ed => ?_))
          · rw [List.length_map, List.length_map, cl, List.length_map, colsD, List.length_map, List.length_range]
          · rw [List.getElem?_map, List.getElem?_map] at ev
            cases qc : cs[j]? with
            | none => rw [qc] at ev; cases ev
            | some c =>
              rw [qc] at ev
              cases ev
              obtain ⟨c1, c2, c3, c4⟩ := cf j c qc
              have hjn : j < n := by rw [← cl]; exact (List.getElem?_eq_some_iff.mp qc).1
              rw [List.getElem?_map, colsD, List.getElem?_map, List.getElem?_range hjn] at ed
              cases ed
              refine .tup (inX c1 c2) (trs_of_get (by rw [c3, el, List.length_map]) fun i v d ev ed => ?_)
              have hi : i < rs.length := by rw [← c3]; exact (List.getElem?_eq_some_iff.mp ev).1
              obtain ⟨v', v1, v2⟩ := c4 i _ (List.getElem?_eq_getElem hi)
              rw [ev] at v2
              cases v2
              have hi' : i < rows.length := by rw [← el]; exact hi
              rw [List.getElem?_map, List.getElem?_eq_getElem hi'] at ed
              cases ed
              obtain ⟨_, tr⟩ := hr i _ _ (List.getElem?_eq_getElem hi) (List.getElem?_eq_getElem hi')
              obtain ⟨d', d1, d2⟩ := tr.getV v1
              show Tr Hc' v (rows[i].getD j .none)
              rw [List.getD_eq_getElem?_getD, d1]
              exact d2.mono core
end TL

/-! tuple * int of a tuple of one item, with the object that it is; x not in a tuple of ints -/
namespace TL
open PySem PySem.Spec PyProof.Rows L2
theorem tuple_mul1 (l : Addr) (items : Array Value) (n : Nat) (dd : Option Addr) (sl : Array (Option Value)) (u : Tok) :
    Meets (Builtin.«tuple.__mul__» ⟨[.ref l, .int 1 u], []⟩) (fun _ R s => s.heap.get? l = some { cls := .type "tuple", dict := dd, data := .seq items n, slots := sl } ∧ R (.ok (.ret (Value.ref l))) s) :=
  .of_wp fun prog w A R s h => by
    obtain ⟨hp, g, d, tk, os⟩ := s
    obtain ⟨hl, h⟩ := h
    have f1 := AutoSeq1.idx_int
    have c1 : (items.isEmpty || (1 : Int) == 1) = true := by simp
    wp_walk using wpAny_loadPart' hl
    repeat (first
      | (refine wpAny_ite_false (decide_eq_false (by decide)) ?_; wp_walk using wpAny_loadPart' hl)
      | (refine wpAny_ite_true (decide_eq_true c1) ?_; wp_walk using wpAny_loadPart' hl))
    exact ⟨_, rfl, h⟩
def rRep1 (K : PySem.W.Frag) : R2 := fun x y H Q => ∃ l z, ∃ k : Nat, x = .ref l ∧ y = .int (k : Int) ∧ SqT K H l [z] ∧ 1 ≤ k ∧ k ≤ 16 ∧ (k = 1 → Q (.ref l) H) ∧
  (k ≠ 1 → ∀ (p : Addr) (o : Obj), H p = none → o.cls = .type "tuple" → o.dict = none → Q (.ref p) (upd H p (.frz o (.tup (List.replicate k z)))))
theorem op_rep1 {X : Cx} : OpR X (binaryOp .Mult) (rRep1 X.K) := by
  intro pins s σ H x y v u Q I rx ry h
  obtain ⟨l, z, k, rfl, rfl, hT, h1, h16, q1, q2⟩ := h
  cases rx
  obtain ⟨t, rfl⟩ := ry
  obtain ⟨its, r, ⟨⟨cls, dd, data, sl⟩, ho, hc, n, hd⟩, hs⟩ := I.tuple hT
  simp only at hc hd
  subst hc hd
  obtain ⟨uu, rfl, r0⟩ := vals1 r
  refine wpAny_binaryOp_repeat_ref (T := "tuple") (U := "int") (by decide) ⟨_, ho, rfl⟩ (fun s' => typeIs_int s' (k : Int) t) noFill_tuple_mul F.fills_int_mul F.slot_int_rmul repeat_tuple F.slot_int_index.lookup ?_
  by_cases hk : k = 1
  · subst hk
    exact call_meets F.slot_int_rmul (typeIs_int s _ t) F.entry_int_rmul (F.args_int_rmul_2 _ _) (int_rmul_tuple _ t l _ n dd sl)
      ⟨ho, rfl, ⟨_, ho, rfl⟩, call_meets F.slot_tuple_mul ⟨_, ho, rfl⟩ F.entry_tuple_mul (F.args_tuple_mul_2 _ _) (tuple_mul1 l _ n dd sl t) ⟨ho, .ref l, H, I, rfl, q1 rfl⟩⟩
  · have c0 : (decide ((k : Int) < -(2 ^ 63)) || decide ((k : Int) ≥ 2 ^ 63)) = false := by
      rw [decide_eq_false (by omega), decide_eq_false (by omega)] <;> rfl
    have c1 : ([uu].toArray.isEmpty || (k : Int) == 1) = false := by
      rw [show [uu].toArray.isEmpty = false from rfl, Bool.false_or]
      exact beq_eq_false_iff_ne.mpr (by omega)
    have c2 : (decide ((k : Int) ≤ 0) || [uu].toArray.isEmpty) = false := by
      rw [show [uu].toArray.isEmpty = false from rfl, Bool.or_false]
      exact decide_eq_false (by omega)
    have sz : (([uu].toArray.size : Nat) : Int) * (k : Int) = k := by
      rw [show (([uu].toArray.size : Nat) : Int) = 1 from rfl, Int.one_mul]
    have c4 : Builtin.Tuple.tupleTooMany ((([uu].toArray.size : Nat) : Int) * (k : Int)) = false := by
      unfold Builtin.Tuple.tupleTooMany
      rw [sz, sizeLine_eq]
      exact decide_eq_false (by omega)
    have fl : (List.foldl (fun x1 x2 => x1 ++ x2) #[] (List.replicate (k : Int).toNat [uu].toArray)) = (List.replicate k uu).toArray := by
      rw [size_rep, Int.toNat_natCast, List.flatten_replicate_singleton]
    refine call_meets F.slot_int_rmul (typeIs_int s _ t) F.entry_int_rmul (F.args_int_rmul_2 _ _) (int_rmul_tuple _ t l _ n dd sl)
      ⟨ho, rfl, ⟨_, ho, rfl⟩, call_meets F.slot_tuple_mul ⟨_, ho, rfl⟩ F.entry_tuple_mul (F.args_tuple_mul_2 _ _) (tuple_mulW l _ n dd sl _ t c0 c1 c2 (by rw [sz]; omega) c4 (by rw [fl, List.size_toArray, List.length_replicate, sizeLine_eq]; omega)) ⟨ho, ?_⟩⟩
    rw [fl]
    refine ⟨.ref s.heap.objs.size, _, I.laid (t' := s.toks) (o := .frz { cls := .type "tuple", data := .seq (List.replicate k uu).toArray } (.tup (List.replicate k z))) (fun b ob q => Heap.get?_push_of_some _ q) (Nat.le_refl _) ?_, rfl, q2 hk _ { cls := .type "tuple", data := .seq (List.replicate k uu).toArray } (I.hok.fresh (Nat.le_refl _)) rfl rfl⟩
    have rr := r.rep k
    rw [List.flatten_replicate_singleton, List.flatten_replicate_singleton] at rr
    exact ⟨Heap.get?_push_size _ rfl, by rw [List.length_replicate, sizeLine_eq]; omega, _, rr, IsTup.new _ _⟩
theorem trs_rep {H : Hp} {v : V} {d : PyData} (t : Tr H v d) : ∀ k : Nat, Trs H (List.replicate k v) (List.replicate k d)
  | 0 => .nil
  | k + 1 => .cons t (trs_rep t k)
section
variable {G : Gx} {env : En} {P : PyData → En → Prop} {PB : Bool → En → Prop} {a b e : Expr} {pos p : Pos}
theorem w_rep1 (h : W G a env fun x e1 => ∃ z, x = .tuple [z] ∧ W G b e1 fun y e2 => ∃ k : Nat, y = .int (k : Int) ∧ 1 ≤ k ∧ k ≤ 16 ∧ P (.tuple (List.replicate k z)) e2) : W G (.BinOp a .Mult b pos) env P :=
  w_bin (r := fun X => rRep1 X.K) (fun _ _ => op_rep1) fun X hX => W.imp h fun x e1 ⟨z, ex, h2⟩ => W.imp h2 fun y e2 ⟨k, ey, h1, h16, pd⟩ => by
    subst ex
    subst ey
    intro Hc H u' v' Q s t1 t2 q
    cases t2
    cases t1 with
    | @tup a1 vs1 _ m1 k1 =>
      cases k1 with
      | cons kz kn =>
        cases kn
        refine ⟨_, _, k, rfl, rfl, (m1.mono s).sq, h1, h16, fun e1 => ?_, fun _ p' o hp o1 o2 => ?_⟩
        · subst e1
          exact q _ _ Hc H pd (.refl s) (.tup m1 (.cons kz .nil))
        · have x := Ext.new (o := .frz o (.tup (List.replicate k (by assumption : V)))) s hp
          exact q _ _ _ _ pd x (.tup ⟨o, o1, o2, upd_same⟩ (trs_rep (kz.mono x.core) k))
theorem inV_int (i : Int) : ∀ ns : List Int, inV (.int i) (ns.map V.int) = decide (i ∈ ns)
  | [] => by simp [inV]
  | n :: ns => by
    have ih := inV_int i ns
    unfold inV at ih ⊢
    rw [List.map_cons, List.any_cons, ih]
    show ((n == i) || decide (i ∈ ns)) = decide (i ∈ n :: ns)
    by_cases e : n = i
    · subst e
      simp
    · have : (n == i) = false := beq_eq_false_iff_ne.mpr e
      rw [this, Bool.false_or]
      by_cases m : i ∈ ns
      · rw [decide_eq_true m, decide_eq_true (List.mem_cons_of_mem _ m)]
      · rw [decide_eq_false m, decide_eq_false (fun z => (List.mem_cons.mp z).elim (fun z => e z.symm) m)]
theorem flat_ints : ∀ ns : List Int, (ns.map V.int).all flatV = true
  | [] => rfl
  | n :: ns => by
    rw [List.map_cons, List.all_cons, flat_ints ns]
    rfl
theorem wt_notInI (h : W G a env fun x e1 => ∃ i, x = .int i ∧ W G b e1 fun y e2 => ∃ ns : List Int, y = .tuple (ns.map .int) ∧ PB (!decide (i ∈ ns)) e2) (hm : behindInMarks .NotIn b = false := by rfl) : WT G (.Compare a [.NotIn] [b] pos) env PB :=
  wt_cmp (r := fun X => rIn X.K true) (fun _ _ => op_notIn_seq) hm fun X hX => W.imp h fun x e1 ⟨i, ex, h2⟩ => W.imp h2 fun y e2 ⟨ns, ey, pd⟩ => by
    subst ex
    subst ey
    intro Hc H u' v' Q s t1 t2 q
    cases t1
    cases t2 with
    | @tup a1 vs1 _ m1 k1 =>
      have ek := Trs.of_ints k1
      subst ek
      refine ⟨_, _, rfl, .inr (m1.mono s).sq, rfl, flat_ints ns, ?_⟩
      rw [if_pos rfl, inV_int]
      exact q _ _ Hc H ⟨_, rfl, pd⟩ (.refl s) (.bl _)
end
/-- a table of ints, known by its size -/
theorem tbI {n : Nat} {rows : List PyData} (hl : rows.length = n) (hr : ∀ row ∈ rows, ∃ ns : List Int, row = .list (ns.map .int) ∧ ns.length = n) : ∃ T : Tb, PyData.list rows = tbL T ∧ Sq n T := by
  have : ∀ rows : List PyData, (∀ row ∈ rows, ∃ ns : List Int, row = .list (ns.map .int) ∧ ns.length = n) → ∃ T : Tb, rows = T.map rowL ∧ T.length = rows.length ∧ ∀ r ∈ T, r.length = n := by
    intro rows
    induction rows with
    | nil => exact fun _ => ⟨[], rfl, rfl, fun _ h => (nomatch h)⟩
    | cons row rows ih =>
      intro h
      obtain ⟨ns, e, el⟩ := h row List.mem_cons_self
      obtain ⟨T, e1, e2, e3⟩ := ih fun x hx => h x (List.mem_cons_of_mem _ hx)
      refine ⟨ns :: T, by rw [List.map_cons, ← e1, e]; rfl, by rw [List.length_cons, e2]; rfl, fun r hm => ?_⟩
      rcases List.mem_cons.mp hm with z | z
      · rw [z, el]
      · exact e3 r z
  obtain ⟨T, e1, e2, e3⟩ := this rows hr
  exact ⟨T, by rw [e1]; rfl, ⟨by rw [e2, hl], e3⟩⟩
theorem all_ints {es : List PyData} (h : ∀ b ∈ es, ∃ z : Int, b = .int z) : ∃ ns : List Int, es = ns.map PyData.int := by
  induction es with
  | nil => exact ⟨[], rfl⟩
  | cons b l ih =>
    obtain ⟨z, ez⟩ := h b List.mem_cons_self
    obtain ⟨ns, e⟩ := ih fun x hx => h x (List.mem_cons_of_mem _ hx)
    exact ⟨z :: ns, by rw [ez, e]; rfl⟩
end TL

/-! enumerate of a tuple and zip of a list and a tuple, to two names: the machine's level -/
namespace TL
open PySem PySem.Spec PyProof.Rows L2
set_option maxHeartbeats 1000000 in
theorem meets_enum1 {v : Value} {o : Obj} {H : Heap → Prop} (B : Begins v o H) :
    Meets (Builtin.«enumerate.__new__» ⟨[.type "enumerate", v], []⟩) (fun _ R s => H s.heap ∧
      R (.ok (.ret (.ref (s.heap.push o).objs.size))) { s with heap := (s.heap.push o).push { cls := .type "enumerate", data := .fields #[.none, .bool false, .ref s.heap.objs.size, rawInt 0, .none, .none] } }) :=
  .of_wp fun prog w A R s h => by
    obtain ⟨hp, g, d, tk, os⟩ := s
    obtain ⟨h1, h⟩ := h
    have hsub := sub_enumerate
    have q1 : ∀ {A' : Around} {E : Value → Shared → Prop} {Q : Value → Shared → Prop}, Q (.ref hp.objs.size) ⟨hp.push o, g, d, tk, os⟩ → wpAny (model prog w) A' (pyIter v) Q E ⟨hp, g, d, tk, os⟩ :=
      fun q => B.iter prog w _ _ ⟨hp, g, d, tk, os⟩ _ h1 q
    wp_walk using q1
    refine wpAny_stack_any fun st => wpAny_pure ?_
    split
    · rename_i c _ _ _ _ _
      cases (c == Value.type "enumerate")
      · wp_walk using q1
        exact ⟨_, rfl, h⟩
      · wp_walk using q1
        exact ⟨_, rfl, h⟩
    · wp_walk using q1
      exact ⟨_, rfl, h⟩
theorem call_enum1 {prog : Program} {w : World} {A : Around} {E : Value → Shared → Prop} {s : Shared} {v : Value} {o : Obj} {H : Heap → Prop} {Q : Value → Shared → Prop} (B : Begins v o H) (h1 : H s.heap)
    (h : ∀ h', IsEnum h' (s.heap.objs.size + 1) s.heap.objs.size 0 .none → h'.get? s.heap.objs.size = some o → (∀ b o, s.heap.get? b = some o → h'.get? b = some o) → Q (.ref (s.heap.objs.size + 1)) { s with heap := h' }) :
    wpAny (model prog w) A (call (.type "enumerate") [v]) Q E s := by
  refine callType_new F.called_enumerate (by decide) (F.typeCall_enumerate_1 _) (F.newCall_enumerate_1 _) (fun obj => F.args_object_init_2 obj _) F.entry_enumerate_new (meets_enum1 B) ⟨h1, ?_⟩
  have hz : (s.heap.push o).objs.size = s.heap.objs.size + 1 := Heap.size_push ..
  show _ ∧ _
  rw [hz]
  have he : IsEnum ((s.heap.push o).push { cls := .type "enumerate", data := .fields #[.none, .bool false, .ref s.heap.objs.size, rawInt 0, .none, .none] }) (s.heap.objs.size + 1) s.heap.objs.size 0 .none := by
    have := Heap.get?_push_size (s.heap.push o) (o := { cls := .type "enumerate", data := .fields #[.none, .bool false, .ref s.heap.objs.size, rawInt 0, .none, .none] }) rfl
    rw [hz] at this
    exact this
  exact ⟨⟨_, he, rfl⟩, h _ he (Heap.get?_push_of_some _ (Heap.get?_push_size _ B.free)) fun b o x => Heap.get?_push_of_some _ (Heap.get?_push_of_some _ x)⟩
/-! the turns -/
def IteT (K : PySem.W.Frag) (a : Addr) : It :=
  ⟨fun i H => ∃ (xs : List V) (x : V), SqT K H a xs ∧ xs[i]? = some x,
    fun i H v H' => ∃ T x, v = .ref T ∧ H T = none ∧ H' = upd H T (.tup [.int (i : Nat), x]) ∧ ∀ xs, SqT K H a xs → xs[i]? = some x,
    fun i H => ∃ xs : List V, SqT K H a xs ∧ xs.length = i⟩
theorem turn_enumT {P : Program} {w : World} {K : PySem.W.Frag} {elts : List Expr} {kk : Nat} {tpos : Pos} {a e it : Addr} (hne : e ≠ it) (hai : a ≠ it) (hae : a ≠ e) :
    Turn P w K (.Tuple elts kk tpos) (IteT K a) [e, it] e (fun i h => (∃ old, IsEnum h e it i old) ∧ h.IsTupleIter it a i) where
  mem := by simp
  obj := fun i h ⟨⟨old, he⟩, o, ho, hc, hd⟩ b hb => by
    have e' : b = e ∨ b = it := by simpa using hb
    rcases e' with z | z
    · rw [z]; exact ⟨_, he, fun v q => nomatch q⟩
    · rw [z]; exact ⟨o, ho, fun v q => by rw [hd] at q; cases q⟩
  keep := fun i h h' ⟨⟨old, he⟩, o, ho, r⟩ k => ⟨⟨old, k e (by simp) _ he⟩, o, k it (by simp) o ho, r⟩
  item := by
    intro X hP hw hK hc i pins s σ H E I hf st hg
    subst hP hw hK
    obtain ⟨⟨old, he⟩, hit⟩ := st
    obtain ⟨xs, x, hq, hx⟩ := hg
    obtain ⟨its, rv, p, hz⟩ := I.tuple hq
    obtain ⟨u, hu, ru⟩ := rv.get hx
    have hel : e < s.heap.objs.size := Heap.lt_size he
    have hil : it < s.heap.objs.size := by obtain ⟨_, q, _⟩ := hit; exact Heap.lt_size q
    have D := Draws.tuple (prog := X.prog) (w := X.w) (A := X.A.in1) (I.ok.hd hc) it a hai its.toArray
    have W := GoesN.enumFrom (elts := elts) (x1 := kk) (pos := tpos) 0 D e hne (by simp; exact ⟨hne, Ne.symm hae⟩) (by simp)
    have hlt : i < its.toArray.size := by
      have := (List.getElem?_eq_some_iff.mp hu).1
      simpa using this
    refine W.goes i s _ E hlt ⟨⟨old, by rw [Int.zero_add]; exact he⟩, hit, p⟩ fun v h' tk hY st' hk htk => ?_
    obtain ⟨T, t, x', ev, hnew, hx', o, ho, hoc, n, hod⟩ := hY
    have ex : x' = u := by
      have h2 : its[i]? = some x' := by simpa using hx'
      rw [hu] at h2
      exact (Option.some.inj h2).symm
    subst ex
    rw [Int.zero_add] at hod
    have new : ObjOk X.prog X.w (upd H T (.tup [.int (i : Nat), x])) h' T (.tup [.int (i : Nat), x]) :=
      ⟨by show 2 ≤ sizeLine; decide, [.int i t, x'], .cons ⟨_, rfl⟩ (.cons ru .nil), ⟨o, ho, hoc, n, hod⟩⟩
    have I1 : Inv X pins σ (upd H T (.tup [.int (i : Nat), x])) { s with heap := h', toks := tk } := I.turnedNew (t' := tk) (ch := [e, it]) hk hf hnew new
    obtain ⟨⟨old', he'⟩, hit', _⟩ := st'
    rw [Int.zero_add] at he'
    refine ⟨.ref T, _, I1, by rw [ev]; rfl, ⟨T, x, rfl, I.hok.fresh hnew, rfl, fun ys hy => ?_⟩, ⟨⟨old', he'⟩, hit'⟩, fun b hb => ?_⟩
    · rw [I.tuple_inj hy hq]
      exact hx
    · have hb' : b < s.heap.objs.size := by
        have e' : b = e ∨ b = it := by simpa using hb
        rcases e' with z | z
        · rw [z]; exact hel
        · rw [z]; exact hil
      rw [upd_ne (Nat.ne_of_lt (Nat.lt_of_lt_of_le hb' hnew))]
      exact (hf b hb).1
  done := by
    intro X hP hw hK hc i pins s σ H E I hf st hg
    subst hP hw hK
    obtain ⟨⟨old, he⟩, hit⟩ := st
    obtain ⟨xs, hq, hx⟩ := hg
    obtain ⟨its, rv, p, hz⟩ := I.tuple hq
    have D := Draws.tuple (prog := X.prog) (w := X.w) (A := X.A.in1) (I.ok.hd hc) it a hai its.toArray
    have W := GoesN.enumFrom (elts := elts) (x1 := kk) (pos := tpos) 0 D e hne (by simp; exact ⟨hne, Ne.symm hae⟩) (by simp)
    have hn : i = its.toArray.size := by rw [List.size_toArray, ← rv.length, hx]
    subst hn
    exact W.stops s _ E ⟨⟨old, by rw [Int.zero_add]; exact he⟩, hit, p⟩ fun h' tk hk htk => I.turnedL (t' := tk) (ch := [e, it]) hk hf
  self := fun A i s Q E ⟨⟨_, he⟩, _⟩ h => wpAny_pyIter_enum he h
end TL

namespace TL
open PySem PySem.Spec PyProof.Rows L2
def iEnumT (K : PySem.W.Frag) (ta : TA) : TI := fun σ H R => ta σ H fun vs H1 => ∃ a xs, vs = [.ref a] ∧ SqT K H1 a xs ∧ R (IteT K a) H1
theorem pi_enumT {X : Cx} {e : Expr} {ta : TA} {p pos tpos : Pos} {elts : List Expr} {kk : Nat} (hg : Gl X "enumerate") (hm : X.mg "enumerate" = none) (ha : PA X [e] ta) (hs : starEach [e] X.env = (false, eval e X.env) :: starEach [] X.env) :
    PI X (.Tuple elts kk tpos) (.Call (.Name "enumerate" p) [e] [] pos) (iEnumT X.K ta) := by
  refine ⟨fun pins s σ H R I h => ?_⟩
  refine Call_ (ld_blt I hg hm boot_enumerate (PyProof.Rows.callWith_type1 (thn (ha.run pos pins s σ H _ I h) fun us s1 ⟨vs, H1, I1, r1, q1⟩ => ?_) hs rfl))
  obtain ⟨a, xs, ex, hq, q⟩ := q1
  subst ex
  cases r1 with
  | cons r rr =>
    cases rr
    cases r
    obtain ⟨its, rv, p', hz⟩ := I1.tuple hq
    obtain ⟨oa, hoa, _⟩ := id p'
    have hal : a < s1.heap.objs.size := Heap.lt_size hoa
    refine call_enum1 (begins_tuple a its.toArray) p' fun h' he hit hk => wpAny_pyIter_enum he ?_
    have I2 : Inv X pins σ H1 { s1 with heap := h' } := I1.kept (t' := s1.toks) hk
    refine ⟨s1.heap.objs.size + 1, [s1.heap.objs.size + 1, s1.heap.objs.size], _, _, H1, rfl, I2, turn_enumT (a := a) (e := s1.heap.objs.size + 1) (it := s1.heap.objs.size) (Nat.succ_ne_self _) (Nat.ne_of_lt hal) (Nat.ne_of_lt (Nat.lt_succ_of_lt hal)), ⟨⟨.none, he⟩, ⟨_, hit, rfl, rfl⟩⟩, fun b hb => ?_, q⟩
    have e' : b = s1.heap.objs.size + 1 ∨ b = s1.heap.objs.size := by simpa using hb
    have hle : s1.heap.objs.size ≤ b := by
      rcases e' with z | z
      · rw [z]; exact Nat.le_add_right _ _
      · rw [z]; exact Nat.le_refl _
    exact I1.fpOk hle (I1.hok.fresh hle)
theorem nin2 {x y z : Nat} (h1 : x ≠ y) (h2 : x ≠ z) : (x : Addr) ∉ ([y, z] : List Addr) := fun h => (List.mem_cons.mp h).elim h1 fun h => h2 (List.mem_singleton.mp h)
theorem sep_at {N a b : Nat} (la : a < N) (lb : b < N) : ZipSep2 (N + 4 : Nat) (N + 2 : Nat) (N + 3 : Nat) (N : Nat) (N + 1 : Nat) [N, a] [N + 1, b] :=
  have n1 : (N + 2 : Nat) ≠ N + 4 := by omega
  have n2 : (N + 3 : Nat) ≠ N + 4 := by omega
  have n3 : (N + 2 : Nat) ≠ N + 3 := by omega
  have n4 : (N + 2 : Nat) ≠ N := by omega
  have n5 : (N + 4 : Nat) ≠ N := by omega
  have n6 : (N + 4 : Nat) ≠ a := by omega
  have n7 : (N + 3 : Nat) ≠ N := by omega
  have n8 : (N + 3 : Nat) ≠ a := by omega
  have n9 : (N + 2 : Nat) ≠ N + 1 := by omega
  have m1 : (N + 4 : Nat) ≠ N + 1 := by omega
  have m2 : (N + 4 : Nat) ≠ b := by omega
  have m3 : (N + 3 : Nat) ≠ N + 1 := by omega
  have m4 : (N + 3 : Nat) ≠ b := by omega
  have m5 : (N : Nat) ≠ N + 1 := by omega
  have m6 : (N : Nat) ≠ b := by omega
  have m7 : (N + 1 : Nat) ≠ N := by omega
  have m8 : (N + 1 : Nat) ≠ a := by omega
  ⟨n1, n2, n3, n4, List.mem_cons_self, nin2 n5 n6, nin2 n7 n8, n9, List.mem_cons_self, nin2 m1 m2, nin2 m3 m4, nin2 m5 m6, nin2 m7 m8⟩
/-- the list at a and the tuple at b, the items in new pairs -/
def ItzM (K : PySem.W.Frag) (a b : Addr) : It :=
  ⟨fun i H => ∃ (xs ys : List V) (x y : V), SqL K H a xs ∧ SqT K H b ys ∧ xs[i]? = some x ∧ ys[i]? = some y,
    fun i H v H' => ∃ T x y, v = .ref T ∧ H T = none ∧ H' = upd H T (.tup [x, y]) ∧ (∀ xs, SqL K H a xs → xs[i]? = some x) ∧ ∀ ys, SqT K H b ys → ys[i]? = some y,
    fun i H => ∃ xs ys : List V, SqL K H a xs ∧ SqT K H b ys ∧ xs.length = i ∧ ys.length = i⟩
theorem turn_zipM {P : Program} {w : World} {K : PySem.W.Frag} {elts : List Expr} {kk : Nat} {tpos : Pos} {a b z TI TO i1 i2 : Addr} (D : ZipSep2 z TI TO i1 i2 [i1, a] [i2, b]) (ha : a ≠ i1) (hb : b ≠ i2) :
    Turn P w K (.Tuple elts kk tpos) (ItzM K a b) [z, TI, TO, i1, i2] z (fun i h => IsZip h z TI TO .none ∧ IsTupOf2 h TI (.ref i1) (.ref i2) ∧ (∃ x y, IsTupOf2 h TO x y) ∧ h.IsListIter i1 a i ∧ h.IsTupleIter i2 b i) where
  mem := by simp
  obj := fun i h ⟨hz, hTI, ⟨x, y, hTO⟩, ⟨o1, e1, _, d1⟩, o2, e2, _, d2⟩ c hc => by
    have e' : c = z ∨ c = TI ∨ c = TO ∨ c = i1 ∨ c = i2 := by simpa using hc
    rcases e' with q | q | q | q | q
    · rw [q]; exact ⟨_, hz, fun v q => nomatch q⟩
    · rw [q]; exact ⟨_, hTI, fun v q => nomatch q⟩
    · rw [q]; exact ⟨_, hTO, fun v q => nomatch q⟩
    · rw [q]; exact ⟨o1, e1, fun v q => by rw [d1] at q; cases q⟩
    · rw [q]; exact ⟨o2, e2, fun v q => by rw [d2] at q; cases q⟩
  keep := fun i h h' ⟨hz, hTI, ⟨x, y, hTO⟩, h1, o2, e2, r2⟩ k =>
    ⟨k z (by simp) _ hz, k TI (by simp) _ hTI, ⟨x, y, k TO (by simp) _ hTO⟩, h1.at fun o q => k i1 (by simp) o q, o2, k i2 (by simp) o2 e2, r2⟩
  item := by
    intro X hP hw hK hc i pins s σ H E I hf st hg
    subst hP hw hK
    obtain ⟨hz, hTI, ⟨x0, y0, hTO⟩, h1, h2⟩ := st
    obtain ⟨xs, ys, x, y, hqx, hqy, hx, hy⟩ := hg
    obtain ⟨its, rv, p, _⟩ := I.list hqx
    obtain ⟨its2, rv2, p2, _⟩ := I.tuple hqy
    obtain ⟨u, hu, ru⟩ := rv.get hx
    obtain ⟨u2, hu2, ru2⟩ := rv2.get hy
    have hlt1 : i < its.toArray.size := by
      have := (List.getElem?_eq_some_iff.mp hu).1
      simpa using this
    have hlt2 : i < its2.toArray.size := by
      have := (List.getElem?_eq_some_iff.mp hu2).1
      simpa using this
    have D1 := Draws.list (prog := X.prog) (w := X.w) (A := X.A.in1) (I.ok.hd hc) i1 a ha its.toArray
    have D2 := Draws.tuple (prog := X.prog) (w := X.w) (A := X.A.in1) (I.ok.hd hc) i2 b hb its2.toArray
    have W := GoesN.zip2 (elts := elts) (x1 := kk) (pos := tpos) D D1 D2
    refine W.goes i s _ E (Nat.lt_min.mpr ⟨hlt1, hlt2⟩) ⟨hz, hTI, ⟨x0, y0, hTO⟩, ⟨h1, p.isList⟩, h2, p2⟩ fun v h' tk hY st' hk htk => ?_
    obtain ⟨T, x', y', ev, hnew, hx', hy', o, ho, hoc, n, hod⟩ := hY
    have ex : x' = u := by
      have h2 : its[i]? = some x' := by simpa using hx'
      rw [hu] at h2
      exact (Option.some.inj h2).symm
    have ey : y' = u2 := by
      have h2 : its2[i]? = some y' := by simpa using hy'
      rw [hu2] at h2
      exact (Option.some.inj h2).symm
    subst ex ey
    have new : ObjOk X.prog X.w (upd H T (.tup [x, y])) h' T (.tup [x, y]) := ⟨by show 2 ≤ sizeLine; decide, [x', y'], .cons ru (.cons ru2 .nil), ⟨o, ho, hoc, n, hod⟩⟩
    have I1 : Inv X pins σ (upd H T (.tup [x, y])) { s with heap := h', toks := tk } := I.turnedNew (t' := tk) (ch := [z, TI, TO, i1, i2]) (fun c o hb q => hk c o (fun q' => hb (by
      have e' : c = z ∨ c = TO ∨ c = i1 ∨ c = i2 := by simpa using q'
      simp
      rcases e' with q | q | q | q
      · exact .inl q
      · exact .inr (.inr (.inl q))
      · exact .inr (.inr (.inr (.inl q)))
      · exact .inr (.inr (.inr (.inr q))))) q) hf hnew new
    obtain ⟨hz', hTI', hTO', ⟨h1', _⟩, h2', _⟩ := st'
    refine ⟨.ref T, _, I1, by rw [ev]; rfl, ⟨T, x, y, rfl, I.hok.fresh hnew, rfl, fun l hl => by rw [I.list_inj hl hqx]; exact hx, fun l hl => by rw [I.tuple_inj hl hqy]; exact hy⟩, ⟨hz', hTI', hTO', h1', h2'⟩, fun c hcm => ?_⟩
    have hlt : c < s.heap.objs.size := by
      have e' : c = z ∨ c = TI ∨ c = TO ∨ c = i1 ∨ c = i2 := by simpa using hcm
      rcases e' with q | q | q | q | q
      · rw [q]; exact Heap.lt_size hz
      · rw [q]; exact Heap.lt_size hTI
      · rw [q]; exact Heap.lt_size hTO
      · rw [q]; obtain ⟨_, e1, _⟩ := h1; exact Heap.lt_size e1
      · rw [q]; obtain ⟨_, e2, _⟩ := h2; exact Heap.lt_size e2
    rw [upd_ne (Nat.ne_of_lt (Nat.lt_of_lt_of_le hlt hnew))]
    exact (hf c hcm).1
  done := by
    intro X hP hw hK hc i pins s σ H E I hf st hg
    subst hP hw hK
    obtain ⟨hz, hTI, ⟨x0, y0, hTO⟩, h1, h2⟩ := st
    obtain ⟨xs, ys, hqx, hqy, l1, l2⟩ := hg
    obtain ⟨its, rv, p, _⟩ := I.list hqx
    obtain ⟨its2, rv2, p2, _⟩ := I.tuple hqy
    have D1 := Draws.list (prog := X.prog) (w := X.w) (A := X.A.in1) (I.ok.hd hc) i1 a ha its.toArray
    have D2 := Draws.tuple (prog := X.prog) (w := X.w) (A := X.A.in1) (I.ok.hd hc) i2 b hb its2.toArray
    have W := GoesN.zip2 (elts := elts) (x1 := kk) (pos := tpos) D D1 D2
    have hn : i = min its.toArray.size its2.toArray.size := by rw [List.size_toArray, List.size_toArray, ← rv.length, ← rv2.length, l1, l2, Nat.min_self]
    subst hn
    exact W.stops s _ E ⟨hz, hTI, ⟨x0, y0, hTO⟩, ⟨h1, p.isList⟩, h2, p2⟩ fun h' tk hk htk => I.turnedL (t' := tk) (ch := [z, TI, TO, i1, i2]) (fun c o hb q => hk c o (fun q' => hb (by
      have e' : c = z ∨ c = TO ∨ c = i1 ∨ c = i2 := by simpa using q'
      simp
      rcases e' with q | q | q | q
      · exact .inl q
      · exact .inr (.inr (.inl q))
      · exact .inr (.inr (.inr (.inl q)))
      · exact .inr (.inr (.inr (.inr q))))) q) hf
  self := fun A i s Q E st h => wpAny_pyIter_zip st.1 h
def iZipM (K : PySem.W.Frag) (ta : TA) : TI := fun σ H R => ta σ H fun vs H1 => ∃ a b xs ys, vs = [.ref a, .ref b] ∧ SqL K H1 a xs ∧ SqT K H1 b ys ∧ R (ItzM K a b) H1
theorem pi_zipM {X : Cx} {e e2 : Expr} {ta : TA} {p pos tpos : Pos} {elts : List Expr} {kk : Nat} (hg : Gl X "zip") (hm : X.mg "zip" = none) (ha : PA X [e, e2] ta)
    (hs : starEach [e, e2] X.env = (false, eval e X.env) :: starEach [e2] X.env) (hpl : (backTo pos (starEach [e2] X.env)).any (·.1) = false) :
    PI X (.Tuple elts kk tpos) (.Call (.Name "zip" p) [e, e2] [] pos) (iZipM X.K ta) := by
  refine ⟨fun pins s σ H R I h => ?_⟩
  refine Call_ (ld_blt I hg hm PyProof.Rows.boot_zip (PyProof.Rows.callWith_type1 (thn (ha.run pos pins s σ H _ I h) fun us s1 ⟨vs, H1, I1, r1, q1⟩ => ?_) hs hpl))
  obtain ⟨a, b, xs, ys, ex, hqx, hqy, q⟩ := q1
  subst ex
  cases r1 with
  | cons r rr =>
    cases rr with
    | cons r' rr =>
      cases rr
      cases r
      cases r'
      obtain ⟨its, rv, p1, _⟩ := I1.list hqx
      obtain ⟨its2, rv2, p2, _⟩ := I1.tuple hqy
      have la : a < s1.heap.objs.size := p1.lt
      obtain ⟨ob, hob, _⟩ := id p2
      have lb : b < s1.heap.objs.size := Heap.lt_size hob
      refine zip_begins2 (begins_list a its.toArray) (begins_tuple b its2.toArray) p1.isList p2 fun h' hz hTI hTO h1 h2 hsz hk => wpAny_pyIter_zip hz ?_
      have I2 : Inv X pins σ H1 { s1 with heap := h' } := I1.kept (t' := s1.toks) hk
      have D : ZipSep2 (s1.heap.objs.size + 4) (s1.heap.objs.size + 2) (s1.heap.objs.size + 3) s1.heap.objs.size (s1.heap.objs.size + 1) [s1.heap.objs.size, a] [s1.heap.objs.size + 1, b] := sep_at la lb
      refine ⟨s1.heap.objs.size + 4, [s1.heap.objs.size + 4, s1.heap.objs.size + 2, s1.heap.objs.size + 3, s1.heap.objs.size, s1.heap.objs.size + 1], _, _, H1, rfl, I2, turn_zipM (a := a) (b := b) D (Nat.ne_of_lt la) (Nat.ne_of_lt (Nat.lt_succ_of_lt lb)), ⟨hz, hTI, ⟨_, _, hTO⟩, ⟨_, h1, rfl, rfl⟩, ⟨_, h2, rfl, rfl⟩⟩, fun c hcm => ?_, q⟩
      have e' : c = s1.heap.objs.size + 4 ∨ c = s1.heap.objs.size + 2 ∨ c = s1.heap.objs.size + 3 ∨ c = s1.heap.objs.size ∨ c = s1.heap.objs.size + 1 := by simpa using hcm
      have hle : s1.heap.objs.size ≤ c := by
        rcases e' with z | z | z | z | z
        · rw [z]; exact Nat.le_add_right _ _
        · rw [z]; exact Nat.le_add_right _ _
        · rw [z]; exact Nat.le_add_right _ _
        · rw [z]; exact Nat.le_refl _
        · rw [z]; exact Nat.le_add_right _ _
      exact I1.fpOk hle (I1.hok.fresh hle)
end TL

/-! [.. for x, y in ..], nothing else changed; over enumerate of a tuple, over zip of a list and a tuple -/
namespace TL
open PySem PySem.Spec PyProof.Rows L2
def Walks2 (J : It) (Hc : Hp) (ps : List (PyData × PyData)) : Prop := ∃ vs : List (V × V), vs.length = ps.length ∧ (∀ (i : Nat) (x y : V), vs[i]? = some (x, y) → ∃ d d', ps[i]? = some (d, d') ∧ Tr Hc x d ∧ Tr Hc y d') ∧ (∀ H', Same Hc H' → ∀ i, i < vs.length → J.go i H') ∧
  (∀ (i : Nat) H' x H'', Same Hc H' → J.yld i H' x H'' → i < vs.length → ∃ T u v, x = .ref T ∧ H' T = none ∧ H'' = upd H' T (.tup [u, v]) ∧ vs[i]? = some (u, v)) ∧ ∀ H', Same Hc H' → J.stop vs.length H'
def WI2 (G : Gx) (tg iter : Expr) (env : En) (P : List (PyData × PyData) → En → Prop) : Prop :=
  ∀ X, InG G X → ∃ wi : TI, PI X tg iter wi ∧ ∀ (σ : L2.St) (Hc H : Hp) (R : It → Hp → Prop), Rp Hc H σ env → (∀ ps J env' Hc' H', P ps env' → Go Hc H σ env Hc' H' σ env' → Walks2 J Hc' ps → R J H') → wi σ H R
def no2 (e : En) (jx jy : Nat) : En := (e.set jx .no).set jy .no
def in2 (e : En) (jx jy : Nat) (p : PyData × PyData) : En := ((no2 e jx jy).set jx (.va p.1)).set jy (.va p.2)
theorem no2_comm {e : En} {jx jy : Nat} (h : jx ≠ jy) : no2 e jx jy = (e.set jy .no).set jx .no := by unfold no2; rw [List.set_comm _ _ h]
theorem in2_out {e : En} {jx jy : Nat} {p : PyData × PyData} (h : jx ≠ jy) : ((in2 e jx jy p).set jy .no).set jx .no = no2 e jx jy := by
  unfold in2
  rw [List.set_set, List.set_comm _ _ h.symm, List.set_set, no2_comm h, List.set_set, List.set_comm _ _ h.symm, List.set_set]
theorem lcP_read {G : Gx} {scope : Scope} {jx jy : Nat} (hne : jx ≠ jy) {elt : Expr} {wi : TI} {env : En} {RR : PyData × PyData → PyData → Prop} {PF : List PyData → En → Prop} {σ : L2.St} {Hc H : Hp} {Q : VK} (R : Rp Hc H σ env)
    (hwi : ∀ R' : It → Hp → Prop, (∀ ps J env' Hc' H', (ps.length < 100000 ∧ (∀ (i : Nat) (p : PyData × PyData), ps[i]? = some p → W (G.blk scope) elt (in2 env' jx jy p) fun y e2 => RR p y ∧ e2 = in2 env' jx jy p) ∧ ∀ acc, All2 RR ps acc → PF acc (no2 env' jx jy)) → Go Hc H σ env Hc' H' σ env' → Walks2 J Hc' ps → R' J H') → wi σ H R')
    (hQ : ∀ D vs acc e2 Hc2 H2, PF acc e2 → Nw Hc H σ env D vs acc Hc2 H2 e2 → Q (.ref D) H2) : tLc wi (gTup G.K 2 (gCons (gName jx) (gCons (gName jy) gNil))) tYes (tW (G.blk scope) elt) [jx, jy] σ H Q := by
  refine hwi _ fun ps J e0 Hc1 H1 ⟨hsz, hel, jF⟩ go0 wk D hD => ?_
  obtain ⟨vs0, lv, tv, wgo, wyld, wstop⟩ := wk
  let e1 := no2 e0 jx jy
  let Pv : Nat → Hp → Prop := fun i H' => ∃ Hc' acc vs, All2 RR (ps.take i) acc ∧ vs.length ≤ i ∧ Nw Hc H σ env D vs acc Hc' H' e1 ∧ Same Hc1 Hc'
  have old : H D = none := by
    cases q : H D with
    | none => rfl
    | some o => exact absurd hD (go0.ex D (by rw [q]; simp))
  have out1 : Hc1 D = none := Same.free go0.rep.same hD
  have g1 : Go Hc H σ env Hc1 (upd H1 D (.lst [])) σ e1 := go_drop jy (go_drop jx (go0.trans (go_new go0.rep hD)))
  refine ⟨fun i m H' => m = vs0.length - i ∧ i ≤ vs0.length ∧ Pv i H', ⟨vs0.length, by omega, Nat.zero_le _, Hc1, [], [], trivial, Nat.le_refl _, ⟨g1, old, upd_same, .nil, out1, fun o => own_ne_new go0.rep hD (own_set rfl (own_set rfl o))⟩, .refl _⟩, ?_⟩
  rintro i m H2 ⟨em, hi, Hc2, acc, vs, al, hl, nw, sm⟩
  subst em
  have s12 : Same Hc1 H2 := sm.trans nw.go.rep.same
  by_cases hlt : i < vs0.length
  · refine .inr ⟨wgo H2 s12 i hlt, Pv (i + 1), fun H' p' => ⟨vs0.length - (i + 1), by omega, rfl, hlt, p'⟩, fun x H' y => ?_⟩
    obtain ⟨T, u, v, ex, hT, eH, ev⟩ := wyld i H2 x H' s12 y hlt
    subst ex eH
    obtain ⟨d, d', ed, td, td'⟩ := tv i u v ev
    have gN : Go Hc2 H2 σ e1 Hc2 (upd H2 T (.tup [u, v])) σ e1 := go_new nw.go.rep hT
    have eσ : ((wipe σ [jx, jy]).set jx (some u)).set jy (some v) = (σ.set jx (some u)).set jy (some v) := by
      show (((σ.set jy none).set jx none).set jx (some u)).set jy (some v) = _
      rw [List.set_set, List.set_comm _ _ hne.symm, List.set_set]
    refine ⟨T, [u, v], rfl, .inl (.inl upd_same), rfl, u, [v], rfl, v, [], rfl, rfl, ?_⟩
    show wipe (((wipe σ [jx, jy]).set jx (some u)).set jy (some v)) [jx, jy] = wipe σ [jx, jy] ∧ tYes (((wipe σ [jx, jy]).set jx (some u)).set jy (some v)) (upd H2 T (.tup [u, v])) _
    rw [eσ]
    refine ⟨by
      show ((((σ.set jx (some u)).set jy (some v)).set jy none).set jx none) = (σ.set jy none).set jx none
      rw [List.set_set, List.set_comm _ _ hne, List.set_set], ?_⟩
    have hn1 : nown e1 jx := by
      show nown (no2 e0 jx jy) jx
      rw [no2_comm hne]
      exact nown_set rfl
    have hn2 : nown (e1.set jx (.va d)) jy := by
      show nown (((e0.set jx .no).set jy .no).set jx (.va d)) jy
      rw [List.set_comm _ _ hne.symm]
      exact nown_set rfl
    have R1 : Rp Hc2 (upd H2 T (.tup [u, v])) (σ.set jx (some u)) (e1.set jx (.va d)) := rp_swap gN.rep rfl fun _ => ⟨u, rfl, td.mono sm⟩
    have R2 : Rp Hc2 (upd H2 T (.tup [u, v])) ((σ.set jx (some u)).set jy (some v)) (in2 e0 jx jy (d, d')) := rp_swap R1 rfl fun _ => ⟨v, rfl, td'.mono sm⟩
    have z : tW (G.blk scope) elt ((σ.set jx (some u)).set jy (some v)) (upd H2 T (.tup [u, v])) fun y H4 => ∃ ac, H4 D = some (.lst ac) ∧ ac.length < sizeLine ∧ Pv (i + 1) (upd H4 D (.lst (ac ++ [y]))) := by
      refine tW.use R2 (hel i (d, d') ed) fun y dy e2 Hc4 H4 ⟨rr, ee⟩ go4 ty => ?_
      subst ee
      have ga := go_swap (j := jy) (t := .va d') (o := some v) hn2 rfl go4
      have gb := go_swap (j := jx) (t := .va d) (o := some u) hn1 rfl ga
      rw [in2_out hne] at gb
      have g34 : Go Hc2 H2 σ e1 Hc4 H4 σ e1 := gN.trans gb
      have keep : H4 D = some (.lst vs) := g34.kp D _ nw.at' nw.no
      have out4 : Hc4 D = none := g34.out D (by rw [nw.at']; simp) nw.out nw.no
      refine ⟨vs, keep, Nat.lt_of_lt_of_le (show vs.length < 100000 by omega) (by decide), Hc4, acc ++ [dy], vs ++ [y], by rw [take_snoc ed]; exact al.snoc rr, by rw [List.length_append]; show vs.length + 1 ≤ i + 1; omega, ⟨?_, old, upd_same, ?_, out4, nw.no⟩, sm.trans g34.core⟩
      · exact go_write (nw.go.trans g34) old out4 nw.no
      · exact Trs.append (nw.tr.mono g34.core) (.cons ty .nil)
    exact iteT (B := Pv (i + 1) (upd H2 T (.tup [u, v]))) z
  · have e : i = vs0.length := by omega
    subst e
    exact .inl ⟨wstop H2 s12, hQ D vs acc e1 Hc2 H2 (jF acc (by rw [lv, List.take_length] at al; exact al)) nw⟩
section
variable {G : Gx} {env : En} {P : PyData → En → Prop} {elt iter : Expr} {scope : Scope} {pos px py pt : Pos} {x y : Str}
theorem w_lcP (jx jy : Nat) {k1} (RR : PyData × PyData → PyData → Prop) (h : WI2 G (.Tuple [.Name x px, .Name y py] k1 pt) iter env fun ps e0 => ps.length < 100000 ∧ (∀ (i : Nat) (p : PyData × PyData), ps[i]? = some p → W (G.blk scope) elt (in2 e0 jx jy p) fun y e2 => RR p y ∧ e2 = in2 e0 jx jy p) ∧ ∀ acc, All2 RR ps acc → P (.list acc) (no2 e0 jx jy))
    (hnd : G.N.Nodup) (hne : jx ≠ jy := by decide) (hb : blkC G.N G.sc scope [(x, jx), (y, jy)] = true := by first | decide +kernel | (dsimp only [Gx.blk]; decide +kernel) | rfl) (hj : G.N[jx]? = some x := by rfl) (hj2 : G.N[jy]? = some y := by rfl)
    (hl : (relS scope G.sc).names.lookup x = some .local ∨ (relS scope G.sc).names.lookup x = some .cell := by first | exact .inl rfl | exact .inr rfl)
    (hf : scope.names.lookup x = some .cell ∨ (relS scope G.sc).names.lookup x = some .local := by first | exact .inl rfl | exact .inr rfl)
    (hl2 : (relS scope G.sc).names.lookup y = some .local ∨ (relS scope G.sc).names.lookup y = some .cell := by first | exact .inl rfl | exact .inr rfl)
    (hf2 : scope.names.lookup y = some .cell ∨ (relS scope G.sc).names.lookup y = some .local := by first | exact .inl rfl | exact .inr rfl) (hs : ∀ (v : Env) y, foldedSetIterable iter v y = pure y := by exact fun _ _ => rfl) :
    W G (.ListComp elt [⟨.Tuple [.Name x px, .Name y py] k1 pt, iter, [], 0⟩] scope pos) env P := fun X hX => by
  obtain ⟨wi, hi, rd⟩ := h X hX
  intro pins s σ Hc H Q I R q
  have nm : ∀ {z : Str} {j : Nat} {pz : Pos}, G.N[j]? = some z → ((relS scope G.sc).names.lookup z = some .local ∨ (relS scope G.sc).names.lookup z = some .cell) → (scope.names.lookup z = some .cell ∨ (relS scope G.sc).names.lookup z = some .local) → ∀ (s : Shared) (H : Hp) (C : Addr) (cl : List (Str × Addr)) (fp : List Addr), PG (X.blk s H scope (compEnvC scope cl C X.env) fp) (.Name z pz) (gName j) := by
    intro z j pz hj hl hf s H C cl fp
    have i2 := inG_blk hX scope s H C cl fp
    refine pg_name (i := j) (by rw [i2.N]; exact hnd) (by rw [i2.N]; exact hj) ?_ ?_
    · show _ ∨ _
      rw [i2.sc]
      exact hl
    · rcases hf with hf | hf
      · exact .inl (by show (scope.names.lookup z == some .cell) = true; rw [hf]; rfl)
      · exact .inr (by rw [i2.sc]; exact hf)
  refine (pe_lc (own := [(x, jx), (y, jy)]) (g := gTup G.K 2 (gCons (gName jx) (gCons (gName jy) gNil))) hX.calm (by rw [hX.N]; exact hnd) hi (blkOk_by (by rw [hX.N, hX.sc]; exact hb)) (fun s H C cl fp => by
    have i2 := inG_blk hX scope s H C cl fp
    have z := pg_tup (n := 2) (k := k1) (pos := pt) i2.calm (pgs_cons (nm (pz := px) hj hl hf s H C cl fp) (pgs_cons (nm (pz := py) hj2 hl2 hf2 s H C cl fp) pgs_nil)) rfl rfl
    rw [i2.K] at z
    exact z) (fun s H C cl fp => pts_nil) (fun s H C cl fp => peW (inG_blk hX scope s H C cl fp) elt) (hs X.env)).run pins s σ H Q I ?_
  refine lcP_read hne R (rd σ Hc H · R) fun D vs acc e2 Hc2 H2 pf nw => ?_
  have z := nw.freeze
  exact q _ _ _ _ _ pf z.1 z.2
def enumP (ds : List PyData) : List (PyData × PyData) := (List.range ds.length).map fun i => (.int (i : Nat), ds.getD i .none)
theorem wi_enumT {a : Expr} {tgs : List Expr} {kk : Nat} {P : List (PyData × PyData) → En → Prop} {p tpos : Pos} (hm : G.mg "enumerate" = none) (h : W G a env fun d e1 => ∃ ds, d = .tuple ds ∧ P (enumP ds) e1) (hg : GlG G "enumerate" := by rfl) (ns : noStar [a] = true := by rfl) : WI2 G (.Tuple tgs kk tpos) (.Call (.Name "enumerate" p) [a] [] pos) env P := fun X hX =>
  ⟨_, pi_enumT (glX hX hg) (by rw [hX.mg]; exact hm) (paW hX [a] ns) (star_cons (noStar_cons ns).1), fun σ Hc H R r q => tWA.use (P := fun ds e1 => ∃ xs, ds = [.tuple xs] ∧ P (enumP xs) e1) r (W.imp h fun d e1 ⟨xs, e, p⟩ => ⟨xs, by rw [e], p⟩) fun vs ds e1 Hc1 H1 ⟨xs, e, pd⟩ go t => by
    subst e
    cases t with
    | cons t tn =>
      cases tn
      cases t with
      | @tup a vs _ m k =>
        have sq : ∀ {H'}, Same Hc1 H' → SqT X.K H' a vs := fun s => (m.mono s).sq
        have lk := k.length
        refine ⟨a, vs, rfl, sq go.rep.same, q _ _ e1 Hc1 H1 pd go ⟨(List.range vs.length).map fun i => (.int (i : Nat), vs.getD i .non), ?_, fun i x y e => ?_, fun H' s i hi => ?_, fun i H' x H'' s y hi => ?_, fun H' s => ⟨vs, sq s, by rw [List.length_map, List.length_range]⟩⟩⟩
        · unfold enumP
          rw [List.length_map, List.length_map, List.length_range, List.length_range, lk]
        · have hi : i < vs.length := by have := (List.getElem?_eq_some_iff.mp e).1; rw [List.length_map, List.length_range] at this; exact this
          have hi2 : i < xs.length := by omega
          rw [List.getElem?_map, List.getElem?_range hi] at e
          have e := Option.some.inj e
          injection e with e1 e2
          obtain ⟨d, ed, td⟩ := k.getV (List.getElem?_eq_getElem hi)
          refine ⟨.int (i : Nat), d, ?_, by rw [← e1]; exact .int _, ?_⟩
          · unfold enumP
            rw [List.getElem?_map, List.getElem?_range hi2]
            show some (PyData.int (i : Nat), xs.getD i .none) = _
            rw [List.getD_eq_getElem?_getD, ed]
            rfl
          · rw [← e2]
            show Tr Hc1 (vs.getD i .non) d
            rw [List.getD_eq_getElem?_getD, List.getElem?_eq_getElem hi]
            exact td
        · rw [List.length_map, List.length_range] at hi
          exact ⟨vs, vs[i], sq s, List.getElem?_eq_getElem hi⟩
        · rw [List.length_map, List.length_range] at hi
          obtain ⟨T, z, ex, hT, eH, f⟩ := y
          refine ⟨T, _, z, ex, hT, eH, ?_⟩
          rw [List.getElem?_map, List.getElem?_range hi]
          show some (V.int (i : Nat), vs.getD i .non) = _
          rw [List.getD_eq_getElem?_getD, f vs (sq s)]
          rfl⟩
theorem wi_zipM {a b : Expr} {tgs : List Expr} {kk : Nat} {P : List (PyData × PyData) → En → Prop} {p tpos : Pos} (hm : G.mg "zip" = none) (h : WA G [a, b] env fun ds e1 => ∃ xs ys, ds = [.list xs, .tuple ys] ∧ xs.length = ys.length ∧ P (xs.zip ys) e1) (hg : GlG G "zip" := by rfl) (ns : noStar [a, b] = true := by rfl)
    (hpl : ∀ v : Env, (backTo pos (starEach [b] v)).any (·.1) = false := by exact fun _ => rfl) : WI2 G (.Tuple tgs kk tpos) (.Call (.Name "zip" p) [a, b] [] pos) env P := fun X hX =>
  ⟨_, pi_zipM (glX hX hg) (by rw [hX.mg]; exact hm) (paW hX [a, b] ns) (star_cons (noStar_cons ns).1) (hpl _), fun σ Hc H R r q => tWA.use r h fun vs ds e1 Hc1 H1 ⟨xs, ys, e, hl, pd⟩ go t => by
    subst e
    cases t with
    | cons t tn =>
      cases tn with
      | cons t' tn =>
        cases tn
        cases t with
        | @lst a vs _ m k =>
          cases t' with
          | @tup b ws _ m' k' =>
            have sq : ∀ {H'}, Same Hc1 H' → SqL X.K H' a vs := fun s => SqL.of (s _ _ m)
            have sq' : ∀ {H'}, Same Hc1 H' → SqT X.K H' b ws := fun s => (m'.mono s).sq
            have lk := k.length
            have lk' := k'.length
            have lz : (vs.zip ws).length = vs.length := by rw [List.length_zip, lk, lk', hl, Nat.min_self]
            refine ⟨a, b, vs, ws, rfl, sq go.rep.same, sq' go.rep.same, q _ _ e1 Hc1 H1 pd go ⟨vs.zip ws, ?_, fun i x y e => ?_, fun H' s i hi => ?_, fun i H' x H'' s y hi => ?_, fun H' s => ⟨vs, ws, sq s, sq' s, lz.symm, by rw [lz, lk, lk', hl]⟩⟩⟩
            · rw [List.length_zip, List.length_zip, lk, lk']
            · obtain ⟨e1, e2⟩ := List.getElem?_zip_eq_some.mp e
              obtain ⟨d, ed, td⟩ := k.getV e1
              obtain ⟨d', ed', td'⟩ := k'.getV e2
              exact ⟨d, d', List.getElem?_zip_eq_some.mpr ⟨ed, ed'⟩, td, td'⟩
            · rw [lz] at hi
              have hi' : i < ws.length := by omega
              exact ⟨vs, ws, vs[i], ws[i], sq s, sq' s, List.getElem?_eq_getElem hi, List.getElem?_eq_getElem hi'⟩
            · obtain ⟨T, u, v, ex, hT, eH, f, f'⟩ := y
              exact ⟨T, u, v, ex, hT, eH, List.getElem?_zip_eq_some.mpr ⟨f vs (sq s), f' ws (sq' s)⟩⟩⟩
end
section
variable {G : Gx} {env : En} {N : DE} {rest : List Stmt} {elt iter : Expr} {scope : Scope} {pos px py pt pz spos : Pos} {x y z : Str}
/-- z = [.. for x, y in ..], where the comprehension's own names are exchanged around it -/
theorem r_lcP (i jx jy : Nat) {k1} (RR : PyData × PyData → PyData → Prop) (h : WI2 G (.Tuple [.Name x px, .Name y py] k1 pt) iter env fun ps e0 => ps.length < 100000 ∧ (∀ (i : Nat) (p : PyData × PyData), ps[i]? = some p → W (G.blk scope) elt (in2 e0 jx jy p) fun y e2 => RR p y ∧ e2 = in2 e0 jx jy p) ∧ ∀ acc, All2 RR ps acc → Rs G rest ((no2 e0 jx jy).set i (.va (.list acc))) N)
    (hnd : G.N.Nodup) (hsw : ∀ v : Env, v.scope = G.sc → swapsWith (.ListComp elt [⟨.Tuple [.Name x px, .Name y py] k1 pt, iter, [], 0⟩] scope pos) (some (.Name z pz)) spos.line v = pure true) (hne : jx ≠ jy := by decide) (hb : blkC G.N G.sc scope [(x, jx), (y, jy)] = true := by first | decide +kernel | (dsimp only [Gx.blk]; decide +kernel) | rfl) (hj : G.N[jx]? = some x := by rfl) (hj2 : G.N[jy]? = some y := by rfl) (hi : G.N[i]? = some z := by rfl)
    (hz : G.sc.names.lookup z = some .local := by rfl)
    (hl : (relS scope G.sc).names.lookup x = some .local ∨ (relS scope G.sc).names.lookup x = some .cell := by first | exact .inl rfl | exact .inr rfl)
    (hf : scope.names.lookup x = some .cell ∨ (relS scope G.sc).names.lookup x = some .local := by first | exact .inl rfl | exact .inr rfl)
    (hl2 : (relS scope G.sc).names.lookup y = some .local ∨ (relS scope G.sc).names.lookup y = some .cell := by first | exact .inl rfl | exact .inr rfl)
    (hf2 : scope.names.lookup y = some .cell ∨ (relS scope G.sc).names.lookup y = some .local := by first | exact .inl rfl | exact .inr rfl) (hs : ∀ (v : Env) y, foldedSetIterable iter v y = pure y := by exact fun _ _ => rfl) :
    Rs G (.Assign [.Name z pz] (.ListComp elt [⟨.Tuple [.Name x px, .Name y py] k1 pt, iter, [], 0⟩] scope pos) spos :: rest) env N := fun X hX => by
  obtain ⟨wi, hw, rd⟩ := h X hX.g
  intro pins s σ Hc H D I R q
  have nm : ∀ {z : Str} {j : Nat} {pz : Pos}, G.N[j]? = some z → ((relS scope G.sc).names.lookup z = some .local ∨ (relS scope G.sc).names.lookup z = some .cell) → (scope.names.lookup z = some .cell ∨ (relS scope G.sc).names.lookup z = some .local) → ∀ (s : Shared) (H : Hp) (C : Addr) (cl : List (Str × Addr)) (fp : List Addr), PG (X.blk s H scope (compEnvC scope cl C X.env) fp) (.Name z pz) (gName j) := by
    intro z j pz hj hl hf s H C cl fp
    have i2 := inG_blk hX.g scope s H C cl fp
    refine pg_name (i := j) (by rw [i2.N]; exact hnd) (by rw [i2.N]; exact hj) ?_ ?_
    · show _ ∨ _
      rw [i2.sc]
      exact hl
    · rcases hf with hf | hf
      · exact .inl (by show (scope.names.lookup z == some .cell) = true; rw [hf]; rfl)
      · exact .inr (by rw [i2.sc]; exact hf)
  have P1 := ps_setLc (i := i) (own := [(x, jx), (y, jy)]) (g := gTup G.K 2 (gCons (gName jx) (gCons (gName jy) gNil))) (tt := tYes) (te := tW (G.blk scope) elt) hX.g.calm (hX.nodup hnd) (hX.at' hi) (by rw [hX.g.sc]; exact hz) (hsw _ hX.g.sc) hw (blkOk_by (by rw [hX.g.N, hX.g.sc]; exact hb)) (fun s H C cl fp => by
    have i2 := inG_blk hX.g scope s H C cl fp
    have z := pg_tup (n := 2) (k := k1) (pos := pt) i2.calm (pgs_cons (nm (pz := px) hj hl hf s H C cl fp) (pgs_cons (nm (pz := py) hj2 hl2 hf2 s H C cl fp) pgs_nil)) rfl rfl
    rw [i2.K] at z
    exact z) (fun s H C cl fp => pts_nil) (fun s H C cl fp => peW (inG_blk hX.g scope s H C cl fp) elt) (hs X.env)
  refine (pss_cons P1 (pssR hX rest)).run pins s σ H D I ?_
  show tLc wi (gTup G.K 2 (gCons (gName jx) (gCons (gName jy) gNil))) tYes (tW (G.blk scope) elt) [jx, jy] σ H fun v H1 => tRs G rest D (σ.set i (some v)) H1
  refine lcP_read (PF := fun acc e => Rs G rest (e.set i (.va (.list acc))) N) hne R (rd σ Hc H · R) fun A vs acc e2 Hc2 H2 pf nw => ?_
  show tRs G rest D (σ.set i (some (.ref A))) H2
  have z := nw.freeze
  have g2 := go_asg (j := i) (t := .va (.list acc)) (o := some (V.ref A)) z.1.rep rfl ⟨_, rfl, z.2⟩
  exact tRs.use g2.rep pf (q.from (z.1.trans g2))
end
end TL

/-! [.. for x, y in zip(a tuple, a tuple)] -/
namespace TL
open PySem PySem.Spec PyProof.Rows L2 RZ
section
variable {G : Gx} {env : En} {pos : Pos}
theorem wi_zipTT {a b : Expr} {tgs : List Expr} {kk : Nat} {P : List (PyData × PyData) → En → Prop} {p tpos : Pos} (hm : G.mg "zip" = none) (h : WA G [a, b] env fun ds e1 => ∃ xs ys, ds = [.tuple xs, .tuple ys] ∧ xs.length = ys.length ∧ P (xs.zip ys) e1) (hg : GlG G "zip" := by rfl) (ns : noStar [a, b] = true := by rfl)
    (hpl : ∀ v : Env, (backTo pos (starEach [b] v)).any (·.1) = false := by exact fun _ => rfl) : WI2 G (.Tuple tgs kk tpos) (.Call (.Name "zip" p) [a, b] [] pos) env P := fun X hX =>
  ⟨_, pi_zipA (glX hX hg) (by rw [hX.mg]; exact hm) (paW hX [a, b] ns) (star_cons (noStar_cons ns).1) (hpl _), fun σ Hc H R r q => tWA.use r h fun vs ds e1 Hc1 H1 ⟨xs, ys, e, hl, pd⟩ go t => by
    subst e
    cases t with
    | cons t tn =>
      cases tn with
      | cons t' tn =>
        cases tn
        cases t with
        | @tup a vs _ m k =>
          cases t' with
          | @tup b ws _ m' k' =>
            have sq : ∀ {H'}, Same Hc1 H' → SqT X.K H' a vs := fun s => (m.mono s).sq
            have sq' : ∀ {H'}, Same Hc1 H' → SqT X.K H' b ws := fun s => (m'.mono s).sq
            have lk := k.length
            have lk' := k'.length
            have lz : (vs.zip ws).length = vs.length := by rw [List.length_zip, lk, lk', hl, Nat.min_self]
            refine ⟨a, b, vs, ws, rfl, .inr ⟨sq go.rep.same, sq' go.rep.same, q _ _ e1 Hc1 H1 pd go ⟨vs.zip ws, ?_, fun i x y e => ?_, fun H' s i hi => ?_, fun i H' x H'' s y hi => ?_, fun H' s => ⟨vs, ws, sq s, sq' s, .inl (by rw [lz]; exact Nat.le_refl _)⟩⟩⟩⟩
            · rw [List.length_zip, List.length_zip, lk, lk']
            · obtain ⟨e1, e2⟩ := List.getElem?_zip_eq_some.mp e
              obtain ⟨d, ed, td⟩ := k.getV e1
              obtain ⟨d', ed', td'⟩ := k'.getV e2
              exact ⟨d, d', List.getElem?_zip_eq_some.mpr ⟨ed, ed'⟩, td, td'⟩
            · rw [lz] at hi
              have hi' : i < ws.length := by omega
              exact ⟨vs, ws, vs[i], ws[i], sq s, sq' s, List.getElem?_eq_getElem hi, List.getElem?_eq_getElem hi'⟩
            · obtain ⟨T, u, v, ex, hT, eH, f, f'⟩ := y
              exact ⟨T, u, v, ex, hT, eH, List.getElem?_zip_eq_some.mpr ⟨f vs (sq s), f' ws (sq' s)⟩⟩⟩
end
end TL

/-! zip of a tuple and a list -/
namespace TL
open PySem PySem.Spec PyProof.Rows L2
/-- the tuple at a and the list at b, the items in new pairs -/
def ItzN (K : PySem.W.Frag) (a b : Addr) : It :=
  ⟨fun i H => ∃ (xs ys : List V) (x y : V), SqT K H a xs ∧ SqL K H b ys ∧ xs[i]? = some x ∧ ys[i]? = some y,
    fun i H v H' => ∃ T x y, v = .ref T ∧ H T = none ∧ H' = upd H T (.tup [x, y]) ∧ (∀ xs, SqT K H a xs → xs[i]? = some x) ∧ ∀ ys, SqL K H b ys → ys[i]? = some y,
    fun i H => ∃ xs ys : List V, SqT K H a xs ∧ SqL K H b ys ∧ xs.length = i ∧ ys.length = i⟩
theorem turn_zipN {P : Program} {w : World} {K : PySem.W.Frag} {elts : List Expr} {kk : Nat} {tpos : Pos} {a b z TI TO i1 i2 : Addr} (D : ZipSep2 z TI TO i1 i2 [i1, a] [i2, b]) (ha : a ≠ i1) (hb : b ≠ i2) :
    Turn P w K (.Tuple elts kk tpos) (ItzN K a b) [z, TI, TO, i1, i2] z (fun i h => IsZip h z TI TO .none ∧ IsTupOf2 h TI (.ref i1) (.ref i2) ∧ (∃ x y, IsTupOf2 h TO x y) ∧ h.IsTupleIter i1 a i ∧ h.IsListIter i2 b i) where
  mem := by simp
  obj := fun i h ⟨hz, hTI, ⟨x, y, hTO⟩, ⟨o1, e1, _, d1⟩, o2, e2, _, d2⟩ c hc => by
    have e' : c = z ∨ c = TI ∨ c = TO ∨ c = i1 ∨ c = i2 := by simpa using hc
    rcases e' with q | q | q | q | q
    · rw [q]; exact ⟨_, hz, fun v q => nomatch q⟩
    · rw [q]; exact ⟨_, hTI, fun v q => nomatch q⟩
    · rw [q]; exact ⟨_, hTO, fun v q => nomatch q⟩
    · rw [q]; exact ⟨o1, e1, fun v q => by rw [d1] at q; cases q⟩
    · rw [q]; exact ⟨o2, e2, fun v q => by rw [d2] at q; cases q⟩
  keep := fun i h h' ⟨hz, hTI, ⟨x, y, hTO⟩, ⟨o1, e1, r1⟩, h2⟩ k =>
    ⟨k z (by simp) _ hz, k TI (by simp) _ hTI, ⟨x, y, k TO (by simp) _ hTO⟩, ⟨o1, k i1 (by simp) o1 e1, r1⟩, h2.at fun o q => k i2 (by simp) o q⟩
  item := by
    intro X hP hw hK hc i pins s σ H E I hf st hg
    subst hP hw hK
    obtain ⟨hz, hTI, ⟨x0, y0, hTO⟩, h1, h2⟩ := st
    obtain ⟨xs, ys, x, y, hqx, hqy, hx, hy⟩ := hg
    obtain ⟨its, rv, p, _⟩ := I.tuple hqx
    obtain ⟨its2, rv2, p2, _⟩ := I.list hqy
    obtain ⟨u, hu, ru⟩ := rv.get hx
    obtain ⟨u2, hu2, ru2⟩ := rv2.get hy
    have hlt1 : i < its.toArray.size := by
      have := (List.getElem?_eq_some_iff.mp hu).1
      simpa using this
    have hlt2 : i < its2.toArray.size := by
      have := (List.getElem?_eq_some_iff.mp hu2).1
      simpa using this
    have D1 := Draws.tuple (prog := X.prog) (w := X.w) (A := X.A.in1) (I.ok.hd hc) i1 a ha its.toArray
    have D2 := Draws.list (prog := X.prog) (w := X.w) (A := X.A.in1) (I.ok.hd hc) i2 b hb its2.toArray
    have W := GoesN.zip2 (elts := elts) (x1 := kk) (pos := tpos) D D1 D2
    refine W.goes i s _ E (Nat.lt_min.mpr ⟨hlt1, hlt2⟩) ⟨hz, hTI, ⟨x0, y0, hTO⟩, ⟨h1, p⟩, h2, p2.isList⟩ fun v h' tk hY st' hk htk => ?_
    obtain ⟨T, x', y', ev, hnew, hx', hy', o, ho, hoc, n, hod⟩ := hY
    have ex : x' = u := by
      have h2 : its[i]? = some x' := by simpa using hx'
      rw [hu] at h2
      exact (Option.some.inj h2).symm
    have ey : y' = u2 := by
      have h2 : its2[i]? = some y' := by simpa using hy'
      rw [hu2] at h2
      exact (Option.some.inj h2).symm
    subst ex ey
    have new : ObjOk X.prog X.w (upd H T (.tup [x, y])) h' T (.tup [x, y]) := ⟨by show 2 ≤ sizeLine; decide, [x', y'], .cons ru (.cons ru2 .nil), ⟨o, ho, hoc, n, hod⟩⟩
    have I1 : Inv X pins σ (upd H T (.tup [x, y])) { s with heap := h', toks := tk } := I.turnedNew (t' := tk) (ch := [z, TI, TO, i1, i2]) (fun c o hb q => hk c o (fun q' => hb (by
      have e' : c = z ∨ c = TO ∨ c = i1 ∨ c = i2 := by simpa using q'
      simp
      rcases e' with q | q | q | q
      · exact .inl q
      · exact .inr (.inr (.inl q))
      · exact .inr (.inr (.inr (.inl q)))
      · exact .inr (.inr (.inr (.inr q))))) q) hf hnew new
    obtain ⟨hz', hTI', hTO', ⟨h1', _⟩, h2', _⟩ := st'
    refine ⟨.ref T, _, I1, by rw [ev]; rfl, ⟨T, x, y, rfl, I.hok.fresh hnew, rfl, fun l hl => by rw [I.tuple_inj hl hqx]; exact hx, fun l hl => by rw [I.list_inj hl hqy]; exact hy⟩, ⟨hz', hTI', hTO', h1', h2'⟩, fun c hcm => ?_⟩
    have hlt : c < s.heap.objs.size := by
      have e' : c = z ∨ c = TI ∨ c = TO ∨ c = i1 ∨ c = i2 := by simpa using hcm
      rcases e' with q | q | q | q | q
      · rw [q]; exact Heap.lt_size hz
      · rw [q]; exact Heap.lt_size hTI
      · rw [q]; exact Heap.lt_size hTO
      · rw [q]; obtain ⟨_, e1, _⟩ := h1; exact Heap.lt_size e1
      · rw [q]; obtain ⟨_, e2, _⟩ := h2; exact Heap.lt_size e2
    rw [upd_ne (Nat.ne_of_lt (Nat.lt_of_lt_of_le hlt hnew))]
    exact (hf c hcm).1
  done := by
    intro X hP hw hK hc i pins s σ H E I hf st hg
    subst hP hw hK
    obtain ⟨hz, hTI, ⟨x0, y0, hTO⟩, h1, h2⟩ := st
    obtain ⟨xs, ys, hqx, hqy, l1, l2⟩ := hg
    obtain ⟨its, rv, p, _⟩ := I.tuple hqx
    obtain ⟨its2, rv2, p2, _⟩ := I.list hqy
    have D1 := Draws.tuple (prog := X.prog) (w := X.w) (A := X.A.in1) (I.ok.hd hc) i1 a ha its.toArray
    have D2 := Draws.list (prog := X.prog) (w := X.w) (A := X.A.in1) (I.ok.hd hc) i2 b hb its2.toArray
    have W := GoesN.zip2 (elts := elts) (x1 := kk) (pos := tpos) D D1 D2
    have hn : i = min its.toArray.size its2.toArray.size := by rw [List.size_toArray, List.size_toArray, ← rv.length, ← rv2.length, l1, l2, Nat.min_self]
    subst hn
    exact W.stops s _ E ⟨hz, hTI, ⟨x0, y0, hTO⟩, ⟨h1, p⟩, h2, p2.isList⟩ fun h' tk hk htk => I.turnedL (t' := tk) (ch := [z, TI, TO, i1, i2]) (fun c o hb q => hk c o (fun q' => hb (by
      have e' : c = z ∨ c = TO ∨ c = i1 ∨ c = i2 := by simpa using q'
      simp
      rcases e' with q | q | q | q
      · exact .inl q
      · exact .inr (.inr (.inl q))
      · exact .inr (.inr (.inr (.inl q)))
      · exact .inr (.inr (.inr (.inr q))))) q) hf
  self := fun A i s Q E st h => wpAny_pyIter_zip st.1 h
def iZipN (K : PySem.W.Frag) (ta : TA) : TI := fun σ H R => ta σ H fun vs H1 => ∃ a b xs ys, vs = [.ref a, .ref b] ∧ SqT K H1 a xs ∧ SqL K H1 b ys ∧ R (ItzN K a b) H1
theorem pi_zipN {X : Cx} {e e2 : Expr} {ta : TA} {p pos tpos : Pos} {elts : List Expr} {kk : Nat} (hg : Gl X "zip") (hm : X.mg "zip" = none) (ha : PA X [e, e2] ta)
    (hs : starEach [e, e2] X.env = (false, eval e X.env) :: starEach [e2] X.env) (hpl : (backTo pos (starEach [e2] X.env)).any (·.1) = false) :
    PI X (.Tuple elts kk tpos) (.Call (.Name "zip" p) [e, e2] [] pos) (iZipN X.K ta) := by
  refine ⟨fun pins s σ H R I h => ?_⟩
  refine Call_ (ld_blt I hg hm PyProof.Rows.boot_zip (PyProof.Rows.callWith_type1 (thn (ha.run pos pins s σ H _ I h) fun us s1 ⟨vs, H1, I1, r1, q1⟩ => ?_) hs hpl))
  obtain ⟨a, b, xs, ys, ex, hqx, hqy, q⟩ := q1
  subst ex
  cases r1 with
  | cons r rr =>
    cases rr with
    | cons r' rr =>
      cases rr
      cases r
      cases r'
      obtain ⟨its, rv, p1, _⟩ := I1.tuple hqx
      obtain ⟨its2, rv2, p2, _⟩ := I1.list hqy
      have lb : b < s1.heap.objs.size := p2.lt
      obtain ⟨ob, hob, _⟩ := id p1
      have la : a < s1.heap.objs.size := Heap.lt_size hob
      refine zip_begins2 (begins_tuple a its.toArray) (begins_list b its2.toArray) p1 p2.isList fun h' hz hTI hTO h1 h2 hsz hk => wpAny_pyIter_zip hz ?_
      have I2 : Inv X pins σ H1 { s1 with heap := h' } := I1.kept (t' := s1.toks) hk
      have D : ZipSep2 (s1.heap.objs.size + 4) (s1.heap.objs.size + 2) (s1.heap.objs.size + 3) s1.heap.objs.size (s1.heap.objs.size + 1) [s1.heap.objs.size, a] [s1.heap.objs.size + 1, b] := sep_at la lb
      refine ⟨s1.heap.objs.size + 4, [s1.heap.objs.size + 4, s1.heap.objs.size + 2, s1.heap.objs.size + 3, s1.heap.objs.size, s1.heap.objs.size + 1], _, _, H1, rfl, I2, turn_zipN (a := a) (b := b) D (Nat.ne_of_lt la) (Nat.ne_of_lt (Nat.lt_succ_of_lt lb)), ⟨hz, hTI, ⟨_, _, hTO⟩, ⟨_, h1, rfl, rfl⟩, ⟨_, h2, rfl, rfl⟩⟩, fun c hcm => ?_, q⟩
      have e' : c = s1.heap.objs.size + 4 ∨ c = s1.heap.objs.size + 2 ∨ c = s1.heap.objs.size + 3 ∨ c = s1.heap.objs.size ∨ c = s1.heap.objs.size + 1 := by simpa using hcm
      have hle : s1.heap.objs.size ≤ c := by
        rcases e' with z | z | z | z | z
        · rw [z]; exact Nat.le_add_right _ _
        · rw [z]; exact Nat.le_add_right _ _
        · rw [z]; exact Nat.le_add_right _ _
        · rw [z]; exact Nat.le_refl _
        · rw [z]; exact Nat.le_add_right _ _
      exact I1.fpOk hle (I1.hok.fresh hle)
end TL

namespace TL
open PySem PySem.Spec PyProof.Rows L2
theorem wt_or3 {G : Gx} {env : En} {PB : Bool → En → Prop} {a b c : Expr} {pos : Pos} (h : WT G a env fun k e1 => if k = true then PB true e1 else WT G b e1 (fun k2 e2 => if k2 = true then PB true e2 else WT G c e2 PB)) : WT G (.BoolOp .Or [a, b, c] pos) env PB :=
  WT.of (fun X => tOr (tWT G a) (tOr (tWT G b) (tWT G c))) (fun X hX => (pw_or (ptW hX a) (pw_or (ptW hX b) (pw_or1 (ptW hX c)))).pt) fun X hX σ Hc H Q R q => by
    refine ⟨Hc, env, _, R, h, fun k e1 Hc1 H1 pk go => ?_⟩
    cases k with
    | false =>
      refine ⟨Hc1, e1, _, go.rep, pk, fun b e2 Hc2 H2 pb go2 => ?_⟩
      cases b with
      | false => exact ⟨Hc2, e2, _, go2.rep, pb, fun b e3 Hc3 H3 p3 go3 => q _ _ _ _ p3 ((go.trans go2).trans go3)⟩
      | true => exact q _ _ _ _ pb (go.trans go2)
    | true => exact q _ _ _ _ pk go
end TL

/-! a range kept as a value, and gone through -/
namespace TL
open PySem PySem.Spec PyProof.Rows L2
theorem cr_rg1 {X : Cx} : CallR X (.type "range") (fun vs H Q => ∃ n : Int, vs = [V.int n] ∧ ∀ p, H p = none → Q (.ref p) (upd H p (.rng 0 n))) := by
  intro pins s σ H vs us Q I r h
  obtain ⟨n, ev, q⟩ := h
  subst ev
  cases r with
  | cons r rr =>
    cases rr
    obtain ⟨t, et⟩ := r
    subst et
    refine call_range_1 ⟨.ref s.heap.objs.size, upd H s.heap.objs.size (.rng 0 n), I.laid (t' := s.toks + 1 + 1) (fun b o e => Heap.get?_push_of_some _ e) (Nat.le_refl _) ?_, rfl, q _ (I.hok.fresh (Nat.le_refl _))⟩
    exact ⟨s.toks, t, s.toks + 1, Heap.get?_push_size _ rfl⟩
theorem pi_rgV {X : Cx} {tg e : Expr} {te : TE} (he : PE X e te) : PI X tg e (fun σ H R => te σ H fun x H1 => ∃ (a : Addr) (lo hi : Int), x = V.ref a ∧ H1 a = some (.rng lo hi) ∧ (-(2 ^ 62) ≤ lo ∧ lo < 2 ^ 62 ∧ -(2 ^ 62) ≤ hi ∧ hi < 2 ^ 62) ∧ R (Itr lo (hi - lo).toNat) H1) := by
  refine ⟨fun pins s σ H R I h => ?_⟩
  refine thn (he.run pins s σ H _ I h) fun x s1 ⟨y, H1, I1, r1, a, lo, hi, ey, hq, ⟨h1, h2, h3, h4⟩, q⟩ => ?_
  subst ey
  cases r1
  obtain ⟨t, u, v, ho⟩ := I1.hok a _ hq
  refine wpAny_pyIter_range (r := a) (a := lo) (b := hi) (c := 1) (t := t) (u := u) (v := v) ho (small_one h1 h2 h3 h4) ?_
  refine ⟨s1.heap.objs.size, [s1.heap.objs.size], _, _, H1, rfl, I1.kept (t' := s1.toks) fun b o e => Heap.get?_push_of_some _ e, turn_range _ lo (hi - lo).toNat, ?_, fun b hb => ?_, q⟩
  · have e1 : lo + ((0 : Nat) : Int) * 1 = lo := by simp
    have e2 : (((hi - lo).toNat : Nat) : Int) - ((0 : Nat) : Int) = Builtin.Range.rangeSize lo hi 1 := by rw [rangeSize_one]; split <;> omega
    show IsRangeIter _ _ (lo + ((0 : Nat) : Int) * 1) ((((hi - lo).toNat : Nat) : Int) - ((0 : Nat) : Int)) 1
    rw [e1, e2]
    exact Heap.get?_push_size _ rfl
  · have e : b = s1.heap.objs.size := by simpa using hb
    subst e
    exact I1.fpOk (Nat.le_refl _) (I1.hok.fresh (Nat.le_refl _))
end TL

/-! a range that is kept in a local; a comprehension of two sources with a test -/
namespace TL
open PySem PySem.Spec PyProof.Rows L2
def rgφ (a : Addr) (n : Int) : Hp → Prop := fun H => H a = some (.rng 0 n)
theorem rgφ_mono {a : Addr} {n : Int} : ∀ H1 H2 : Hp, Same H1 H2 → rgφ a n H1 → rgφ a n H2 := fun _ _ s e => s _ _ e
section
variable {G : Gx} {env : En} {N : DE} {rest : List Stmt} {e : Expr} {pos px p : Pos} {x : Str} {tg iter : Expr}
/-- x = range(e) -/
theorem r_asgRg (i : Nat) (hnd : G.N.Nodup) (hm : G.mg "range" = none) (h : W G e env fun d e1 => ∃ n : Int, d = .int n ∧ ∀ a, Rs G rest (e1.set i (.raw (.ref a) (rgφ a n))) N) (hg : GlG G "range" := by rfl) (ns : noStar [e] = true := by rfl) (hi : G.N[i]? = some x := by rfl) (hx : Loc G.sc x := by first | exact Or.inl rfl | exact Or.inr rfl)
    (hs : ∀ (v : Env) y, v.scope = G.sc → swapsWith (.Call (.Name "range" p) [e] [] pos) (some (.Name x px)) y v = pure false := by exact fun _ _ _ => rfl) {pos2 : Pos} : Rs G (.Assign [.Name x px] (.Call (.Name "range" p) [e] [] pos) pos2 :: rest) env N :=
  Rs.of (fun X => tSeq (tAsg (tCB (fun vs H Q => ∃ n : Int, vs = [V.int n] ∧ ∀ p, H p = none → Q (.ref p) (upd H p (.rng 0 n))) (tWA G [e])) (gName i)) (tRs G rest)) (fun X hX => pss_cons (ps_set (i := i) (hX.nodup hnd) (hX.at' hi) (hX.loc hx)
      (pe_callTy cr_rg1 (glX hX.g hg) (by rw [hX.g.mg]; exact hm) boot_range (paW hX.g _ ns) (by decide) (by decide) (star_cons (noStar_cons ns).1) (star_any (noStar_cons ns).2)) (hs _ _ hX.g.sc) (.inl (hX.fn x))) (pssR hX rest)) fun X hX σ Hc H D R q => by
    refine tWA.use (P := fun ds e1 => ∃ n : Int, ds = [.int n] ∧ ∀ a, Rs G rest (e1.set i (.raw (.ref a) (rgφ a n))) N) R (W.imp h fun d e1 ⟨n, ed, pd⟩ => ⟨n, by rw [ed], pd⟩) fun vs ds e1 Hc1 H1 ⟨n, ed, pd⟩ go t => ?_
    subst ed
    rw [Trs.of_ints (ns := [n]) t]
    refine ⟨n, rfl, fun p' hp => ?_⟩
    have x := Ext.new (o := .rng 0 n) go.rep.same hp
    have g1 := go.trans (x.go go.rep)
    have g2 := go_asg (j := i) (t := .raw (.ref p') (rgφ p' n)) (o := some (V.ref p')) g1.rep rfl ⟨rfl, upd_same, rgφ_mono⟩
    exact tRs.use g2.rep (pd p') (q.from (g1.trans g2))
/-- going through it -/
theorem wi_kept (i : Nat) {a : Addr} {n : Int} {P : List PyData → En → Prop} (he : env[i]? = some (.raw (.ref a) (rgφ a n))) (hn : n ≤ 1000000 ∧ -1000000 ≤ n) (h : P (rgD 0 n.toNat) env) (hN : G.N[i]? = some x := by rfl) (hv : Vis G.sc x := by first | exact Or.inl rfl | exact Or.inr (Or.inl rfl) | exact Or.inr (Or.inr rfl))
    (hd : (x == ("__debug__" : Str)) = false := by decide) (hcd : (x == ("__classdict__" : Str)) = false := by decide) : WI G tg (.Name x pos) env P := fun X hX =>
  ⟨_, pi_rgV (pvG hX i hN hv hd hcd), fun σ Hc H R r q => by
    obtain ⟨e1, e2, _⟩ := r.ok i _ he
    refine ⟨.ref a, e1, a, 0, n, rfl, r.same _ _ e2, by omega, ?_⟩
    have z := walks_rg Hc 0 n.toNat
    rw [show (n - 0).toNat = n.toNat by rw [Int.sub_zero]]
    exact q _ _ env Hc H h (.refl r) z⟩
end
def tWI (G : Gx) (tg iter : Expr) : TI := fun σ H R => ∃ Hc env P, Rp Hc H σ env ∧ WI G tg iter env P ∧ ∀ ds J env' Hc' H', P ds env' → Go Hc H σ env Hc' H' σ env' → Walks J Hc' ds → R J H'
theorem piW {G : Gx} {X : Cx} (hX : InG G X) (tg iter : Expr) : PI X tg iter (tWI G tg iter) := ⟨fun pins s σ H R I ⟨Hc, env, P, Rr, w, q⟩ => by
  obtain ⟨wi, hw, rd⟩ := w X hX
  exact hw.run pins s σ H R I (rd σ Hc H R Rr q)⟩
theorem nown_put {env : En} {j k : Nat} {t : Sl} (h : nown env k) (ht : t.own = false) : nown (env.set j t) k := fun s e => by
  by_cases ek : j = k
  · subst ek
    exact nown_set ht s e
  · rw [List.getElem?_set_ne ek] at e
    exact h s e
/-- the word of a comprehension of two sources with a test behind -/
structure CJ2 (G' : Gx) (j j1 : Nat) (tg1 iter1 c elt : Expr) (ds : List PyData) (e0 : En) (PF : List PyData → En → Prop) : Prop where
  ex : ∃ JJ : Nat → List PyData → En → Prop, JJ 0 [] ((e0.set j .no).set j1 .no) ∧ (∀ acc e, JJ ds.length acc e → PF acc e) ∧
    ∀ i d acc e, ds[i]? = some d → JJ i acc e → WI G' tg1 iter1 ((e.set j1 .no).set j (.va d)) fun ds1 e1 => ds1.length ≤ 100 ∧
      ∃ KK : Nat → List PyData → En → Prop, KK 0 acc ((e1.set j .no).set j1 .no) ∧ (∀ acc' e', KK ds1.length acc' e' → JJ (i + 1) acc' e') ∧
        ∀ k d1 acc' e', ds1[k]? = some d1 → KK k acc' e' → WT G' c (((e'.set j1 .no).set j (.va d)).set j1 (.va d1)) fun b e2 =>
          if b = true then W G' elt e2 fun y e3 => KK (k + 1) (acc' ++ [y]) ((e3.set j .no).set j1 .no) else KK (k + 1) acc' ((e2.set j .no).set j1 .no)
theorem lc2_read {G : Gx} {scope : Scope} {j j1 : Nat} {tg1 iter1 c elt : Expr} {wi : TI} {env : En} {PF : List PyData → En → Prop} {σ : L2.St} {Hc H : Hp} {Q : VK} (hjj : j ≠ j1) (R : Rp Hc H σ env)
    (hwi : ∀ R' : It → Hp → Prop, (∀ ds J env' Hc' H', (ds.length ≤ 100 ∧ CJ2 (G.blk scope) j j1 tg1 iter1 c elt ds env' PF) → Go Hc H σ env Hc' H' σ env' → Walks J Hc' ds → R' J H') → wi σ H R')
    (hQ : ∀ D vs acc e2 Hc2 H2, PF acc e2 → Nw Hc H σ env D vs acc Hc2 H2 e2 → Q (.ref D) H2) :
    tLc2 wi (gName j) tYes (tWI (G.blk scope) tg1 iter1) (gName j1) (tWT (G.blk scope) c) (tW (G.blk scope) elt) [j, j1] [j1] σ H Q := by
  refine hwi _ fun ds J e0 Hc1 H1 ⟨hsz, cj⟩ go0 wk D hD => ?_
  obtain ⟨JJ, j0, jF, js⟩ := cj.ex
  obtain ⟨vs0, tv, wgo, wyld, wstop⟩ := wk
  have lv := tv.length
  let Pv : Nat → Hp → Prop := fun i H' => ∃ Hc' e acc vs, JJ i acc e ∧ nown e j ∧ nown e j1 ∧ vs.length ≤ i * 100 ∧ Nw Hc H σ env D vs acc Hc' H' e ∧ Same Hc1 Hc'
  have old : H D = none := by
    cases q : H D with
    | none => rfl
    | some o => exact absurd hD (go0.ex D (by rw [q]; simp))
  have out1 : Hc1 D = none := Same.free go0.rep.same hD
  have g1 : Go Hc H σ env Hc1 (upd H1 D (.lst [])) σ ((e0.set j .no).set j1 .no) := go_drop j1 (go_drop j (go0.trans (go_new go0.rep hD)))
  refine ⟨fun i m H' => m = vs0.length - i ∧ i ≤ vs0.length ∧ Pv i H', ⟨vs0.length, by omega, Nat.zero_le _, Hc1, (e0.set j .no).set j1 .no, [], [], j0, nown_put (nown_set rfl) rfl, nown_set rfl, Nat.zero_le _, ⟨g1, old, upd_same, .nil, out1, fun o => own_ne_new go0.rep hD (own_set rfl (own_set rfl o))⟩, .refl _⟩, ?_⟩
  rintro i m H2 ⟨em, hi, Hc2, e2, acc, vs, hJ, hn, hn1, hl, nw, sm⟩
  subst em
  have s12 : Same Hc1 H2 := sm.trans nw.go.rep.same
  by_cases hlt : i < vs0.length
  · refine .inr ⟨wgo H2 s12 i hlt, Pv (i + 1), fun H' p' => ⟨vs0.length - (i + 1), by omega, rfl, hlt, p'⟩, fun x H' y => ?_⟩
    obtain ⟨eH, ex⟩ := wyld i H2 x H' s12 y hlt
    subst eH
    obtain ⟨d, ed, td⟩ := tv.getV ex
    have eσ : (wipe σ [j, j1]).set j (some x) = (σ.set j1 none).set j (some x) := by
      show ((σ.set j1 none).set j none).set j (some x) = _
      rw [List.set_set]
    show wipe ((wipe σ [j, j1]).set j (some x)) [j, j1] = wipe σ [j, j1] ∧ tYes ((wipe σ [j, j1]).set j (some x)) H' _
    rw [eσ]
    refine ⟨?_, ?_⟩
    · show (((σ.set j1 none).set j (some x)).set j1 none).set j none = (σ.set j1 none).set j none
      rw [List.set_comm _ _ hjj, List.set_set, List.set_set]
    have R1 : Rp Hc2 H' (σ.set j1 none) (e2.set j1 .no) := rp_swap nw.go.rep rfl fun _ => trivial
    have R2 : Rp Hc2 H' ((σ.set j1 none).set j (some x)) ((e2.set j1 .no).set j (.va d)) := rp_swap R1 rfl fun _ => ⟨x, rfl, td.mono sm⟩
    refine iteT (B := Pv (i + 1) H') ⟨Hc2, _, _, R2, js i d acc e2 ed hJ, fun ds1 J1 e1 Hc3 H3 ⟨l1, KK, k0, kF, ks⟩ go1 wk1 => ?_⟩
    obtain ⟨ws0, tw, kgo, kyld, kstop⟩ := wk1
    have lw := tw.length
    have ga := go_swap hn1 rfl (go_swap (nown_put hn rfl) rfl go1)
    have keepN : ∀ {vs1 : List V} {acc1 : List PyData} {e : En} {Ha Ka Hb Kb : Hp} {e' : En}, Nw Hc H σ env D vs1 acc1 Ha Ka e → Go Ha Ka σ e Hb Kb σ e' → Nw Hc H σ env D vs1 acc1 Hb Kb e' := fun n g =>
      ⟨n.go.trans g, old, g.kp D _ n.at' n.no, n.tr.mono g.core, g.out D (by rw [n.at']; simp) n.out n.no, fun q => (g.own D q).elim n.no fun z => by rw [n.at'] at z; cases z⟩
    let Kv : Nat → Hp → Prop := fun k H' => ∃ Hc' e acc vs, KK k acc e ∧ nown e j ∧ nown e j1 ∧ vs.length ≤ i * 100 + k ∧ Nw Hc H σ env D vs acc Hc' H' e ∧ Same Hc3 Hc' ∧ Same Hc1 Hc'
    refine ⟨fun k m H' => m = ws0.length - k ∧ k ≤ ws0.length ∧ Kv k H', ⟨ws0.length, by omega, Nat.zero_le _, Hc3, (e1.set j .no).set j1 .no, acc, vs, k0, nown_put (nown_set rfl) rfl, nown_set rfl, hl, keepN nw ga, .refl _, sm.trans ga.core⟩, ?_⟩
    rintro k m H5 ⟨em, hk, Hc5, e5, acc5, vs5, hK, kn, kn1, kl, nw5, sm3, sm1⟩
    subst em
    have s35 : Same Hc3 H5 := sm3.trans nw5.go.rep.same
    by_cases hlk : k < ws0.length
    · refine .inr ⟨kgo H5 s35 k hlk, Kv (k + 1), fun H' p' => ⟨ws0.length - (k + 1), by omega, rfl, hlk, p'⟩, fun x1 H6 y1 => ?_⟩
      obtain ⟨eH, ex1⟩ := kyld k H5 x1 H6 s35 y1 hlk
      subst eH
      obtain ⟨d1, ed1, td1⟩ := tw.getV ex1
      have eσ1 : (wipe ((σ.set j1 none).set j (some x)) [j1]).set j1 (some x1) = ((σ.set j1 none).set j (some x)).set j1 (some x1) := by
        show (((σ.set j1 none).set j (some x)).set j1 none).set j1 (some x1) = _
        rw [List.set_set]
      show wipe ((wipe ((σ.set j1 none).set j (some x)) [j1]).set j1 (some x1)) [j1] = wipe ((σ.set j1 none).set j (some x)) [j1] ∧ tWT (G.blk scope) c ((wipe ((σ.set j1 none).set j (some x)) [j1]).set j1 (some x1)) H6 _
      rw [eσ1]
      refine ⟨by show (((σ.set j1 none).set j (some x)).set j1 (some x1)).set j1 none = ((σ.set j1 none).set j (some x)).set j1 none; rw [List.set_set], ?_⟩
      have Ra : Rp Hc5 H6 (σ.set j1 none) (e5.set j1 .no) := rp_swap nw5.go.rep rfl fun _ => trivial
      have Rb : Rp Hc5 H6 ((σ.set j1 none).set j (some x)) ((e5.set j1 .no).set j (.va d)) := rp_swap Ra rfl fun _ => ⟨x, rfl, td.mono sm1⟩
      have Rc : Rp Hc5 H6 (((σ.set j1 none).set j (some x)).set j1 (some x1)) (((e5.set j1 .no).set j (.va d)).set j1 (.va d1)) := rp_swap Rb rfl fun _ => ⟨x1, rfl, td1.mono sm3⟩
      have back : ∀ {e' : En} {Hb Kb : Hp}, Go Hc5 H6 (((σ.set j1 none).set j (some x)).set j1 (some x1)) (((e5.set j1 .no).set j (.va d)).set j1 (.va d1)) Hb Kb (((σ.set j1 none).set j (some x)).set j1 (some x1)) e' → Go Hc5 H6 σ e5 Hb Kb σ ((e'.set j .no).set j1 .no) := fun {e' Hb Kb} g => by
        have z := go_swap kn1 rfl (go_swap (nown_put kn rfl) rfl (go_swap (nown_put (nown_set rfl) rfl) rfl g))
        have ee : ((e'.set j1 .no).set j .no).set j1 .no = (e'.set j .no).set j1 .no := by
          rw [List.set_comm _ _ (Ne.symm hjj), List.set_set]
        rw [ee] at z
        exact z
      refine ⟨Hc5, _, _, Rc, ks k d1 acc5 e5 ed1 hK, fun b e6 Hc6 H7 pk go6 => ?_⟩
      cases b with
      | false =>
        rw [if_neg Bool.false_ne_true] at pk ⊢
        have g6 := back go6
        exact ⟨Hc6, _, acc5, vs5, pk, nown_put (nown_set rfl) rfl, nown_set rfl, by omega, keepN nw5 g6, sm3.trans g6.core, sm1.trans g6.core⟩
      | true =>
        rw [if_pos rfl] at pk ⊢
        refine tW.use go6.rep pk fun y dy e7 Hc7 H8 j7 go7 ty => ?_
        have g7 := back (go6.trans go7)
        have n7 := keepN nw5 g7
        have hl5 : vs5.length < 100000 := by
          have : ds.length ≤ 100 := hsz
          have : i * 100 ≤ 100 * 100 := Nat.mul_le_mul_right 100 (by omega)
          omega
        refine ⟨vs5, n7.at', Nat.lt_of_lt_of_le hl5 (by decide), Hc7, _, acc5 ++ [dy], vs5 ++ [y], j7, nown_put (nown_set rfl) rfl, nown_set rfl, by rw [List.length_append]; show vs5.length + 1 ≤ _; omega, ⟨go_write n7.go old n7.out n7.no, old, upd_same, Trs.append n7.tr (.cons ty .nil), n7.out, n7.no⟩, sm3.trans g7.core, sm1.trans g7.core⟩
    · have e : k = ws0.length := by omega
      subst e
      exact .inl ⟨kstop H5 s35, Hc5, e5, acc5, vs5, kF acc5 e5 (by rw [← lw]; exact hK), kn, kn1, by rw [Nat.add_mul]; omega, nw5, sm1⟩
  · have e : i = vs0.length := by omega
    subst e
    exact .inl ⟨wstop H2 s12, hQ D vs acc e2 Hc2 H2 (jF acc e2 (by rw [← lv]; exact hJ)) nw⟩
section
variable {G : Gx} {env : En} {P : PyData → En → Prop} {elt iter iter1 c : Expr} {scope : Scope} {pos pt pt1 : Pos} {x x1 : Str}
theorem w_lc2 (j j1 : Nat) (hjj : j ≠ j1) (h : WI G (.Name x pt) iter env fun ds e1 => ds.length ≤ 100 ∧ CJ2 (G.blk scope) j j1 (.Name x1 pt1) iter1 c elt ds e1 fun ds e => P (.list ds) e) (hnd : G.N.Nodup) (hb : blkC G.N G.sc scope [(x, j), (x1, j1)] = true := by first | decide +kernel | (dsimp only [Gx.blk]; decide +kernel) | rfl) (hj : G.N[j]? = some x := by rfl) (hj1 : G.N[j1]? = some x1 := by rfl)
    (hl : (relS scope G.sc).names.lookup x = some .local ∨ (relS scope G.sc).names.lookup x = some .cell := by first | exact .inl rfl | exact .inr rfl)
    (hf : scope.names.lookup x = some .cell ∨ (relS scope G.sc).names.lookup x = some .local := by first | exact .inl rfl | exact .inr rfl)
    (hl1 : (relS scope G.sc).names.lookup x1 = some .local ∨ (relS scope G.sc).names.lookup x1 = some .cell := by first | exact .inl rfl | exact .inr rfl)
    (hf1 : scope.names.lookup x1 = some .cell ∨ (relS scope G.sc).names.lookup x1 = some .local := by first | exact .inl rfl | exact .inr rfl) (hs : ∀ (v : Env) y, foldedSetIterable iter v y = pure y := by exact fun _ _ => rfl) (hs1 : ∀ (v : Env) y, foldedSetIterable iter1 v y = pure y := by exact fun _ _ => rfl) :
    W G (.ListComp elt [⟨.Name x pt, iter, [], 0⟩, ⟨.Name x1 pt1, iter1, [c], 0⟩] scope pos) env P := fun X hX => by
  obtain ⟨wi, hi, rd⟩ := h X hX
  intro pins s σ Hc H Q I R q
  have gN : ∀ {k : Nat} {y : Str} {py : Pos}, G.N[k]? = some y → ((relS scope G.sc).names.lookup y = some .local ∨ (relS scope G.sc).names.lookup y = some .cell) → (scope.names.lookup y = some .cell ∨ (relS scope G.sc).names.lookup y = some .local) → ∀ (s : Shared) (H : Hp) (C : Addr) (cl : List (Str × Addr)) (fp : List Addr), PG (X.blk s H scope (compEnvC scope cl C X.env) fp) (.Name y py) (gName k) := fun {k y py} hk hl hf s H C cl fp => by
    have i2 := inG_blk hX scope s H C cl fp
    refine pg_name (i := k) (by rw [i2.N]; exact hnd) (by rw [i2.N]; exact hk) ?_ ?_
    · show _ ∨ _
      rw [i2.sc]
      exact hl
    · rcases hf with hf | hf
      · exact .inl (by show (scope.names.lookup y == some .cell) = true; rw [hf]; rfl)
      · exact .inr (by rw [i2.sc]; exact hf)
  refine (pe_lc2 (own := [(x, j), (x1, j1)]) (vs1 := [j1]) hX.calm (by rw [hX.N]; exact hnd) hi (blkOk_by (by rw [hX.N, hX.sc]; exact hb)) (fun i hi => List.mem_cons_of_mem _ hi) (gN hj hl hf) (fun s H C cl fp => pts_nil) (fun s H C cl fp => piW (inG_blk hX scope s H C cl fp) _ _) (gN hj1 hl1 hf1) (fun s H C cl fp => pts_one (ptW (inG_blk hX scope s H C cl fp) c)) (fun s H C cl fp => peW (inG_blk hX scope s H C cl fp) elt) (hs X.env) hs1).run pins s σ H Q I ?_
  refine lc2_read hjj R (rd σ Hc H · R) fun D vs acc e2 Hc2 H2 pf nw => ?_
  have z := nw.freeze
  exact q _ _ _ _ _ pf z.1 z.2
end
end TL

/-! comprehensions of two sources without a test; extend of an owned list; list of a slice of a tuple -/
namespace TL
open PySem PySem.Spec PyProof.Rows L2
/-- the word of a comprehension of two sources with a test behind -/
structure CJ3 (G' : Gx) (j j1 : Nat) (tg1 iter1 elt : Expr) (ds : List PyData) (e0 : En) (PF : List PyData → En → Prop) : Prop where
  ex : ∃ JJ : Nat → List PyData → En → Prop, JJ 0 [] ((e0.set j .no).set j1 .no) ∧ (∀ acc e, JJ ds.length acc e → PF acc e) ∧
    ∀ i d acc e, ds[i]? = some d → JJ i acc e → WI G' tg1 iter1 ((e.set j1 .no).set j (.va d)) fun ds1 e1 => ds1.length ≤ 100 ∧
      ∃ KK : Nat → List PyData → En → Prop, KK 0 acc ((e1.set j .no).set j1 .no) ∧ (∀ acc' e', KK ds1.length acc' e' → JJ (i + 1) acc' e') ∧
        ∀ k d1 acc' e', ds1[k]? = some d1 → KK k acc' e' → W G' elt (((e'.set j1 .no).set j (.va d)).set j1 (.va d1)) fun y e3 => KK (k + 1) (acc' ++ [y]) ((e3.set j .no).set j1 .no)
theorem lc3_read {G : Gx} {scope : Scope} {j j1 : Nat} {tg1 iter1 elt : Expr} {wi : TI} {env : En} {PF : List PyData → En → Prop} {σ : L2.St} {Hc H : Hp} {Q : VK} (hjj : j ≠ j1) (R : Rp Hc H σ env)
    (hwi : ∀ R' : It → Hp → Prop, (∀ ds J env' Hc' H', (ds.length ≤ 100 ∧ CJ3 (G.blk scope) j j1 tg1 iter1 elt ds env' PF) → Go Hc H σ env Hc' H' σ env' → Walks J Hc' ds → R' J H') → wi σ H R')
    (hQ : ∀ D vs acc e2 Hc2 H2, PF acc e2 → Nw Hc H σ env D vs acc Hc2 H2 e2 → Q (.ref D) H2) :
    tLc2 wi (gName j) tYes (tWI (G.blk scope) tg1 iter1) (gName j1) tYes (tW (G.blk scope) elt) [j, j1] [j1] σ H Q := by
  refine hwi _ fun ds J e0 Hc1 H1 ⟨hsz, cj⟩ go0 wk D hD => ?_
  obtain ⟨JJ, j0, jF, js⟩ := cj.ex
  obtain ⟨vs0, tv, wgo, wyld, wstop⟩ := wk
  have lv := tv.length
  let Pv : Nat → Hp → Prop := fun i H' => ∃ Hc' e acc vs, JJ i acc e ∧ nown e j ∧ nown e j1 ∧ vs.length ≤ i * 100 ∧ Nw Hc H σ env D vs acc Hc' H' e ∧ Same Hc1 Hc'
  have old : H D = none := by
    cases q : H D with
    | none => rfl
    | some o => exact absurd hD (go0.ex D (by rw [q]; simp))
  have out1 : Hc1 D = none := Same.free go0.rep.same hD
  have g1 : Go Hc H σ env Hc1 (upd H1 D (.lst [])) σ ((e0.set j .no).set j1 .no) := go_drop j1 (go_drop j (go0.trans (go_new go0.rep hD)))
  refine ⟨fun i m H' => m = vs0.length - i ∧ i ≤ vs0.length ∧ Pv i H', ⟨vs0.length, by omega, Nat.zero_le _, Hc1, (e0.set j .no).set j1 .no, [], [], j0, nown_put (nown_set rfl) rfl, nown_set rfl, Nat.zero_le _, ⟨g1, old, upd_same, .nil, out1, fun o => own_ne_new go0.rep hD (own_set rfl (own_set rfl o))⟩, .refl _⟩, ?_⟩
  rintro i m H2 ⟨em, hi, Hc2, e2, acc, vs, hJ, hn, hn1, hl, nw, sm⟩
  subst em
  have s12 : Same Hc1 H2 := sm.trans nw.go.rep.same
  by_cases hlt : i < vs0.length
  · refine .inr ⟨wgo H2 s12 i hlt, Pv (i + 1), fun H' p' => ⟨vs0.length - (i + 1), by omega, rfl, hlt, p'⟩, fun x H' y => ?_⟩
    obtain ⟨eH, ex⟩ := wyld i H2 x H' s12 y hlt
    subst eH
    obtain ⟨d, ed, td⟩ := tv.getV ex
    have eσ : (wipe σ [j, j1]).set j (some x) = (σ.set j1 none).set j (some x) := by
      show ((σ.set j1 none).set j none).set j (some x) = _
      rw [List.set_set]
    show wipe ((wipe σ [j, j1]).set j (some x)) [j, j1] = wipe σ [j, j1] ∧ tYes ((wipe σ [j, j1]).set j (some x)) H' _
    rw [eσ]
    refine ⟨?_, ?_⟩
    · show (((σ.set j1 none).set j (some x)).set j1 none).set j none = (σ.set j1 none).set j none
      rw [List.set_comm _ _ hjj, List.set_set, List.set_set]
    have R1 : Rp Hc2 H' (σ.set j1 none) (e2.set j1 .no) := rp_swap nw.go.rep rfl fun _ => trivial
    have R2 : Rp Hc2 H' ((σ.set j1 none).set j (some x)) ((e2.set j1 .no).set j (.va d)) := rp_swap R1 rfl fun _ => ⟨x, rfl, td.mono sm⟩
    refine iteT (B := Pv (i + 1) H') ⟨Hc2, _, _, R2, js i d acc e2 ed hJ, fun ds1 J1 e1 Hc3 H3 ⟨l1, KK, k0, kF, ks⟩ go1 wk1 => ?_⟩
    obtain ⟨ws0, tw, kgo, kyld, kstop⟩ := wk1
    have lw := tw.length
    have ga := go_swap hn1 rfl (go_swap (nown_put hn rfl) rfl go1)
    have keepN : ∀ {vs1 : List V} {acc1 : List PyData} {e : En} {Ha Ka Hb Kb : Hp} {e' : En}, Nw Hc H σ env D vs1 acc1 Ha Ka e → Go Ha Ka σ e Hb Kb σ e' → Nw Hc H σ env D vs1 acc1 Hb Kb e' := fun n g =>
      ⟨n.go.trans g, old, g.kp D _ n.at' n.no, n.tr.mono g.core, g.out D (by rw [n.at']; simp) n.out n.no, fun q => (g.own D q).elim n.no fun z => by rw [n.at'] at z; cases z⟩
    let Kv : Nat → Hp → Prop := fun k H' => ∃ Hc' e acc vs, KK k acc e ∧ nown e j ∧ nown e j1 ∧ vs.length ≤ i * 100 + k ∧ Nw Hc H σ env D vs acc Hc' H' e ∧ Same Hc3 Hc' ∧ Same Hc1 Hc'
    refine ⟨fun k m H' => m = ws0.length - k ∧ k ≤ ws0.length ∧ Kv k H', ⟨ws0.length, by omega, Nat.zero_le _, Hc3, (e1.set j .no).set j1 .no, acc, vs, k0, nown_put (nown_set rfl) rfl, nown_set rfl, hl, keepN nw ga, .refl _, sm.trans ga.core⟩, ?_⟩
    rintro k m H5 ⟨em, hk, Hc5, e5, acc5, vs5, hK, kn, kn1, kl, nw5, sm3, sm1⟩
    subst em
    have s35 : Same Hc3 H5 := sm3.trans nw5.go.rep.same
    by_cases hlk : k < ws0.length
    · refine .inr ⟨kgo H5 s35 k hlk, Kv (k + 1), fun H' p' => ⟨ws0.length - (k + 1), by omega, rfl, hlk, p'⟩, fun x1 H6 y1 => ?_⟩
      obtain ⟨eH, ex1⟩ := kyld k H5 x1 H6 s35 y1 hlk
      subst eH
      obtain ⟨d1, ed1, td1⟩ := tw.getV ex1
      have eσ1 : (wipe ((σ.set j1 none).set j (some x)) [j1]).set j1 (some x1) = ((σ.set j1 none).set j (some x)).set j1 (some x1) := by
        show (((σ.set j1 none).set j (some x)).set j1 none).set j1 (some x1) = _
        rw [List.set_set]
      show wipe ((wipe ((σ.set j1 none).set j (some x)) [j1]).set j1 (some x1)) [j1] = wipe ((σ.set j1 none).set j (some x)) [j1] ∧ tYes ((wipe ((σ.set j1 none).set j (some x)) [j1]).set j1 (some x1)) H6 _
      rw [eσ1]
      refine ⟨by show (((σ.set j1 none).set j (some x)).set j1 (some x1)).set j1 none = ((σ.set j1 none).set j (some x)).set j1 none; rw [List.set_set], ?_⟩
      have Ra : Rp Hc5 H6 (σ.set j1 none) (e5.set j1 .no) := rp_swap nw5.go.rep rfl fun _ => trivial
      have Rb : Rp Hc5 H6 ((σ.set j1 none).set j (some x)) ((e5.set j1 .no).set j (.va d)) := rp_swap Ra rfl fun _ => ⟨x, rfl, td.mono sm1⟩
      have Rc : Rp Hc5 H6 (((σ.set j1 none).set j (some x)).set j1 (some x1)) (((e5.set j1 .no).set j (.va d)).set j1 (.va d1)) := rp_swap Rb rfl fun _ => ⟨x1, rfl, td1.mono sm3⟩
      have back : ∀ {e' : En} {Hb Kb : Hp}, Go Hc5 H6 (((σ.set j1 none).set j (some x)).set j1 (some x1)) (((e5.set j1 .no).set j (.va d)).set j1 (.va d1)) Hb Kb (((σ.set j1 none).set j (some x)).set j1 (some x1)) e' → Go Hc5 H6 σ e5 Hb Kb σ ((e'.set j .no).set j1 .no) := fun {e' Hb Kb} g => by
        have z := go_swap kn1 rfl (go_swap (nown_put kn rfl) rfl (go_swap (nown_put (nown_set rfl) rfl) rfl g))
        have ee : ((e'.set j1 .no).set j .no).set j1 .no = (e'.set j .no).set j1 .no := by
          rw [List.set_comm _ _ (Ne.symm hjj), List.set_set]
        rw [ee] at z
        exact z
      have made : tW (G.blk scope) elt (((σ.set j1 none).set j (some x)).set j1 (some x1)) H6 fun y H7 => ∃ acc, H7 D = some (.lst acc) ∧ acc.length < sizeLine ∧ Kv (k + 1) (upd H7 D (.lst (acc ++ [y]))) := by
        refine tW.use Rc (ks k d1 acc5 e5 ed1 hK) fun y dy e7 Hc7 H8 j7 go7 ty => ?_
        have g7 := back go7
        have n7 := keepN nw5 g7
        have hl5 : vs5.length < 100000 := by
          have : ds.length ≤ 100 := hsz
          have : i * 100 ≤ 100 * 100 := Nat.mul_le_mul_right 100 (by omega)
          omega
        refine ⟨vs5, n7.at', Nat.lt_of_lt_of_le hl5 (by decide), Hc7, _, acc5 ++ [dy], vs5 ++ [y], j7, nown_put (nown_set rfl) rfl, nown_set rfl, by rw [List.length_append]; show vs5.length + 1 ≤ _; omega, ⟨go_write n7.go old n7.out n7.no, old, upd_same, Trs.append n7.tr (.cons ty .nil), n7.out, n7.no⟩, sm3.trans g7.core, sm1.trans g7.core⟩
      exact iteT (B := Kv (k + 1) H6) made
    · have e : k = ws0.length := by omega
      subst e
      exact .inl ⟨kstop H5 s35, Hc5, e5, acc5, vs5, kF acc5 e5 (by rw [← lw]; exact hK), kn, kn1, by rw [Nat.add_mul]; omega, nw5, sm1⟩
  · have e : i = vs0.length := by omega
    subst e
    exact .inl ⟨wstop H2 s12, hQ D vs acc e2 Hc2 H2 (jF acc e2 (by rw [← lv]; exact hJ)) nw⟩
section
variable {G : Gx} {env : En} {P : PyData → En → Prop} {elt iter iter1 : Expr} {scope : Scope} {pos pt pt1 : Pos} {x x1 : Str}
theorem w_lc3 (j j1 : Nat) (hjj : j ≠ j1) (h : WI G (.Name x pt) iter env fun ds e1 => ds.length ≤ 100 ∧ CJ3 (G.blk scope) j j1 (.Name x1 pt1) iter1 elt ds e1 fun ds e => P (.list ds) e) (hnd : G.N.Nodup) (hb : blkC G.N G.sc scope [(x, j), (x1, j1)] = true := by first | decide +kernel | (dsimp only [Gx.blk]; decide +kernel) | rfl) (hj : G.N[j]? = some x := by rfl) (hj1 : G.N[j1]? = some x1 := by rfl)
    (hl : (relS scope G.sc).names.lookup x = some .local ∨ (relS scope G.sc).names.lookup x = some .cell := by first | exact .inl rfl | exact .inr rfl)
    (hf : scope.names.lookup x = some .cell ∨ (relS scope G.sc).names.lookup x = some .local := by first | exact .inl rfl | exact .inr rfl)
    (hl1 : (relS scope G.sc).names.lookup x1 = some .local ∨ (relS scope G.sc).names.lookup x1 = some .cell := by first | exact .inl rfl | exact .inr rfl)
    (hf1 : scope.names.lookup x1 = some .cell ∨ (relS scope G.sc).names.lookup x1 = some .local := by first | exact .inl rfl | exact .inr rfl) (hs : ∀ (v : Env) y, foldedSetIterable iter v y = pure y := by exact fun _ _ => rfl) (hs1 : ∀ (v : Env) y, foldedSetIterable iter1 v y = pure y := by exact fun _ _ => rfl) :
    W G (.ListComp elt [⟨.Name x pt, iter, [], 0⟩, ⟨.Name x1 pt1, iter1, [], 0⟩] scope pos) env P := fun X hX => by
  obtain ⟨wi, hi, rd⟩ := h X hX
  intro pins s σ Hc H Q I R q
  have gN : ∀ {k : Nat} {y : Str} {py : Pos}, G.N[k]? = some y → ((relS scope G.sc).names.lookup y = some .local ∨ (relS scope G.sc).names.lookup y = some .cell) → (scope.names.lookup y = some .cell ∨ (relS scope G.sc).names.lookup y = some .local) → ∀ (s : Shared) (H : Hp) (C : Addr) (cl : List (Str × Addr)) (fp : List Addr), PG (X.blk s H scope (compEnvC scope cl C X.env) fp) (.Name y py) (gName k) := fun {k y py} hk hl hf s H C cl fp => by
    have i2 := inG_blk hX scope s H C cl fp
    refine pg_name (i := k) (by rw [i2.N]; exact hnd) (by rw [i2.N]; exact hk) ?_ ?_
    · show _ ∨ _
      rw [i2.sc]
      exact hl
    · rcases hf with hf | hf
      · exact .inl (by show (scope.names.lookup y == some .cell) = true; rw [hf]; rfl)
      · exact .inr (by rw [i2.sc]; exact hf)
  refine (pe_lc2 (own := [(x, j), (x1, j1)]) (vs1 := [j1]) hX.calm (by rw [hX.N]; exact hnd) hi (blkOk_by (by rw [hX.N, hX.sc]; exact hb)) (fun i hi => List.mem_cons_of_mem _ hi) (gN hj hl hf) (fun s H C cl fp => pts_nil) (fun s H C cl fp => piW (inG_blk hX scope s H C cl fp) _ _) (gN hj1 hl1 hf1) (fun s H C cl fp => pts_nil) (fun s H C cl fp => peW (inG_blk hX scope s H C cl fp) elt) (hs X.env) hs1).run pins s σ H Q I ?_
  refine lc3_read hjj R (rd σ Hc H · R) fun D vs acc e2 Hc2 H2 pf nw => ?_
  have z := nw.freeze
  exact q _ _ _ _ _ pf z.1 z.2
end
end TL

/-! extend of an owned list; list of a slice of a tuple -/
namespace TL
open PySem PySem.Spec PyProof.Rows L2
theorem Trs.dropN {H : Hp} : ∀ {vs : List V} {ds : List PyData} (i : Nat), Trs H vs ds → Trs H (vs.drop i) (ds.drop i)
  | _, _, 0, t => by simpa using t
  | _, _, _ + 1, .nil => .nil
  | _, _, i + 1, .cons _ u => by simpa using Trs.dropN i u
theorem Trs.takeN {H : Hp} : ∀ {vs : List V} {ds : List PyData} (i : Nat), Trs H vs ds → Trs H (vs.take i) (ds.take i)
  | _, _, 0, _ => .nil
  | _, _, _ + 1, .nil => .nil
  | _, _, i + 1, .cons t u => .cons t (Trs.takeN i u)
section
variable {G : Gx} {env : En} {P : PyData → En → Prop} {N : DE} {rest : List Stmt} {a b c e : Expr} {pos px p p2 pc : Pos} {x : Str}
theorem r_extend (i : Nat) {ds0 : List PyData} (he : env[i]? = some (.ow ds0)) (h : W G e env fun d e1 => ∃ ds zs, d = .list zs ∧ e1[i]? = some (.ow ds) ∧ ds.length + zs.length < 100000 ∧ Rs G rest (e1.set i (.ow (ds ++ zs))) N)
    {pa ps2 : Pos} (hi : G.N[i]? = some x := by rfl) (hv : Vis G.sc x := by first | exact Or.inl rfl | exact Or.inr (Or.inl rfl) | exact Or.inr (Or.inr rfl)) (ns : noStar [e] = true := by rfl) (hline : (pa.endLine == pc.line) = true := by rfl)
    (hd : (x == ("__debug__" : Str)) = false := by decide) (hcd : (x == ("__classdict__" : Str)) = false := by decide) :
    Rs G (.Expr (.Call (.Attribute (.Name x px) "extend" pa) [e] [] pc) ps2 :: rest) env N :=
  Rs.of (fun X => tSeq (tDrop (tBM X.K "list" rExtend (tVar i) (tCons (tW G e) tNil))) (tRs G rest)) (fun X hX => pss_cons (ps_expr (pe_bm PySem.F.plainAttrs_list PySem.F.slot_list_extend PySem.F.type_list_extend mt_extend (pvG hX.g i hi hv hd hcd) (paW hX.g [e] ns) rfl (by rw [star_cons (noStar_cons ns).1]; rfl) hline (star_cons (noStar_cons ns).1) (star_any (noStar_cons ns).2)) rfl) (pssR hX rest)) fun X hX σ Hc H D R q => by
    obtain ⟨p0, vs0, ep, c0, m0, _⟩ := R.ok i _ he
    refine ⟨_, ep, .inl ⟨rfl, _, SqL.of m0⟩, tW.use R h fun v d e1 Hc1 H1 ⟨ds, zs, edd, ed, hl, hr⟩ go t => ?_⟩
    subst edd
    obtain ⟨p1, vs1, ep1, c1, m1, t1⟩ := go.rep.ok i _ ed
    rw [ep] at ep1
    cases ep1
    cases t with
    | @lst bb ws _ mb kb =>
      refine ⟨p0, bb, vs1, ws, rfl, rfl, m1, go.rep.same _ _ mb, by rw [t1.length, kb.length]; exact Nat.le_of_lt (Nat.lt_of_lt_of_le hl (by decide)), ?_⟩
      have g := go_own (o := .lst (vs1 ++ ws)) (t := .ow (ds ++ zs)) go.rep ed rfl ep c1 rfl (by rw [ep]; exact ⟨p0, _, rfl, c1, upd_same, Trs.append t1 kb⟩)
      exact tRs.use g.rep hr (q.from (go.trans g))
theorem cut_nat (vs : List V) {i j : Nat} (hij : i ≤ j) (hj : j ≤ vs.length) : HT.sIx vs.length 0 (some (i : Int)) = i ∧ HT.sIx vs.length vs.length (some (j : Int)) = j := by
  rw [HT.sIx_nat, HT.sIx_nat]
  omega
/-- list(a[b:c]), a a tuple -/
theorem w_listSl {p0 pos2 : Pos} (hm : G.mg "list" = none) (h : W G a env fun x e1 => ∃ xs, x = .tuple xs ∧ W G b e1 fun y e2 => ∃ i : Nat, y = .int (i : Int) ∧ W G c e2 fun z e3 => ∃ j : Nat, z = .int (j : Int) ∧ i ≤ j ∧ j ≤ xs.length ∧ P (.list ((xs.drop i).take (j - i))) e3) (hg : GlG G "list" := by rfl) (ns : noStar [Expr.Subscript a (.Slice (some b) (some c) none p2) pos2] = true := by rfl) :
    W G (.Call (.Name "list" p0) [.Subscript a (.Slice (some b) (some c) none p2) pos2] [] pos) env P :=
  W.of (fun X => tCB (fun xs H Q => ∃ p ys, xs = [V.ref p] ∧ (SqL X.K H p ys ∨ SqT X.K H p ys) ∧ ∀ l, H l = none → Q (.ref l) (upd H l (.lst ys))) (tCons (tSl (rSlA X.K) (tW G a) (tPart (tW G b)) (tPart (tW G c))) tNil))
    (fun X hX => pe_callTy call_list_of (glX hX hg) (by rw [hX.mg]; exact hm) boot_list (pa_cons (pe_slice sl_tupA (peW hX a) (po_some (peW hX b)) (po_some (peW hX c))) pa_nil (star_cons (noStar_cons ns).1)) (by decide) (by decide) (star_cons (noStar_cons ns).1) (star_any (noStar_cons ns).2)) fun X hX σ Hc H Q R q =>
    tW.use R h fun v d e1 Hc1 H1 ⟨xs, ed, h2⟩ go t => by
      subst ed
      cases t with
      | @tup aa vs _ m k =>
        refine tW.use go.rep h2 fun w d2 e2 Hc2 H2 ⟨i, ei, h3⟩ go2 t2 => ?_
        subst ei
        cases t2
        refine ⟨_, rfl, tW.use go2.rep h3 fun w d3 e3 Hc3 H3 ⟨j, ej, hij, hj, pd⟩ go3 t3 => ?_⟩
        subst ej
        cases t3
        have gg := go2.trans go3
        have sq : SqT X.K H3 aa vs := (m.mono (gg.core.trans go3.rep.same)).sq
        have lk := k.length
        obtain ⟨c1, c2⟩ := cut_nat vs hij (by omega)
        have tk : Trs Hc3 ((vs.drop i).take (j - i)) ((xs.drop i).take (j - i)) := Trs.takeN _ (Trs.dropN _ (k.mono gg.core))
        refine ⟨_, rfl, aa, vs, rfl, sq, fun hw => ?_, fun hw p' hp => ?_⟩
        · rw [c1, c2] at hw
          obtain ⟨w1, w2⟩ := hw
          subst w1
          have ew : (vs.drop 0).take (j - 0) = vs := by rw [List.drop_zero, Nat.sub_zero, w2, List.take_length]
          rw [ew] at tk
          refine ⟨_, _, rfl, .inr sq, fun l hl => ?_⟩
          have x := Ext.new (o := .lst vs) go3.rep.same hl
          exact q _ _ _ _ _ pd ((go.trans gg).trans (x.go go3.rep)) (.lst upd_same (tk.mono x.core))
        · have ec : cutV vs (some (i : Int)) (some (j : Int)) = (vs.drop i).take (j - i) := by
            unfold cutV
            rw [c1, c2]
          rw [ec]
          have x1 := Ext.new (o := .tup ((vs.drop i).take (j - i))) go3.rep.same hp
          refine ⟨p', _, rfl, .inr (.inl (.inl upd_same)), fun l hl => ?_⟩
          have g1 := (go.trans gg).trans (x1.go go3.rep)
          have x2 := Ext.new (o := .lst ((vs.drop i).take (j - i))) g1.rep.same hl
          exact q _ _ _ _ _ pd (g1.trans (x2.go g1.rep)) (.lst upd_same ((tk.mono x1.core).mono x2.core))
end
end TL

/-! constants; reversed; for x, y in ..; calls with keywords; zip of a tuple and a list -/
namespace TL
open PySem PySem.Spec PyProof.Rows L2
/-! ### displays of constants -/
def constE : Nat → Expr → Option PyData
  | 0, _ => none
  | n + 1, e => match e with
    | .Constant (.int i) _ _ => some (.int i)
    | .Constant (.str x) _ _ => some (.str x)
    | .Constant (.bool b) _ _ => some (.bool b)
    | .Constant .none _ _ => some .none
    | .UnaryOp .USub a _ => match constE n a with
      | some (.int i) => some (.int (-i))
      | _ => none
    | .Tuple es _ _ => if es.length ≤ 1000 then (es.mapM (constE n)).map .tuple else none
    | .List es _ => if es.length ≤ 1000 then (es.mapM (constE n)).map .list else none
    | _ => none
theorem constE_star {n : Nat} {e : Expr} {d : PyData} (h : constE n e = some d) : isStar e = false := by
  cases n with
  | zero => cases h
  | succ n => cases e <;> first | rfl | cases h
theorem mapM_cons {α β : Type} {f : α → Option β} {a : α} {l : List α} {r : List β} (h : (a :: l).mapM f = some r) : ∃ b bs, r = b :: bs ∧ f a = some b ∧ l.mapM f = some bs := by
  rw [List.mapM_cons] at h
  cases ha : f a with
  | none => rw [ha] at h; cases h
  | some b =>
    cases hl : l.mapM f with
    | none => rw [ha, hl] at h; cases h
    | some bs =>
      rw [ha, hl] at h
      exact ⟨b, bs, (Option.some.inj h).symm, rfl, rfl⟩
theorem constAll {G : Gx} {env : En} {n : Nat} (ih : ∀ (e : Expr) (d : PyData) (P : PyData → En → Prop), constE n e = some d → P d env → W G e env P) :
    ∀ (es : List Expr) (ds : List PyData) (P : List PyData → En → Prop), es.mapM (constE n) = some ds → P ds env → noStar es = true ∧ ds.length = es.length ∧ WA G es env P
  | [], ds, P, h, p => by
    have : ds = [] := by
      rw [List.mapM_nil] at h
      exact (Option.some.inj h).symm
    subst this
    exact ⟨rfl, rfl, p⟩
  | e :: es, ds, P, h, p => by
    obtain ⟨b, bs, er, hb, hbs⟩ := mapM_cons h
    subst er
    obtain ⟨h1, h2, h3⟩ := constAll ih es bs (fun ds e2 => P (b :: ds) e2) hbs p
    refine ⟨?_, by rw [List.length_cons, List.length_cons, h2], ih e b _ hb h3⟩
    show (!isStar e && noStar es) = true
    rw [constE_star hb, h1]
    rfl
theorem w_const {G : Gx} {env : En} : ∀ (n : Nat) (e : Expr) (d : PyData) (P : PyData → En → Prop), constE n e = some d → P d env → W G e env P
  | 0, _, _, _, h, _ => by cases h
  | n + 1, e, d, P, h, p => by
    have ih := w_const (G := G) (env := env) n
    have lim : ∀ {k : Nat}, k ≤ 1000 → k ≤ sizeLine := fun h => Nat.le_trans h (by decide)
    cases e with
    | Constant c j pos =>
      cases c <;> first | (cases h; first | exact w_int p | exact w_str p | exact w_bl p | exact w_non p) | cases h
    | UnaryOp op a pos =>
      cases op <;> try (cases h)
      have h' : (match constE n a with | some (.int i) => some (PyData.int (-i)) | _ => none) = some d := h
      cases q : constE n a with
      | none => rw [q] at h'; cases h'
      | some b =>
        rw [q] at h'
        cases b <;> try (cases h')
        exact w_neg (ih a _ _ q ⟨_, rfl, p⟩)
    | Tuple es c pos =>
      have h' : (if es.length ≤ 1000 then (es.mapM (constE n)).map PyData.tuple else none) = some d := h
      by_cases hl : es.length ≤ 1000
      · rw [if_pos hl] at h'
        cases q : es.mapM (constE n) with
        | none => rw [q] at h'; cases h'
        | some ds =>
          rw [q] at h'
          have e : d = .tuple ds := (Option.some.inj h').symm
          subst e
          obtain ⟨h1, h2, h3⟩ := constAll ih es ds (fun ds e => ds.length ≤ sizeLine ∧ P (.tuple ds) e) q ⟨lim (by
            obtain ⟨_, z, _⟩ := constAll ih es ds (fun _ _ => True) q trivial
            omega), p⟩
          exact w_tup h3 h1
      · rw [if_neg hl] at h'
        cases h'
    | List es pos =>
      have h' : (if es.length ≤ 1000 then (es.mapM (constE n)).map PyData.list else none) = some d := h
      by_cases hl : es.length ≤ 1000
      · rw [if_pos hl] at h'
        cases q : es.mapM (constE n) with
        | none => rw [q] at h'; cases h'
        | some ds =>
          rw [q] at h'
          have e : d = .list ds := (Option.some.inj h').symm
          subst e
          obtain ⟨h1, h2, h3⟩ := constAll ih es ds (fun ds e => ds.length ≤ sizeLine ∧ P (.list ds) e) q ⟨lim (by
            obtain ⟨_, z, _⟩ := constAll ih es ds (fun _ _ => True) q trivial
            omega), p⟩
          exact w_lst h3 h1
      · rw [if_neg hl] at h'
        cases h'
    | _ => cases h
/-! ### reversed(a tuple) -/
section
variable {G : Gx} {env : En} {tg e a b : Expr} {p pos px py pt : Pos} {x y : Str}
theorem trs_get {H : Hp} : ∀ {vs : List V} {ds : List PyData}, vs.length = ds.length → (∀ (i : Nat) v d, vs[i]? = some v → ds[i]? = some d → Tr H v d) → Trs H vs ds
  | [], [], _, _ => .nil
  | [], _ :: _, h, _ => by cases h
  | _ :: _, [], h, _ => by cases h
  | v :: vs, d :: ds, h, k => .cons (k 0 v d rfl rfl) (trs_get (by simpa using h) fun i a b e1 e2 => k (i + 1) a b (by simpa using e1) (by simpa using e2))
theorem walks_rev {K : PySem.W.Frag} {Hc : Hp} {a : Addr} {vs : List V} {ds : List PyData} (sq : ∀ {H'}, Same Hc H' → SqT K H' a vs) (t : Trs Hc vs ds) : Walks (RT.ItvT K a vs.length) Hc ds.reverse := by
  refine ⟨vs.reverse, trs_get (by rw [List.length_reverse, List.length_reverse, t.length]) fun i v d e1 e2 => ?_, fun H' s i hi => ?_, fun i H' x H'' s y hi => ?_, fun H' s => by show vs.length ≤ _; rw [List.length_reverse]; exact Nat.le_refl _⟩
  · have hi : i < vs.length := by have := (List.getElem?_eq_some_iff.mp e1).1; rw [List.length_reverse] at this; exact this
    rw [List.getElem?_reverse hi] at e1
    rw [List.getElem?_reverse (by rw [← t.length]; exact hi), ← t.length] at e2
    obtain ⟨d', e3, t'⟩ := t.getV e1
    rw [e2] at e3
    cases e3
    exact t'
  · rw [List.length_reverse] at hi
    exact ⟨hi, vs, vs[vs.length - 1 - i], sq s, List.getElem?_eq_getElem (by omega)⟩
  · rw [List.length_reverse] at hi
    refine ⟨y.1, ?_⟩
    rw [List.getElem?_reverse hi]
    exact y.2 vs (sq s)
theorem wi_revT {P : List PyData → En → Prop} (hm : G.mg "reversed" = none) (h : W G e env fun d e1 => ∃ ds, d = .tuple ds ∧ P ds.reverse e1) (hg : GlG G "reversed" := by rfl) (ns : noStar [e] = true := by rfl) : WI G tg (.Call (.Name "reversed" p) [e] [] pos) env P := fun X hX =>
  ⟨_, RT.pi_revA (glX hX hg) (by rw [hX.mg]; exact hm) (peW hX e) (star_cons (noStar_cons ns).1), fun σ Hc H R r q => tW.use r h fun v d e1 Hc1 H1 ⟨ds, ed, pd⟩ go t => by
    subst ed
    cases t with
    | @tup a vs _ m k =>
      have sq : ∀ {H'}, Same Hc1 H' → SqT X.K H' a vs := fun s => (m.mono s).sq
      exact ⟨a, vs, rfl, .inr ⟨sq go.rep.same, q _ _ e1 Hc1 H1 pd go (walks_rev sq k)⟩⟩⟩
/-! ### for x, y in .. -/
theorem r_forP {N : DE} {rest : List Stmt} (jx jy : Nat) {k1} {iter : Expr} {body : List Stmt} (hnd : G.N.Nodup)
    (h : WI2 G (.Tuple [.Name x px, .Name y py] k1 pt) iter env fun ps e1 => ∃ J : Nat → En → Prop, J 0 e1 ∧ (∀ i p e, ps[i]? = some p → J i e → Rs G body ((e.set jx (.va p.1)).set jy (.va p.2)) { nx := J (i + 1), ct := J (i + 1), rt := N.rt, rv := N.rv, bk := fun e2 => Rs G rest e2 N }) ∧ ∀ e, J ps.length e → Rs G rest e N)
    (hj : G.N[jx]? = some x := by rfl) (hx : Loc G.sc x := by first | exact Or.inl rfl | exact Or.inr rfl) (hj2 : G.N[jy]? = some y := by rfl) (hy : Loc G.sc y := by first | exact Or.inl rfl | exact Or.inr rfl) (hs : ∀ (v : Env) y, foldedSetIterable iter v y = pure y := by exact fun _ _ => rfl) :
    Rs G (.For (.Tuple [.Name x px, .Name y py] k1 pt) iter body [] pos :: rest) env N := fun X hX => by
  obtain ⟨wi, hw, rd⟩ := h X hX.g
  intro pins s σ Hc H D I R q
  refine (pss_cons (ps_for (by rw [hX.xe]; exact PassesOwn.never) hX.g.calm hw (pg_tup hX.g.calm (pgs_cons (pg_name (i := jx) (hX.nodup hnd) (hX.at' hj) (hX.loc hx) (.inl (hX.fn x))) (pgs_cons (pg_name (i := jy) (hX.nodup hnd) (hX.at' hj2) (hX.loc hy) (.inl (hX.fn y))) pgs_nil)) rfl rfl) (pssR hX body) (hs X.env)) (pssR hX rest)).run pins s σ H D I ?_
  refine rd σ Hc H _ R fun ps J e1 Hc1 H1 ⟨JJ, j0, js, jF⟩ go wk => ?_
  obtain ⟨vs0, lv, tv, wgo, wyld, wstop⟩ := wk
  refine ⟨fun i m σ' H' => m = vs0.length - i ∧ i ≤ vs0.length ∧ ∃ Hc' e, JJ i e ∧ Go Hc H σ env Hc' H' σ' e ∧ Same Hc1 Hc', ⟨vs0.length, by omega, Nat.zero_le _, Hc1, e1, j0, go, .refl _⟩, ?_⟩
  rintro i m σ2 H2 ⟨em, hi, Hc2, e2, hJ, g2, sm⟩
  subst em
  have s12 : Same Hc1 H2 := sm.trans g2.rep.same
  by_cases hlt : i < vs0.length
  · refine .inr ⟨wgo H2 s12 i hlt, fun σ' H' => ∃ Hc' e, JJ (i + 1) e ∧ Go Hc H σ env Hc' H' σ' e ∧ Same Hc1 Hc', fun σ' H' ⟨Hc', e, p1, p2, p3⟩ => ⟨vs0.length - (i + 1), by omega, rfl, hlt, Hc', e, p1, p2, p3⟩, fun z H' yy => ?_⟩
    obtain ⟨T, u, v, ex, hT, eH, ev⟩ := wyld i H2 z H' s12 yy hlt
    subst ex eH
    obtain ⟨d, d', ed, td, td'⟩ := tv i u v ev
    have gN : Go Hc2 H2 σ2 e2 Hc2 (upd H2 T (.tup [u, v])) σ2 e2 := go_new g2.rep hT
    have ga := go_asg (j := jx) (t := .va d) (o := some u) gN.rep rfl ⟨u, rfl, td.mono sm⟩
    have gc := go_asg (j := jy) (t := .va d') (o := some v) ga.rep rfl ⟨v, rfl, td'.mono sm⟩
    have gb := ((g2.trans gN).trans ga).trans gc
    refine ⟨T, [u, v], rfl, .inl (.inl upd_same), rfl, u, [v], rfl, v, [], rfl, rfl, ?_⟩
    refine tRs.use gc.rep (js i (d, d') e2 ed hJ) ⟨fun e σ' Hc' H' p g => ⟨Hc', e, p, gb.trans g, sm.trans g.core⟩, fun v d e σ' Hc' H' p g => q.rt v d e σ' Hc' H' p (gb.trans g), fun e σ' Hc' H' p g => ?_, fun e σ' Hc' H' p g => ⟨Hc', e, p, gb.trans g, sm.trans g.core⟩, (q.from gb).rv⟩
    exact tRs.use g.rep p (q.from (gb.trans g))
  · have e : i = vs0.length := by omega
    subst e
    exact .inl ⟨wstop H2 s12, tRs.use g2.rep (jF e2 (by rw [← lv]; exact hJ)) (q.from g2)⟩
/-! ### zip of a tuple and a list -/
theorem wi_zipTL {tgs : List Expr} {kk : Nat} {P : List (PyData × PyData) → En → Prop} {tpos : Pos} (hm : G.mg "zip" = none) (h : WA G [a, b] env fun ds e1 => ∃ xs ys, ds = [.tuple xs, .list ys] ∧ xs.length = ys.length ∧ P (xs.zip ys) e1) (hg : GlG G "zip" := by rfl) (ns : noStar [a, b] = true := by rfl)
    (hpl : ∀ v : Env, (backTo pos (starEach [b] v)).any (·.1) = false := by exact fun _ => rfl) : WI2 G (.Tuple tgs kk tpos) (.Call (.Name "zip" p) [a, b] [] pos) env P := fun X hX =>
  ⟨_, pi_zipN (glX hX hg) (by rw [hX.mg]; exact hm) (paW hX [a, b] ns) (star_cons (noStar_cons ns).1) (hpl _), fun σ Hc H R r q => tWA.use r h fun vs ds e1 Hc1 H1 ⟨xs, ys, e, hl, pd⟩ go t => by
    subst e
    cases t with
    | cons t tn =>
      cases tn with
      | cons t' tn =>
        cases tn
        cases t with
        | @tup a vs _ m k =>
          cases t' with
          | @lst b ws _ m' k' =>
            have sq : ∀ {H'}, Same Hc1 H' → SqT X.K H' a vs := fun s => (m.mono s).sq
            have sq' : ∀ {H'}, Same Hc1 H' → SqL X.K H' b ws := fun s => SqL.of (s _ _ m')
            have lk := k.length
            have lk' := k'.length
            have lz : (vs.zip ws).length = vs.length := by rw [List.length_zip, lk, lk', hl, Nat.min_self]
            refine ⟨a, b, vs, ws, rfl, sq go.rep.same, sq' go.rep.same, q _ _ e1 Hc1 H1 pd go ⟨vs.zip ws, ?_, fun i x y e => ?_, fun H' s i hi => ?_, fun i H' x H'' s y hi => ?_, fun H' s => ⟨vs, ws, sq s, sq' s, lz.symm, by rw [lz, lk, lk', hl]⟩⟩⟩
            · rw [List.length_zip, List.length_zip, lk, lk']
            · obtain ⟨e1, e2⟩ := List.getElem?_zip_eq_some.mp e
              obtain ⟨d, ed, td⟩ := k.getV e1
              obtain ⟨d', ed', td'⟩ := k'.getV e2
              exact ⟨d, d', List.getElem?_zip_eq_some.mpr ⟨ed, ed'⟩, td, td'⟩
            · rw [lz] at hi
              have hi' : i < ws.length := by omega
              exact ⟨vs, ws, vs[i], ws[i], sq s, sq' s, List.getElem?_eq_getElem hi, List.getElem?_eq_getElem hi'⟩
            · obtain ⟨T, u, v, ex, hT, eH, f, f'⟩ := y
              exact ⟨T, u, v, ex, hT, eH, List.getElem?_zip_eq_some.mpr ⟨f vs (sq s), f' ws (sq' s)⟩⟩⟩
end
/-! ### calls with keywords -/
section
variable {G : Gx} {env : En} {P : PyData → En → Prop} {e : Expr} {es : List Expr} {pos p : Pos} {x : Str} {k n : Nat} {f : Addr} {fd : FuncData} {ps ks : List Str} {pre : List PyData → Prop} {post : List PyData → PyData → Prop}
/-- a shuffle that is the same for values, their words and their data -/
structure Shf (g : {α : Type} → List α → List α → List α) : Prop where
  rel : ∀ {α β : Type} (R : α → β → Prop) {a : List α} {b : List β} {c : List α} {d : List β}, All2 R a b → All2 R c d → All2 R (g a c) (g b d)
structure KB (fd : FuncData) (ps : List Str) (n : Nat) (ks : List Str) (g : {α : Type} → List α → List α → List α) : Prop where
  to : ∀ (s : Shared) (us ws : List Value), us.length = n → ws.length = ks.length → BindsTo s fd ⟨us, ks.zip ws⟩ (ps.zip (g us ws))
theorem all2_vals : ∀ {vs : List V} {us : List Value}, Vals vs us ↔ All2 RelV vs us
  | [], [] => ⟨fun _ => trivial, fun _ => .nil⟩
  | v :: vs, u :: us => ⟨fun h => by cases h with | cons r s => exact ⟨r, all2_vals.mp s⟩, fun h => .cons h.1 (all2_vals.mpr h.2)⟩
  | [], _ :: _ => ⟨fun h => (nomatch h), fun h => h.elim⟩
  | _ :: _, [] => ⟨fun h => (nomatch h), fun h => h.elim⟩
theorem all2_trs {H : Hp} : ∀ {vs : List V} {us : List PyData}, Trs H vs us ↔ All2 (Tr H) vs us
  | [], [] => ⟨fun _ => trivial, fun _ => .nil⟩
  | v :: vs, u :: us => ⟨fun h => by cases h with | cons r s => exact ⟨r, all2_trs.mp s⟩, fun h => .cons h.1 (all2_trs.mpr h.2)⟩
  | [], _ :: _ => ⟨fun h => (nomatch h), fun h => h.elim⟩
  | _ :: _, [] => ⟨fun h => (nomatch h), fun h => h.elim⟩
theorem pkW {X : Cx} (hX : InG G X) : ∀ kws : List Keyword, PK X kws (tWA G (kws.map (·.value)))
  | [] => pk_nil
  | ⟨nm, e, kpos⟩ :: kws => pk_cons (peW hX e) (pkW hX kws)
structure CalleeK (G : Gx) (x : Str) (k : Nat) (f : Addr) (fd : FuncData) (ps : List Str) (n : Nat) (ks : List Str) (g : {α : Type} → List α → List α → List α) (sp : Sp) : Prop where
  fn : FnG G.P G.w G.K G.mg G.base k f fd ps sp
  room : Room k G.A
  gd : G.A.guards = some []
  mg : G.mg x = some (.ref f)
  kp : PySem.W.keepIn G.K (.ref f) = true
  kb : KB fd ps n ks g
  sh : Shf g
theorem w_callK {g : {α : Type} → List α → List α → List α} {kws : List Keyword} (C : CalleeK G x k f fd ps n ks g (spP pre post))
    (h : WA G (e :: es) env fun ds e1 => ds.length = n ∧ WA G (kws.map (·.value)) e1 fun zs e2 => zs.length = ks.length ∧ pre (g ds zs) ∧ ∀ d, post (g ds zs) d → P d e2)
    (hall : ∀ v : Env, (backToKw pos (keywordEach kws v)).all (·.1.isSome) = true := by exact fun _ => rfl) (hks : ∀ v : Env, (backToKw pos (keywordEach kws v)).filterMap (·.1) = ks := by exact fun _ => rfl)
    (hg : GlG G x := by rfl) (ns : noStar (e :: es) = true := by rfl) (hdb : (x == ("__debug__" : Str)) = false := by decide)
    (hpl : ∀ v : Env, ((backTo pos (starEach (e :: es) v)).any (·.1) || (backToKw pos (keywordEach kws v)).any (·.1.isNone)) = false := by exact fun _ => rfl) :
    W G (.Call (.Name x p) (e :: es) kws pos) env P := fun X hX pins s σ Hc H Q I R q => by
  have c1 := C.fn
  rw [← hX.P, ← hX.w, ← hX.K, ← hX.mg, ← hX.base] at c1
  have hk : PySem.W.keepIn X.K (.ref f) = true := by rw [hX.K]; exact C.kp
  refine wpAny_Call_Name_kw (ld_glob I (glX hX hg) (by rw [hX.mg]; exact C.mg) ?_ hdb)
  refine PySem.W.callWith_KW (h₀ := X.base) I.ok.mod.kin hk (hall _) ?_ (hpl _) (star_cons (noStar_cons ns).1)
  refine thn ((paW hX (e :: es) ns).run pos pins s σ H (fun vs H1 => tWA G (kws.map (·.value)) σ H1 fun zs H2 => vs.length = n ∧ zs.length = ks.length ∧ spP pre post (g vs zs) H2 Q E0) I (tWA.use R h fun vs ds e1 Hc1 H1 ⟨l1, h2⟩ go t => tWA.use go.rep h2 fun zs cs e2 Hc2 H2 ⟨l2, hp, hq⟩ go2 t2 => ?_)) fun us s1 ⟨vs, H1, I1, r, q1⟩ => ?_
  · have t1 := all2_trs.mp t2
    have t0 := all2_trs.mp (show Trs Hc2 vs ds from by
      have : ∀ {vs : List V} {ds : List PyData}, Trs Hc1 vs ds → Trs Hc2 vs ds := fun t => Trs.mono go2.core t
      exact this t)
    exact ⟨by rw [t.length]; exact l1, by rw [t2.length]; exact l2, g ds cs, Hc2, all2_trs.mpr (C.sh.rel _ t0 t1), go2.rep.same, hp, fun v d Hc' H' pd x t' => q _ _ _ _ _ (hq d pd) ((go.trans go2).trans (x.go go2.rep)) t'⟩
  · refine thn ((pkW hX kws).run pos pins s1 σ H1 _ I1 q1) fun ws s2 ⟨zs, H2, I2, rz, l1, l2, q2⟩ => ⟨I2.kIn, ?_⟩
    rw [hks]
    have r2 : Vals (g vs zs) (g us ws) := all2_vals.mpr (C.sh.rel _ (all2_vals.mp r) (all2_vals.mp rz))
    refine wpAny_call (codeAny_mono (c1.run X.A X.stack s2 H2 ⟨us, ks.zip ws⟩ (g us ws) (g vs zs) Q E0 (by rw [hX.A]; exact C.gd) (by rw [hX.A]; exact C.room) I2.env0 (C.kb.to s2 us ws (r.length.symm.trans l1) (rz.length.symm.trans l2)) r2 q2) fun rr s' hq => ?_)
    cases rr with
    | error e => exact hq.elim
    | ok fl =>
      cases fl with
      | ret u => exact I2.after hq
      | next => exact hq.elim
      | brk => exact hq.elim
      | cont => exact hq.elim
end
end TL

/-! three names at once, one of them a new dict of nested keys -/
namespace TL
open PySem PySem.Spec PyProof.Rows L2
/-- a name gets a new dict of nested keys -/
theorem go_asgDn {P : Program} {w : World} {Hc H : Hp} {σ : L2.St} {env : En} {i : Nat} {p : Addr} (R : Rp Hc H σ env) (hp : H p = none) (hil : i < env.length) : Go Hc H σ env Hc (upd H p (.ext (DnO P w p []))) (σ.set i (some (.ref p))) (env.set i (.dn P w p [])) := by
  have g0 := go_new (o := .ext (DnO P w p [])) R hp
  have nd := own_ne_new R hp
  have hc := Same.free R.same hp
  have il := lt_of_N R hil
  have hs : ∀ {j : Nat} {s : Sl}, (env.set i (.dn P w p []))[j]? = some s → (j = i ∧ s = .dn P w p []) ∨ (j ≠ i ∧ env[j]? = some s) := by
    intro j s e
    by_cases hj : j = i
    · subst hj
      rw [List.getElem?_set_self hil] at e
      cases e
      exact .inl ⟨rfl, rfl⟩
    · rw [List.getElem?_set_ne (Ne.symm hj)] at e
      exact .inr ⟨hj, e⟩
  refine ⟨⟨g0.rep.same, fun j s e => ?_, fun j l s t a h1 h2 h3 h4 h5 h6 => ?_, by rw [List.length_set, List.length_set]; exact R.len⟩, g0.core, g0.kp, g0.out, fun a o => ?_, g0.ex⟩
  · rcases hs e with ⟨e1, e2'⟩ | ⟨e1, e2'⟩
    · subst e1 e2'
      rw [List.getElem?_set_self il]
      exact ⟨rfl, hc, [], upd_same, rfl, fun _ h => (nomatch h)⟩
    · rw [List.getElem?_set_ne (Ne.symm e1)]
      exact g0.rep.ok j s e2'
  · rcases hs h1 with ⟨e1, e3⟩ | ⟨e1, e3⟩
    · subst e1
      rcases hs h2 with ⟨f1, f3⟩ | ⟨f1, f3⟩
      · exact f1.symm
      · rw [List.getElem?_set_self il] at h5
        cases h5
        rw [List.getElem?_set_ne (Ne.symm f1)] at h6
        exact (nd ⟨_, _, f3, h4, h6⟩).elim
    · rw [List.getElem?_set_ne (Ne.symm e1)] at h5
      rcases hs h2 with ⟨f1, f3⟩ | ⟨f1, f3⟩
      · subst f1
        rw [List.getElem?_set_self il] at h6
        cases h6
        exact (nd ⟨_, _, e3, h3, h5⟩).elim
      · rw [List.getElem?_set_ne (Ne.symm f1)] at h6
        exact R.inj j l s t a e3 f3 h3 h4 h5 h6
  · obtain ⟨j, s, e1, e2', e3⟩ := o
    rcases hs e1 with ⟨f1, f3⟩ | ⟨f1, f3⟩
    · subst f1
      rw [List.getElem?_set_self il] at e3
      cases e3
      exact .inr hp
    · rw [List.getElem?_set_ne (Ne.symm f1)] at e3
      exact .inl ⟨j, s, f3, e2', e3⟩
section
variable {G : Gx} {env : En} {N : DE} {rest : List Stmt} {a : Expr} {px py pw pz pt pos p1 p2 : Pos} {x y z : Str}
/-- x, y, z = a, {}, [] (the dict by nested keys) -/
theorem r_parEDL (i j l : Nat) {k1 k2} (h : W G a env fun d e1 => j < e1.length ∧ l < e1.length ∧ ∀ p, Rs G rest (((e1.set i (.va d)).set j (.dn G.P G.w p [])).set l (.ow [])) N) (hnd : G.N.Nodup)
    (hw : ∀ v : Env, v.scope = G.sc → swappedStores [.Tuple [.Name x px, .Name y py, .Name z pw] k1 pt] (.Tuple [a, .Dict [] [] p1, .List [] p2] k2 pz) v = pure (some [x, y, z])) (ns : noStar [a] = true := by rfl)
    (hij : i ≠ j := by decide) (hil : i ≠ l := by decide) (hjl : j ≠ l := by decide) (hi : G.N[i]? = some x := by rfl) (hj : G.N[j]? = some y := by rfl) (hl : G.N[l]? = some z := by rfl) (hx : G.sc.names.lookup x = some .local := by rfl) (hy : G.sc.names.lookup y = some .local := by rfl) (hz : G.sc.names.lookup z = some .local := by rfl) :
    Rs G (.Assign [.Tuple [.Name x px, .Name y py, .Name z pw] k1 pt] (.Tuple [a, .Dict [] [] p1, .List [] p2] k2 pz) pos :: rest) env N :=
  Rs.of (fun X => tSeq (tPar3 i j l (tCons (tW G a) (tCons (fun _ H Q => ∀ p, H p = none → Q (.ref p) (upd H p (.ext (DnO X.prog X.w p [])))) (tCons (tLst tNil) tNil)))) (tRs G rest)) (fun X hX => pss_cons (ps_par3 hX.g.calm (hX.nodup hnd) (hX.at' hi) (hX.at' hj) (hX.at' hl) hij hil hjl (by rw [hX.g.sc]; exact hx) (by rw [hX.g.sc]; exact hy) (by rw [hX.g.sc]; exact hz) (pa_cons (peW hX.g a) (pa_cons pe_dnewN (pa_cons (pe_lst pa_nil) pa_nil)) (star_cons (noStar_cons ns).1)) (hw _ hX.g.sc) rfl) (pssR hX rest)) fun X hX σ Hc H D R q =>
    tW.use R h fun v d e1 Hc1 H1 ⟨h1, h2, hr⟩ go t => fun p hp => ⟨Nat.zero_le _, fun la hla => ⟨v, .ref p, .ref la, rfl, by
      show tRs G rest D _ _
      rw [hX.g.P, hX.g.w] at hla ⊢
      have g1 := go_asg (j := i) (t := .va d) (o := some v) go.rep rfl ⟨v, rfl, t⟩
      have g2 := go_asgDn (P := G.P) (w := G.w) (i := j) (p := p) g1.rep hp (by rw [List.length_set]; exact h1)
      have nw : Nw Hc1 (upd H1 p (.ext (DnO G.P G.w p []))) ((σ.set i (some v)).set j (some (.ref p))) ((e1.set i (.va d)).set j (.dn G.P G.w p [])) la [] [] Hc1 (upd (upd H1 p (.ext (DnO G.P G.w p []))) la (.lst [])) ((e1.set i (.va d)).set j (.dn G.P G.w p [])) := ⟨go_new g2.rep hla, hla, upd_same, .nil, Same.free g2.rep.same hla, own_ne_new g2.rep hla⟩
      have g3 := go_asgOw (i := l) nw (lt_of_N g2.rep (by rw [List.length_set, List.length_set]; exact h2))
      exact tRs.use g3.rep (hr p) (q.from (((go.trans g1).trans g2).trans g3))⟩⟩
end
end TL

/-! list(zip(a, b, c)), list(zip(*d)) in the layer -/
namespace TL
open PySem PySem.Spec PyProof.Rows L2
theorem adoptL {X : Cx} {pins : List (Addr × Obj)} {σ : L2.St} {s : Shared} {h' G : Heap} {H : Hp} {S : Addr} {vs : List V} {acc : Array Value} {c : Nat} (I : Inv X pins σ H { s with heap := G }) (k : ∀ b o, G.get? b = some o → h'.get? b = some o)
    (g1 : G.get? S = none) (g2 : H S = none) (g3 : h'.get? S = some { cls := .type "list", dict := none, data := .seq acc c, slots := #[] }) (g4 : Vals vs acc.toList) (g5 : vs.length ≤ sizeLine) :
    ∃ G', Inv X pins σ (upd H S (.lst vs)) { s with heap := G' } ∧ (∀ b o, G'.get? b = some o → h'.get? b = some o) ∧ ∀ b, G.get? b = none → b ≠ S → G'.get? b = none := by
  obtain ⟨G', r1, r2⟩ := restrict h' fun b => (G.get? b).isSome || decide (b = S)
  have kG : ∀ b o, G.get? b = some o → G'.get? b = some o := fun b o e => by
    rw [r1 b (by rw [e]; rfl)]
    exact k b o e
  have gp : G'.get? S = some { cls := .type "list", dict := none, data := .seq acc c, slots := #[] } := by
    rw [r1 S (by rw [decide_eq_true rfl, Bool.or_true])]
    exact g3
  have k' : ∀ b o, G'.get? b = some o → h'.get? b = some o := fun b o e => by
    cases q : ((G.get? b).isSome || decide (b = S)) with
    | true => rw [← r1 b q]; exact e
    | false => rw [r2 b q] at e; cases e
  refine ⟨G', I.laidN (t' := s.toks) kG g1 g2 (show ObjOk X.prog X.w _ _ _ (.lst vs) from ⟨g5, acc.toList, c, g4, by rw [Array.toArray_toList]; exact gp⟩), k', fun b e n => r2 b ?_⟩
  rw [e, decide_eq_false n]
  rfl
theorem zl_run {X : Cx} {pins : List (Addr × Obj)} {σ : L2.St} {H1 : Hp} {s2 : Shared} {Q : VK} {rs : List (Addr × List V)} {n : Nat} (hc : X.calm = true) (I2 : Inv X pins σ H1 s2) (hr : ∀ r ∈ rs, SqT X.K H1 r.1 r.2) (hrl : ∀ r ∈ rs, r.2.length = n) (h16 : rs.length ≤ 16) (hn : n ≤ sizeLine) (hne : 0 < n → rs ≠ [])
    (q : ∀ (H' : Hp) (S : Addr) (cs : List (Addr × List V)), Same H1 H' → cs.length = n → (∀ (j : Nat) c, cs[j]? = some c → H1 c.1 = none ∧ TX H' c.1 c.2 ∧ c.2.length = rs.length ∧ ∀ (i : Nat) r, rs[i]? = some r → ∃ v, r.2[j]? = some v ∧ c.2[i]? = some v) →
      H1 S = none → H' S = some (.lst ((cs.map (·.1)).map V.ref)) → S ∉ cs.map (·.1) → Q (.ref S) H') :
    wpAny (model X.prog X.w) X.A (call (.type "zip") (rs.map fun r => Value.ref r.1)) (fun v s1 => wpAny (model X.prog X.w) X.A (call (.type "list") [v]) (EP X pins σ Q) X.xe s1) X.xe s2 := by
  obtain ⟨src, es, ht, hv⟩ := srcs I2 rs hr
  have sl : src.length = rs.length := by have := congrArg List.length es; rwa [List.length_map, List.length_map] at this
  have eu2 : (rs.map fun r => Value.ref r.1) = src.map fun p => Value.ref p.1 := by
    have := congrArg (List.map Value.ref) es
    rw [List.map_map, List.map_map] at this
    exact this.symm
  rw [eu2]
  refine ZN.call_zip (by rw [sl]; exact h16) ht fun h1 z TI TO Y n1 n2 n3 hk => ?_
  have hLl : (ZN.mk s2.heap.objs.size src).length = rs.length := by rw [ZN.mk_len, sl]
  have hV : ∀ (i : Nat) r (e : ZN.ZE), rs[i]? = some r → (ZN.mk s2.heap.objs.size src)[i]? = some e → Vals r.2 e.xs.toList := fun i r e e1 e2 => by
    obtain ⟨p, hp, ee⟩ := ZN.mk_get e2
    rw [ee]
    exact hv i r p e1 hp
  refine ZN.call_list_zip (s := { s2 with heap := h1 }) (n := n) (I2.ok.hd hc) Y (by rw [hLl]; exact Nat.le_trans h16 (by decide)) hn (fun h0 z => hne h0 (List.eq_nil_of_length_eq_zero (by rw [← hLl, z]; rfl))) (fun e he => ?_) fun h' acc ff => ?_
  · obtain ⟨i, hi⟩ := List.getElem?_of_mem he
    have hil : i < rs.length := by rw [← hLl]; exact (List.getElem?_eq_some_iff.mp hi).1
    have := (hV i _ e (List.getElem?_eq_getElem hil) hi).length
    rw [hrl _ (List.getElem_mem hil), Array.length_toList] at this
    exact this.symm
  show EP X pins σ Q (.ref h1.objs.size) { s2 with heap := h' }
  have ff : ZN.ZF h1 h' z TO h1.objs.size (h1.objs.size + 1) (ZN.mk s2.heap.objs.size src) n acc := ff
  obtain ⟨cs, cl, cf⟩ := cols hLl hrl hV ff.av n (Nat.le_refl n)
  have old : ∀ b o, s2.heap.get? b = some o → h'.get? b = some o := fun b o e => by
    have lb := Heap.lt_size e
    exact ff.kp b o (Nat.ne_of_lt (Nat.lt_of_lt_of_le lb n1)) (Nat.ne_of_lt (Nat.lt_of_lt_of_le lb n2)) (Nat.ne_of_lt (Nat.lt_of_lt_of_le lb n3)) (fun e' he' => Nat.ne_of_lt (Nat.lt_of_lt_of_le lb (ZN.mk_mem he').1)) (hk b o e)
  have gn : ∀ {a : Addr}, s2.heap.objs.size ≤ a → s2.heap.get? a = none := fun {a} ha => by
    cases q : s2.heap.get? a with
    | none => rfl
    | some o => exact absurd (Heap.lt_size q) (Nat.not_lt.mpr ha)
  have Bn : ∀ {a : Addr}, h1.objs.size + 1 ≤ a → s2.heap.objs.size ≤ a := fun ha => Nat.le_trans n3 (Nat.le_trans (Nat.le_succ _) ha)
  have cg : ∀ c ∈ cs, h1.objs.size + 1 ≤ c.1 ∧ h'.get? c.1 = some { cls := .type "tuple", data := .seq c.2.2.toArray } ∧ Vals c.2.1 c.2.2 ∧ c.2.1.length = rs.length := fun c hc => by
    obtain ⟨j, hj⟩ := List.getElem?_of_mem hc
    obtain ⟨_, f2, f3, f4, f5, _⟩ := cf j c hj
    exact ⟨f2, f3, f4, f5⟩
  have accV : Vals ((cs.map (·.1)).map V.ref) acc.toList := by
    refine vals_of_get ?_ fun i v u e1 e2 => ?_
    · rw [List.length_map, List.length_map, cl]
      exact (Array.length_toList.trans ff.asz).symm
    · rw [List.getElem?_map, List.getElem?_map] at e1
      cases q : cs[i]? with
      | none => rw [q] at e1; cases e1
      | some c =>
        rw [q] at e1
        cases e1
        have := (cf i c q).1
        rw [Array.getElem?_toList, this] at e2
        cases e2
        exact rfl
  have nd1 : (cs.map (·.1)).Nodup := by
    rw [List.nodup_iff_pairwise_ne, List.pairwise_iff_getElem]
    intro i j hi hj hij e
    rw [List.length_map] at hi hj
    rw [List.getElem_map, List.getElem_map] at e
    have f1 := (cf i _ (List.getElem?_eq_getElem hi)).1
    have f2 := (cf j _ (List.getElem?_eq_getElem hj)).1
    rw [e] at f1
    have := ff.inj i j _ f1 f2
    omega
  have hSn : s2.heap.get? h1.objs.size = none := gn n3
  have hSH : H1 h1.objs.size = none := I2.hok.fresh n3
  obtain ⟨c, hSl⟩ := ff.sl
  obtain ⟨G', J1, k1, k2⟩ := adoptL (X := X) (s := s2) (h' := h') (G := s2.heap) (S := h1.objs.size) (vs := (cs.map (·.1)).map V.ref) I2 old hSn hSH hSl accV (by rw [List.length_map, List.length_map, cl]; exact hn)
  have ncs : ∀ c ∈ cs, c.1 ≠ h1.objs.size := fun c hc => Nat.ne_of_gt (cg c hc).1
  obtain ⟨H', J, sm, at', off⟩ := adopt (X := X) (s := s2) (h' := h') cs (upd H1 h1.objs.size (.lst ((cs.map (·.1)).map V.ref))) G' J1 k1 (fun c hc => ⟨k2 c.1 (gn (Bn (cg c hc).1)) (ncs c hc), by rw [upd_ne (ncs c hc)]; exact I2.hok.fresh (Bn (cg c hc).1), (cg c hc).2.1, (cg c hc).2.2.1, by rw [(cg c hc).2.2.2]; exact Nat.le_trans h16 (by decide)⟩) nd1
  have e1 : (cs.map fun c => (c.1, c.2.1)).map (·.1) = cs.map (·.1) := by rw [List.map_map]; rfl
  refine ⟨V.ref h1.objs.size, H', J, rfl, q H' h1.objs.size (cs.map fun c => (c.1, c.2.1)) (fun b o e => sm b o (by rw [upd_ne (ne_of_none e hSH)]; exact e)) (by rw [List.length_map, cl]) (fun j c e => ?_) hSH ?_ ?_⟩
  · rw [List.getElem?_map] at e
    cases qq : cs[j]? with
    | none => rw [qq] at e; cases e
    | some c' =>
      rw [qq] at e
      cases e
      have hm := List.mem_of_getElem? qq
      exact ⟨I2.hok.fresh (Bn (cg c' hm).1), at' c' hm, (cf j c' qq).2.2.2.2.1, (cf j c' qq).2.2.2.2.2⟩
  · rw [e1]
    exact sm _ _ upd_same
  · rw [e1]
    intro hm
    obtain ⟨c, hc, ec⟩ := List.mem_map.mp hm
    exact ncs c hc ec
/-- the columns of rows, as they are taken in -/
theorem zl_go {Hc H H' : Hp} {σ : L2.St} {env : En} {S : Addr} {rs cs : List (Addr × List V)} {rows : List (List PyData)} {n : Nat} (R : Rp Hc H σ env) (hr2 : ∀ (i : Nat) r row, rs[i]? = some r → rows[i]? = some row → TX Hc r.1 r.2 ∧ Trs Hc r.2 row) (hlr : rs.length = rows.length) (hrl : ∀ r ∈ rows, r.length = n)
    (sm : Same H H') (cl : cs.length = n) (cf : ∀ (j : Nat) c, cs[j]? = some c → H c.1 = none ∧ TX H' c.1 c.2 ∧ c.2.length = rs.length ∧ ∀ (i : Nat) r, rs[i]? = some r → ∃ v, r.2[j]? = some v ∧ c.2[i]? = some v) (hS : H S = none) (hS' : H' S = some (.lst ((cs.map (·.1)).map V.ref))) (nS : S ∉ cs.map (·.1)) :
    ∃ Hc', Go Hc H σ env Hc' H' σ env ∧ Tr Hc' (.ref S) (.list ((colsD n rows).map PyData.tuple)) := by
  let Hc' : Hp := fun b => if H b = none then H' b else Hc b
  have inN : ∀ {b : Addr}, H b = none → Hc' b = H' b := fun hb => if_pos hb
  have inX : ∀ {b : Addr} {xs : List V}, H b = none → TX H' b xs → TX Hc' b xs := fun hb ⟨o, o1, o2, o3⟩ => ⟨o, o1, o2, by rw [inN hb]; exact o3⟩
  have inO : ∀ {b : Addr}, H b ≠ none → Hc' b = Hc b := fun hb => if_neg hb
  have core : Same Hc Hc' := fun b o eo => by
    rw [inO (by rw [R.same b o eo]; simp)]
    exact eo
  have x : Ext Hc H Hc' H' := by
    refine ⟨sm, core, fun b o eo => ?_, fun b hb hc => by rw [inO hb]; exact hc⟩
    by_cases hb : H b = none
    · rw [inN hb] at eo
      exact eo
    · rw [inO hb] at eo
      exact sm b o (R.same b o eo)
  refine ⟨Hc', x.go R, .lst (by rw [inN hS]; exact hS') (trs_of_get ?_ fun j v d ev ed => ?_)⟩
  · rw [List.length_map, List.length_map, cl, List.length_map, colsD, List.length_map, List.length_range]
  · rw [List.getElem?_map, List.getElem?_map] at ev
    cases qc : cs[j]? with
    | none => rw [qc] at ev; cases ev
    | some c =>
      rw [qc] at ev
      cases ev
      obtain ⟨c1, c2, c3, c4⟩ := cf j c qc
      have hjn : j < n := by rw [← cl]; exact (List.getElem?_eq_some_iff.mp qc).1
      rw [List.getElem?_map, colsD, List.getElem?_map, List.getElem?_range hjn] at ed
      cases ed
      refine .tup (inX c1 c2) (trs_of_get (by rw [c3, hlr, List.length_map]) fun i v d ev ed => ?_)
      have hi : i < rs.length := by rw [← c3]; exact (List.getElem?_eq_some_iff.mp ev).1
      obtain ⟨v', v1, v2⟩ := c4 i _ (List.getElem?_eq_getElem hi)
      rw [ev] at v2
      cases v2
      have hi' : i < rows.length := by rw [← hlr]; exact hi
      rw [List.getElem?_map, List.getElem?_eq_getElem hi'] at ed
      cases ed
      obtain ⟨_, tr⟩ := hr2 i _ _ (List.getElem?_eq_getElem hi) (List.getElem?_eq_getElem hi')
      obtain ⟨d', d1, d2⟩ := tr.getV v1
      show Tr Hc' v (rows[i].getD j .none)
      rw [List.getD_eq_getElem?_getD, d1]
      exact d2.mono core
section
variable {G : Gx} {env : En} {P : PyData → En → Prop} {e a b c : Expr} {p1 p2 p3 pos pos2 : Pos}
/-- list(zip(*e)), e a tuple of tuples -/
theorem w_listZipS (m1 : G.mg "list" = none) (m2 : G.mg "zip" = none)
    (h : W G e env fun d e1 => ∃ (rows : List (List PyData)) (n : Nat), d = .tuple (rows.map PyData.tuple) ∧ (∀ r ∈ rows, r.length = n) ∧ rows.length ≤ 16 ∧ n ≤ sizeLine ∧ (0 < n → rows ≠ []) ∧ P (.list ((colsD n rows).map PyData.tuple)) e1)
    (hg : GlG G "list" := by rfl) (hg2 : GlG G "zip" := by rfl) : W G (.Call (.Name "list" p1) [.Call (.Name "zip" p2) [.Starred e p3] [] pos2] [] pos) env P := fun X hX pins s σ Hc H Q I R q => by
  have inner : wpAny (model X.prog X.w) X.A (eval (.Call (.Name "zip" p2) [.Starred e p3] [] pos2) X.env) (fun v s1 => wpAny (model X.prog X.w) X.A (call (.type "list") [v]) (EP X pins σ Q) X.xe s1) X.xe s := by
    refine Call_ (ld_blt I (glX hX hg2) (by rw [hX.mg]; exact m2) PyProof.Rows.boot_zip ?_)
    show wpAny _ _ (callWith pos2 (.type "zip") [] (backTo pos2 (starEach [.Starred e p3] X.env)) []) _ _ _
    rw [show starEach [.Starred e p3] X.env = [(true, eval e X.env)] from rfl]
    refine PySem.W.ks_call (P := fun _ => True) rfl (fun h _ => ⟨.machine, .inr (.inl rfl), fun A Q E s _ q => wpAny_pure q⟩) (PySem.W.ks_lone ?_)
    refine thn ((peW hX e).run pins s σ H (fun x H1 => ∃ (p : Addr) (rs : List (Addr × List V)) (n : Nat), x = V.ref p ∧ SqT X.K H1 p ((rs.map (·.1)).map V.ref) ∧ (∀ r ∈ rs, SqT X.K H1 r.1 r.2) ∧ (∀ r ∈ rs, r.2.length = n) ∧ rs.length ≤ 16 ∧ n ≤ sizeLine ∧ (0 < n → rs ≠ []) ∧
        ∀ (H' : Hp) (S : Addr) (cs : List (Addr × List V)), Same H1 H' → cs.length = n → (∀ (j : Nat) c, cs[j]? = some c → H1 c.1 = none ∧ TX H' c.1 c.2 ∧ c.2.length = rs.length ∧ ∀ (i : Nat) r, rs[i]? = some r → ∃ v, r.2[j]? = some v ∧ c.2[i]? = some v) →
          H1 S = none → H' S = some (.lst ((cs.map (·.1)).map V.ref)) → S ∉ cs.map (·.1) → Q (.ref S) H') I (tW.use R h fun v d e1 Hc1 H1 ⟨rows, n, ed, hl, h16, hn, hne, pd⟩ go t => ?_)) fun v s2 ⟨y, H1, I2, ry, p, rs, n, ey, hp, hr, hrl, h16, hn, hne, q⟩ => ?_
    · subst ed
      cases t with
      | @tup a vs _ m k =>
        obtain ⟨rs, ev, el, hr⟩ := zrows_of k
        subst ev
        have rowAt : ∀ r ∈ rs, ∃ row ∈ rows, TX Hc1 r.1 r.2 ∧ Trs Hc1 r.2 row := fun r hm => by
          obtain ⟨i, hi⟩ := List.getElem?_of_mem hm
          have hil : i < rows.length := by rw [← el]; exact (List.getElem?_eq_some_iff.mp hi).1
          exact ⟨_, List.getElem_mem hil, hr i r _ hi (List.getElem?_eq_getElem hil)⟩
        refine ⟨a, rs, n, rfl, (m.mono go.rep.same).sq, fun r hm => ?_, fun r hm => ?_, by rw [el]; exact h16, hn, fun h0 z => hne h0 (List.eq_nil_of_length_eq_zero (by rw [← el, z]; rfl)), fun H' S cs sm cl cf hS hS' nS => ?_⟩
        · obtain ⟨row, _, h1, _⟩ := rowAt r hm
          exact (h1.mono go.rep.same).sq
        · obtain ⟨row, h0, _, h2⟩ := rowAt r hm
          rw [h2.length]
          exact hl row h0
        · obtain ⟨Hc', g, tr⟩ := zl_go go.rep hr el hl sm cl cf hS hS' nS
          exact q _ _ e1 Hc' H' pd (go.trans g) tr
    · subst ey
      obtain rfl : v = Value.ref p := ry
      refine StX.star_any I2 (.inl hp) fun us s3 I3 rv => ⟨trivial, ?_⟩
      have eu := vals_refs rv
      have eu2 : us = rs.map fun r => Value.ref r.1 := by rw [eu, List.map_map]; rfl
      subst eu2
      exact zl_run hX.calm I3 hr hrl h16 hn hne q
  exact Call_ (ld_blt I (glX hX hg) (by rw [hX.mg]; exact m1) boot_list (PyProof.Rows.callWith_type1 (args_cons (thn inner fun v s1 hv => args_nil hv))))
/-- list(zip(a, b, c)), tuples of one length -/
theorem w_listZip3 (m1 : G.mg "list" = none) (m2 : G.mg "zip" = none)
    (h : WA G [a, b, c] env fun ds e1 => ∃ (xs ys zs : List PyData) (n : Nat), ds = [.tuple xs, .tuple ys, .tuple zs] ∧ xs.length = n ∧ ys.length = n ∧ zs.length = n ∧ n ≤ sizeLine ∧ P (.list ((colsD n [xs, ys, zs]).map PyData.tuple)) e1)
    (hg : GlG G "list" := by rfl) (hg2 : GlG G "zip" := by rfl) (ns : noStar [a, b, c] = true := by rfl) (hpl : ∀ v : Env, (backTo pos2 (starEach [b, c] v)).any (·.1) = false := by exact fun _ => rfl) : W G (.Call (.Name "list" p1) [.Call (.Name "zip" p2) [a, b, c] [] pos2] [] pos) env P := fun X hX pins s σ Hc H Q I R q => by
  have inner : wpAny (model X.prog X.w) X.A (eval (.Call (.Name "zip" p2) [a, b, c] [] pos2) X.env) (fun v s1 => wpAny (model X.prog X.w) X.A (call (.type "list") [v]) (EP X pins σ Q) X.xe s1) X.xe s := by
    refine Call_ (ld_blt I (glX hX hg2) (by rw [hX.mg]; exact m2) PyProof.Rows.boot_zip (PyProof.Rows.callWith_type1 (thn ((paW hX [a, b, c] ns).run pos2 pins s σ H (fun vs H1 => ∃ (rs : List (Addr × List V)) (n : Nat), vs = rs.map (fun r => V.ref r.1) ∧ (∀ r ∈ rs, SqT X.K H1 r.1 r.2) ∧ (∀ r ∈ rs, r.2.length = n) ∧ rs.length = 3 ∧ n ≤ sizeLine ∧
        ∀ (H' : Hp) (S : Addr) (cs : List (Addr × List V)), Same H1 H' → cs.length = n → (∀ (j : Nat) c, cs[j]? = some c → H1 c.1 = none ∧ TX H' c.1 c.2 ∧ c.2.length = rs.length ∧ ∀ (i : Nat) r, rs[i]? = some r → ∃ v, r.2[j]? = some v ∧ c.2[i]? = some v) →
          H1 S = none → H' S = some (.lst ((cs.map (·.1)).map V.ref)) → S ∉ cs.map (·.1) → Q (.ref S) H') I (tWA.use R h fun vs ds e1 Hc1 H1 ⟨xs, ys, zs, n, ed, l1, l2, l3, hn, pd⟩ go t => ?_)) fun us s2 ⟨vs, H1, I2, r, rs, n, ev, hr, hrl, h3, hn, q⟩ => ?_) (star_cons (noStar_cons ns).1) (hpl _)))
    · subst ed
      cases t with
      | cons t1 t =>
        cases t with
        | cons t2 t =>
          cases t with
          | cons t3 t =>
            cases t
            cases t1 with
            | @tup a1 v1 _ x1 k1 =>
              cases t2 with
              | @tup a2 v2 _ x2 k2 =>
                cases t3 with
                | @tup a3 v3 _ x3 k3 =>
                  refine ⟨[(a1, v1), (a2, v2), (a3, v3)], n, rfl, fun r hm => ?_, fun r hm => ?_, rfl, hn, fun H' S cs sm cl cf hS hS' nS => ?_⟩
                  · rcases List.mem_cons.mp hm with e | hm
                    · rw [e]; exact (x1.mono go.rep.same).sq
                    rcases List.mem_cons.mp hm with e | hm
                    · rw [e]; exact (x2.mono go.rep.same).sq
                    · rw [List.mem_singleton.mp hm]; exact (x3.mono go.rep.same).sq
                  · rcases List.mem_cons.mp hm with e | hm
                    · rw [e]; exact k1.length.trans l1
                    rcases List.mem_cons.mp hm with e | hm
                    · rw [e]; exact k2.length.trans l2
                    · rw [List.mem_singleton.mp hm]; exact k3.length.trans l3
                  · obtain ⟨Hc', g, tr⟩ := zl_go (rows := [xs, ys, zs]) go.rep (fun i r row e1 e2 => by
                      match i, e1, e2 with
                      | 0, e1, e2 => cases e1; cases e2; exact ⟨x1, k1⟩
                      | 1, e1, e2 => cases e1; cases e2; exact ⟨x2, k2⟩
                      | 2, e1, e2 => cases e1; cases e2; exact ⟨x3, k3⟩
                      | _ + 3, e1, e2 => simp at e1) rfl (fun r hm => by
                      rcases List.mem_cons.mp hm with e | hm
                      · rw [e]; exact l1
                      rcases List.mem_cons.mp hm with e | hm
                      · rw [e]; exact l2
                      · rw [List.mem_singleton.mp hm]; exact l3) sm cl cf hS hS' nS
                    exact q _ _ e1 Hc' H' pd (go.trans g) tr
    · subst ev
      have eu : us = rs.map fun r => Value.ref r.1 := by
        have e1 : (rs.map fun r => V.ref r.1) = (rs.map (·.1)).map V.ref := by rw [List.map_map]; rfl
        rw [e1] at r
        rw [vals_refs r, List.map_map]
        rfl
      subst eu
      exact zl_run hX.calm I2 hr hrl (by rw [h3]; decide) hn (fun _ z => by rw [z] at h3; cases h3) q
  exact Call_ (ld_blt I (glX hX hg) (by rw [hX.mg]; exact m1) boot_list (PyProof.Rows.callWith_type1 (args_cons (thn inner fun v s1 hv => args_nil hv))))
end
end TL

/-! new lists that nobody else knows: products, copies, slices; x[a] -= e; sums; enumerate of a list; ranges downward; lcm -/
namespace TL
open PySem PySem.Spec PyProof.Rows L2
section
variable {G : Gx} {env : En} {N : DE} {rest : List Stmt} {P : List PyData → En → Prop} {e a b c : Expr} {es : List Expr} {pos p px p2 p3 : Pos} {x : Str}
/-- e makes a new list that nobody else knows -/
def WN (G : Gx) (e : Expr) (env : En) (P : List PyData → En → Prop) : Prop :=
  ∀ X, InG G X → ∀ (pins : Pins) (s : Shared) (σ : L2.St) (Hc H : Hp) (Q : VK), Inv X pins σ H s → Rp Hc H σ env →
    (∀ D vs ds env' Hc' H', P ds env' → Nw Hc H σ env D vs ds Hc' H' env' → Q (.ref D) H') → wpAny (model X.prog X.w) X.A (eval e X.env) (EP X pins σ Q) X.xe s
def tWN (G : Gx) (e : Expr) : TE := fun σ H Q => ∃ Hc env P, Rp Hc H σ env ∧ WN G e env P ∧ ∀ D vs ds env' Hc' H', P ds env' → Nw Hc H σ env D vs ds Hc' H' env' → Q (.ref D) H'
theorem peWN {G : Gx} {X : Cx} (hX : InG G X) (e : Expr) : PE X e (tWN G e) := ⟨fun pins s σ H Q I ⟨Hc, env, P, R, w, q⟩ => w X hX pins s σ Hc H Q I R q⟩
theorem WN.of (te : Cx → TE) (h : ∀ X, InG G X → PE X e (te X))
    (r : ∀ X, InG G X → ∀ (σ : L2.St) (Hc H : Hp) (Q : VK), Rp Hc H σ env → (∀ D vs ds env' Hc' H', P ds env' → Nw Hc H σ env D vs ds Hc' H' env' → Q (.ref D) H') → te X σ H Q) : WN G e env P :=
  fun X hX pins s σ Hc H Q I R q => (h X hX).run pins s σ H Q I (r X hX σ Hc H Q R q)
theorem WN.w {P : PyData → En → Prop} (h : WN G e env fun ds e1 => P (.list ds) e1) : W G e env P := fun X hX pins s σ Hc H Q I R q => h X hX pins s σ Hc H Q I R fun D vs ds e1 Hc' H' p nw => by
  have z := nw.freeze
  exact q _ _ _ _ _ p z.1 z.2
theorem nw_new {Hc H Hc1 H1 : Hp} {σ : L2.St} {e1 : En} {p : Addr} {vs : List V} {ds : List PyData} (go : Go Hc H σ env Hc1 H1 σ e1) (hp : H1 p = none) (t : Trs Hc1 vs ds) : Nw Hc H σ env p vs ds Hc1 (upd H1 p (.lst vs)) e1 :=
  ⟨go.trans (go_new go.rep hp), by
    cases q : H p with
    | none => rfl
    | some o => exact absurd hp (go.ex p (by rw [q]; simp)), upd_same, t, Same.free go.rep.same hp, own_ne_new go.rep hp⟩
/-- x = e, to be changed later -/
theorem r_asgN (i : Nat) (hnd : G.N.Nodup) (h : WN G e env fun ds e1 => i < e1.length ∧ Rs G rest (e1.set i (.ow ds)) N) (hi : G.N[i]? = some x := by rfl) (hx : Loc G.sc x := by first | exact Or.inl rfl | exact Or.inr rfl)
    (hs : ∀ (v : Env) y, v.scope = G.sc → swapsWith e (some (.Name x px)) y v = pure false := by exact fun _ _ _ => rfl) : Rs G (.Assign [.Name x px] e pos :: rest) env N :=
  Rs.of (fun X => tSeq (tAsg (tWN G e) (gName i)) (tRs G rest)) (fun X hX => pss_cons (ps_set (i := i) (hX.nodup hnd) (hX.at' hi) (hX.loc hx) (peWN hX.g e) (hs _ _ hX.g.sc) (.inl (hX.fn x))) (pssR hX rest)) fun X hX σ Hc H D R q =>
    ⟨Hc, env, _, R, h, fun A vs ds e1 Hc1 H1 ⟨hl, hr⟩ nw => by
      have g := go_asgOw (i := i) nw (lt_of_N nw.go.rep hl)
      exact tRs.use g.rep hr (q.from g)⟩
theorem wn_lst (h : WA G es env fun ds e => ds.length ≤ sizeLine ∧ P ds e) (ns : noStar es = true := by rfl) : WN G (.List es pos) env P :=
  WN.of (fun X => tLst (tWA G es)) (fun X hX => pe_lst (paW hX es ns)) fun X hX σ Hc H Q R q =>
    tWA.use R h fun vs ds e1 Hc1 H1 ⟨l, p⟩ go t => ⟨by rw [t.length]; exact l, fun p' hp => q _ _ _ _ _ _ p (nw_new go hp t)⟩
theorem wn_cat (h : W G a env fun x e1 => ∃ xs, x = .list xs ∧ W G b e1 fun y e2 => ∃ ys, y = .list ys ∧ xs.length + ys.length ≤ sizeLine ∧ P (xs ++ ys) e2) : WN G (.BinOp a .Add b pos) env P :=
  WN.of (fun X => tOp rCat (tW G a) (tW G b)) (fun X hX => pe_op op_cat (peW hX a) (peW hX b)) fun X hX σ Hc H Q R q =>
    tW.use R h fun v d e1 Hc1 H1 ⟨xs, ex, h2⟩ go t => tW.use go.rep h2 fun v2 d2 e2 Hc2 H2 ⟨ys, ey, hl, pd⟩ go2 t2 => by
      subst ex ey
      cases t with
      | @lst a1 vs1 _ m1 k1 =>
        cases t2 with
        | @lst a2 vs2 _ m2 k2 =>
          exact ⟨_, _, _, _, rfl, rfl, go2.rep.same _ _ (go2.core _ _ m1), go2.rep.same _ _ m2, by rw [k1.length, k2.length]; exact hl, fun p' hp => q _ _ _ _ _ _ pd (nw_new (go.trans go2) hp (Trs.append (k1.mono go2.core) k2))⟩
theorem trs_repl {H : Hp} {vs : List V} {ds : List PyData} (t : Trs H vs ds) : ∀ k : Nat, Trs H (List.replicate k vs).flatten (List.replicate k ds).flatten
  | 0 => .nil
  | k + 1 => by
    rw [List.replicate_succ, List.replicate_succ, List.flatten_cons, List.flatten_cons]
    exact Trs.append t (trs_repl t k)
/-- a list times an int -/
theorem wn_rep (h : W G a env fun x e1 => ∃ xs, x = .list xs ∧ W G b e1 fun y e2 => ∃ k : Int, y = .int k ∧ -1000000 ≤ k ∧ k ≤ 1000000 ∧ xs.length * k.toNat ≤ sizeLine ∧ P (List.replicate k.toNat xs).flatten e2) : WN G (.BinOp a .Mult b pos) env P :=
  WN.of (fun X => tOp rRep (tW G a) (tW G b)) (fun X hX => pe_op op_rep (peW hX a) (peW hX b)) fun X hX σ Hc H Q R q =>
    tW.use R h fun v d e1 Hc1 H1 ⟨xs, ex, h2⟩ go t => tW.use go.rep h2 fun v2 d2 e2 Hc2 H2 ⟨k, ey, l1, l2, hl, pd⟩ go2 t2 => by
      subst ex ey
      cases t2
      cases t with
      | @lst a1 vs1 _ m1 k1 =>
        exact ⟨_, _, _, rfl, rfl, go2.rep.same _ _ (go2.core _ _ m1), by omega, by omega, by rw [k1.length]; exact hl, fun p' hp => q _ _ _ _ _ _ pd (nw_new (go.trans go2) hp (trs_repl (k1.mono go2.core) _))⟩
/-- list(e), e a list or a tuple -/
theorem wn_list (hm : G.mg "list" = none) (h : W G e env fun d e1 => ∃ ds, itemD d = some ds ∧ P ds e1) (hg : GlG G "list" := by rfl) (ns : noStar [e] = true := by rfl) : WN G (.Call (.Name "list" p) [e] [] pos) env P :=
  WN.of (fun X => tCB (fun xs H Q => ∃ p ys, xs = [V.ref p] ∧ (SqL X.K H p ys ∨ SqT X.K H p ys) ∧ ∀ l, H l = none → Q (.ref l) (upd H l (.lst ys))) (tWA G [e]))
    (fun X hX => pe_callTy call_list_of (glX hX hg) (by rw [hX.mg]; exact hm) boot_list (paW hX [e] ns) (by decide) (by decide) (star_cons (noStar_cons ns).1) (star_any (noStar_cons ns).2)) fun X hX σ Hc H Q R q =>
    tW.use R h fun v d e1 Hc1 H1 ⟨ds, ed, pd⟩ go t => by
      cases t with
      | @lst aa vs _ m k => cases ed; exact ⟨aa, vs, rfl, .inl (SqL.of (go.rep.same _ _ m)), fun l hl => q _ _ _ _ _ _ pd (nw_new go hl k)⟩
      | @tup aa vs _ m k => cases ed; exact ⟨aa, vs, rfl, .inr (m.mono go.rep.same).sq, fun l hl => q _ _ _ _ _ _ pd (nw_new go hl k)⟩
      | non => cases ed
      | bl b => cases ed
      | int b => cases ed
      | str b => cases ed
theorem cut_from (vs : List V) (i : Nat) : cutV vs (some (i : Int)) none = vs.drop i := by
  have h1 : HT.sIx vs.length 0 (some (i : Int)) = min i vs.length := by rw [HT.sIx_nat]
  have h2 : HT.sIx vs.length vs.length none = vs.length := rfl
  unfold cutV
  rw [h1, h2, List.take_of_length_le (by rw [List.length_drop]; exact Nat.le_refl _)]
  by_cases h : i ≤ vs.length
  · rw [Nat.min_eq_left h]
  · rw [Nat.min_eq_right (by omega), List.drop_of_length_le (by omega), List.drop_of_length_le (by omega)]
theorem cut_to (vs : List V) (i : Nat) : cutV vs none (some (i : Int)) = vs.take i := by
  have h1 : HT.sIx vs.length 0 none = 0 := rfl
  have h2 : HT.sIx vs.length vs.length (some (i : Int)) = min i vs.length := by rw [HT.sIx_nat]
  unfold cutV
  rw [h1, h2]
  show vs.take (min i vs.length - 0) = _
  by_cases h : i ≤ vs.length
  · rw [Nat.min_eq_left h]
    rfl
  · rw [Nat.min_eq_right (by omega), List.take_of_length_le (by omega), List.take_of_length_le (by omega)]
/-- x[b:], x a list to be changed -/
theorem wn_fromO (i : Nat) {ds0 : List PyData} (he : env[i]? = some (.ow ds0)) (h : W G b env fun y e2 => ∃ (j : Nat) (ds : List PyData), e2[i]? = some (.ow ds) ∧ y = .int (j : Int) ∧ P (ds.drop j) e2) (hN : G.N[i]? = some x := by rfl) (hv : Vis G.sc x := by first | exact Or.inl rfl | exact Or.inr (Or.inl rfl) | exact Or.inr (Or.inr rfl))
    (hd : (x == ("__debug__" : Str)) = false := by decide) (hcd : (x == ("__classdict__" : Str)) = false := by decide) : WN G (.Subscript (.Name x px) (.Slice (some b) none none p2) pos) env P :=
  WN.of (fun X => tSl (rSlL X.K) (tVar i) (tPart (tW G b)) tNoPart) (fun X hX => pe_slice sl_list (pvG hX i hN hv hd hcd) (po_some (peW hX b)) po_none) fun X hX σ Hc H Q R q => by
    obtain ⟨aa, vs0, e1, _⟩ := R.ok i _ he
    refine ⟨_, e1, tW.use R h fun v d e2 Hc2 H2 ⟨j, ds, ed, ey, pd⟩ go t => ?_⟩
    subst ey
    cases t
    obtain ⟨a2, vs2, e12, c2, m2, t2⟩ := go.rep.ok i _ ed
    rw [e1] at e12
    cases e12
    refine ⟨_, rfl, aa, vs2, rfl, SqL.of m2, fun p' hp => ?_⟩
    rw [cut_from vs2]
    exact q _ _ _ _ _ _ pd (nw_new go hp (Trs.dropN j t2))
/-- x[:b], x a list to be changed -/
theorem wn_toO (i : Nat) {ds0 : List PyData} (he : env[i]? = some (.ow ds0)) (h : W G b env fun y e2 => ∃ (j : Nat) (ds : List PyData), e2[i]? = some (.ow ds) ∧ y = .int (j : Int) ∧ P (ds.take j) e2) (hN : G.N[i]? = some x := by rfl) (hv : Vis G.sc x := by first | exact Or.inl rfl | exact Or.inr (Or.inl rfl) | exact Or.inr (Or.inr rfl))
    (hd : (x == ("__debug__" : Str)) = false := by decide) (hcd : (x == ("__classdict__" : Str)) = false := by decide) : WN G (.Subscript (.Name x px) (.Slice none (some b) none p2) pos) env P :=
  WN.of (fun X => tSl (rSlL X.K) (tVar i) tNoPart (tPart (tW G b))) (fun X hX => pe_slice sl_list (pvG hX i hN hv hd hcd) po_none (po_some (peW hX b))) fun X hX σ Hc H Q R q => by
    obtain ⟨aa, vs0, e1, _⟩ := R.ok i _ he
    refine ⟨_, e1, tW.use R h fun v d e2 Hc2 H2 ⟨j, ds, ed, ey, pd⟩ go t => ?_⟩
    subst ey
    cases t
    obtain ⟨a2, vs2, e12, c2, m2, t2⟩ := go.rep.ok i _ ed
    rw [e1] at e12
    cases e12
    refine ⟨_, rfl, aa, vs2, rfl, SqL.of m2, fun p' hp => ?_⟩
    rw [cut_to vs2]
    exact q _ _ _ _ _ _ pd (nw_new go hp (Trs.takeN j t2))
theorem trs_revL {H : Hp} : ∀ {vs : List V} {ds : List PyData}, Trs H vs ds → Trs H vs.reverse ds.reverse
  | _, _, .nil => .nil
  | _, _, .cons t u => by
    rw [List.reverse_cons, List.reverse_cons]
    exact Trs.append (trs_revL u) (.cons t .nil)
/-- x[::-1], x a list to be changed -/
theorem wn_revO (i : Nat) {ds : List PyData} {k : Nat} {q1 q2 : Pos} (he : env[i]? = some (.ow ds)) (h : P ds.reverse env) (hN : G.N[i]? = some x := by rfl) (hv : Vis G.sc x := by first | exact Or.inl rfl | exact Or.inr (Or.inl rfl) | exact Or.inr (Or.inr rfl))
    (hd : (x == ("__debug__" : Str)) = false := by decide) (hcd : (x == ("__classdict__" : Str)) = false := by decide) : WN G (.Subscript (.Name x px) (.Slice none none (some (.UnaryOp .USub (.Constant (.int 1) k q1) q2)) p3) pos) env P :=
  WN.of (fun X => tRevL X.K (tVar i)) (fun X hX => pe_revL (pvG hX i hN hv hd hcd)) fun X hX σ Hc H Q R q => by
    obtain ⟨aa, vs, e1, c1, m1, t1⟩ := R.ok i _ he
    exact ⟨_, e1, aa, vs, rfl, SqL.of m1, fun p' hp => q _ _ _ _ _ _ h (nw_new (.refl R) hp (trs_revL t1))⟩
/-! ### x[a] -= e, x[a] += e -/
def rGetN (K : PySem.W.Frag) : V → V → Hp → VK → Prop := fun o i H Q => ∃ p xs, ∃ (k : Nat) (z : V), o = .ref p ∧ i = .int (k : Int) ∧ SqL K H p xs ∧ xs[k]? = some z ∧ Q z H
theorem get_listN {X : Cx} : PGet X (rGetN X.K) := by
  intro pins s σ H o i ov iv Q I ro ri h
  obtain ⟨p, xs, k, z, rfl, rfl, hq, he, q⟩ := h
  cases ro
  obtain ⟨t, rfl⟩ := ri
  obtain ⟨its, r, pl, hz⟩ := I.list hq
  obtain ⟨w, ew, rw'⟩ := r.get he
  have hl := (List.getElem?_eq_some_iff.mp ew).1
  exact wpAny_getItem_list pl.isList (by omega) (by have := line63; have := r.length; omega) (by rw [Int.toNat_natCast]; simpa using ew) ⟨z, H, I, rw', q⟩
theorem r_augL {op : Operator} {f : Int → Int → Int} (i : Nat) (ho : ∀ X, InG G X → PIp X op (ipI f)) {ds0 : List PyData} (he : env[i]? = some (.ow ds0))
    (h : W G a env fun k e1 => ∃ (ds : List PyData) (l : Nat) (n : Int), e1[i]? = some (.ow ds) ∧ k = .int (l : Int) ∧ ds[l]? = some (.int n) ∧ W G e e1 fun d e2 => ∃ (ds2 : List PyData) (m : Int), e2[i]? = some (.ow ds2) ∧ d = .int m ∧ l < ds2.length ∧ Rs G rest (e2.set i (.ow (ds2.set l (.int (f n m))))) N)
    {ps2 : Pos} (hi : G.N[i]? = some x := by rfl) (hv : Vis G.sc x := by first | exact Or.inl rfl | exact Or.inr (Or.inl rfl) | exact Or.inr (Or.inr rfl))
    (ha : ∀ ov iv new, augStore a ov iv new = (do holding [new, ov, iv] (setItem ov iv new); release [new, ov, iv] []; pure .next) := by intros; rfl)
    (hd : (x == ("__debug__" : Str)) = false := by decide) (hcd : (x == ("__classdict__" : Str)) = false := by decide) : Rs G (.AugAssign (.Subscript (.Name x px) a ps2) op e pos :: rest) env N :=
  Rs.of (fun X => tSeq (tAugS (tVar i) (tW G a) (tW G e) (rGetN X.K) (ipI f) rSetL) (tRs G rest)) (fun X hX => pss_cons (ps_augS (pvG hX.g i hi hv hd hcd) (peW hX.g a) get_listN (peW hX.g e) (ho X hX.g) set_list ha) (pssR hX rest)) fun X hX σ Hc H D R q => by
    obtain ⟨p0, vs0, ep, c0, m0, _⟩ := R.ok i _ he
    refine ⟨_, ep, tW.use R h fun k dk e1 Hc1 H1 ⟨ds, l, n, ed, ek, en, h2⟩ go t => ?_⟩
    subst ek
    cases t
    obtain ⟨p1, vs1, ep1, c1, m1, t1⟩ := go.rep.ok i _ ed
    rw [ep] at ep1
    cases ep1
    obtain ⟨z, ez, tz⟩ := t1.get en
    cases tz
    refine ⟨p0, vs1, l, _, rfl, rfl, SqL.of m1, ez, tW.use go.rep h2 fun v d e2 Hc2 H2 ⟨ds2, m, ed2, em, hl, hr⟩ go2 t2 => ?_⟩
    subst em
    cases t2
    obtain ⟨p2, vs2, ep2, c2, m2, t3⟩ := go2.rep.ok i _ ed2
    rw [ep] at ep2
    cases ep2
    refine ⟨n, m, rfl, rfl, p0, vs2, (l : Int), l, rfl, rfl, m2, ?_, ?_⟩
    · unfold ixN
      rw [if_pos (by omega), if_pos (by rw [t3.length]; omega), Int.toNat_natCast]
    · have g := go_own (o := .lst (vs2.set l (.int (f n m)))) (t := .ow (ds2.set l (.int (f n m)))) go2.rep ed2 rfl ep c2 rfl (by rw [ep]; exact ⟨p0, _, rfl, c2, upd_same, Trs.set (.int _) l t3⟩)
      exact tRs.use g.rep hr (q.from ((go.trans go2).trans g))
/-! ### sums -/
theorem w_sum (hm : G.mg "sum" = none) {P : PyData → En → Prop} (h : W G e env fun d e1 => ∃ zs : List Int, d = .list (zs.map PyData.int) ∧ P (.int zs.sum) e1) (hg : GlG G "sum" := by rfl) (ns : noStar [e] = true := by rfl) : W G (.Call (.Name "sum" p) [e] [] pos) env P :=
  w_callB (r := fun X => rSum X.K) (fun X hX => cr_sum hX.calm) boot_sum hm hg (fun X hX => W.imp h fun d e1 ⟨zs, ed, pn⟩ Hc H vs Q s t q => by
    subst ed
    cases t with
    | cons t u =>
      cases u
      cases t with
      | @lst a ws _ m k =>
        have := Trs.of_ints k
        subst this
        exact ⟨a, zs, rfl, SqL.of (s _ _ m), q _ _ Hc H pn (.refl s) (.int _)⟩) ns (by decide) (by decide)
/-! ### enumerate of a list -/
theorem wi_enumL {tgs : List Expr} {kk : Nat} {P : List (PyData × PyData) → En → Prop} {tpos : Pos} (hm : G.mg "enumerate" = none) (h : W G a env fun d e1 => ∃ ds, d = .list ds ∧ P (enumP ds) e1) (hg : GlG G "enumerate" := by rfl) (ns : noStar [a] = true := by rfl) : WI2 G (.Tuple tgs kk tpos) (.Call (.Name "enumerate" p) [a] [] pos) env P := fun X hX =>
  ⟨_, pi_enum (glX hX hg) (by rw [hX.mg]; exact hm) (paW hX [a] ns) (star_cons (noStar_cons ns).1), fun σ Hc H R r q => tWA.use (P := fun ds e1 => ∃ xs, ds = [.list xs] ∧ P (enumP xs) e1) r (W.imp h fun d e1 ⟨xs, e, p⟩ => ⟨xs, by rw [e], p⟩) fun vs ds e1 Hc1 H1 ⟨xs, e, pd⟩ go t => by
    subst e
    cases t with
    | cons t tn =>
      cases tn
      cases t with
      | @lst a vs _ m k =>
        have sq : ∀ {H'}, Same Hc1 H' → SqL X.K H' a vs := fun s => SqL.of (s _ _ m)
        have lk := k.length
        refine ⟨a, vs, rfl, sq go.rep.same, q _ _ e1 Hc1 H1 pd go ⟨(List.range vs.length).map fun i => (.int (i : Nat), vs.getD i .non), ?_, fun i x y e => ?_, fun H' s i hi => ?_, fun i H' x H'' s y hi => ?_, fun H' s => ⟨vs, sq s, by rw [List.length_map, List.length_range]; exact Nat.le_refl _⟩⟩⟩
        · unfold enumP
          rw [List.length_map, List.length_map, List.length_range, List.length_range, lk]
        · have hi : i < vs.length := by have := (List.getElem?_eq_some_iff.mp e).1; rw [List.length_map, List.length_range] at this; exact this
          have hi2 : i < xs.length := by omega
          rw [List.getElem?_map, List.getElem?_range hi] at e
          have e := Option.some.inj e
          injection e with e1 e2
          obtain ⟨d, ed, td⟩ := k.getV (List.getElem?_eq_getElem hi)
          refine ⟨.int (i : Nat), d, ?_, by rw [← e1]; exact .int _, ?_⟩
          · unfold enumP
            rw [List.getElem?_map, List.getElem?_range hi2]
            show some (PyData.int (i : Nat), xs.getD i .none) = _
            rw [List.getD_eq_getElem?_getD, ed]
            rfl
          · rw [← e2]
            show Tr Hc1 (vs.getD i .non) d
            rw [List.getD_eq_getElem?_getD, List.getElem?_eq_getElem hi]
            exact td
        · rw [List.length_map, List.length_range] at hi
          exact ⟨vs, vs[i], sq s, List.getElem?_eq_getElem hi⟩
        · rw [List.length_map, List.length_range] at hi
          obtain ⟨T, z, ex, hT, eH, f⟩ := y
          refine ⟨T, _, z, ex, hT, eH, ?_⟩
          rw [List.getElem?_map, List.getElem?_range hi]
          show some (V.int (i : Nat), vs.getD i .non) = _
          rw [List.getD_eq_getElem?_getD, f vs (sq s)]
          rfl⟩
/-! ### downward -/
def rgDn (hi : Int) (n : Nat) : List PyData := (List.range n).map fun (i : Nat) => PyData.int (hi - (i : Int))
theorem rgDn_len (hi : Int) (n : Nat) : (rgDn hi n).length = n := by unfold rgDn; rw [List.length_map, List.length_range]
theorem rgDn_get {hi : Int} {n i : Nat} {d : PyData} (h : (rgDn hi n)[i]? = some d) : i < n ∧ d = .int (hi - (i : Int)) := by
  have l := (List.getElem?_eq_some_iff.mp h).1
  rw [rgDn_len] at l
  refine ⟨l, ?_⟩
  unfold rgDn at h
  rw [List.getElem?_map, List.getElem?_range l] at h
  exact (Option.some.inj h).symm
theorem walks_dn (Hc : Hp) (hi : Int) (n : Nat) : Walks (Itc hi (-1) n) Hc (rgDn hi n) := by
  have ev : ∀ i : Nat, hi + (i : Int) * (-1) = hi - (i : Int) := fun i => by omega
  refine ⟨((List.range n).map fun (i : Nat) => hi - (i : Int)).map V.int, ?_, fun H' s i hi => ?_, fun i H' x H'' s y hi => ?_, fun H' s => ?_⟩
  · have e : rgDn hi n = ((List.range n).map fun (i : Nat) => hi - (i : Int)).map PyData.int := by
      unfold rgDn
      rw [List.map_map]
      rfl
    rw [e]
    exact Trs.ints _
  · rw [List.length_map, List.length_map, List.length_range] at hi
    exact hi
  · rw [List.length_map, List.length_map, List.length_range] at hi
    refine ⟨y.1, ?_⟩
    rw [y.2, ev, List.getElem?_map, List.getElem?_map, List.getElem?_range hi]
    rfl
  · show n ≤ _
    rw [List.length_map, List.length_map, List.length_range]
    exact Nat.le_refl _
variable {tg : Expr} {Pw : List PyData → En → Prop}
/-- reversed(range(a, b)) -/
theorem wi_revRg {p1 pos1 : Pos} (hm : G.mg "range" = none) (hm2 : G.mg "reversed" = none) (h : WA G [a, b] env fun ds e1 => ∃ i n : Int, ds = [.int i, .int n] ∧ n ≤ 1000000 ∧ -1000000 ≤ n ∧ i ≤ 1000000 ∧ -1000000 ≤ i ∧ Pw (rgDn (i + (((n - i).toNat : Nat) : Int) - 1) (n - i).toNat) e1) (hg : GlG G "range" := by rfl) (hg2 : GlG G "reversed" := by rfl) (ns : noStar [a, b] = true := by rfl) :
    WI G tg (.Call (.Name "reversed" p1) [.Call (.Name "range" p) [a, b] [] pos] [] pos1) env Pw := fun X hX =>
  ⟨_, pi_revR (glX hX hg2) (by rw [hX.mg]; exact hm2) (prg_2 (glX hX hg) (by rw [hX.mg]; exact hm) (peW hX a) (peW hX b) (star_cons (noStar_cons ns).1) (star_cons (noStar_cons (noStar_cons ns).2).1) (by rw [star_cons (noStar_cons (noStar_cons ns).2).1]; rfl)) rfl, fun σ Hc H R r q =>
    tW.use r h fun v d e1 Hc1 H1 h2 go t => tW.use go.rep h2 fun v2 d2 e2 Hc2 H2 ⟨i, n, ed, l1, l2, l3, l4, pd⟩ go2 t2 => by
      injection ed with q1 q2
      injection q2 with q2 _
      subst q1 q2
      cases t
      cases t2
      exact ⟨i, n, rfl, rfl, by omega, by omega, by omega, by omega, q _ _ e2 Hc2 H2 pd (go.trans go2) (walks_dn _ _ _)⟩⟩
/-- range(a, b, -1) -/
theorem wi_rgDown {k : Nat} {q1 q2 : Pos} (hm : G.mg "range" = none) (h : WA G [a, b] env fun ds e1 => ∃ i n : Int, ds = [.int i, .int n] ∧ n ≤ 1000000 ∧ -1000000 ≤ n ∧ i ≤ 1000000 ∧ -1000000 ≤ i ∧ Pw (rgDn i (i - n).toNat) e1) (hg : GlG G "range" := by rfl) (ns : noStar [a, b, .UnaryOp .USub (.Constant (.int 1) k q1) q2] = true := by rfl) :
    WI G tg (.Call (.Name "range" p) [a, b, .UnaryOp .USub (.Constant (.int 1) k q1) q2] [] pos) env Pw := fun X hX =>
  ⟨_, pi_range3 (glX hX hg) (by rw [hX.mg]; exact hm) (paW hX [a, b, .UnaryOp .USub (.Constant (.int 1) k q1) q2] ns) (star_cons (noStar_cons ns).1) (star_any (noStar_cons ns).2), fun σ Hc H R r q =>
    tWA.use (es := [a, b, .UnaryOp .USub (.Constant (.int 1) k q1) q2]) (P := fun ds e1 => ∃ i n : Int, ds = [.int i, .int n, .int (-1)] ∧ n ≤ 1000000 ∧ -1000000 ≤ n ∧ i ≤ 1000000 ∧ -1000000 ≤ i ∧ Pw (rgDn i (i - n).toNat) e1) r
      (W.imp h fun d1 e1 h2 => W.imp h2 fun d2 e2 ⟨i, n, ed, hh⟩ => w_neg (w_int ⟨1, rfl, i, n, by injection ed with z1 z2; injection z2 with z2 _; rw [z1, z2], hh⟩)) fun vs ds e1 Hc1 H1 ⟨i, n, ed, l1, l2, l3, l4, pd⟩ go t => by
        subst ed
        have := Trs.of_ints (ns := [i, n, -1]) t
        subst this
        exact ⟨i, n, -1, (i - n).toNat, rfl, RgC.neg (by omega) (by omega) (by omega) (by omega), q _ _ e1 Hc1 H1 pd go (walks_dn _ _ _)⟩⟩
/-! ### lcm -/
def rLcm : List V → Hp → VK → Prop := fun vs H Q => ∃ a b : Int, vs = [.int a, .int b] ∧ a.natAbs < 1000000 ∧ b.natAbs < 1000000 ∧ Q (.int (((Nat.lcm 1 a.natAbs).lcm b.natAbs : Nat) : Int)) H
theorem cr_lcm {X : Cx} : CallR X (.builtin "math.lcm") rLcm := by
  intro pins s σ H vs us Q I r h
  obtain ⟨a, b, rfl, ha, hb, q⟩ := h
  obtain ⟨t, u, rfl⟩ := Vals.int2 r
  refine PySem.W.mg_lcm (Nat.lt_of_lt_of_le ha (by decide)) (Nat.lt_of_lt_of_le hb (by decide)) ?_ ⟨.int _, H, I.tok _, ⟨_, rfl⟩, q⟩
  rw [Int.natAbs_natCast, Nat.lcm_one_left]
  have h1 : a.natAbs.lcm b.natAbs ≤ a.natAbs * b.natAbs := by
    rcases Nat.eq_zero_or_pos (a.natAbs * b.natAbs) with z | z
    · rcases Nat.mul_eq_zero.mp z with z | z <;> rw [z] <;> simp
    · exact Nat.le_of_dvd z (Nat.lcm_dvd_mul _ _)
  have h2 : a.natAbs * b.natAbs < 2 ^ 64 := Nat.lt_of_le_of_lt (Nat.mul_le_mul (Nat.le_of_lt ha) (Nat.le_of_lt hb)) (by decide)
  refine Nat.lt_of_le_of_lt ?_ (show (64 : Nat) < bitsLine by decide)
  rcases Nat.eq_zero_or_pos (a.natAbs.lcm b.natAbs) with z | z
  · rw [z]; decide
  · have := (Nat.log2_lt (Nat.pos_iff_ne_zero.mp z) (k := 64)).mpr (Nat.lt_of_le_of_lt h1 h2)
    omega
theorem w_lcm {P : PyData → En → Prop} (hm : G.mg "lcm" = some (.builtin "math.lcm")) (h : WA G [a, b] env fun ds e1 => ∃ i j : Int, ds = [.int i, .int j] ∧ i.natAbs < 1000000 ∧ j.natAbs < 1000000 ∧ P (.int (((Nat.lcm 1 i.natAbs).lcm j.natAbs : Nat) : Int)) e1) (hg : GlG G "lcm" := by rfl) (ns : noStar [a, b] = true := by rfl) : W G (.Call (.Name "lcm" p) [a, b] [] pos) env P :=
  W.of (fun X => tCB rLcm (tWA G [a, b])) (fun X hX => pe_callBfun cr_lcm (glX hX hg) (by rw [hX.mg]; exact hm) (paW hX [a, b] ns) (by decide) (star_cons (noStar_cons ns).1) (star_any (noStar_cons ns).2)) fun X hX σ Hc H Q R q =>
    tWA.use R h fun vs ds e1 Hc1 H1 ⟨i, j, ed, l1, l2, pd⟩ go t => by
      subst ed
      have := Trs.of_ints (ns := [i, j]) t
      subst this
      exact ⟨i, j, rfl, l1, l2, q _ _ _ _ _ pd go (.int _)⟩
end
end TL

/-! defs called with keywords; the first expression of some statements -/
namespace TL
open PySem PySem.Spec PyProof.Rows L2
theorem All2.app {α β : Type} {R : α → β → Prop} : ∀ {a : List α} {b : List β} {c : List α} {d : List β}, All2 R a b → All2 R c d → All2 R (a ++ c) (b ++ d)
  | [], [], _, _, _, h => h
  | _ :: _, _ :: _, _, _, ⟨h1, h2⟩, h => ⟨h1, All2.app h2 h⟩
  | [], _ :: _, _, _, h, _ => h.elim
  | _ :: _, [], _, _, h, _ => h.elim
theorem All2.rev {α β : Type} {R : α → β → Prop} : ∀ {a : List α} {b : List β}, All2 R a b → All2 R a.reverse b.reverse
  | [], [], _ => trivial
  | _ :: _, _ :: _, ⟨h1, h2⟩ => by
    rw [List.reverse_cons, List.reverse_cons]
    exact All2.app (All2.rev h2) ⟨h1, trivial⟩
  | [], _ :: _, h => h.elim
  | _ :: _, [], h => h.elim
theorem shf_app : Shf fun {_} a b => a ++ b := ⟨fun R _ _ _ _ h k => All2.app h k⟩
theorem shf_rev : Shf fun {_} a b => a ++ b.reverse := ⟨fun R _ _ _ _ h k => All2.app h (All2.rev k)⟩
def DcK (P : Program) (w : World) (K : PySem.W.Frag) (mg : Str → Option Value) (base : Heap) (x : Str) (k : Nat) (ps : List Str) (n : Nat) (ks : List Str) (g : {α : Type} → List α → List α → List α) (sp : Sp) : Prop :=
  ∃ f fd, FnG P w K mg base k f fd ps sp ∧ mg x = some (.ref f) ∧ PySem.W.keepIn K (.ref f) = true ∧ KB fd ps n ks g
theorem DcK.callee {P : Program} {w : World} {K : PySem.W.Frag} {mg : Str → Option Value} {base : Heap} {x : Str} {k j : Nat} {ps N : List Str} {n : Nat} {ks : List Str} {g : {α : Type} → List α → List α → List α} {sp : Sp} {st : Stmt} {A : Around} (D : DcK P w K mg base x j ps n ks g sp) (sh : Shf g) (hr : Room k A) (hg : A.guards = some []) (h : j ≤ k) :
    ∃ f fd, CalleeK (GxOf P w K mg base N st A) x j f fd ps n ks g sp := by
  obtain ⟨f, fd, h1, h2, h3, h4⟩ := D
  exact ⟨f, fd, h1, hr.mono h, hg, h2, h3, h4, sh⟩
/-- a def as the top has left it, called with keywords -/
def DfK (K : PySem.W.Frag) (x : Str) (st : Stmt) (ps : List Str) (n : Nat) (ks : List Str) (g : {α : Type} → List α → List α → List α) : Prop := ∃ (f : Addr) (fd : FuncData), Fun K x x st f fd ∧ PySem.W.nsIn K mainGlobals x = some (some (.ref f)) ∧ KB fd ps n ks g
theorem dfk_mk {K : PySem.W.Frag} {x : Str} {st : Stmt} {ps : List Str} {n : Nat} {ks : List Str} {g : {α : Type} → List α → List α → List α} {f : Addr} {oc : Value} {od an : Option Addr} {osl : Array (Option Value)} {kV doc pm cdv ct : Value}
    (b : ∀ (kV doc pm : Value) (an : Option Addr) (cdv ct : Value) (us ws : List Value), us.length = n → ws.length = ks.length → bindArgs (PySem.W.fnOf x x (defArgs st) (defBody st) (defScope st) .none kV doc pm an cdv ct) ⟨us, ks.zip ws⟩ = pure (ps.zip (g us ws)))
    (a : PySem.W.nsIn K mainGlobals x = some (some (.ref f))) (l : K.lookup f = some ⟨oc, od, .func (PySem.W.fnOf x x (defArgs st) (defBody st) (defScope st) .none kV doc pm an cdv ct), osl⟩)
    (c : PySem.W.codeIn K cdv x = true) (k : PySem.W.keepIn K (.ref f) = true) : DfK K x st ps n ks g :=
  ⟨f, _, fun_mk l c k, a, ⟨fun s us ws h1 h2 => .of_eq (b kV doc pm an cdv ct us ws h1 h2)⟩⟩
theorem DfK.dc {P : Program} {w : World} {K : PySem.W.Frag} {h base : Heap} {mg : Str → Option Value} {x : Str} {st : Stmt} {ps : List Str} {n : Nat} {ks : List Str} {g : {α : Type} → List α → List α → List α} {k : Nat} {sp : Sp} (D : DfK K x st ps n ks g) (X : K.In h) (G : h.Ns mainGlobals mg)
    (F : ∀ (f : Addr) (fd : FuncData), Fun K x x st f fd → FnG P w K mg base k f fd ps sp) : DcK P w K mg base x k ps n ks g sp := by
  obtain ⟨f, fd, h1, h2, h4⟩ := D
  exact ⟨f, fd, F f fd h1, PySem.W.mg_of X G h2, h1.kp, h4⟩
def eOf : List Stmt → Expr
  | .Assign _ e _ :: _ => e
  | .Return (some e) _ :: _ => e
  | .If c _ _ _ :: _ => c
  | .Expr e _ :: _ => e
  | _ => .List [] ⟨0, 0, 0, 0⟩
end TL

/-! tuple(range), tuple * 0, walks over lists of tuples, walks over a dict's keys, calls with keywords only -/
namespace TL
open PySem PySem.Spec PyProof.Rows L2
/-! ### (x,) * k, k may be 0 -/
theorem tuple_mul0 (l : Addr) (items : Array Value) (n : Nat) (dd : Option Addr) (sl : Array (Option Value)) (u : Tok) (hne : items.isEmpty = false) :
    Meets (Builtin.«tuple.__mul__» ⟨[.ref l, .int 0 u], []⟩) (fun _ R s => s.heap.get? l = some { cls := .type "tuple", dict := dd, data := .seq items n, slots := sl } ∧ R (.ok (.ret (Value.ref s.heap.objs.size))) { s with heap := s.heap.push { cls := .type "tuple", data := .seq #[] } }) :=
  .of_wp fun prog w A R s h => by
    obtain ⟨hp, g, d, tk, os⟩ := s
    obtain ⟨hl, h⟩ := h
    have f1 := AutoSeq1.idx_int
    have c1 : (items.isEmpty || (0 : Int) == 1) = false := by rw [hne]; rfl
    have c2 : (decide ((0 : Int) ≤ 0) || items.isEmpty) = true := by simp
    wp_walk using wpAny_loadPart' hl
    repeat (first
      | (refine wpAny_ite_false (decide_eq_false (by decide)) ?_; wp_walk using wpAny_loadPart' hl)
      | (refine wpAny_ite_false c1 ?_; wp_walk using wpAny_loadPart' hl)
      | (refine wpAny_ite_true c2 ?_; wp_walk using wpAny_loadPart' hl))
    exact ⟨_, rfl, h⟩
def rRep0 (K : PySem.W.Frag) : R2 := fun x y H Q => ∃ l z, x = .ref l ∧ y = .int 0 ∧ SqT K H l [z] ∧ ∀ (p : Addr) (o : Obj), H p = none → o.cls = .type "tuple" → o.dict = none → Q (.ref p) (upd H p (.frz o (.tup [])))
theorem op_rep0 {X : Cx} : OpR X (binaryOp .Mult) (rRep0 X.K) := by
  intro pins s σ H x y v u Q I rx ry h
  obtain ⟨l, z, rfl, rfl, hT, q2⟩ := h
  cases rx
  obtain ⟨t, rfl⟩ := ry
  obtain ⟨its, r, ⟨⟨cls, dd, data, sl⟩, ho, hc, n, hd⟩, hs⟩ := I.tuple hT
  simp only at hc hd
  subst hc hd
  obtain ⟨uu, rfl, r0⟩ := vals1 r
  refine wpAny_binaryOp_repeat_ref (T := "tuple") (U := "int") (by decide) ⟨_, ho, rfl⟩ (fun s' => typeIs_int s' (0 : Int) t) noFill_tuple_mul F.fills_int_mul F.slot_int_rmul repeat_tuple F.slot_int_index.lookup ?_
  refine call_meets F.slot_int_rmul (typeIs_int s _ t) F.entry_int_rmul (F.args_int_rmul_2 _ _) (int_rmul_tuple _ t l _ n dd sl)
    ⟨ho, rfl, ⟨_, ho, rfl⟩, call_meets F.slot_tuple_mul ⟨_, ho, rfl⟩ F.entry_tuple_mul (F.args_tuple_mul_2 _ _) (tuple_mul0 l _ n dd sl t rfl) ⟨ho, ?_⟩⟩
  exact ⟨.ref s.heap.objs.size, _, I.laid (t' := s.toks) (o := .frz { cls := .type "tuple", data := .seq #[] } (.tup [])) (fun b ob q => Heap.get?_push_of_some _ q) (Nat.le_refl _) ⟨Heap.get?_push_size _ rfl, Nat.zero_le _, [], .nil, IsTup.new _ _⟩, rfl, q2 _ { cls := .type "tuple", data := .seq #[] } (I.hok.fresh (Nat.le_refl _)) rfl rfl⟩
theorem OpR.or2 {X : Cx} {op : Value → Value → Sem Value} {r r' : R2} (h : OpR X op r) (h' : OpR X op r') : OpR X op fun x y H Q => r x y H Q ∨ r' x y H Q := by
  intro pins s σ H x y v u Q I rx ry q
  rcases q with q | q
  · exact h pins s σ H x y v u Q I rx ry q
  · exact h' pins s σ H x y v u Q I rx ry q
section
variable {G : Gx} {env : En} {N : DE} {rest : List Stmt} {P : PyData → En → Prop} {e a b c elt iter : Expr} {es : List Expr} {scope : Scope} {pos p px py pt p2 p3 : Pos} {x y : Str}
/-- a tuple of one item times an int from 0 to 16 -/
theorem w_rep01 (h : W G a env fun x e1 => ∃ z, x = .tuple [z] ∧ W G b e1 fun y e2 => ∃ k : Nat, y = .int (k : Int) ∧ k ≤ 16 ∧ P (.tuple (List.replicate k z)) e2) : W G (.BinOp a .Mult b pos) env P :=
  w_bin (r := fun X x y H Q => rRep1 X.K x y H Q ∨ rRep0 X.K x y H Q) (fun _ _ => OpR.or2 op_rep1 op_rep0) fun X hX => W.imp h fun x e1 ⟨z, ex, h2⟩ => W.imp h2 fun y e2 ⟨k, ey, h16, pd⟩ => by
    subst ex
    subst ey
    intro Hc H u' v' Q s t1 t2 q
    cases t2
    cases t1 with
    | @tup a1 vs1 _ m1 k1 =>
      cases k1 with
      | cons kz kn =>
        cases kn
        by_cases h0 : k = 0
        · subst h0
          refine .inr ⟨_, _, rfl, rfl, (m1.mono s).sq, fun p' o hp o1 o2 => ?_⟩
          have x := Ext.new (o := .frz o (.tup [])) s hp
          exact q _ _ _ _ pd x (.tup ⟨o, o1, o2, upd_same⟩ .nil)
        · refine .inl ⟨_, _, k, rfl, rfl, (m1.mono s).sq, by omega, h16, fun e1 => ?_, fun _ p' o hp o1 o2 => ?_⟩
          · subst e1
            exact q _ _ Hc H pd (.refl s) (.tup m1 (.cons kz .nil))
          · have x := Ext.new (o := .frz o (.tup (List.replicate k (by assumption : V)))) s hp
            exact q _ _ _ _ pd x (.tup ⟨o, o1, o2, upd_same⟩ (trs_rep (kz.mono x.core) k))
/-! ### tuple(range(..)) -/
def tTupRgF (te : L2.St → Hp → (Int → Int → Hp → Prop) → Prop) : TE := fun σ H Q => te σ H fun a b H1 => RgOk a b ∧ ∀ (q : Addr) (o : Obj), H1 q = none → o.cls = .type "tuple" → o.dict = none → Q (.ref q) (upd H1 q (.frz o (.tup (rgV a b))))
theorem pe_tupRgF {X : Cx} {te : L2.St → Hp → (Int → Int → Hp → Prop) → Prop} (hc : X.calm = true) (hg : Gl X "tuple") (hm : X.mg "tuple" = none) (he : PRg X e te) (na : starEach [e] X.env = (false, eval e X.env) :: starEach [] X.env := by rfl) : PE X (.Call (.Name "tuple" p) [e] [] pos) (tTupRgF te) := by
  refine ⟨fun pins s σ H Q I h => ?_⟩
  refine Call_ (ld_blt I hg hm boot_tuple (PyProof.Rows.callWith_type1 (args_cons (thn (he pins s σ H _ I h) fun x s1 ⟨r, a, b, t, u, v, H1, ex, hr, I1, ok, q⟩ => args_nil ?_) na) na))
  subst ex
  obtain ⟨b1, b2, b3, b4, b5⟩ := ok
  refine call_tuple_range (n := (b - a).toNat) (I1.ok.hd hc) hr (small_one b1 b2 b3 b4) (rangeSize_nat a b) b5 fun h' tk acc hk hi => ?_
  have I2 : Inv X pins σ H1 { s1 with heap := h', toks := tk } := I1.kept hk
  have go : ObjOk X.prog X.w (upd H1 h'.objs.size (.frz { cls := .type "tuple", data := .seq acc } (.tup (rgV a b)))) (h'.push { cls := .type "tuple", data := .seq acc }) h'.objs.size (.frz { cls := .type "tuple", data := .seq acc } (.tup (rgV a b))) := by
    refine ⟨Heap.get?_push_size _ rfl, ?_, acc.toList, vals_rg hi, ?_⟩
    · rw [rgV_length, sizeLine_eq]; omega
    · rw [Array.toArray_toList]; exact IsTup.new _ _
  exact ⟨.ref h'.objs.size, _, I2.laid (t' := tk) (o := .frz { cls := .type "tuple", data := .seq acc } (.tup (rgV a b))) (fun c o e => Heap.get?_push_of_some _ e) (Nat.le_refl _) go, rfl, q _ { cls := .type "tuple", data := .seq acc } (I2.hok.fresh (Nat.le_refl _)) rfl rfl⟩
theorem w_tupRg {p2 pos2 : Pos} (hl : G.mg "tuple" = none) (hr : G.mg "range" = none) (h : W G a env fun d e1 => ∃ n : Nat, d = .int (n : Int) ∧ n ≤ 16777216 ∧ P (.tuple (rgD 0 n)) e1) (hg : GlG G "tuple" := by rfl) (hg2 : GlG G "range" := by rfl) (ns : noStar [a] = true := by rfl) :
    W G (.Call (.Name "tuple" p) [.Call (.Name "range" p2) [a] [] pos2] [] pos) env P :=
  W.of (fun X => tTupRgF (tRg1 (tW G a))) (fun X hX => pe_tupRgF hX.calm (glX hX hg) (by rw [hX.mg]; exact hl) (prg_1 (glX hX hg2) (by rw [hX.mg]; exact hr) (peW hX a) (star_cons (noStar_cons ns).1)) rfl) fun X hX σ Hc H Q R q =>
    tW.use R h fun v d e1 Hc1 H1 ⟨n, ed, hn, pd⟩ go t => by
      subst ed
      cases t
      refine ⟨_, rfl, RgOk.of_le (by omega) (by omega) (by omega) (by omega), fun p' o hp o1 o2 => ?_⟩
      have x := Ext.new (o := .frz o (.tup (rgV 0 (n : Int)))) go.rep.same hp
      have ee : rgV 0 (n : Int) = ((List.range n).map fun (j : Nat) => (0 : Int) + (j : Int)).map V.int := by
        unfold rgV
        rw [List.map_map, show ((n : Int) - 0).toNat = n by omega]
        rfl
      have e2 : rgD 0 n = ((List.range n).map fun (j : Nat) => (0 : Int) + (j : Int)).map PyData.int := by unfold rgD; rw [List.map_map]; rfl
      refine q _ _ _ _ _ pd (go.trans (x.go go.rep)) (.tup ⟨o, o1, o2, upd_same⟩ ?_)
      rw [ee, e2]
      exact Trs.ints _
/-! ### calls with keywords only -/
theorem w_callK0 {k n : Nat} {f : Addr} {fd : FuncData} {ps ks : List Str} {pre : List PyData → Prop} {post : List PyData → PyData → Prop} {g : {α : Type} → List α → List α → List α} {kws : List Keyword} (C : CalleeK G x k f fd ps 0 ks g (spP pre post))
    (h : WA G (kws.map (·.value)) env fun zs e2 => zs.length = ks.length ∧ pre (g [] zs) ∧ ∀ d, post (g [] zs) d → P d e2)
    (hall : ∀ v : Env, (backToKw pos (keywordEach kws v)).all (·.1.isSome) = true := by exact fun _ => rfl) (hks : ∀ v : Env, (backToKw pos (keywordEach kws v)).filterMap (·.1) = ks := by exact fun _ => rfl)
    (hg : GlG G x := by rfl) (hdb : (x == ("__debug__" : Str)) = false := by decide)
    (hpl : ∀ v : Env, ((backTo pos (starEach [] v)).any (·.1) || (backToKw pos (keywordEach kws v)).any (·.1.isNone)) = false := by exact fun _ => rfl) :
    W G (.Call (.Name x p) [] kws pos) env P := fun X hX pins s σ Hc H Q I R q => by
  have c1 := C.fn
  rw [← hX.P, ← hX.w, ← hX.K, ← hX.mg, ← hX.base] at c1
  have hk : PySem.W.keepIn X.K (.ref f) = true := by rw [hX.K]; exact C.kp
  refine wpAny_Call_Name_kw (ld_glob I (glX hX hg) (by rw [hX.mg]; exact C.mg) ?_ hdb)
  refine PySem.W.callWith_KW0 (h₀ := X.base) I.ok.mod.kin hk (hall _) ?_ (hpl _)
  refine thn ((pkW hX kws).run pos pins s σ H (fun zs H2 => zs.length = ks.length ∧ spP pre post (g [] zs) H2 Q E0) I (tWA.use R h fun zs cs e2 Hc2 H2 ⟨l2, hp, hq⟩ go2 t2 => ?_)) fun ws s2 ⟨zs, H2, I2, rz, l2, q2⟩ => ⟨I2.kIn, ?_⟩
  · have t1 := all2_trs.mp t2
    have t0 : All2 (Tr Hc2) ([] : List V) ([] : List PyData) := trivial
    exact ⟨by rw [t2.length]; exact l2, g [] cs, Hc2, all2_trs.mpr (C.sh.rel _ t0 t1), go2.rep.same, hp, fun v d Hc' H' pd x t' => q _ _ _ _ _ (hq d pd) (go2.trans (x.go go2.rep)) t'⟩
  · rw [hks]
    have r2 : Vals (g [] zs) (g [] ws) := all2_vals.mpr (C.sh.rel _ (show All2 RelV ([] : List V) ([] : List Value) from trivial) (all2_vals.mp rz))
    refine wpAny_call (codeAny_mono (c1.run X.A X.stack s2 H2 ⟨[], ks.zip ws⟩ (g [] ws) (g [] zs) Q E0 (by rw [hX.A]; exact C.gd) (by rw [hX.A]; exact C.room) I2.env0 (C.kb.to s2 [] ws rfl (rz.length.symm.trans l2)) r2 q2) fun rr s' hq => ?_)
    cases rr with
    | error e => exact hq.elim
    | ok fl =>
      cases fl with
      | ret u => exact I2.after hq
      | next => exact hq.elim
      | brk => exact hq.elim
      | cont => exact hq.elim
end
end TL

namespace TL
open PySem PySem.Spec PyProof.Rows L2
/-! max of a list of ints, with default= -/
def rMaxLD (K : PySem.W.Frag) (A : Around) : List V → List V → Hp → VK → Prop := fun vs zs H Q => ∃ (a : Addr) (ns : List Int) (z : Int), vs = [V.ref a] ∧ zs = [V.int z] ∧ SqL K H a (ns.map V.int) ∧ A.units + 64 < cLine ∧ (ns = [] → Q (.int z) H) ∧ ∀ m, m ∈ ns → (∀ y, y ∈ ns → y ≤ m) → Q (.int m) H
theorem cr_maxLD {X : Cx} (hc : X.calm = true) : CallRK X (.builtin "max") [Str.ofString "default"] (rMaxLD X.K X.A) := by
  intro pins s σ H vs zs us ws Q I r rz h
  obtain ⟨a, ns, z, e, ez, hs, hu, q0, q⟩ := h
  subst e ez
  obtain ⟨its, rv, hl, _⟩ := I.list hs
  obtain rfl := Vals.ref1 r
  cases rz with
  | cons rz1 rz2 =>
    cases rz2
    obtain ⟨as, rd⟩ := Dp.readsAll I (ns.map PyData.int) _ its (dps_ints ns) rv
    refine PySem.W.max_list_default (I.ok.hd hc) (vs := its.toArray) hl.isList (by simpa using rd) ⟨fun p hp q hq => ?_, fun p hp => ?_⟩ ?_ (fun e0 h' tk hk => ?_) fun y ys i v h' tk bs ey hv hr hk => ?_
    · obtain ⟨y, _, e1⟩ := List.mem_map.mp hp
      obtain ⟨z, _, e2⟩ := List.mem_map.mp hq
      rw [← e1, ← e2]
      first | rfl | simp [PySem.W.alike] | decide
    · obtain ⟨y, _, e1⟩ := List.mem_map.mp hp
      rw [← e1]
      exact fun z => by cases z
    · have := dep_ints ns
      omega
    · have en : ns = [] := by cases ns with | nil => rfl | cons _ _ => cases e0
      exact ⟨.int z, H, I.kept hk, rz1, q0 en⟩
    · cases ns with
      | nil => cases ey
      | cons x xs =>
        cases ey
        rw [PySem.W.maxD_ints] at hr
        cases hr
        obtain ⟨h1, h2, h3⟩ := foldMax xs x
        refine ⟨.int (xs.foldl max x), H, I.kept hk, ⟨_, rfl⟩, q _ ?_ fun y hy => ?_⟩
        · rcases h1 with e | e
          · rw [e]
            exact List.mem_cons_self
          · exact List.mem_cons_of_mem _ e
        · rcases List.mem_cons.mp hy with e | e
          · rw [e]
            exact h2
          · exact h3 y e
/-- max([..], default=-c) -/
theorem w_maxLD {G : Gx} {env : En} {P : PyData → En → Prop} {elt : Expr} {gens : List Comprehension} {scope : Scope} {p p1 p2 p3 pos kp : Pos} {c : Int} {j : Nat} (hu : G.A.units + 64 < cLine) (hm : G.mg "max" = none)
    (h : W G (.ListComp elt gens scope p1) env fun d e1 => ∃ zs : List Int, d = .list (zs.map PyData.int) ∧ (zs = [] → P (.int (-c)) e1) ∧ ∀ m, m ∈ zs → (∀ y, y ∈ zs → y ≤ m) → P (.int m) e1) (hg : GlG G "max" := by rfl) :
    W G (.Call (.Name "max" p) [.ListComp elt gens scope p1] [⟨some "default", .UnaryOp .USub (.Constant (.int c) j p3) p2, kp⟩] pos) env P :=
  W.of (fun X => tCKw (rMaxLD X.K X.A) (tCons (tW G (.ListComp elt gens scope p1)) tNil) (tCons (tUn (rU fun i => .int (-i)) (tC (.int c))) tNil)) (fun X hX => pe_callBK (cr_maxLD hX.calm) (glX hX hg) (by rw [hX.mg]; exact hm) boot_max (pa_cons (peW hX _) pa_nil) (pk_cons (pe_un un_neg pe_int) pk_nil)) fun X hX σ Hc H Q R q => by
    refine tW.use R h fun v d e1 Hc1 H1 ⟨zs, ed, p0, pn⟩ go t => ?_
    subst ed
    cases t with
    | lst m k =>
      have ek := Trs.of_ints k
      subst ek
      refine ⟨c, rfl, ⟨_, zs, -c, rfl, rfl, SqL.of (go.rep.same _ _ m), by rw [hX.A]; exact hu, fun e0 => q _ _ e1 Hc1 H1 (p0 e0) go (.int _), fun m hm hy => q _ _ e1 Hc1 H1 (pn m hm hy) go (.int _)⟩⟩
end TL

/-! the program's between_table: words -/
namespace TL
open PySem PySem.Spec PyProof.Rows L2
def preT (ds : List PyData) : Prop := ∃ (n : Nat) (t : Tb), ds = [tbT t] ∧ Dye n t ∧ n ≤ 16
def postBt (ds : List PyData) (d : PyData) : Prop := ∀ (n : Nat) (t : Tb), ds = [tbT t] → Dye n t → d = btD n t
theorem preT_many {n : Nat} {t : Tb} (h : Dye n t) (hn : n ≤ 16) : preMy [tbT t] := ⟨t, rfl, fun r hr e => by
  have := h.sq.2 r hr
  have h0 : t.length = n := h.sq.1
  have : 0 < t.length := List.length_pos_of_mem hr
  rw [e] at *
  simp at *
  omega, by rw [h.sq.1]; omega⟩
theorem colsD_ints (n : Nat) (t : Tb) (h : ∀ r ∈ t, r.length = n) : colsD n (t.map fun r => r.map PyData.int) = (colT n t).map fun c => c.map PyData.int := by
  unfold colsD colT
  rw [List.map_map]
  refine List.map_congr_left fun j hj => ?_
  show (t.map fun r => r.map PyData.int).map _ = (t.map fun r => r.getD j 0).map PyData.int
  rw [List.map_map, List.map_map]
  refine List.map_congr_left fun r hr => ?_
  have hj := List.mem_range.mp hj
  have hl := h r hr
  show (r.map PyData.int).getD j .none = .int (r.getD j 0)
  rw [List.getD_eq_getElem?_getD, List.getElem?_map, List.getElem?_eq_getElem (by omega), List.getD_eq_getElem?_getD, List.getElem?_eq_getElem (by omega)]
  rfl
theorem all2_fmap {α : Type} {g F : α → PyData} : ∀ {l : List α} {acc : List PyData}, All2 (fun d y => ∀ a, d = g a → y = F a) (l.map g) acc → acc = l.map F
  | [], [], _ => rfl
  | a :: l, y :: acc, ⟨h, k⟩ => by
    rw [h a rfl, all2_fmap k]
    rfl
  | [], _ :: _, h => h.elim
  | _ :: _, [], h => h.elim
theorem zip_code (r : Int) (g : PyData × PyData → PyData) (hg : ∀ x y, g (.int x, .int y) = .int (r * x + y)) : ∀ a b : List Int, ((a.map PyData.int).zip (b.map PyData.int)).map g = (codeL r a b).map PyData.int
  | [], _ => rfl
  | _ :: _, [] => rfl
  | x :: a, y :: b => by
    show g (.int x, .int y) :: _ = .int (r * x + y) :: _
    rw [hg]
    exact congrArg _ (zip_code r g hg a b)
end TL

namespace K09
open PySem PySem.Spec PyProof.Rows L2 TL
def topS (i : Nat) : Stmt := PySem.Challenge.pw_pairdyes_k09_breaches_of_closed_dyeings.main.body.getD i (.Pass ⟨0, 0, 0, 0⟩)
end K09

namespace K09
open PySem PySem.Spec PyProof.Rows L2 TL
section
variable {P : Program} {w : World} {K : PySem.W.Frag} {mg : Str → Option Value} {base : Heap} {k : Nat} {f : Addr} {fd : FuncData}
abbrev sDc : Stmt := topS 1
theorem scDc : FnScope ["dyeing", "row"] ["dyeing"] (defScope sDc) := ⟨rfl, rfl, rfl, by decide +kernel, rfl, by decide +kernel, by decide +kernel⟩
theorem ok_dc (F : Fun K "dye_count" "dye_count" sDc f fd) (m1 : mg "max" = none) : FnG P w K mg base 1 f fd ["dyeing"] (spP preMy postMy) := by
  refine fnP F scDc (fun ds ⟨t, e, _⟩ => by rw [e]; rfl) fun A hg hr ds ⟨t, e, hne, hl⟩ => ?_
  subst e
  refine r_ret (w_add (w_maxLD (by have := hr.units; exact this) m1 (w_lc 1 (t := none) (lc_seq (w_name 0 ⟨t.map rowT, rfl, by rw [List.length_map]; omega, cj_rel isMaxRow (fun d hd => ?_) fun acc a => ?_⟩)) scDc.nd)))
  · obtain ⟨r, hrm, er⟩ := List.mem_map.mp hd
    subst er
    exact w_maxT (by have := hr.units; exact this) m1 (w_name 1 ⟨r, rfl, hne r hrm, fun m hm hy => ⟨fun r' e => by rw [← rowT_inj e]; exact ⟨m, hm, rfl, hy⟩, rfl⟩⟩)
  · obtain ⟨zs, e, al⟩ := maxRows a
    subst e
    refine ⟨zs, rfl, fun z => ⟨_, rfl, w_int ⟨1, rfl, fun t' e => ⟨_, rfl, .inl ⟨?_, rfl⟩⟩⟩⟩, fun m hm hy => ⟨m, rfl, w_int ⟨1, rfl, fun t' e => ⟨m + 1, rfl, .inr ?_⟩⟩⟩⟩
    · injection e with e _
      rw [← tbT_inj e]
      subst z
      exact List.eq_nil_of_length_eq_zero al.length
    · injection e with e _
      rw [← tbT_inj e]
      have e1 : (m + 1 - 1 : Int) = m := by omega
      rw [e1]
      obtain ⟨q1, q2⟩ := All2.memR al
      refine ⟨?_, fun r hr x hx => ?_⟩
      · obtain ⟨r, hr, h1, _⟩ := q1 m hm
        exact ⟨r, hr, h1⟩
      · obtain ⟨z, hz, _, h2⟩ := q2 r hr
        exact Int.le_trans (h2 x hx) (hy z hz)
abbrev nBt : List Str := ["dyeing", "r", "columns", "row", "column", "i", "j"]
abbrev sBt : Stmt := topS 3
theorem scBt : FnScope nBt ["dyeing"] (defScope sBt) := ⟨rfl, rfl, rfl, by decide +kernel, rfl, by decide +kernel, by decide +kernel⟩
theorem ok_bt (F : Fun K "between_table" "between_table" sBt f fd) (m1 : mg "list" = none) (m2 : mg "zip" = none) (m3 : mg "tuple" = none) (m4 : mg "sorted" = none) (DM : Dc P w K mg base "dye_count" 1 ["dyeing"] (spP preMy postMy)) : FnG P w K mg base 2 f fd ["dyeing"] (spP preT postBt) := by
  refine fnP F scBt (fun ds ⟨_, _, e, _⟩ => by rw [e]; rfl) fun A hg hr ds ⟨n, t, e, ht, hn⟩ => ?_
  subst e
  obtain ⟨fM, fdM, CM⟩ := DM.callee (N := nBt) (st := sBt) hr hg (by decide : 1 ≤ 1)
  refine r_asg 1 scBt.nd (w_callP CM (w_name 0 ⟨preT_many ht hn, fun d pd => ?_⟩))
  obtain ⟨z, ez, hz⟩ := pd t rfl
  have hz := many_eq ht hz
  subst ez hz
  have hl : t.length = n := ht.sq.1
  have hrow := ht.sq.2
  refine r_asg 2 scBt.nd (w_listZipS m1 m2 (w_name 0 ⟨t.map fun r => r.map .int, n, by rw [List.map_map], fun r hr => ?_, by rw [List.length_map]; omega, Nat.le_trans (show n ≤ 100 by omega) (by decide), fun h0 e => ?_, ?_⟩))
  · obtain ⟨s, hs, es⟩ := List.mem_map.mp hr
    rw [← es, List.length_map]
    exact hrow s hs
  · rw [List.map_eq_nil_iff] at e
    rw [e] at hl
    simp at hl
    omega
  rw [colsD_ints n t hrow, List.map_map]
  show Rs _ _ [.va (tbT t), .va (.int (mny t : Int)), .va (.list ((colT n t).map rowT)), .no, .no, .no, .no] _
  have lc : (colT n t).length = n := by unfold colT; rw [List.length_map, List.length_range]
  have hc : ∀ c ∈ colT n t, c.length = n := fun c hc => by
    obtain ⟨j, _, e⟩ := List.mem_map.mp hc
    rw [← e, List.length_map]
    exact hl
  have low := low1000 ht hn
  have hbd : ∀ r ∈ t, ∀ x ∈ r, 0 ≤ x ∧ x < 1000 := fun r hr x hx => by
    have b := ht.low r hr x hx
    have : n * n ≤ 16 * 16 := Nat.mul_le_mul hn hn
    omega
  refine r_ret (w_lc 3 (t := none) (lc_seq (w_name 0 ⟨t.map rowT, rfl, by rw [List.length_map]; omega, cj_rel (fun d y => ∀ row, d = rowT row → y = .list ((colT n t).map fun c => .tuple ((srtI (codeL (mny t) row c)).map .int))) (fun d hd => ?_) fun acc al => ?_⟩)) scBt.nd)
  · obtain ⟨row, hr, er⟩ := List.mem_map.mp hd
    subst er
    refine w_lc 4 (t := none) (lc_seq (w_name 2 ⟨(colT n t).map rowT, rfl, by rw [List.length_map, lc]; omega, cj_rel (fun d y => ∀ c, d = rowT c → y = .tuple ((srtI (codeL (mny t) row c)).map .int)) (fun d hd => ?_) fun acc al => ⟨fun row' e => ?_, rfl⟩⟩)) scBt.nd
    · obtain ⟨c, hcm, ec⟩ := List.mem_map.mp hd
      subst ec
      refine w_tupC m3 (w_sortedI m4 (w_lcP 5 6 (fun p y => y = match p with | (.int x, .int z) => .int ((mny t : Int) * x + z) | _ => .none) (wi_zipTT m2 (w_name 3 (w_name 4 ⟨row.map .int, c.map .int, rfl, by rw [List.length_map, List.length_map, hrow row hr, hc c hcm], by rw [List.length_zip, List.length_map, List.length_map, hrow row hr, hc c hcm]; omega, fun i p ep => ?_, fun acc al => ?_⟩))) scBt.nd))
      · obtain ⟨z1, z2⟩ := List.getElem?_zip_eq_some.mp (show ((row.map PyData.int).zip (c.map PyData.int))[i]? = some (p.1, p.2) from ep)
        obtain ⟨x, hx, ex⟩ := mem_ints (List.mem_of_getElem? z1)
        obtain ⟨y, hy, ey⟩ := mem_ints (List.mem_of_getElem? z2)
        obtain ⟨p1, p2⟩ := p
        subst ex ey
        have b := hbd row hr x hx
        exact w_add (w_mul (w_name 1 ⟨(mny t : Int), rfl, w_name 5 ⟨x, rfl, small_mulR (by omega) (by omega), _, rfl, w_name 6 ⟨y, rfl, rfl, rfl⟩⟩⟩))
      · rw [al.eq_map, zip_code (mny t : Int) _ fun x y => rfl]
        refine ⟨_, rfl, fun ys pp hp => ⟨_, rfl, fun c' e => ?_, rfl⟩⟩
        rw [srtI_of pp hp, rowT_inj e]
    · rw [all2_fmap al, rowT_inj e]
  · rw [all2_fmap al]
    intro n' t' e' ht'
    injection e' with e' _
    have e' := tbT_inj e'
    subst e'
    have : n' = n := by rw [← ht'.sq.1, hl]
    subst this
    unfold btD btwT
    rw [List.map_map]
    refine congrArg PyData.list (List.map_congr_left fun row _ => ?_)
    show _ = PyData.list (((colT n' t).map fun c => srtI (codeL (mny t) row c)).map fun c => .tuple (c.map .int))
    rw [List.map_map]
    rfl
end
end K09

/-! small words that many laws share (K54G1 to K54G3 and K56's hold their own copies) -/
namespace TL
open PySem PySem.Spec PyProof.Rows L2
theorem tq_atN {n : Nat} {t : Tb} (h : Sq n t) {x y : Nat} (hx : x < n) (hy : y < n) : ∃ r, atI (t.map rowT) (x : Int) = some (rowT r) ∧ atI (r.map PyData.int) (y : Int) = some (.int (atN t x y)) ∧ r ∈ t ∧ atN t x y ∈ r := by
  have ha : x < t.length := by have := h.1; omega
  have hr := h.2 t[x] (List.getElem_mem ha)
  have hb : y < t[x].length := by omega
  have e0 : atN t x y = t[x][y] := by
    unfold atN
    rw [List.getD_eq_getElem?_getD (l := t), List.getElem?_eq_getElem ha]
    show t[x].getD y 0 = _
    rw [List.getD_eq_getElem?_getD, List.getElem?_eq_getElem hb]
    rfl
  refine ⟨t[x], atI_nat (by rw [List.getElem?_map, List.getElem?_eq_getElem ha]; rfl), ?_, List.getElem_mem ha, ?_⟩
  · rw [e0]
    exact atI_nat (by rw [List.getElem?_map, List.getElem?_eq_getElem hb]; rfl)
  · rw [e0]
    exact List.getElem_mem hb
theorem rg_in {n : Nat} {d : PyData} (hd : d ∈ rgD 0 n) : ∃ i : Nat, i < n ∧ d = .int (i : Int) := by
  obtain ⟨j, hj⟩ := List.getElem?_of_mem hd
  obtain ⟨h1, h2⟩ := rgD_get hj
  exact ⟨j, h1, by rw [h2, Int.zero_add]⟩
def prN (p : Nat × Nat) : PyData := .tuple [.int (p.1 : Int), .int (p.2 : Int)]
theorem at0 {α : Type} (x y : α) : atI [x, y] (0 : Int) = some x := rfl
theorem at1 {α : Type} (x y : α) : atI [x, y] (1 : Int) = some y := rfl
def preW (ds : List PyData) : Prop := ∃ (n m : Nat) (s t : Tb), ds = [tbT s, tbT t] ∧ Dye n s ∧ Dye m t ∧ n * m ≤ 16 ∧ n ≤ 16 ∧ m ≤ 16
def postW (ds : List PyData) (d : PyData) : Prop := ∀ (n m : Nat) (s t : Tb), ds = [tbT s, tbT t] → Dye n s → Dye m t → ∃ u, d = tbT u ∧ Dye (n * m) u
theorem postW_of {n m : Nat} {s t : Tb} {d : PyData} {u : Tb} (hs : Dye n s) (ht : Dye m t) (e : d = tbT u) (hu : Dye (n * m) u) : postW [tbT s, tbT t] d := fun n' m' s' t' e' hs' ht' => by
  injection e' with e1 e2
  injection e2 with e2 _
  have e1 := tbT_inj e1
  have e2 := tbT_inj e2
  subst e1 e2
  have h1 : n = n' := by rw [← hs.sq.1, ← hs'.sq.1]
  have h2 : m = m' := by rw [← ht.sq.1, ← ht'.sq.1]
  subst h1 h2
  exact ⟨u, e, hu⟩
theorem mem_pr {ps : List (Nat × Nat)} {d : PyData} (h : d ∈ ps.map prN) : ∃ p ∈ ps, d = prN p := by
  obtain ⟨p, hp, e⟩ := List.mem_map.mp h
  exact ⟨p, hp, e.symm⟩
theorem rgD_map {n : Nat} (g : PyData → PyData) (h : Nat → PyData) (e : ∀ i : Nat, g (.int (i : Int)) = h i) : (rgD 0 n).map g = (List.range n).map h := by
  unfold rgD
  rw [List.map_map]
  refine List.map_congr_left fun i _ => ?_
  show g (.int (0 + (i : Int))) = h i
  rw [Int.zero_add, e]
def tpN (p : List Nat) : PyData := .tuple (p.map fun (x : Nat) => PyData.int (x : Int))
theorem tp_at {p : List Nat} {i : Nat} (h : i < p.length) : atI (p.map fun (x : Nat) => PyData.int (x : Int)) (i : Int) = some (.int (p[i] : Int)) := atI_nat (by rw [List.getElem?_map, List.getElem?_eq_getElem h]; rfl)
theorem mem_tp {ps : List (List Nat)} {d : PyData} (h : d ∈ ps.map tpN) : ∃ p ∈ ps, d = tpN p := by
  obtain ⟨p, hp, e⟩ := List.mem_map.mp h
  exact ⟨p, hp, e.symm⟩
def pr (l : List Nat) : Nat := l.foldr (· * ·) 1
theorem pr_snoc (l : List Nat) (x : Nat) : pr (l ++ [x]) = pr l * x := by
  induction l with
  | nil => simp [pr]
  | cons y l ih =>
    show y * pr (l ++ [x]) = y * pr l * x
    rw [ih, Nat.mul_assoc]
def preP (ds : List PyData) : Prop := ∃ (n k : Nat) (t : Tb), ds = [tbT t, .int (k : Int)] ∧ Dye n t ∧ 1 ≤ n ∧ n ≤ 16 ∧ k ≤ 16 ∧ n ^ k ≤ 16
def postP (ds : List PyData) (d : PyData) : Prop := ∀ (n k : Nat) (t : Tb), ds = [tbT t, .int (k : Int)] → Dye n t → ∃ u, d = tbT u ∧ Dye (n ^ k) u
def preS (ds : List PyData) : Prop := ∃ sp : List Nat, ds = [tpN sp] ∧ sp.length ≤ 16 ∧ (∀ x ∈ sp, 1 ≤ x ∧ x ≤ 16) ∧ ∀ i, i ≤ sp.length → pr (sp.take i) ≤ 16
def postS (ds : List PyData) (d : PyData) : Prop := ∀ sp : List Nat, ds = [tpN sp] → ∃ rs : List (List Nat), d = .list (rs.map tpN) ∧ rs.length = pr sp ∧ ∀ r ∈ rs, r.length = sp.length
def postGr (ds : List PyData) (d : PyData) : Prop := ∀ sp : List Nat, ds = [tpN sp] → ∃ u, d = tbT u ∧ Dye (pr sp) u
theorem tp_inj {p q : List Nat} (h : tpN p = tpN q) : p = q := by
  unfold tpN at h
  injection h with h
  induction p generalizing q with
  | nil => cases q with | nil => rfl | cons _ _ => cases h
  | cons a p ih =>
    cases q with
    | nil => cases h
    | cons b q =>
      rw [List.map_cons, List.map_cons] at h
      injection h with h1 h2
      injection h1 with h1
      rw [show a = b by omega, ih h2]
end TL

/-! breaches of closed dyeings -/
namespace TL
open PySem PySem.Spec PyProof.Rows L2
def mids (n : Nat) (t : Tb) : List Int := (List.range n).map fun x => atN t x x
theorem mids_mem {n : Nat} {t : Tb} {v : Int} : v ∈ mids n t ↔ ∃ z, z < n ∧ atN t z z = v := by
  unfold mids
  rw [List.mem_map]
  exact ⟨fun ⟨z, h, e⟩ => ⟨z, List.mem_range.mp h, e⟩, fun ⟨z, h, e⟩ => ⟨z, List.mem_range.mpr h, e⟩⟩
def mixB (n : Nat) (t : Tb) (x y : Nat) : Bool := decide (x ≠ y) && decide (atN t x y ∈ mids n t)
def mixRow (n : Nat) (t : Tb) (x k : Nat) : List Int := ((List.range k).filter fun y => mixB n t x y).map fun y => atN t x y
def mixP (n : Nat) (t : Tb) (i k : Nat) : List Int := ((List.range i).flatMap fun x => mixRow n t x n) ++ mixRow n t i k
theorem mixP_row (n : Nat) (t : Tb) (i : Nat) : mixP n t i n = mixP n t (i + 1) 0 := by
  unfold mixP
  rw [List.range_succ, List.flatMap_append, List.flatMap_cons, List.flatMap_nil, List.append_nil]
  show _ = _ ++ []
  rw [List.append_nil]
theorem mixP_col (n : Nat) (t : Tb) (i k : Nat) : mixP n t i (k + 1) = mixP n t i k ++ if mixB n t i k = true then [atN t i k] else [] := by
  unfold mixP mixRow
  rw [List.range_succ, List.filter_append, List.map_append, List.append_assoc, List.filter_cons, List.filter_nil]
  by_cases h : mixB n t i k = true
  · rw [if_pos h, if_pos h]; rfl
  · rw [if_neg h, if_neg h]; rfl
/-- a pair that isn't a middle, of a middle's dye -/
def MixAt (n : Nat) (t : Tb) (v : Int) : Prop := ∃ x y, x < n ∧ y < n ∧ x ≠ y ∧ atN t x y = v ∧ ∃ z, z < n ∧ atN t z z = v
theorem mixP_mem {n : Nat} {t : Tb} {v : Int} : v ∈ mixP n t n 0 ↔ MixAt n t v := by
  unfold mixP
  show v ∈ _ ++ [] ↔ _
  rw [List.append_nil, List.mem_flatMap]
  constructor
  · rintro ⟨x, hx, h⟩
    obtain ⟨y, hy, e⟩ := List.mem_map.mp h
    obtain ⟨hy, hb⟩ := List.mem_filter.mp hy
    obtain ⟨h1, h2⟩ := Bool.and_eq_true_iff.mp hb
    subst e
    exact ⟨x, y, List.mem_range.mp hx, List.mem_range.mp hy, of_decide_eq_true h1, rfl, mids_mem.mp (of_decide_eq_true h2)⟩
  · rintro ⟨x, y, hx, hy, hn, e, hz⟩
    subst e
    exact ⟨x, List.mem_range.mpr hx, List.mem_map.mpr ⟨y, List.mem_filter.mpr ⟨List.mem_range.mpr hy, Bool.and_eq_true_iff.mpr ⟨decide_eq_true hn, decide_eq_true (mids_mem.mpr hz)⟩⟩, rfl⟩⟩
/-- what middle_breach tells -/
def IsMid (n : Nat) (t : Tb) (d : PyData) : Prop := ((∀ v, ¬ MixAt n t v) ∧ d = .none) ∨ ∃ v, MixAt n t v ∧ (∀ u, MixAt n t u → v ≤ u) ∧ d = .tuple [.str "middle", .int v]
end TL

/-! lists in a list, each to be changed: x = [[..] for ..]; x[a][b]; x[a][b] = e. The inner lists stand in slots of names that the def hasn't -/
namespace TL
open PySem PySem.Spec PyProof.Rows L2
/-! ### slots of no name -/
theorem inv_ghost {X : Cx} {pins : Pins} {σ σ' : L2.St} {H : Hp} {s : Shared} (I : Inv X pins σ H s) (hl : σ'.length = σ.length) (h : ∀ (i : Nat) (x : Str), X.N[i]? = some x → Vis X.env.scope x → σ'[i]? = σ[i]?) : Inv X pins σ' H s :=
  { I with
    loc := by
      obtain ⟨m, h1, h2⟩ := I.loc
      exact ⟨m, h1, fun i x v e1 e2 hv => h2 i x v e1 (by rw [← h i x e1 hv]; exact e2) hv⟩
    len := by rw [hl]; exact I.len }
def tGh (m : Nat) (t : TS) : TS := fun D σ H => t { D with nx := fun σ1 H1 => ∃ σ2 : L2.St, σ2.length = σ1.length ∧ (∀ i, i < m → σ2[i]? = σ1[i]?) ∧ D.nx σ2 H1 } σ H
theorem ps_gh {X : Cx} {st : Stmt} {t : TS} (m : Nat) (hm : ∀ (i : Nat) (x : Str), m ≤ i → X.N[i]? = some x → ¬ Vis X.env.scope x) (h : PS X st t) : PS X st (tGh m t) := ⟨fun pins s σ H D I q => by
  refine wpAny_mono (h.run pins s σ H _ I q) (fun f s1 sp => ?_) fun _ _ z => z
  cases f with
  | next =>
    obtain ⟨σ1, H1, I1, σ2, e1, e2, q2⟩ := sp
    refine ⟨σ2, H1, inv_ghost I1 e1 fun i x e hv => e2 i ?_, q2⟩
    by_cases l : i < m
    · exact l
    · exact absurd hv (hm i x (by omega) e)
  | ret v => exact sp
  | brk => exact sp
  | cont => exact sp⟩
/-! ### lists in a list that nobody else knows -/
structure LP (Hc H : Hp) (σ : L2.St) (env : En) (a : Addr) (as : List Addr) (dss : List (List PyData)) : Prop where
  ls : H a = some (.lst (as.map V.ref))
  nd : (a :: as).Nodup
  len : as.length = dss.length
  el : ∀ (k : Nat) b ds, as[k]? = some b → dss[k]? = some ds → ∃ vs, H b = some (.lst vs) ∧ Trs Hc vs ds
  out : ∀ b, b ∈ a :: as → Hc b = none ∧ ¬ Own σ env b
section
variable {Hc H Hc' H' : Hp} {σ σ' : L2.St} {env env' : En} {a : Addr} {as : List Addr} {dss : List (List PyData)}
theorem LP.there (L : LP Hc H σ env a as dss) : ∀ b, b ∈ a :: as → H b ≠ none := fun b hb z => by
  rcases List.mem_cons.mp hb with e | hm
  · rw [e, L.ls] at z
    cases z
  · obtain ⟨k, hk⟩ := List.getElem?_of_mem hm
    have hl : k < dss.length := by rw [← L.len]; exact (List.getElem?_eq_some_iff.mp hk).1
    obtain ⟨vs, h1, _⟩ := L.el k b _ hk (List.getElem?_eq_getElem hl)
    rw [h1] at z
    cases z
theorem LP.go (L : LP Hc H σ env a as dss) (g : Go Hc H σ env Hc' H' σ' env') : LP Hc' H' σ' env' a as dss where
  ls := g.kp a _ L.ls (L.out a List.mem_cons_self).2
  nd := L.nd
  len := L.len
  el := fun k b ds h1 h2 => by
    obtain ⟨vs, h3, h4⟩ := L.el k b ds h1 h2
    exact ⟨vs, g.kp b _ h3 (L.out b (List.mem_cons_of_mem _ (List.mem_of_getElem? h1))).2, h4.mono g.core⟩
  out := fun b hb => ⟨g.out b (L.there b hb) (L.out b hb).1 (L.out b hb).2, fun o => (g.own b o).elim (L.out b hb).2 (L.there b hb)⟩
end
/-- the word of a comprehension that makes new lists -/
structure CN (G' : Gx) (j : Nat) (elt : Expr) (ds : List PyData) (e0 : En) (PF : List (List PyData) → En → Prop) : Prop where
  ex : ∃ JJ : Nat → List (List PyData) → En → Prop, JJ 0 [] (e0.set j .no) ∧ (∀ acc e, JJ ds.length acc e → PF acc e) ∧
    ∀ i d acc e, ds[i]? = some d → acc.length = i → JJ i acc e → WN G' elt (e.set j (.va d)) fun y e2 => JJ (i + 1) (acc ++ [y]) (e2.set j .no)
theorem ln_read {G : Gx} {scope : Scope} {j : Nat} {elt : Expr} {wi : TI} {env : En} {PF : List (List PyData) → En → Prop} {σ : L2.St} {Hc H : Hp} {Q : VK} (R : Rp Hc H σ env)
    (hwi : ∀ R' : It → Hp → Prop, (∀ ds J env' Hc' H', (ds.length < 100000 ∧ CN (G.blk scope) j elt ds env' PF) → Go Hc H σ env Hc' H' σ env' → Walks J Hc' ds → R' J H') → wi σ H R')
    (hQ : ∀ D as acc e2 Hc2 H2, PF acc e2 → Go Hc H σ env Hc2 H2 σ e2 → LP Hc2 H2 σ e2 D as acc → (∀ b, b ∈ D :: as → H b = none) → Q (.ref D) H2) : tLc wi (gName j) tYes (tWN (G.blk scope) elt) [j] σ H Q := by
  refine hwi _ fun ds J e0 Hc1 H1 ⟨hsz, cj⟩ go0 wk D hD => ?_
  obtain ⟨JJ, j0, jF, js⟩ := cj.ex
  obtain ⟨vs0, tv, wgo, wyld, wstop⟩ := wk
  have lv := tv.length
  let Pv : Nat → Hp → Prop := fun i H' => ∃ Hc' e acc as, JJ i acc e ∧ nown e j ∧ acc.length = i ∧ Go Hc H σ env Hc' H' σ e ∧ LP Hc' H' σ e D as acc ∧ (∀ b, b ∈ D :: as → H b = none) ∧ Same Hc1 Hc'
  have old : H D = none := by
    cases q : H D with
    | none => rfl
    | some o => exact absurd hD (go0.ex D (by rw [q]; simp))
  have out1 : Hc1 D = none := Same.free go0.rep.same hD
  have g1 : Go Hc H σ env Hc1 (upd H1 D (.lst [])) σ (e0.set j .no) := go_drop j (go0.trans (go_new go0.rep hD))
  refine ⟨fun i m H' => m = vs0.length - i ∧ i ≤ vs0.length ∧ Pv i H', ⟨vs0.length, by omega, Nat.zero_le _, Hc1, e0.set j .no, [], [], j0, nown_set rfl, rfl, g1,
    ⟨upd_same, by simp, rfl, fun k b ds e => by simp at e, fun b hb => by
      rw [List.mem_singleton.mp hb]
      exact ⟨out1, fun o => own_ne_new go0.rep hD (own_set rfl o)⟩⟩, fun b hb => by rw [List.mem_singleton.mp hb]; exact old, .refl _⟩, ?_⟩
  rintro i m H2 ⟨em, hi, Hc2, e2, acc, as, hJ, hn, hl, g2, L, fr, sm⟩
  subst em
  have s12 : Same Hc1 H2 := sm.trans g2.rep.same
  by_cases hlt : i < vs0.length
  · refine .inr ⟨wgo H2 s12 i hlt, Pv (i + 1), fun H' p' => ⟨vs0.length - (i + 1), by omega, rfl, hlt, p'⟩, fun x H' y => ?_⟩
    obtain ⟨eH, ex⟩ := wyld i H2 x H' s12 y hlt
    subst eH
    obtain ⟨d, ed, td⟩ := tv.getV ex
    have eσ : (wipe σ [j]).set j (some x) = σ.set j (some x) := by
      show (σ.set j none).set j (some x) = _
      rw [List.set_set]
    show wipe ((wipe σ [j]).set j (some x)) [j] = wipe σ [j] ∧ tYes ((wipe σ [j]).set j (some x)) H' _
    rw [eσ]
    refine ⟨by show (σ.set j (some x)).set j none = σ.set j none; rw [List.set_set], ?_⟩
    have R2 : Rp Hc2 H' (σ.set j (some x)) (e2.set j (.va d)) := rp_swap g2.rep rfl fun _ => ⟨x, rfl, td.mono sm⟩
    refine iteT (B := Pv (i + 1) H') ⟨Hc2, e2.set j (.va d), _, R2, js i d acc e2 ed hl hJ, fun p vs ds' e4 Hc4 H4 j4 nw => ?_⟩
    have g34 := go_swap hn rfl nw.go
    have L4 := L.go g34
    have hp : p ∉ D :: as := fun h => L.there p h nw.old
    have hpD : D ≠ p := fun z => hp (z ▸ List.mem_cons_self)
    have hno : ¬ Own σ (e4.set j .no) p := fun o => nw.no (by
      obtain ⟨l, s, e1, e2', e3⟩ := o
      obtain ⟨ne, e4'⟩ := set_own e1 rfl e2'
      exact ⟨l, s, e4', e2', by rw [List.getElem?_set_ne (Ne.symm ne)]; exact e3⟩)
    have oldp : H p = none := by
      cases q : H p with
      | none => rfl
      | some o => exact absurd nw.old (g2.ex p (by rw [q]; simp))
    have hla : as.length = i := by rw [L.len, hl]
    have oD := L4.out D List.mem_cons_self
    refine ⟨as.map V.ref, L4.ls, by rw [List.length_map]; exact Nat.lt_of_lt_of_le (show as.length < 100000 by omega) (by decide), Hc4, e4.set j .no, acc ++ [ds'], as ++ [p], j4, nown_set rfl, by rw [List.length_append, hl]; rfl,
      go_write (g2.trans g34) (fr D List.mem_cons_self) oD.1 oD.2, ⟨?_, ?_, ?_, fun k b ds1 h1 h2 => ?_, fun b hb => ?_⟩, fun b hb => ?_, sm.trans g34.core⟩
    · rw [upd_same, List.map_append]
      rfl
    · rw [← List.cons_append, List.nodup_append]
      refine ⟨L4.nd, by simp, fun u hu v hv z => ?_⟩
      rw [List.mem_singleton.mp hv] at z
      exact hp (z ▸ hu)
    · rw [List.length_append, List.length_append, L4.len]
      rfl
    · by_cases hk : k < as.length
      · rw [List.getElem?_append_left hk] at h1
        rw [List.getElem?_append_left (by rw [← L4.len]; exact hk)] at h2
        obtain ⟨ws, w1, w2⟩ := L4.el k b ds1 h1 h2
        have hb : b ≠ D := fun z => (List.nodup_cons.mp L4.nd).1 (z ▸ List.mem_of_getElem? h1)
        exact ⟨ws, by rw [upd_ne hb]; exact w1, w2⟩
      · rw [List.getElem?_append_right (by omega)] at h1
        rw [List.getElem?_append_right (by rw [← L4.len]; omega)] at h2
        have e1 : b = p := List.mem_singleton.mp (List.mem_of_getElem? h1)
        have e2 : ds1 = ds' := List.mem_singleton.mp (List.mem_of_getElem? h2)
        subst e1 e2
        exact ⟨vs, by rw [upd_ne (Ne.symm hpD)]; exact nw.at', nw.tr⟩
    · rw [← List.cons_append] at hb
      rcases List.mem_append.mp hb with z | z
      · exact L4.out b z
      · rw [List.mem_singleton.mp z]
        exact ⟨nw.out, hno⟩
    · rw [← List.cons_append] at hb
      rcases List.mem_append.mp hb with z | z
      · exact fr b z
      · rw [List.mem_singleton.mp z]
        exact oldp
  · have e : i = vs0.length := by omega
    subst e
    exact .inl ⟨wstop H2 s12, hQ D as acc e2 Hc2 H2 (jF acc e2 (by rw [← lv]; exact hJ)) g2 L fr⟩
end TL

namespace TL
open PySem PySem.Spec PyProof.Rows L2
/-- the slots of the inner lists -/
def ghS : Option Addr → Option (List PyData) → Sl
  | some a, some ds => .oa a ds
  | _, _ => .no
def gho (as : List Addr) (dss : List (List PyData)) : En := (List.range 16).map fun k => ghS as[k]? dss[k]?
def lstφ (D : Addr) (as : List Addr) : Hp → Prop := fun Hc => Hc D = some (.lst (as.map V.ref))
theorem lstφ_st {D : Addr} {as : List Addr} : ∀ H1 H2 : Hp, Same H1 H2 → lstφ D as H1 → lstφ D as H2 := fun _ _ s h => s _ _ h
theorem gho_len (as : List Addr) (dss : List (List PyData)) : (gho as dss).length = 16 := by unfold gho; rw [List.length_map, List.length_range]
theorem gho_get {as : List Addr} {dss : List (List PyData)} {k : Nat} {s : Sl} (h : (gho as dss)[k]? = some s) : k < 16 ∧ s = ghS as[k]? dss[k]? := by
  have l := (List.getElem?_eq_some_iff.mp h).1
  rw [gho_len] at l
  unfold gho at h
  rw [List.getElem?_map, List.getElem?_range l] at h
  exact ⟨l, (Option.some.inj h).symm⟩
theorem gho_own {as : List Addr} {dss : List (List PyData)} {k : Nat} {s : Sl} (h : (gho as dss)[k]? = some s) (o : s.own = true) : k < 16 ∧ ∃ a ds, as[k]? = some a ∧ dss[k]? = some ds ∧ s = .oa a ds := by
  obtain ⟨l, e⟩ := gho_get h
  refine ⟨l, ?_⟩
  cases q1 : as[k]? with
  | none => rw [q1] at e; subst e; cases o
  | some a =>
    cases q2 : dss[k]? with
    | none => rw [q1, q2] at e; subst e; cases o
    | some ds => rw [q1, q2] at e; exact ⟨a, ds, rfl, rfl, e⟩
theorem gho_at {as : List Addr} {dss : List (List PyData)} {b : En} {m k : Nat} (hb : b.length = m) (hl : as.length = dss.length) (h16 : dss.length ≤ 16) (hk : k < dss.length) : (b ++ gho as dss)[m + k]? = some (.oa (as.getD k 0) (dss.getD k [])) := by
  rw [List.getElem?_append_right (by omega), hb, Nat.add_sub_cancel_left]
  unfold gho
  rw [List.getElem?_map, List.getElem?_range (by omega)]
  show some (ghS as[k]? dss[k]?) = _
  rw [List.getD_eq_getElem?_getD, List.getD_eq_getElem?_getD, List.getElem?_eq_getElem (show k < as.length by omega), List.getElem?_eq_getElem hk]
  rfl
theorem gho_set {as : List Addr} {dss : List (List PyData)} {b : En} {m k : Nat} {ds : List PyData} (hb : b.length = m) (hl : as.length = dss.length) (h16 : dss.length ≤ 16) (hk : k < dss.length) : (b ++ gho as dss).set (m + k) (.oa (as.getD k 0) ds) = b ++ gho as (dss.set k ds) := by
  rw [List.set_append_right _ _ (by omega), hb, Nat.add_sub_cancel_left]
  congr 1
  apply List.ext_getElem?
  intro i
  by_cases hi : i = k
  · subst hi
    rw [List.getElem?_set_self (by rw [gho_len]; omega)]
    unfold gho
    rw [List.getElem?_map, List.getElem?_range (by omega)]
    show _ = some (ghS as[i]? (dss.set i ds)[i]?)
    rw [List.getElem?_set_self hk, List.getD_eq_getElem?_getD, List.getElem?_eq_getElem (show i < as.length by omega)]
    rfl
  · rw [List.getElem?_set_ne (Ne.symm hi)]
    unfold gho
    rw [List.getElem?_map, List.getElem?_map]
    by_cases l : i < 16
    · rw [List.getElem?_range l]
      show some (ghS as[i]? dss[i]?) = some (ghS as[i]? (dss.set k ds)[i]?)
      rw [List.getElem?_set_ne (Ne.symm hi)]
    · rw [List.getElem?_eq_none (by rw [List.length_range]; omega)]
      rfl
theorem b_get {b g : En} {j m : Nat} {s : Sl} (hb : b.length = m) (h : (b ++ g)[j]? = some s) : (j < m ∧ b[j]? = some s) ∨ (∃ k, j = m + k ∧ g[k]? = some s) := by
  by_cases l : j < m
  · rw [List.getElem?_append_left (by omega)] at h
    exact .inl ⟨l, h⟩
  · rw [List.getElem?_append_right (by omega), hb] at h
    exact .inr ⟨j - m, by omega, h⟩
/-- the lists get their slots -/
theorem go_oll {Hc H Hc2 H2 : Hp} {σ : L2.St} {env b : En} {i m : Nat} {D : Addr} {as : List Addr} {dss : List (List PyData)} (g : Go Hc H σ env Hc2 H2 σ (b ++ List.replicate 16 .no)) (L : LP Hc2 H2 σ (b ++ List.replicate 16 .no) D as dss) (fr : ∀ x, x ∈ D :: as → H x = none)
    (hb : b.length = m) (hi : i < m) (h16 : dss.length ≤ 16) :
    ∃ σ2 : L2.St, σ2.length = (σ.set i (some (.ref D))).length ∧ (∀ j, j < m → σ2[j]? = (σ.set i (some (.ref D)))[j]?) ∧ ∃ Hc', Go Hc H σ env Hc' H2 σ2 (b.set i (.raw (.ref D) (lstφ D as)) ++ gho as dss) := by
  have lσ : σ.length = m + 16 := by rw [g.rep.len, List.length_append, List.length_replicate, hb]
  let gs : L2.St := (List.range 16).map fun k => match as[k]? with | some a => some (V.ref a) | none => none
  have lgs : gs.length = 16 := by show (List.map _ _).length = _; rw [List.length_map, List.length_range]
  have gk : ∀ {k a}, as[k]? = some a → gs[k]? = some (some (V.ref a)) := fun {k a} e => by
    have hk : k < 16 := by have := (List.getElem?_eq_some_iff.mp e).1; have := L.len; omega
    show ((List.range 16).map _)[k]? = _
    rw [List.getElem?_map, List.getElem?_range hk]
    show some (match as[k]? with | some a => some (V.ref a) | none => none) = _
    rw [e]
  let σ2 : L2.St := (σ.set i (some (.ref D))).take m ++ gs
  have lt : ((σ.set i (some (V.ref D))).take m).length = m := by rw [List.length_take, List.length_set, lσ]; omega
  have s1 : ∀ j, j < m → σ2[j]? = (σ.set i (some (.ref D)))[j]? := fun j hj => by
    show (_ ++ gs)[j]? = _
    rw [List.getElem?_append_left (by omega), List.getElem?_take_of_lt hj]
  have s2 : ∀ k, σ2[m + k]? = gs[k]? := fun k => by
    show (_ ++ gs)[m + k]? = _
    rw [List.getElem?_append_right (by omega), lt, Nat.add_sub_cancel_left]
  have s3 : ∀ j, j < m → j ≠ i → σ2[j]? = σ[j]? := fun j hj hn => by rw [s1 j hj, List.getElem?_set_ne (Ne.symm hn)]
  have s4 : σ2[i]? = some (some (.ref D)) := by rw [s1 i hi, List.getElem?_set_self (by omega)]
  refine ⟨σ2, by show (_ ++ gs).length = _; rw [List.length_append, lt, lgs, List.length_set, lσ], s1, ?_⟩
  have oD := L.out D List.mem_cons_self
  have core : Same Hc2 (upd Hc2 D (.lst (as.map V.ref))) := fun x o e => by
    rw [upd_ne (ne_of_none e oD.1)]
    exact e
  have bget : ∀ {j : Nat} {s : Sl}, b[j]? = some s → (b ++ List.replicate 16 Sl.no)[j]? = some s := fun e => by
    rw [List.getElem?_append_left (List.getElem?_eq_some_iff.mp e).1]
    exact e
  -- where an own slot is
  have whr : ∀ {j : Nat} {s : Sl}, (b.set i (.raw (.ref D) (lstφ D as)) ++ gho as dss)[j]? = some s → s.own = true → (j < m ∧ j ≠ i ∧ (b ++ List.replicate 16 Sl.no)[j]? = some s) ∨ ∃ k a, j = m + k ∧ as[k]? = some a ∧ σ2[j]? = some (some (V.ref a)) := fun {j s} e o => by
    rcases b_get (m := m) (by rw [List.length_set]; exact hb) e with ⟨l, e1⟩ | ⟨k, e1, e2⟩
    · obtain ⟨n, e3⟩ := set_own e1 rfl o
      exact .inl ⟨l, n, bget e3⟩
    · obtain ⟨_, a, ds, q1, _, _⟩ := gho_own e2 o
      subst e1
      exact .inr ⟨k, a, rfl, q1, by rw [s2, gk q1]⟩
  refine ⟨upd Hc2 D (.lst (as.map V.ref)), ⟨⟨?_, ?_, ?_, ?_⟩, g.core.trans core, g.kp, ?_, ?_, g.ex⟩⟩
  · intro x o e
    by_cases hx : x = D
    · subst hx
      rw [upd_same] at e
      cases e
      exact L.ls
    · rw [upd_ne hx] at e
      exact g.rep.same x o e
  · intro j s e
    rcases b_get (m := m) (by rw [List.length_set]; exact hb) e with ⟨l, e1⟩ | ⟨k, e1, e2⟩
    · by_cases hj : j = i
      · subst hj
        rw [List.getElem?_set_self (by omega)] at e1
        cases e1
        exact ⟨s4, upd_same, lstφ_st⟩
      · rw [List.getElem?_set_ne (Ne.symm hj)] at e1
        have q := g.rep.ok j s (bget e1)
        rw [s3 j l hj]
        have away : ∀ b', σ[j]? = some (some (.ref b')) → s.own = true → b' ≠ D := fun b' q1 q2 z => by
          subst z
          exact oD.2 ⟨j, s, bget e1, q2, q1⟩
        cases s with
        | no => trivial
        | va d => obtain ⟨v, u, t'⟩ := q; exact ⟨v, u, t'.mono core⟩
        | raw v φ => exact ⟨q.1, q.2.2 _ _ core q.2.1, q.2.2⟩
        | ow ds' => obtain ⟨b, ws, u, c, u', t'⟩ := q; exact ⟨b, ws, u, by rw [upd_ne (away b u rfl)]; exact c, u', t'.mono core⟩
        | dk b kvs => obtain ⟨ws, u, c, u', t'⟩ := q; exact ⟨ws, u, by rw [upd_ne (away b u rfl)]; exact c, u', t'.mono core⟩
        | oa b kvs => obtain ⟨ws, u, c, u', t'⟩ := q; exact ⟨ws, u, by rw [upd_ne (away b u rfl)]; exact c, u', t'.mono core⟩
        | dn P w b ks => obtain ⟨u, c, ka, u', t'⟩ := q; exact ⟨u, by rw [upd_ne (away b u rfl)]; exact c, ka, u', t'.mono core⟩
        | ms b n =>
          obtain ⟨u, ⟨c, l, s, p, b', ns, h1, h2, h3⟩⟩ := q
          exact ⟨u, by rw [upd_ne (away b u rfl)]; exact c, l, s, p, b', ns, h1, core _ _ h2, h3⟩
    · subst e1
      obtain ⟨_, es⟩ := gho_get e2
      rw [s2]
      cases q1 : as[k]? with
      | none => rw [q1] at es; subst es; trivial
      | some a =>
        cases q2 : dss[k]? with
        | none => rw [q1, q2] at es; subst es; trivial
        | some ds =>
          rw [q1, q2] at es
          subst es
          obtain ⟨vs, w1, w2⟩ := L.el k a ds q1 q2
          have hm := List.mem_of_getElem? q1
          have hn : a ≠ D := fun z => (List.nodup_cons.mp L.nd).1 (z ▸ hm)
          exact ⟨vs, gk q1, by rw [upd_ne hn]; exact (L.out a (List.mem_cons_of_mem _ hm)).1, w1, w2.mono core⟩
  · intro j l s t x h1 h2 h3 h4 h5 h6
    rcases whr h1 h3 with ⟨l1, n1, e1⟩ | ⟨k1, a1, e1, f1, g1⟩
    · rw [s3 j l1 n1] at h5
      rcases whr h2 h4 with ⟨l2, n2, e2⟩ | ⟨k2, a2, e2, f2, g2⟩
      · rw [s3 l l2 n2] at h6
        exact g.rep.inj j l s t x e1 e2 h3 h4 h5 h6
      · rw [g2] at h6
        cases h6
        exact ((L.out _ (List.mem_cons_of_mem _ (List.mem_of_getElem? f2))).2 ⟨j, s, e1, h3, h5⟩).elim
    · rw [g1] at h5
      cases h5
      rcases whr h2 h4 with ⟨l2, n2, e2⟩ | ⟨k2, a2, e2, f2, g2⟩
      · rw [s3 l l2 n2] at h6
        exact ((L.out _ (List.mem_cons_of_mem _ (List.mem_of_getElem? f1))).2 ⟨l, t, e2, h4, h6⟩).elim
      · rw [g2] at h6
        cases h6
        have nd := (List.nodup_cons.mp L.nd).2
        have e3 : k1 = k2 := by
          have i1 := List.getElem?_eq_some_iff.mp f1
          have i2 := List.getElem?_eq_some_iff.mp f2
          rcases Nat.lt_trichotomy k1 k2 with z | z | z
          · exact absurd (i1.2.trans i2.2.symm) (List.pairwise_iff_getElem.mp nd k1 k2 i1.1 i2.1 z)
          · exact z
          · exact absurd (i2.2.trans i1.2.symm) (List.pairwise_iff_getElem.mp nd k2 k1 i2.1 i1.1 z)
        omega
  · show (_ ++ gs).length = _
    rw [List.length_append, lt, lgs, List.length_append, List.length_set, gho_len, hb]
  · intro x e c n
    have hx : x ≠ D := fun z => e (z ▸ fr D List.mem_cons_self)
    rw [upd_ne hx]
    exact g.out x e c n
  · rintro x ⟨j, s, e1, e2, e3⟩
    rcases whr e1 e2 with ⟨l1, n1, f1⟩ | ⟨k1, a1, f1, f2, f3⟩
    · rw [s3 j l1 n1] at e3
      exact g.own x ⟨j, s, f1, e2, e3⟩
    · rw [f3] at e3
      cases e3
      exact .inr (fr _ (List.mem_cons_of_mem _ (List.mem_of_getElem? f2)))
end TL

namespace TL
open PySem PySem.Spec PyProof.Rows L2
/-- all of them become values -/
theorem go_frz2 {Hc H : Hp} {σ : L2.St} {b : En} {i m : Nat} {D : Addr} {as : List Addr} {dss : List (List PyData)} (R : Rp Hc H σ (b ++ gho as dss)) (hb : b.length = m) (hi : b[i]? = some (.raw (.ref D) (lstφ D as))) (hl : as.length = dss.length) (h16 : dss.length ≤ 16) :
    σ[i]? = some (some (.ref D)) ∧ ∃ Hc', Go Hc H σ (b ++ gho as dss) Hc' H σ (b.set i (.va (.list (dss.map PyData.list))) ++ List.replicate 16 .no) ∧ Tr Hc' (.ref D) (.list (dss.map PyData.list)) := by
  have lb : i < m := by have := (List.getElem?_eq_some_iff.mp hi).1; omega
  have bget : ∀ {j : Nat} {s : Sl}, b[j]? = some s → (b ++ gho as dss)[j]? = some s := fun e => by
    rw [List.getElem?_append_left (List.getElem?_eq_some_iff.mp e).1]
    exact e
  have el : ∀ k a, as[k]? = some a → ∃ ds vs, dss[k]? = some ds ∧ (b ++ gho as dss)[m + k]? = some (.oa a ds) ∧ σ[m + k]? = some (some (.ref a)) ∧ Hc a = none ∧ H a = some (.lst vs) ∧ Trs Hc vs ds := fun k a e => by
    have hk := (List.getElem?_eq_some_iff.mp e).1
    have g := gho_at (b := b) (m := m) (as := as) (dss := dss) hb hl h16 (by omega : k < dss.length)
    have e2 : as.getD k 0 = a := by rw [List.getD_eq_getElem?_getD, e]; rfl
    rw [e2] at g
    obtain ⟨vs, q1, q2, q3, q4⟩ := R.ok _ _ g
    refine ⟨_, vs, ?_, g, q1, q2, q3, q4⟩
    rw [List.getD_eq_getElem?_getD, List.getElem?_eq_getElem (show k < dss.length by omega)]
    rfl
  have R0 := R.ok i _ (bget hi)
  obtain ⟨s4, φ4, _⟩ := R0
  have φ4 : Hc D = some (.lst (as.map V.ref)) := φ4
  let Hn : Hp := fun x => if x ∈ as then H x else Hc x
  have inn : ∀ {x}, x ∈ as → Hn x = H x := fun h => if_pos h
  have off : ∀ {x}, x ∉ as → Hn x = Hc x := fun h => if_neg h
  have outA : ∀ x, x ∈ as → Hc x = none ∧ Own σ (b ++ gho as dss) x := fun x hx => by
    obtain ⟨k, hk⟩ := List.getElem?_of_mem hx
    obtain ⟨ds, vs, q0, q1, q2, q3, _⟩ := el k x hk
    exact ⟨q3, m + k, _, q1, rfl, q2⟩
  have core : Same Hc Hn := fun x o e => by
    by_cases h : x ∈ as
    · rw [(outA x h).1] at e
      cases e
    · rw [off h]
      exact e
  have tr : Tr Hn (.ref D) (.list (dss.map PyData.list)) := by
    refine .lst (core _ _ φ4) ?_
    have all : ∀ (bs : List Addr) (es : List (List PyData)), bs.length = es.length → (∀ (k : Nat) x ds, bs[k]? = some x → es[k]? = some ds → x ∈ as ∧ ∃ vs, H x = some (.lst vs) ∧ Trs Hc vs ds) → Trs Hn (bs.map V.ref) (es.map PyData.list) := by
      intro bs
      induction bs with
      | nil =>
        intro es hl _
        cases es with
        | nil => exact .nil
        | cons _ _ => cases hl
      | cons x bs ih =>
        intro es hl h
        cases es with
        | nil => cases hl
        | cons ds es =>
          obtain ⟨h1, vs, h2, h3⟩ := h 0 x ds rfl rfl
          exact .cons (.lst (by rw [inn h1]; exact h2) (h3.mono core)) (ih es (by simpa using hl) fun k b' ds' e1 e2 => h (k + 1) b' ds' (by simpa using e1) (by simpa using e2))
    exact all as dss hl fun k x ds e1 e2 => by
      obtain ⟨ds', vs, q0, _, _, _, q4, q5⟩ := el k x e1
      rw [e2] at q0
      cases q0
      exact ⟨List.mem_of_getElem? e1, vs, q4, q5⟩
  have whr : ∀ {j : Nat} {s : Sl}, (b.set i (.va (.list (dss.map PyData.list))) ++ List.replicate 16 Sl.no)[j]? = some s → s.own = true → j < m ∧ (b ++ gho as dss)[j]? = some s := fun {j s} e o => by
    rcases b_get (m := m) (by rw [List.length_set]; exact hb) e with ⟨l, e1⟩ | ⟨k, e1, e2⟩
    · exact ⟨l, bget (set_own e1 rfl o).2⟩
    · have := (List.mem_replicate.mp (List.mem_of_getElem? e2)).2
      subst this
      cases o
  refine ⟨s4, Hn, ⟨⟨?_, ?_, fun j l s t x h1 h2 h3 h4 h5 h6 => R.inj j l s t x (whr h1 h3).2 (whr h2 h4).2 h3 h4 h5 h6, ?_⟩, core, fun _ _ e _ => e, ?_, ?_, fun _ e => e⟩, tr⟩
  · intro x o e
    by_cases h : x ∈ as
    · rw [inn h] at e
      exact e
    · rw [off h] at e
      exact R.same x o e
  · intro j s e
    rcases b_get (m := m) (by rw [List.length_set]; exact hb) e with ⟨l, e1⟩ | ⟨k, e1, e2⟩
    · by_cases hj : j = i
      · subst hj
        rw [List.getElem?_set_self (by omega)] at e1
        cases e1
        exact ⟨_, s4, tr⟩
      · rw [List.getElem?_set_ne (Ne.symm hj)] at e1
        have q := R.ok j s (bget e1)
        have away : ∀ b', σ[j]? = some (some (.ref b')) → s.own = true → b' ∉ as := fun b' q1 q2 z => by
          obtain ⟨k, hk⟩ := List.getElem?_of_mem z
          obtain ⟨ds, vs, _, p1, p2, _⟩ := el k b' hk
          have := R.inj j (m + k) s _ b' (bget e1) p1 q2 rfl q1 p2
          omega
        cases s with
        | no => trivial
        | va d => obtain ⟨v, u, t'⟩ := q; exact ⟨v, u, t'.mono core⟩
        | raw v φ => exact ⟨q.1, q.2.2 _ _ core q.2.1, q.2.2⟩
        | ow ds' => obtain ⟨b, ws, u, c, u', t'⟩ := q; exact ⟨b, ws, u, by rw [off (away b u rfl)]; exact c, u', t'.mono core⟩
        | dk b kvs => obtain ⟨ws, u, c, u', t'⟩ := q; exact ⟨ws, u, by rw [off (away b u rfl)]; exact c, u', t'.mono core⟩
        | oa b kvs => obtain ⟨ws, u, c, u', t'⟩ := q; exact ⟨ws, u, by rw [off (away b u rfl)]; exact c, u', t'.mono core⟩
        | dn P w b ks => obtain ⟨u, c, ka, u', t'⟩ := q; exact ⟨u, by rw [off (away b u rfl)]; exact c, ka, u', t'.mono core⟩
        | ms b n =>
          obtain ⟨u, ⟨c, l, s, p, b', ns, h1, h2, h3⟩⟩ := q
          exact ⟨u, by rw [off (away b u rfl)]; exact c, l, s, p, b', ns, h1, core _ _ h2, h3⟩
    · have := (List.mem_replicate.mp (List.mem_of_getElem? e2)).2
      subst this
      trivial
  · rw [List.length_append, List.length_set, List.length_replicate, R.len, List.length_append, gho_len]
  · intro x e c n
    by_cases h : x ∈ as
    · exact absurd (outA x h).2 n
    · rw [off h]
      exact c
  · rintro x ⟨j, s, e1, e2, e3⟩
    exact .inl ⟨j, s, (whr e1 e2).2, e2, e3⟩
section
variable {G : Gx} {env b : En} {P : PyData → En → Prop} {N : DE} {rest : List Stmt} {a c e elt iter : Expr} {pos px ps1 ps2 pt py spos : Pos} {x y : Str} {scope : Scope}
/-- x, all of it -/
theorem w_frz2 (i m : Nat) {D : Addr} {as : List Addr} {dss : List (List PyData)} (hb : b.length = m) (h16 : dss.length ≤ 16) (hl : as.length = dss.length) (h : P (.list (dss.map PyData.list)) (b.set i (.va (.list (dss.map PyData.list))) ++ List.replicate 16 .no)) (he : b[i]? = some (.raw (.ref D) (lstφ D as)) := by rfl) (hN : G.N[i]? = some x := by rfl) (hv : Vis G.sc x := by first | exact Or.inl rfl | exact Or.inr (Or.inl rfl) | exact Or.inr (Or.inr rfl))
    (hd : (x == ("__debug__" : Str)) = false := by decide) (hcd : (x == ("__classdict__" : Str)) = false := by decide) : W G (.Name x pos) (b ++ gho as dss) P :=
  W.of (fun _ => tVar i) (fun X hX => pvG hX i hN hv hd hcd) fun _ _ σ Hc H Q R q => by
    obtain ⟨e1, Hc', go, t⟩ := go_frz2 R hb he hl h16
    exact ⟨_, e1, q _ _ _ _ _ h go t⟩
/-- x[a][c] -/
theorem w_sub2 (i : Nat) {D : Addr} {as : List Addr} (he : env[i]? = some (.raw (.ref D) (lstφ D as))) (h : W G a env fun k e1 => ∃ (kk : Nat) (d0 : Addr), k = .int (kk : Int) ∧ e1[i]? = some (.raw (.ref D) (lstφ D as)) ∧ as[kk]? = some d0 ∧ W G c e1 fun y e2 => ∃ (g : Nat) (ds : List PyData) (j : Int) (d : PyData), e2[g]? = some (.oa d0 ds) ∧ y = .int j ∧ atI ds j = some d ∧ P d e2)
    (hN : G.N[i]? = some x := by rfl) (hv : Vis G.sc x := by first | exact Or.inl rfl | exact Or.inr (Or.inl rfl) | exact Or.inr (Or.inr rfl))
    (hd : (x == ("__debug__" : Str)) = false := by decide) (hcd : (x == ("__classdict__" : Str)) = false := by decide) (hs : PlainIx a := by exact fun _ _ => rfl) (hs2 : PlainIx c := by exact fun _ _ => rfl) : W G (.Subscript (.Subscript (.Name x px) a ps1) c pos) env P :=
  W.of (fun X => tOp (rIxL X.K) (tOp (rIxL X.K) (tVar i) (tW G a)) (tW G c)) (fun X hX => pe_ix ix_list (pe_ix ix_list (pvG hX i hN hv hd hcd) (peW hX a) hs) (peW hX c) hs2) fun X hX σ Hc H Q R q => by
    obtain ⟨e1, _⟩ := R.ok i _ he
    refine ⟨_, e1, tW.use R h fun v k en1 Hc1 H1 ⟨kk, d0, ek, hi1, ea, h2⟩ go t => ?_⟩
    subst ek
    cases t
    obtain ⟨f1, f2, _⟩ := go.rep.ok i _ hi1
    have f2 : Hc1 D = some (.lst (as.map V.ref)) := f2
    refine ⟨D, _, (kk : Int), .ref d0, rfl, rfl, SqL.of (go.rep.same _ _ f2), atI_nat (by rw [List.getElem?_map, ea]; rfl), ?_⟩
    refine tW.use go.rep h2 fun v2 y en2 Hc2 H2 ⟨g, ds, j, d, eg, ey, ed, pd⟩ go2 t2 => ?_
    subst ey
    cases t2
    obtain ⟨vs, g1, g2, g3, g4⟩ := go2.rep.ok g _ eg
    obtain ⟨z, z1, z2⟩ := at_tr g4 ed
    exact ⟨d0, vs, j, z, rfl, rfl, SqL.of g3, z1, q _ _ _ _ _ pd (go.trans go2) z2⟩
/-- x[a][c] = e -/
theorem r_set2 (i : Nat) {D : Addr} {as : List Addr} (h : W G e env fun d e0 => e0[i]? = some (.raw (.ref D) (lstφ D as)) ∧ W G a e0 fun k e1 => ∃ (kk : Nat) (d0 : Addr), k = .int (kk : Int) ∧ e1[i]? = some (.raw (.ref D) (lstφ D as)) ∧ as[kk]? = some d0 ∧ W G c e1 fun y e2 => ∃ (g : Nat) (ds : List PyData) (j : Int) (l : Nat), e2[g]? = some (.oa d0 ds) ∧ y = .int j ∧ ixN ds.length j = some l ∧ Rs G rest (e2.set g (.oa d0 (ds.set l d))) N)
    (hN : G.N[i]? = some x := by rfl) (hv : Vis G.sc x := by first | exact Or.inl rfl | exact Or.inr (Or.inl rfl) | exact Or.inr (Or.inr rfl))
    (hs : ∀ (v : Env) l, v.scope = G.sc → swapsWithSole [.Subscript (.Subscript (.Name x px) a ps1) c ps2] e l v = pure false := by exact fun _ _ _ => rfl)
    (hw : ∀ v : Env, swappedStores [.Subscript (.Subscript (.Name x px) a ps1) c ps2] e v = pure none := by exact fun _ => rfl)
    (hsub : ∀ (v : Env) (u : Value), assign (.Subscript (.Subscript (.Name x px) a ps1) c ps2) v u = (do
      let ov ← holding [u] (eval (.Subscript (.Name x px) a ps1) v)
      let iv ← holding [u, ov] (eval c v)
      standAt ps2
      holding [u, ov, iv] (setItem ov iv u)
      release [u, ov, iv] []) := by exact fun _ _ => rfl)
    (hd : (x == ("__debug__" : Str)) = false := by decide) (hcd : (x == ("__classdict__" : Str)) = false := by decide) (hp : PlainIx a := by exact fun _ _ => rfl) : Rs G (.Assign [.Subscript (.Subscript (.Name x px) a ps1) c ps2] e pos :: rest) env N :=
  Rs.of (fun X => tSeq (tAsg (tW G e) (gSub (tOp (rIxL X.K) (tVar i) (tW G a)) (tW G c) rSetL)) (tRs G rest)) (fun X hX => pss_cons (ps_asg (peW hX.g e) (pg_sub (pe_ix ix_list (pvG hX.g i hN hv hd hcd) (peW hX.g a) hp) (peW hX.g c) set_list (hsub X.env)) (hs _ _ hX.g.sc) (hw _) rfl) (pssR hX rest)) fun X hX σ Hc H DD R q =>
    tW.use R h fun v d en0 Hc0 H0 ⟨he, h1⟩ go0 t0 => by
      obtain ⟨e1, _⟩ := go0.rep.ok i _ he
      refine ⟨_, e1, tW.use go0.rep h1 fun v1 k en1 Hc1 H1 ⟨kk, d0, ek, hi1, ea, h2⟩ go t => ?_⟩
      subst ek
      cases t
      obtain ⟨f1, f2, _⟩ := go.rep.ok i _ hi1
      have f2 : Hc1 D = some (.lst (as.map V.ref)) := f2
      refine ⟨D, _, (kk : Int), .ref d0, rfl, rfl, SqL.of (go.rep.same _ _ f2), atI_nat (by rw [List.getElem?_map, ea]; rfl), ?_⟩
      refine tW.use go.rep h2 fun v2 y en2 Hc2 H2 ⟨g, ds, j, l, eg, ey, el, hr⟩ go2 t2 => ?_
      subst ey
      cases t2
      obtain ⟨vs, g1, g2, g3, g4⟩ := go2.rep.ok g _ eg
      refine ⟨d0, vs, j, l, rfl, rfl, g3, by rw [g4.length]; exact el, ?_⟩
      have gg := go_own (o := .lst (vs.set l v)) (t := .oa d0 (ds.set l d)) go2.rep eg rfl g1 g2 rfl ⟨_, g1, g2, upd_same, Trs.set (t0.mono (go.trans go2).core) l g4⟩
      exact tRs.use gg.rep hr (q.from (((go0.trans go).trans go2).trans gg))
/-- x[a].append(e) -/
theorem r_app2 (i : Nat) {D : Addr} {as : List Addr} (he : env[i]? = some (.raw (.ref D) (lstφ D as))) (h : W G a env fun k e1 => ∃ (kk g0 : Nat) (d0 : Addr) (ds0 : List PyData), k = .int (kk : Int) ∧ e1[i]? = some (.raw (.ref D) (lstφ D as)) ∧ as[kk]? = some d0 ∧ e1[g0]? = some (.oa d0 ds0) ∧ W G e e1 fun d e2 => ∃ (g : Nat) (ds : List PyData), e2[g]? = some (.oa d0 ds) ∧ ds.length < 100000 ∧ Rs G rest (e2.set g (.oa d0 (ds ++ [d]))) N)
    {pa pc : Pos} (hN : G.N[i]? = some x := by rfl) (hv : Vis G.sc x := by first | exact Or.inl rfl | exact Or.inr (Or.inl rfl) | exact Or.inr (Or.inr rfl)) (ns : noStar [e] = true := by rfl) (hline : (pa.endLine == pc.line) = true := by rfl)
    (hd : (x == ("__debug__" : Str)) = false := by decide) (hcd : (x == ("__classdict__" : Str)) = false := by decide) (hp : PlainIx a := by exact fun _ _ => rfl) :
    Rs G (.Expr (.Call (.Attribute (.Subscript (.Name x px) a ps1) "append" pa) [e] [] pc) ps2 :: rest) env N :=
  Rs.of (fun X => tSeq (tDrop (tBM X.K "list" rAppend (tOp (rIxL X.K) (tVar i) (tW G a)) (tCons (tW G e) tNil))) (tRs G rest)) (fun X hX => pss_cons (ps_expr (pe_bm PySem.F.plainAttrs_list PySem.F.slot_list_append PySem.F.type_list_append mt_append (pe_ix ix_list (pvG hX.g i hN hv hd hcd) (peW hX.g a) hp) (paW hX.g [e] ns) rfl (by rw [star_cons (noStar_cons ns).1]; rfl) hline (star_cons (noStar_cons ns).1) (star_any (noStar_cons ns).2)) rfl) (pssR hX rest)) fun X hX σ Hc H DD R q => by
    obtain ⟨e1, _⟩ := R.ok i _ he
    refine ⟨_, e1, tW.use R h fun v k en1 Hc1 H1 ⟨kk, g0, d0, ds0, ek, hi1, ea, eg0, h2⟩ go t => ?_⟩
    subst ek
    cases t
    obtain ⟨f1, f2, _⟩ := go.rep.ok i _ hi1
    have f2 : Hc1 D = some (.lst (as.map V.ref)) := f2
    obtain ⟨vs0, _, _, w3, _⟩ := go.rep.ok g0 _ eg0
    refine ⟨D, _, (kk : Int), .ref d0, rfl, rfl, SqL.of (go.rep.same _ _ f2), atI_nat (by rw [List.getElem?_map, ea]; rfl), ?_⟩
    refine ⟨.inl ⟨rfl, _, SqL.of w3⟩, tW.use go.rep h2 fun v2 d en2 Hc2 H2 ⟨g, ds, eg, hl, hr⟩ go2 t2 => ?_⟩
    obtain ⟨vs, g1, g2, g3, g4⟩ := go2.rep.ok g _ eg
    refine ⟨d0, vs, v2, rfl, rfl, g3, by rw [g4.length]; exact Nat.lt_of_lt_of_le hl (by decide), ?_⟩
    have gg := go_own (o := .lst (vs ++ [v2])) (t := .oa d0 (ds ++ [d])) go2.rep eg rfl g1 g2 rfl ⟨_, g1, g2, upd_same, Trs.append g4 (.cons t2 .nil)⟩
    exact tRs.use gg.rep hr (q.from ((go.trans go2).trans gg))
end
end TL

namespace TL
open PySem PySem.Spec PyProof.Rows L2
theorem WN.imp {G : Gx} {e : Expr} {env : En} {P Q : List PyData → En → Prop} (h : WN G e env P) (k : ∀ ds e1, P ds e1 → Q ds e1) : WN G e env Q := fun X hX pins s σ Hc H R I r q => h X hX pins s σ Hc H R I r fun D vs ds e1 Hc' H' p nw => q D vs ds e1 Hc' H' (k ds e1 p) nw
theorem cn_map {G' : Gx} {j : Nat} {elt : Expr} {ds : List PyData} {e0 : En} {PF : List (List PyData) → En → Prop} (g : PyData → List PyData) (h : ∀ d ∈ ds, WN G' elt (e0.set j (.va d)) fun y e2 => y = g d ∧ e2 = e0.set j (.va d)) (hF : PF (ds.map g) (e0.set j .no)) : CN G' j elt ds e0 PF :=
  ⟨fun i acc e => acc = (ds.take i).map g ∧ e = e0.set j .no, ⟨rfl, rfl⟩, fun acc e ⟨h1, h2⟩ => by
    rw [List.take_length] at h1
    rw [h1, h2]
    exact hF, fun i d acc e ed _ ⟨h1, ee⟩ => by
    subst ee
    rw [List.set_set]
    exact (h d (List.mem_of_getElem? ed)).imp fun y e2 ⟨r, e3⟩ => ⟨by rw [take_snoc ed, List.map_append, h1, r]; rfl, by rw [e3, List.set_set]⟩⟩
/-- with a word of one's own -/
theorem cn_all {G' : Gx} {j : Nat} {elt : Expr} {ds : List PyData} {e0 : En} {PF : List (List PyData) → En → Prop} (JJ : Nat → List (List PyData) → En → Prop) (h0 : JJ 0 [] (e0.set j .no)) (hF : ∀ acc e, JJ ds.length acc e → PF acc e)
    (h : ∀ i d acc e, ds[i]? = some d → acc.length = i → JJ i acc e → WN G' elt (e.set j (.va d)) fun y e2 => JJ (i + 1) (acc ++ [y]) (e2.set j .no)) : CN G' j elt ds e0 PF := ⟨JJ, h0, hF, h⟩
section
variable {G : Gx} {env : En} {P : PyData → En → Prop} {N : DE} {rest : List Stmt} {elt iter : Expr} {pos px pt py spos : Pos} {x y : Str} {scope : Scope}
theorem pe_lnG {X : Cx} (hX : InG G X) {j : Nat} {wi : TI} (hi : PI X (.Name x pt) iter wi) (hnd : G.N.Nodup) (hb : blkC G.N G.sc scope [(x, j)] = true) (hj : G.N[j]? = some x)
    (hl : (relS scope G.sc).names.lookup x = some .local ∨ (relS scope G.sc).names.lookup x = some .cell) (hf : scope.names.lookup x = some .cell ∨ (relS scope G.sc).names.lookup x = some .local) (hs : ∀ (v : Env) y, foldedSetIterable iter v y = pure y) :
    PE X (.ListComp elt [⟨.Name x pt, iter, [], 0⟩] scope pos) (tLc wi (gName j) tYes (tWN (G.blk scope) elt) [j]) := by
  refine pe_lc (own := [(x, j)]) hX.calm (by rw [hX.N]; exact hnd) hi (blkOk_by (by rw [hX.N, hX.sc]; exact hb)) (fun s H C cl fp => ?_) (fun s H C cl fp => pts_nil) (fun s H C cl fp => peWN (inG_blk hX scope s H C cl fp) elt) (hs X.env)
  have i2 := inG_blk hX scope s H C cl fp
  refine pg_name (i := j) (by rw [i2.N]; exact hnd) (by rw [i2.N]; exact hj) ?_ ?_
  · show _ ∨ _
    rw [i2.sc]
    exact hl
  · rcases hf with hf | hf
    · exact .inl (by show (scope.names.lookup x == some .cell) = true; rw [hf]; rfl)
    · exact .inr (by rw [i2.sc]; exact hf)
theorem r_lnAny (i j : Nat) (sw : Bool) {X : Cx} (hX : InS G X) {wi : TI} (hw : PI X (.Name x pt) iter wi) (hnd : G.N.Nodup) (hb : blkC G.N G.sc scope [(x, j)] = true) (hj : G.N[j]? = some x) (hi : G.N[i]? = some y) (hy : Loc G.sc y)
    (hsw : (G.sc.names.lookup y = some .local ∧ sw = true ∧ ∀ v : Env, v.scope = G.sc → swapsWith (.ListComp elt [⟨.Name x pt, iter, [], 0⟩] scope pos) (some (.Name y py)) spos.line v = pure true) ∨ (sw = false ∧ ∀ v : Env, v.scope = G.sc → swapsWith (.ListComp elt [⟨.Name x pt, iter, [], 0⟩] scope pos) (some (.Name y py)) spos.line v = pure false))
    (hl : (relS scope G.sc).names.lookup x = some .local ∨ (relS scope G.sc).names.lookup x = some .cell) (hf : scope.names.lookup x = some .cell ∨ (relS scope G.sc).names.lookup x = some .local) (hs : ∀ (v : Env) y, foldedSetIterable iter v y = pure y) :
    PS X (.Assign [.Name y py] (.ListComp elt [⟨.Name x pt, iter, [], 0⟩] scope pos) spos) (tAsg (tLc wi (gName j) tYes (tWN (G.blk scope) elt) [j]) (gName i)) := by
  rcases hsw with ⟨h1, _, h2⟩ | ⟨_, h2⟩
  · refine ps_setLc (own := [(x, j)]) hX.g.calm (hX.nodup hnd) (hX.at' hi) (by rw [hX.g.sc]; exact h1) (h2 _ hX.g.sc) hw (blkOk_by (by rw [hX.g.N, hX.g.sc]; exact hb)) (fun s H C cl fp => ?_) (fun s H C cl fp => pts_nil) (fun s H C cl fp => peWN (inG_blk hX.g scope s H C cl fp) elt) (hs X.env)
    have i2 := inG_blk hX.g scope s H C cl fp
    refine pg_name (i := j) (by rw [i2.N]; exact hnd) (by rw [i2.N]; exact hj) ?_ ?_
    · show _ ∨ _
      rw [i2.sc]
      exact hl
    · rcases hf with hf | hf
      · exact .inl (by show (scope.names.lookup x == some .cell) = true; rw [hf]; rfl)
      · exact .inr (by rw [i2.sc]; exact hf)
  · exact ps_set (i := i) (hX.nodup hnd) (hX.at' hi) (hX.loc hy) (pe_lnG hX.g hw hnd hb hj hl hf hs) (h2 _ hX.g.sc) (.inl (hX.fn y))
def ghok (G : Gx) (m : Nat) : Bool := (G.N.drop m).all fun x => (G.sc.names.lookup x).isNone
theorem ghok_at {m : Nat} (h : ghok G m = true) {X : Cx} (hX : InS G X) : ∀ (i : Nat) (x : Str), m ≤ i → X.N[i]? = some x → ¬ Vis X.env.scope x := fun i x hm e hv => by
  rw [hX.g.N] at e
  rw [hX.g.sc] at hv
  have hx : x ∈ G.N.drop m := by
    refine List.mem_of_getElem? (i := i - m) ?_
    rw [List.getElem?_drop, show m + (i - m) = i by omega]
    exact e
  have := List.all_eq_true.mp h x hx
  rcases hv with q | q | q <;> (rw [q] at this; cases this)
/-- y = [elt for x in ..], elt a new list, each to be changed later -/
theorem r_oll (i j m : Nat) (sw : Bool) (hnd : G.N.Nodup) (h : WI G (.Name x pt) iter env fun ds e1 => ds.length < 100000 ∧ CN (G.blk scope) j elt ds e1 fun dss e => ∃ b : En, e = b ++ List.replicate 16 .no ∧ b.length = m ∧ i < m ∧ dss.length ≤ 16 ∧ ∀ D as, as.length = dss.length → Rs G rest (b.set i (.raw (.ref D) (lstφ D as)) ++ gho as dss) N)
    (hgh : ghok G m = true := by decide +kernel) (hb : blkC G.N G.sc scope [(x, j)] = true := by first | decide +kernel | (dsimp only [Gx.blk]; decide +kernel) | rfl) (hj : G.N[j]? = some x := by rfl) (hi : G.N[i]? = some y := by rfl)
    (hy : Loc G.sc y := by first | exact Or.inl rfl | exact Or.inr rfl)
    (hsw : (G.sc.names.lookup y = some .local ∧ sw = true ∧ ∀ v : Env, v.scope = G.sc → swapsWith (.ListComp elt [⟨.Name x pt, iter, [], 0⟩] scope pos) (some (.Name y py)) spos.line v = pure true) ∨ (sw = false ∧ ∀ v : Env, v.scope = G.sc → swapsWith (.ListComp elt [⟨.Name x pt, iter, [], 0⟩] scope pos) (some (.Name y py)) spos.line v = pure false))
    (hl : (relS scope G.sc).names.lookup x = some .local ∨ (relS scope G.sc).names.lookup x = some .cell := by first | exact .inl rfl | exact .inr rfl)
    (hf : scope.names.lookup x = some .cell ∨ (relS scope G.sc).names.lookup x = some .local := by first | exact .inl rfl | exact .inr rfl) (hs : ∀ (v : Env) y, foldedSetIterable iter v y = pure y := by exact fun _ _ => rfl) :
    Rs G (.Assign [.Name y py] (.ListComp elt [⟨.Name x pt, iter, [], 0⟩] scope pos) spos :: rest) env N := fun X hX => by
  obtain ⟨wi, hw, rd⟩ := h X hX.g
  intro pins s σ Hc H D I R q
  refine (pss_cons (ps_gh m (ghok_at hgh hX) (r_lnAny i j sw hX hw hnd hb hj hi hy hsw hl hf hs)) (pssR hX rest)).run pins s σ H D I ?_
  show tLc wi (gName j) tYes (tWN (G.blk scope) elt) [j] σ H fun v H1 => ∃ σ2 : L2.St, σ2.length = (σ.set i (some v)).length ∧ (∀ i', i' < m → σ2[i']? = (σ.set i (some v))[i']?) ∧ tRs G rest D σ2 H1
  refine ln_read R (rd σ Hc H · R) fun A as acc e2 Hc2 H2 ⟨b, eb, hb', hi', h16, hr⟩ go L fr => ?_
  subst eb
  obtain ⟨σ2, q1, q2, Hc', g⟩ := go_oll go L fr hb' hi' h16
  exact ⟨σ2, q1, q2, tRs.use g.rep (hr A as L.len) (q.from g)⟩
/-- [..for..], a new list -/
theorem wn_lc {P : List PyData → En → Prop} (j : Nat) {t : Option Expr} (h : LC G scope j (.Name x pt) iter t elt env P) (hnd : G.N.Nodup) (hb : blkC G.N G.sc scope [(x, j)] = true := by first | decide +kernel | (dsimp only [Gx.blk]; decide +kernel) | rfl) (hj : G.N[j]? = some x := by rfl)
    (hl : (relS scope G.sc).names.lookup x = some .local ∨ (relS scope G.sc).names.lookup x = some .cell := by first | exact .inl rfl | exact .inr rfl)
    (hf : scope.names.lookup x = some .cell ∨ (relS scope G.sc).names.lookup x = some .local := by first | exact .inl rfl | exact .inr rfl) (hs : ∀ (v : Env) y, foldedSetIterable iter v y = pure y := by exact fun _ _ => rfl) :
    WN G (.ListComp elt [⟨.Name x pt, iter, ifsOf t, 0⟩] scope pos) env P := fun X hX => by
  obtain ⟨wi, hi, rd⟩ := h X hX
  intro pins s σ Hc H Q I R q
  exact (pe_lcG hX hi hnd hb hj hl hf hs).run pins s σ H Q I (lc_read R (rd σ Hc H · R) fun D vs acc e2 Hc2 H2 pf nw => q D vs acc e2 Hc2 H2 pf nw)
end
def ghN : List Str := ["?0", "?1", "?2", "?3", "?4", "?5", "?6", "?7", "?8", "?9", "?10", "?11", "?12", "?13", "?14", "?15"]
end TL

namespace TL
open PySem PySem.Spec PyProof.Rows L2
section
variable {G : Gx} {env : En} {P : PyData → En → Prop} {PB : Bool → En → Prop} {a b c e : Expr} {pos p : Pos} {x : Str}
/-- min of a list of ints -/
theorem w_minL (hm : G.mg "min" = none) (h : W G e env fun d e1 => ∃ zs : List Int, d = .list (zs.map PyData.int) ∧ zs ≠ [] ∧ ∀ m, m ∈ zs → (∀ y, y ∈ zs → m ≤ y) → P (.int m) e1) (hg : GlG G "min" := by rfl) (ns : noStar [e] = true := by rfl) : W G (.Call (.Name "min" p) [e] [] pos) env P :=
  w_callB (r := fun X => rMin X.K) (fun X hX => cr_min hX.calm) boot_min hm hg (fun X hX => W.imp h fun d e1 ⟨zs, ed, ne, pn⟩ Hc H vs Q s t q => by
    subst ed
    cases t with
    | cons t u =>
      cases u
      cases t with
      | lst m k =>
        have ek := Trs.of_ints k
        subst ek
        exact ⟨_, zs, rfl, SqL.of (s _ _ m), by cases zs with | nil => exact absurd rfl ne | cons _ _ => exact Nat.succ_pos _, fun m hm hy => q _ _ Hc H (pn m hm hy) (.refl s) (.int _)⟩) ns (by decide) (by decide)
theorem isE_of {H : Hp} {vs : List V} {ds : List PyData} (t : Trs H vs ds) : vs.isEmpty = ds.isEmpty := by
  cases t <;> rfl
/-- a list or a tuple as a test -/
theorem wt_tr (h : W G c env fun d e1 => ∃ ds, (d = .list ds ∨ d = .tuple ds) ∧ PB (!ds.isEmpty) e1) (he : ∀ v whole, isTrue c v whole = (do let x ← whole; standAt c.pos; holding [x] (truthy x)) := by intro _ _; rfl) : WT G c env PB :=
  WT.of (fun X => fun σ H Q => tW G c σ H fun x H' => ∃ k, TruV X.K x H' k ∧ Q k H') (fun X hX => pt_truth (peW hX c) (he X.env)) fun X hX σ Hc H Q R q =>
    tW.use R h fun v d e1 Hc1 H1 ⟨ds, ed, pd⟩ go t => by
      rcases ed with e | e
      · subst e
        cases t with
        | @lst a1 vs1 _ m1 k1 => exact ⟨_, .inl ⟨vs1, SqL.of (go.rep.same _ _ m1), rfl⟩, by rw [isE_of k1]; exact q _ _ _ _ pd go⟩
      · subst e
        cases t with
        | @tup a1 vs1 _ m1 k1 => exact ⟨_, .inr (.inl ⟨vs1, (m1.mono go.rep.same).sq, rfl⟩), by rw [isE_of k1]; exact q _ _ _ _ pd go⟩
/-- a list to be changed, as a test -/
theorem wt_trO (i : Nat) {ds : List PyData} (he : env[i]? = some (.ow ds)) (h : PB (!ds.isEmpty) env) (hN : G.N[i]? = some x := by rfl) (hv : Vis G.sc x := by first | exact Or.inl rfl | exact Or.inr (Or.inl rfl) | exact Or.inr (Or.inr rfl))
    (hd : (x == ("__debug__" : Str)) = false := by decide) (hcd : (x == ("__classdict__" : Str)) = false := by decide) : WT G (.Name x pos) env PB :=
  WT.of (fun X => fun σ H Q => tVar i σ H fun x H' => ∃ k, TruV X.K x H' k ∧ Q k H') (fun X hX => pt_truth (pvG hX i hN hv hd hcd) (fun _ => rfl)) fun X hX σ Hc H Q R q => by
    obtain ⟨a1, vs1, e1, c1, m1, t1⟩ := R.ok i _ he
    exact ⟨_, e1, _, .inl ⟨vs1, SqL.of m1, rfl⟩, by rw [isE_of t1]; exact q _ _ _ _ h (.refl R)⟩
/-- an int in a list or a tuple of ints -/
theorem wt_inI (h : W G a env fun x e1 => ∃ i, x = .int i ∧ W G b e1 fun y e2 => ∃ ns : List Int, (y = .list (ns.map .int) ∨ y = .tuple (ns.map .int)) ∧ PB (decide (i ∈ ns)) e2) (hm : behindInMarks .In b = false := by rfl) : WT G (.Compare a [.In] [b] pos) env PB :=
  wt_cmp (r := fun X => rIn X.K false) (fun _ _ => op_in_seq) hm fun X hX => W.imp h fun x e1 ⟨i, ex, h2⟩ => W.imp h2 fun y e2 ⟨ns, ey, pd⟩ => by
    subst ex
    intro Hc H u' v' Q s t1 t2 q
    cases t1
    rcases ey with e | e
    · subst e
      cases t2 with
      | @lst a1 vs1 _ m1 k1 =>
        have ek := Trs.of_ints k1
        subst ek
        refine ⟨_, _, rfl, .inl (SqL.of (s _ _ m1)), rfl, flat_ints ns, ?_⟩
        rw [if_neg Bool.false_ne_true, inV_int]
        exact q _ _ Hc H ⟨_, rfl, pd⟩ (.refl s) (.bl _)
    · subst e
      cases t2 with
      | @tup a1 vs1 _ m1 k1 =>
        have ek := Trs.of_ints k1
        subst ek
        refine ⟨_, _, rfl, .inr (m1.mono s).sq, rfl, flat_ints ns, ?_⟩
        rw [if_neg Bool.false_ne_true, inV_int]
        exact q _ _ Hc H ⟨_, rfl, pd⟩ (.refl s) (.bl _)
end
end TL

namespace TL
open PySem PySem.Spec PyProof.Rows L2
section
variable {G : Gx} {env : En} {N : DE} {rest : List Stmt} {elt iter iter1 c : Expr} {scope : Scope} {pos pt pt1 py spos : Pos} {x x1 y : Str}
/-- y = [elt for x in iter for x1 in iter1 if c], y a plain local -/
theorem r_lc2 (i j j1 : Nat) (own : Bool) (hjj : j ≠ j1) (h : WI G (.Name x pt) iter env fun ds e1 => ds.length ≤ 100 ∧ CJ2 (G.blk scope) j j1 (.Name x1 pt1) iter1 c elt ds e1 fun ds e => i < e.length ∧ Rs G rest (e.set i (if own = true then .ow ds else .va (.list ds))) N) (hnd : G.N.Nodup) (hb : blkC G.N G.sc scope [(x, j), (x1, j1)] = true := by first | decide +kernel | (dsimp only [Gx.blk]; decide +kernel) | rfl) (hj : G.N[j]? = some x := by rfl) (hj1 : G.N[j1]? = some x1 := by rfl) (hi : G.N[i]? = some y := by rfl)
    (hyl : G.sc.names.lookup y = some .local := by rfl)
    (hsw : ∀ v : Env, v.scope = G.sc → swapsWith (.ListComp elt [⟨.Name x pt, iter, [], 0⟩, ⟨.Name x1 pt1, iter1, [c], 0⟩] scope pos) (some (.Name y py)) spos.line v = pure true)
    (hl : (relS scope G.sc).names.lookup x = some .local ∨ (relS scope G.sc).names.lookup x = some .cell := by first | exact .inl rfl | exact .inr rfl)
    (hf : scope.names.lookup x = some .cell ∨ (relS scope G.sc).names.lookup x = some .local := by first | exact .inl rfl | exact .inr rfl)
    (hl1 : (relS scope G.sc).names.lookup x1 = some .local ∨ (relS scope G.sc).names.lookup x1 = some .cell := by first | exact .inl rfl | exact .inr rfl)
    (hf1 : scope.names.lookup x1 = some .cell ∨ (relS scope G.sc).names.lookup x1 = some .local := by first | exact .inl rfl | exact .inr rfl) (hs : ∀ (v : Env) y, foldedSetIterable iter v y = pure y := by exact fun _ _ => rfl) (hs1 : ∀ (v : Env) y, foldedSetIterable iter1 v y = pure y := by exact fun _ _ => rfl) :
    Rs G (.Assign [.Name y py] (.ListComp elt [⟨.Name x pt, iter, [], 0⟩, ⟨.Name x1 pt1, iter1, [c], 0⟩] scope pos) spos :: rest) env N := fun X hX => by
  obtain ⟨wi, hw, rd⟩ := h X hX.g
  intro pins s σ Hc H D I R q
  have gN : ∀ {k : Nat} {y : Str} {py : Pos}, G.N[k]? = some y → ((relS scope G.sc).names.lookup y = some .local ∨ (relS scope G.sc).names.lookup y = some .cell) → (scope.names.lookup y = some .cell ∨ (relS scope G.sc).names.lookup y = some .local) → ∀ (s : Shared) (H : Hp) (C : Addr) (cl : List (Str × Addr)) (fp : List Addr), PG (X.blk s H scope (compEnvC scope cl C X.env) fp) (.Name y py) (gName k) := fun {k y py} hk hl hf s H C cl fp => by
    have i2 := inG_blk hX.g scope s H C cl fp
    refine pg_name (i := k) (by rw [i2.N]; exact hnd) (by rw [i2.N]; exact hk) ?_ ?_
    · show _ ∨ _
      rw [i2.sc]
      exact hl
    · rcases hf with hf | hf
      · exact .inl (by show (scope.names.lookup y == some .cell) = true; rw [hf]; rfl)
      · exact .inr (by rw [i2.sc]; exact hf)
  refine (pss_cons (ps_setLc2 (own := [(x, j), (x1, j1)]) (vs1 := [j1]) hX.g.calm (hX.nodup hnd) (hX.at' hi) (by rw [hX.g.sc]; exact hyl) (hsw _ hX.g.sc) hw (blkOk_by (by rw [hX.g.N, hX.g.sc]; exact hb)) (fun i hi => List.mem_cons_of_mem _ hi) (gN hj hl hf) (fun s H C cl fp => pts_nil) (fun s H C cl fp => piW (inG_blk hX.g scope s H C cl fp) _ _) (gN hj1 hl1 hf1) (fun s H C cl fp => pts_one (ptW (inG_blk hX.g scope s H C cl fp) c)) (fun s H C cl fp => peW (inG_blk hX.g scope s H C cl fp) elt) (hs X.env) hs1) (pssR hX rest)).run pins s σ H D I ?_
  show tLc2 wi (gName j) tYes (tWI (G.blk scope) (.Name x1 pt1) iter1) (gName j1) (tWT (G.blk scope) c) (tW (G.blk scope) elt) [j, j1] [j1] σ H fun v H1 => tRs G rest D (σ.set i (some v)) H1
  refine lc2_read hjj R (rd σ Hc H · R) fun A vs acc e2 Hc2 H2 ⟨il, pf⟩ nw => ?_
  show tRs G rest D (σ.set i (some (.ref A))) H2
  cases own with
  | true =>
    have g := go_asgOw nw (lt_of_N nw.go.rep il)
    exact tRs.use g.rep pf (q.from g)
  | false =>
    have z := nw.freeze
    have g2 := go_asg (j := i) (t := .va (.list acc)) (o := some (V.ref A)) z.1.rep rfl ⟨_, rfl, z.2⟩
    exact tRs.use g2.rep pf (q.from (z.1.trans g2))
end
end TL

namespace TL
open PySem PySem.Spec PyProof.Rows L2
def postMd (ds : List PyData) (d : PyData) : Prop := ∀ (n : Nat) (t : Tb), ds = [tbT t] → Dye n t → IsMid n t d
end TL
namespace K09
open PySem PySem.Spec PyProof.Rows L2 TL
section
variable {P : Program} {w : World} {K : PySem.W.Frag} {mg : Str → Option Value} {base : Heap} {k : Nat} {f : Addr} {fd : FuncData}
abbrev nMd : List Str := ["dyeing", "places", "middles", "mixed", "x", "y"]
abbrev sMd : Stmt := topS 5
theorem scMd : FnScope nMd ["dyeing"] (defScope sMd) := ⟨rfl, rfl, rfl, by decide +kernel, rfl, by decide +kernel, by decide +kernel⟩
theorem ok_md (F : Fun K "middle_breach" "middle_breach" sMd f fd) (m1 : mg "range" = none) (m2 : mg "len" = none) (m3 : mg "min" = none) : FnG P w K mg base 1 f fd ["dyeing"] (spP preT postMd) := by
  refine fnP F scMd (fun ds ⟨_, _, e, _⟩ => by rw [e]; rfl) fun A hg hr ds ⟨n, t, e, ht, hn⟩ => ?_
  subst e
  have hs := ht.sq
  refine r_asgRg 1 scMd.nd m1 (w_len m2 (w_name 0 ⟨_, rfl, (n : Int), ?_, fun a => ?_⟩))
  · rw [List.length_map, hs.1]
  refine r_asg 2 scMd.nd (w_lc 4 (t := none) (wi_kept 1 rfl ⟨by omega, by omega⟩ ?_) scMd.nd) (hs := fun v y hv => by cases v; subst hv; rfl)
  rw [Int.toNat_natCast]
  refine ⟨by rw [rgD_len]; omega, cj_map (fun d => match d with | .int x => .int (atN t x.toNat x.toNat) | _ => .none) (fun d hd => ?_) ?_⟩
  · obtain ⟨x, hx, ex⟩ := rg_in hd
    subst ex
    obtain ⟨r, q1, q2, _⟩ := tq_atN hs hx hx
    exact w_sub (w_sub (w_name 0 (w_name 4 ⟨_, _, _, rfl, rfl, q1, w_name 4 ⟨_, _, _, rfl, rfl, q2, by show PyData.int _ = .int (atN t (x : Int).toNat (x : Int).toNat); rw [Int.toNat_natCast], rfl⟩⟩)))
  rw [rgD_map _ (fun x => PyData.int (atN t x x)) (fun x => by show PyData.int (atN t (x : Int).toNat (x : Int).toNat) = _; rw [Int.toNat_natCast])]
  rw [show (List.range n).map (fun x => PyData.int (atN t x x)) = (mids n t).map .int by unfold mids; rw [List.map_map]; rfl]
  show Rs _ _ [.va (tbT t), .raw (.ref a) (rgφ a n), .va (.list ((mids n t).map .int)), .no, .no, .no] _
  refine r_lc2 3 4 5 false (by decide) (wi_kept 1 rfl ⟨by omega, by omega⟩ ⟨?_, ⟨fun i acc e => acc = (mixP n t i 0).map .int ∧ i ≤ n ∧ e = [.va (tbT t), .raw (.ref a) (rgφ a n), .va (.list ((mids n t).map .int)), .no, .no, .no], ⟨rfl, Nat.zero_le _, rfl⟩, fun acc e ⟨h1, h2, h3⟩ => ?fin, fun i d acc e ed ⟨h1, h2, h3⟩ => ?turn⟩⟩) scMd.nd (hsw := fun v hv => by cases v; subst hv; rfl)
  case fin =>
    rw [rgD_len, Int.toNat_natCast] at h1
    subst h1 h3
    refine ⟨by show 3 < 6; decide, ?_⟩
    have hm : ∀ v, v ∈ mixP n t n 0 ↔ MixAt n t v := fun v => mixP_mem
    generalize mixP n t n 0 = zs at *
    refine r_ret (w_if (wt_tr (w_name 3 ⟨zs.map .int, .inl rfl, ifb (fun hz => ?_) fun hz => ?_⟩)))
    · refine w_tup (w_str (w_minL m3 (w_name 3 ⟨zs, rfl, (by intro e; rw [e] at hz; cases hz), fun v hv hy => ⟨by show 2 ≤ sizeLine; decide, fun n' t' e' ht' => ?_⟩⟩)))
      injection e' with e' _
      have e' := tbT_inj e'
      subst e'
      have : n' = n := by rw [← ht'.sq.1, hs.1]
      subst this
      exact .inr ⟨v, (hm v).mp hv, fun u hu => hy u ((hm u).mpr hu), rfl⟩
    · refine w_non fun n' t' e' ht' => ?_
      injection e' with e' _
      have e' := tbT_inj e'
      subst e'
      have : n' = n := by rw [← ht'.sq.1, hs.1]
      subst this
      refine .inl ⟨fun v hv => ?_, rfl⟩
      have := (hm v).mpr hv
      cases zs with
      | nil => cases this
      | cons _ _ => cases hz
  · rw [rgD_len, Int.toNat_natCast]
    omega
  case turn =>
    subst h3
    rw [Int.toNat_natCast] at ed
    obtain ⟨hi, ed⟩ := rgD_get ed
    rw [Int.zero_add] at ed
    subst ed
    refine wi_kept 1 rfl ⟨by omega, by omega⟩ ⟨?_, fun m acc' e' => acc' = (mixP n t i m).map .int ∧ m ≤ n ∧ e' = [.va (tbT t), .raw (.ref a) (rgφ a n), .va (.list ((mids n t).map .int)), .no, .no, .no], ⟨h1, Nat.zero_le _, rfl⟩, fun acc' e' ⟨g1, g2, g3⟩ => ?_, fun m d1 acc' e' ed' ⟨g1, g2, g3⟩ => ?_⟩
    · rw [rgD_len, Int.toNat_natCast]
      omega
    · rw [rgD_len, Int.toNat_natCast, mixP_row] at g1
      exact ⟨g1, hi, g3⟩
    · subst g3
      rw [Int.toNat_natCast] at ed'
      obtain ⟨hm, ed'⟩ := rgD_get ed'
      rw [Int.zero_add] at ed'
      subst ed'
      obtain ⟨r, q1, q2, _⟩ := tq_atN hs hi hm
      have cS := mixP_col n t i m
      refine wt_and (wt_neI (w_name 4 ⟨(i : Int), rfl, w_name 5 ⟨(m : Int), rfl, ifn (fun hne => ?_) fun heq => ?_⟩⟩))
      · refine wt_inI (w_sub (w_sub (w_name 0 (w_name 4 ⟨_, _, _, rfl, rfl, q1, w_name 5 ⟨_, _, _, rfl, rfl, q2, _, rfl, w_name 2 ⟨mids n t, .inl rfl, ifd (fun hin => ?_) fun hin => ?_⟩⟩⟩))))
        · have hb : mixB n t i m = true := Bool.and_eq_true_iff.mpr ⟨decide_eq_true (by omega), decide_eq_true hin⟩
          rw [if_pos hb] at cS
          exact w_sub (w_sub (w_name 0 (w_name 4 ⟨_, _, _, rfl, rfl, q1, w_name 5 ⟨_, _, _, rfl, rfl, q2, by rw [g1, cS, List.map_append]; rfl, hm, rfl⟩⟩)))
        · have hb : ¬ mixB n t i m = true := fun z => hin (of_decide_eq_true (Bool.and_eq_true_iff.mp z).2)
          rw [if_neg hb, List.append_nil] at cS
          exact ⟨by rw [g1, cS], hm, rfl⟩
      · have hb : ¬ mixB n t i m = true := fun z => of_decide_eq_true (Bool.and_eq_true_iff.mp z).1 (by omega)
        rw [if_neg hb, List.append_nil] at cS
        exact ifF rfl ⟨by rw [g1, cS], hm, rfl⟩
end
end K09

/-! firsts met by key, and what differs from them -/
namespace TL
open PySem PySem.Spec PyProof.Rows L2
def scn {β : Type} (n : Nat) (g : Nat → Nat → β) (i k : Nat) : List β := ((List.range i).flatMap fun x => (List.range n).map (g x)) ++ (List.range k).map (g i)
theorem scn_row {β : Type} (n : Nat) (g : Nat → Nat → β) (i : Nat) : scn n g i n = scn n g (i + 1) 0 := by
  unfold scn
  rw [List.range_succ, List.flatMap_append, List.flatMap_cons, List.flatMap_nil, List.append_nil]
  show _ = _ ++ []
  rw [List.append_nil]
theorem scn_col {β : Type} (n : Nat) (g : Nat → Nat → β) (i k : Nat) : scn n g i (k + 1) = scn n g i k ++ [g i k] := by
  unfold scn
  rw [List.range_succ, List.map_append, List.append_assoc]
  rfl
theorem scn_mem {β : Type} {n : Nat} {g : Nat → Nat → β} {z : β} : z ∈ scn n g n 0 ↔ ∃ x y, x < n ∧ y < n ∧ g x y = z := by
  unfold scn
  show z ∈ _ ++ [] ↔ _
  rw [List.append_nil, List.mem_flatMap]
  constructor
  · rintro ⟨x, hx, h⟩
    obtain ⟨y, hy, e⟩ := List.mem_map.mp h
    exact ⟨x, y, List.mem_range.mp hx, List.mem_range.mp hy, e⟩
  · rintro ⟨x, y, hx, hy, e⟩
    exact ⟨x, List.mem_range.mpr hx, List.mem_map.mpr ⟨y, List.mem_range.mpr hy, e⟩⟩
theorem scn_len {β : Type} (n : Nat) (g : Nat → Nat → β) (i k : Nat) : (scn n g i k).length = i * n + k := by
  unfold scn
  rw [List.length_append, List.length_map, List.length_range, List.length_flatMap]
  congr 1
  induction i with
  | zero => rw [List.range_zero, Nat.zero_mul]; rfl
  | succ i ih => rw [List.range_succ, List.map_append, List.sum_append, ih, Nat.succ_mul]; simp
def fstV (L : List (Int × PyData)) (k : Int) : Option PyData := (L.find? fun p => decide (p.1 = k)).map (·.2)
theorem fstV_cons (p : Int × PyData) (L : List (Int × PyData)) (k : Int) : fstV (p :: L) k = if p.1 = k then some p.2 else fstV L k := by
  unfold fstV
  by_cases h : p.1 = k
  · rw [if_pos h, List.find?_cons_of_pos (p := fun q : Int × PyData => decide (q.1 = k)) (decide_eq_true h)]
    rfl
  · rw [if_neg h, List.find?_cons_of_neg (p := fun q : Int × PyData => decide (q.1 = k)) (by rw [decide_eq_false h]; exact Bool.false_ne_true)]
theorem fstV_snoc : ∀ (L : List (Int × PyData)) (p : Int × PyData) (k : Int), fstV (L ++ [p]) k = match fstV L k with | some v => some v | none => if p.1 = k then some p.2 else none
  | [], p, k => by
    rw [List.nil_append, fstV_cons]
    rfl
  | q :: L, p, k => by
    rw [List.cons_append, fstV_cons, fstV_cons, fstV_snoc L p k]
    by_cases h : q.1 = k
    · rw [if_pos h, if_pos h]
    · rw [if_neg h, if_neg h]
theorem fstV_mem : ∀ {L : List (Int × PyData)} {k : Int} {v : PyData}, fstV L k = some v → (k, v) ∈ L
  | [], _, _, h => by cases h
  | p :: L, k, v, h => by
    rw [fstV_cons] at h
    by_cases e : p.1 = k
    · rw [if_pos e] at h
      cases h
      rw [← e]
      exact List.mem_cons_self
    · rw [if_neg e] at h
      exact List.mem_cons_of_mem _ (fstV_mem h)
theorem fstV_some : ∀ {L : List (Int × PyData)} {k : Int} {v : PyData}, (k, v) ∈ L → ∃ u, fstV L k = some u
  | p :: L, k, v, h => by
    rw [fstV_cons]
    by_cases e : p.1 = k
    · exact ⟨_, if_pos e⟩
    · rw [if_neg e]
      rcases List.mem_cons.mp h with z | z
      · exact absurd (by rw [← z]) e
      · exact fstV_some z
theorem fstV_take : ∀ {L : List (Int × PyData)} {k : Int} {u w : PyData} {i : Nat}, fstV L k = some u → L[i]? = some (k, w) → w ≠ u → fstV (L.take i) k = some u
  | [], _, _, _, _, _, h, _ => by simp at h
  | p :: L, k, u, w, 0, h1, h2, h3 => by
    have e : p = (k, w) := by simpa using h2
    subst e
    rw [fstV_cons, if_pos rfl] at h1
    exact absurd (Option.some.inj h1) h3
  | p :: L, k, u, w, i + 1, h1, h2, h3 => by
    have h2 : L[i]? = some (k, w) := by simpa using h2
    rw [List.take_succ_cons, fstV_cons]
    rw [fstV_cons] at h1
    by_cases e : p.1 = k
    · rw [if_pos e] at h1 ⊢
      exact h1
    · rw [if_neg e] at h1 ⊢
      exact fstV_take h1 h2 h3
/-- what is told of those that differ from the first -/
def brkG {β : Type} (f : PyData → Int × PyData → Option β) : List (Int × PyData) → List (Int × PyData) → List β
  | _, [] => []
  | seen, p :: L => (match fstV seen p.1 with | some v => (f v p).toList | none => []) ++ brkG f (seen ++ [p]) L
theorem brkG_snoc {β : Type} (f : PyData → Int × PyData → Option β) (p : Int × PyData) : ∀ (L seen : List (Int × PyData)), brkG f seen (L ++ [p]) = brkG f seen L ++ match fstV (seen ++ L) p.1 with | some v => (f v p).toList | none => []
  | [], seen => by
    rw [List.append_nil]
    show _ ++ [] = [] ++ _
    rw [List.append_nil, List.nil_append]
  | q :: L, seen => by
    show _ ++ brkG f (seen ++ [q]) (L ++ [p]) = (_ ++ brkG f (seen ++ [q]) L) ++ _
    rw [brkG_snoc f p L (seen ++ [q]), List.append_assoc, List.append_assoc]
    rfl
theorem brkG_mem {β : Type} {f : PyData → Int × PyData → Option β} {b : β} : ∀ {L seen : List (Int × PyData)}, b ∈ brkG f seen L ↔ ∃ i p v, L[i]? = some p ∧ fstV (seen ++ L.take i) p.1 = some v ∧ f v p = some b
  | [], seen => ⟨fun h => (nomatch h), fun ⟨i, p, v, h, _⟩ => by simp at h⟩
  | q :: L, seen => by
    show b ∈ _ ++ brkG f (seen ++ [q]) L ↔ _
    rw [List.mem_append, brkG_mem (L := L) (seen := seen ++ [q])]
    constructor
    · rintro (h | ⟨i, p, v, h1, h2, h3⟩)
      · cases e : fstV seen q.1 with
        | none => rw [e] at h; cases h
        | some v =>
          rw [e] at h
          refine ⟨0, q, v, rfl, by rw [List.take_zero, List.append_nil]; exact e, ?_⟩
          have h : b ∈ (f v q).toList := h
          cases e2 : f v q with
          | none => rw [e2] at h; cases h
          | some b' => rw [e2] at h; rw [List.mem_singleton.mp h]
      · refine ⟨i + 1, p, v, by simpa using h1, ?_, h3⟩
        rw [List.take_succ_cons]
        rw [List.append_assoc] at h2
        exact h2
    · rintro ⟨i, p, v, h1, h2, h3⟩
      cases i with
      | zero =>
        have e : q = p := by simpa using h1
        subst e
        rw [List.take_zero, List.append_nil] at h2
        refine .inl ?_
        rw [h2]
        show b ∈ (f v q).toList
        rw [h3]
        exact List.mem_singleton.mpr rfl
      | succ i =>
        refine .inr ⟨i, p, v, by simpa using h1, ?_, h3⟩
        rw [List.take_succ_cons] at h2
        rw [List.append_assoc]
        exact h2
/-- the dict of the firsts -/
def kvOf (L : List (Int × PyData)) : List (Key × PyData) := L.foldl (fun kvs p => if (valD kvs (.inl p.1)).isSome = true then kvs else kvs ++ [(.inl p.1, p.2)]) []
theorem kvOf_snoc (L : List (Int × PyData)) (p : Int × PyData) : kvOf (L ++ [p]) = if (valD (kvOf L) (.inl p.1)).isSome = true then kvOf L else kvOf L ++ [(.inl p.1, p.2)] := by
  unfold kvOf
  rw [List.foldl_append]
  rfl
theorem valD_cons (p : Key × PyData) (kvs : List (Key × PyData)) (k : Key) : valD (p :: kvs) k = if p.1 = k then some p.2 else valD kvs k := by
  unfold valD
  by_cases h : p.1 = k
  · rw [if_pos h, List.find?_cons_of_pos (p := fun q : Key × PyData => decide (q.1 = k)) (decide_eq_true h)]
    rfl
  · rw [if_neg h, List.find?_cons_of_neg (p := fun q : Key × PyData => decide (q.1 = k)) (by rw [decide_eq_false h]; exact Bool.false_ne_true)]
theorem valD_snoc : ∀ (kvs : List (Key × PyData)) (k k' : Key) (d : PyData), valD (kvs ++ [(k, d)]) k' = match valD kvs k' with | some v => some v | none => if k = k' then some d else none
  | [], k, k', d => by
    rw [List.nil_append, valD_cons]
    rfl
  | q :: kvs, k, k', d => by
    rw [List.cons_append, valD_cons, valD_cons, valD_snoc kvs k k' d]
    by_cases h : q.1 = k'
    · rw [if_pos h, if_pos h]
    · rw [if_neg h, if_neg h]
theorem putD_new {kvs : List (Key × PyData)} {k : Key} {d : PyData} (h : valD kvs k = none) : putD kvs k d = kvs ++ [(k, d)] := by
  have : (kvs.any fun kv => decide (kv.1 = k)) = false := by
    rw [List.any_eq_false]
    intro kv hm z
    unfold valD at h
    cases q : kvs.find? fun kv => decide (kv.1 = k) with
    | some v => rw [q] at h; cases h
    | none => exact List.find?_eq_none.mp q kv hm z
  unfold putD
  rw [this, if_neg Bool.false_ne_true]
theorem kvOf_val (k : Int) (L0 : List (Int × PyData)) : valD (kvOf L0) (.inl k) = fstV L0 k := by
  have aux : ∀ (r : List (Int × PyData)), valD (kvOf r.reverse) (.inl k) = fstV r.reverse k := by
    intro r
    induction r with
    | nil => rfl
    | cons p r ih =>
      rw [List.reverse_cons, kvOf_snoc, fstV_snoc]
      by_cases h : (valD (kvOf r.reverse) (.inl p.1)).isSome = true
      · rw [if_pos h, ih]
        cases q : fstV r.reverse k with
        | some v => rfl
        | none =>
          show none = if p.1 = k then some p.2 else none
          by_cases e : p.1 = k
          · rw [e, ih, q] at h; cases h
          · rw [if_neg e]
      · rw [if_neg h, valD_snoc, ih]
        cases q : fstV r.reverse k with
        | some v => rfl
        | none =>
          show (if (Sum.inl p.1 : Key) = .inl k then some p.2 else none) = if p.1 = k then some p.2 else none
          by_cases e : p.1 = k
          · rw [if_pos (congrArg Sum.inl e), if_pos e]
          · rw [if_neg (fun z => e (by injection z)), if_neg e]
  have := aux L0.reverse
  rwa [List.reverse_reverse] at this
theorem kvOf_len (L0 : List (Int × PyData)) : (kvOf L0).length ≤ L0.length := by
  have aux : ∀ (r : List (Int × PyData)), (kvOf r.reverse).length ≤ r.length := by
    intro r
    induction r with
    | nil => exact Nat.le_refl _
    | cons p r ih =>
      rw [List.reverse_cons, kvOf_snoc, List.length_cons]
      split
      · omega
      · rw [List.length_append]; show _ + 1 ≤ _; omega
  have := aux L0.reverse
  rwa [List.reverse_reverse, List.length_reverse] at this
/-- something differs from the first exactly if two differ -/
theorem brk_two {L : List (Int × PyData)} {k : Int} {v w : PyData} (hv : (k, v) ∈ L) (hw : (k, w) ∈ L) (hne : v ≠ w) : ∃ i u x, L[i]? = some (k, x) ∧ fstV (L.take i) k = some u ∧ x ≠ u ∧ (x = v ∨ x = w) := by
  obtain ⟨u, hu⟩ := fstV_some hv
  by_cases e : v = u
  · obtain ⟨i, hi⟩ := List.getElem?_of_mem hw
    have n : w ≠ u := fun z => hne (e.trans z.symm)
    exact ⟨i, u, w, hi, fstV_take hu hi n, n, .inr rfl⟩
  · obtain ⟨i, hi⟩ := List.getElem?_of_mem hv
    exact ⟨i, u, v, hi, fstV_take hu hi e, e, .inl rfl⟩
end TL

namespace TL
open PySem PySem.Spec PyProof.Rows L2
theorem brkG_len {β : Type} (f : PyData → Int × PyData → Option β) : ∀ (L seen : List (Int × PyData)), (brkG f seen L).length ≤ L.length
  | [], _ => Nat.le_refl _
  | p :: L, seen => by
    have ih := brkG_len f L (seen ++ [p])
    show ((match fstV seen p.1 with | some v => (f v p).toList | none => []) ++ brkG f (seen ++ [p]) L).length ≤ L.length + 1
    rw [List.length_append]
    have : (match fstV seen p.1 with | some v => (f v p).toList | none => []).length ≤ 1 := by
      split
      · cases f _ p with
        | none => exact Nat.zero_le _
        | some b => exact Nat.le_refl _
      · exact Nat.zero_le _
    omega
def fT (v : PyData) (p : Int × PyData) : Option Int := match v, p.2 with
  | .int a, .int b => if a ≠ b then some p.1 else none
  | _, _ => none
def gT (t : Tb) (x y : Nat) : Int × PyData := (atN t x y, .int (atN t y x))
/-- a dye with two unlike turned ones -/
def TrnAt (n : Nat) (t : Tb) (v : Int) : Prop := ∃ x y x' y', x < n ∧ y < n ∧ x' < n ∧ y' < n ∧ atN t x y = v ∧ atN t x' y' = v ∧ atN t y x ≠ atN t y' x'
theorem gT_mem {n : Nat} {t : Tb} {k : Int} {d : PyData} (h : (k, d) ∈ scn n (gT t) n 0) : ∃ x y, x < n ∧ y < n ∧ atN t x y = k ∧ d = .int (atN t y x) := by
  obtain ⟨x, y, hx, hy, e⟩ := scn_mem.mp h
  unfold gT at e
  injection e with e1 e2
  exact ⟨x, y, hx, hy, e1, e2.symm⟩
theorem trn_mem {n : Nat} {t : Tb} {v : Int} : v ∈ brkG fT [] (scn n (gT t) n 0) ↔ TrnAt n t v := by
  rw [brkG_mem]
  constructor
  · rintro ⟨i, p, u, h1, h2, h3⟩
    obtain ⟨k, d⟩ := p
    rw [List.nil_append] at h2
    obtain ⟨x, y, hx, hy, e1, e2⟩ := gT_mem (List.mem_of_getElem? h1)
    obtain ⟨x', y', hx', hy', e3, e4⟩ := gT_mem (List.mem_of_mem_take (fstV_mem h2))
    subst e2 e4
    have h3 : (if atN t y' x' ≠ atN t y x then some k else none) = some v := h3
    by_cases ne : atN t y' x' ≠ atN t y x
    · rw [if_pos ne] at h3
      cases h3
      exact ⟨x', y', x, y, hx', hy', hx, hy, e3, e1, ne⟩
    · rw [if_neg ne] at h3
      cases h3
  · rintro ⟨x, y, x', y', hx, hy, hx', hy', e1, e2, ne⟩
    have m1 : (v, PyData.int (atN t y x)) ∈ scn n (gT t) n 0 := scn_mem.mpr ⟨x, y, hx, hy, by unfold gT; rw [e1]⟩
    have m2 : (v, PyData.int (atN t y' x')) ∈ scn n (gT t) n 0 := scn_mem.mpr ⟨x', y', hx', hy', by unfold gT; rw [e2]⟩
    obtain ⟨i, u, z, h1, h2, h3, _⟩ := brk_two m1 m2 (fun e => ne (by injection e))
    obtain ⟨_, _, _, _, _, e4⟩ := gT_mem (List.mem_of_getElem? h1)
    obtain ⟨_, _, _, _, _, e5⟩ := gT_mem (List.mem_of_mem_take (fstV_mem h2))
    refine ⟨i, (v, z), u, h1, by rw [List.nil_append]; exact h2, ?_⟩
    subst e4 e5
    show (if _ ≠ _ then some v else none) = some v
    exact if_pos fun e => h3 (congrArg PyData.int e.symm)
def IsTrn (n : Nat) (t : Tb) (d : PyData) : Prop := ((∀ v, ¬ TrnAt n t v) ∧ d = .none) ∨ ∃ v, TrnAt n t v ∧ (∀ u, TrnAt n t u → v ≤ u) ∧ d = .tuple [.str "turned", .int v]
theorem colT_at {n : Nat} {t : Tb} {y : Nat} (hy : y < n) : (colT n t)[y]? = some (t.map fun r => r.getD y 0) := by
  unfold colT
  rw [List.getElem?_map, List.getElem?_range hy]
  rfl
theorem row_atN {n : Nat} {t : Tb} (h : Sq n t) {x y : Nat} (hx : x < n) (hy : y < n) {r : List Int} (hr : t[x]? = some r) : r[y]? = some (atN t x y) := by
  have hl := h.2 r (List.mem_of_getElem? hr)
  unfold atN
  rw [List.getD_eq_getElem?_getD (l := t), hr]
  show r[y]? = some (r.getD y 0)
  rw [List.getD_eq_getElem?_getD, List.getElem?_eq_getElem (by omega)]
  rfl
theorem col_atN {n : Nat} {t : Tb} (h : Sq n t) {x y : Nat} (hx : x < n) : (t.map fun r => r.getD y 0)[x]? = some (atN t x y) := by
  rw [List.getElem?_map, List.getElem?_eq_getElem (by rw [h.1]; exact hx)]
  unfold atN
  rw [List.getD_eq_getElem?_getD (l := t), List.getElem?_eq_getElem (by rw [h.1]; exact hx)]
  rfl
end TL

namespace TL
open PySem PySem.Spec PyProof.Rows L2
def postTr (ds : List PyData) (d : PyData) : Prop := ∀ (n : Nat) (t : Tb), ds = [tbT t] → Dye n t → IsTrn n t d
end TL
namespace K09
open PySem PySem.Spec PyProof.Rows L2 TL
section
variable {P : Program} {w : World} {K : PySem.W.Frag} {mg : Str → Option Value} {base : Heap} {k : Nat} {f : Addr} {fd : FuncData}
abbrev nTr : List Str := ["dyeing", "backs", "broken", "row", "column", "dye", "back"]
abbrev sTr : Stmt := topS 6
theorem scTr : FnScope nTr ["dyeing"] (defScope sTr) := ⟨rfl, rfl, rfl, by decide +kernel, rfl, by decide +kernel, by decide +kernel⟩
theorem ok_tr (F : Fun K "turned_breach" "turned_breach" sTr f fd) (m1 : mg "zip" = none) (m2 : mg "list" = none) (m3 : mg "min" = none) : FnG P w K mg base 1 f fd ["dyeing"] (spP preT postTr) := by
  refine fnP F scTr (fun ds ⟨_, _, e, _⟩ => by rw [e]; rfl) fun A hg hr ds ⟨n, t, e, ht, hn⟩ => ?_
  subst e
  have hs := ht.sq
  have hl : t.length = n := hs.1
  have hrow := hs.2
  refine r_dnew 1 scTr.nd (by show 1 < 7; decide) fun p => ?_
  refine r_new 2 scTr.nd (by show 2 < 7; decide) ?_
  refine r_forP 3 4 scTr.nd (wi_zipTL m1 (w_name 0 (w_listZipS m2 m1 (w_name 0 ⟨t.map fun r => r.map .int, n, by rw [List.map_map], fun r hr => ?_, by rw [List.length_map]; omega, Nat.le_trans (show n ≤ 100 by omega) (by decide), fun h0 e => ?_, ?_⟩))))
  · obtain ⟨s, hs, es⟩ := List.mem_map.mp hr
    rw [← es, List.length_map]
    exact hrow s hs
  · rw [List.map_eq_nil_iff] at e
    rw [e] at hl
    simp at hl
    omega
  rw [colsD_ints n t hrow, List.map_map]
  have lc : (colT n t).length = n := by unfold colT; rw [List.length_map, List.length_range]
  refine ⟨t.map rowT, (colT n t).map rowT, rfl, by rw [List.length_map, List.length_map, lc, hl], fun i e => i ≤ n ∧ ∃ s3 s4 s5 s6 : Sl, e = [.va (tbT t), .dk p (kvOf (scn n (gT t) i 0)), .ow ((brkG fT [] (scn n (gT t) i 0)).map .int), s3, s4, s5, s6], ⟨Nat.zero_le _, .no, .no, .no, .no, rfl⟩, fun i q e eq ⟨hi, s3, s4, s5, s6, ee⟩ => ?_, fun e ⟨hi, s3, s4, s5, s6, ee⟩ => ?_⟩
  · subst ee
    have hi' : i < n := by
      have := (List.getElem?_eq_some_iff.mp eq).1
      rw [List.length_zip, List.length_map, List.length_map, lc, hl, Nat.min_self] at this
      exact this
    obtain ⟨z1, z2⟩ := List.getElem?_zip_eq_some.mp (show ((t.map rowT).zip ((colT n t).map rowT))[i]? = some (q.1, q.2) from eq)
    rw [List.getElem?_map] at z1 z2
    rw [colT_at hi'] at z2
    have hr' : t[i]? = some t[i] := List.getElem?_eq_getElem (by omega)
    rw [hr'] at z1
    have z1 : rowT t[i] = q.1 := Option.some.inj z1
    have z2 : rowT (t.map fun r => r.getD i 0) = q.2 := Option.some.inj z2
    rw [← z1, ← z2]
    generalize t[i] = row at *
    have lrow := hrow row (List.mem_of_getElem? hr')
    refine r_forP 5 6 scTr.nd (wi_zipTT m1 (w_name 3 (w_name 4 ⟨row.map .int, (t.map fun r => r.getD i 0).map .int, rfl, by rw [List.length_map, List.length_map, List.length_map, hl, lrow], fun m e => m ≤ n ∧ ∃ s5 s6 : Sl, e = [.va (tbT t), .dk p (kvOf (scn n (gT t) i m)), .ow ((brkG fT [] (scn n (gT t) i m)).map .int), .va (rowT row), .va (rowT (t.map fun r => r.getD i 0)), s5, s6], ⟨Nat.zero_le _, s5, s6, rfl⟩, fun m q e eq ⟨hm, s5, s6, ee⟩ => ?_, fun e ⟨hm, s5, s6, ee⟩ => ?_⟩)))
    · subst ee
      have hm' : m < n := by
        have := (List.getElem?_eq_some_iff.mp eq).1
        rw [List.length_zip, List.length_map, List.length_map, List.length_map, hl, lrow, Nat.min_self] at this
        exact this
      obtain ⟨z1, z2⟩ := List.getElem?_zip_eq_some.mp (show ((row.map PyData.int).zip ((t.map fun r => r.getD i 0).map PyData.int))[m]? = some (q.1, q.2) from eq)
      rw [List.getElem?_map, row_atN hs hi' hm' hr'] at z1
      rw [List.getElem?_map, col_atN hs hm'] at z2
      have z1 : PyData.int (atN t i m) = q.1 := Option.some.inj z1
      have z2 : PyData.int (atN t m i) = q.2 := Option.some.inj z2
      rw [← z1, ← z2]
      have cS := scn_col n (gT t) i m
      have lS := scn_len n (gT t) i m
      have hnn : i * n ≤ 16 * 16 := Nat.mul_le_mul (by omega) hn
      have allI : ∀ k d, (k, d) ∈ scn n (gT t) i m → ∃ u, d = .int u := fun k d hd => by
        unfold scn at hd
        rcases List.mem_append.mp hd with h | h
        · obtain ⟨x, _, h⟩ := List.mem_flatMap.mp h
          obtain ⟨y, _, e⟩ := List.mem_map.mp h
          unfold gT at e
          injection e with _ e
          exact ⟨_, e.symm⟩
        · obtain ⟨y, _, e⟩ := List.mem_map.mp h
          unfold gT at e
          injection e with _ e
          exact ⟨_, e.symm⟩
      have bS := brkG_snoc fT (gT t i m) (scn n (gT t) i m) []
      have kS := kvOf_snoc (scn n (gT t) i m) (gT t i m)
      rw [← cS] at bS kS
      have bl := brkG_len fT (scn n (gT t) i m) []
      have kl := kvOf_len (scn n (gT t) i m)
      have kv := kvOf_val (atN t i m) (scn n (gT t) i m)
      rw [List.nil_append] at bS
      have bS : brkG fT [] (scn n (gT t) i (m + 1)) = brkG fT [] (scn n (gT t) i m) ++ match fstV (scn n (gT t) i m) (atN t i m) with | some v => (fT v (gT t i m)).toList | none => [] := bS
      have kS : kvOf (scn n (gT t) i (m + 1)) = if (valD (kvOf (scn n (gT t) i m)) (.inl (atN t i m))).isSome = true then kvOf (scn n (gT t) i m) else kvOf (scn n (gT t) i m) ++ [(.inl (atN t i m), .int (atN t m i))] := kS
      generalize scn n (gT t) i m = L at *
      refine r_if (wt_neI (w_dset 1 rfl (w_name 5 (w_name 6 ⟨kvOf L, .inl (atN t i m), rfl, rfl, by omega, fun d' hd' => ?_, fun hno => ?_⟩))))
      · rw [hd'] at kv kS
        rw [← kv] at bS
        obtain ⟨u, eu⟩ := allI _ _ (fstV_mem kv.symm)
        subst eu
        have bS : brkG fT [] (scn n (gT t) i (m + 1)) = brkG fT [] L ++ (if u ≠ atN t m i then some (atN t i m) else none).toList := bS
        have kS : kvOf (scn n (gT t) i (m + 1)) = kvOf L := kS
        refine ⟨u, rfl, w_name 6 ⟨atN t m i, rfl, ifn (fun hne => ?_) fun heq => ?_⟩⟩
        · rw [if_pos hne] at bS
          refine r_append 2 rfl (w_name 5 ⟨(brkG fT [] L).map .int, rfl, by rw [List.length_map]; omega, r_nil ?_⟩)
          refine r_nil ⟨hm', .va (.int (atN t i m)), .va (.int (atN t m i)), ?_⟩
          rw [bS, kS, List.map_append]
          rfl
        · rw [if_neg (fun z => z heq)] at bS
          refine r_nil (r_nil ⟨hm', .va (.int (atN t i m)), .va (.int (atN t m i)), ?_⟩)
          rw [bS, kS]
          show _ = [_, _, Sl.ow ((brkG fT [] L ++ []).map PyData.int), _, _, _, _]
          rw [List.append_nil]
          rfl
      · rw [hno] at kv kS
        rw [← kv] at bS
        have bS : brkG fT [] (scn n (gT t) i (m + 1)) = brkG fT [] L ++ [] := bS
        have kS : kvOf (scn n (gT t) i (m + 1)) = kvOf L ++ [(.inl (atN t i m), .int (atN t m i))] := kS
        refine ⟨atN t m i, rfl, w_name 6 ⟨atN t m i, rfl, ifF (by simp) (r_nil (r_nil ⟨hm', .va (.int (atN t i m)), .va (.int (atN t m i)), ?_⟩))⟩⟩
        rw [bS, kS, putD_new hno, List.append_nil]
        rfl
    · subst ee
      rw [List.length_zip, List.length_map, List.length_map, List.length_map, hl, lrow, Nat.min_self, scn_row]
      exact r_nil ⟨hi', _, _, s5, s6, rfl⟩
  · subst ee
    rw [List.length_zip, List.length_map, List.length_map, lc, hl, Nat.min_self]
    have hm : ∀ v, v ∈ brkG fT [] (scn n (gT t) n 0) ↔ TrnAt n t v := fun v => trn_mem
    generalize brkG fT [] (scn n (gT t) n 0) = zs at *
    refine r_ret (w_if (wt_trO 2 rfl (ifb (fun hz => ?_) fun hz => ?_)))
    · refine w_tup (w_str (w_minL m3 (w_freeze 2 ⟨zs, rfl, (by intro e; rw [e] at hz; cases hz), fun v hv hy => ⟨by show 2 ≤ sizeLine; decide, fun n' t' e' ht' => ?_⟩⟩)))
      injection e' with e' _
      have e' := tbT_inj e'
      subst e'
      have : n' = n := by rw [← ht'.sq.1, hl]
      subst this
      exact .inr ⟨v, (hm v).mp hv, fun u hu => hy u ((hm u).mpr hu), rfl⟩
    · refine w_non fun n' t' e' ht' => ?_
      injection e' with e' _
      have e' := tbT_inj e'
      subst e'
      have : n' = n := by rw [← ht'.sq.1, hl]
      subst this
      refine .inl ⟨fun v hv => ?_, rfl⟩
      have := (hm v).mpr hv
      cases zs with
      | nil => cases this
      | cons _ _ => cases hz
end
end K09

/-! [elt for x, y in .. if c] -/
namespace TL
open PySem PySem.Spec PyProof.Rows L2
theorem lcPf_read {G : Gx} {scope : Scope} {jx jy : Nat} (hne : jx ≠ jy) {elt c : Expr} {wi : TI} {env : En} {pr : PyData × PyData → Bool} {g : PyData × PyData → PyData} {PF : List PyData → En → Prop} {σ : L2.St} {Hc H : Hp} {Q : VK} (R : Rp Hc H σ env)
    (hwi : ∀ R' : It → Hp → Prop, (∀ ps J env' Hc' H', (ps.length < 100000 ∧ (∀ (i : Nat) (p : PyData × PyData), ps[i]? = some p → WT (G.blk scope) c (in2 env' jx jy p) (fun k e1 => k = pr p ∧ e1 = in2 env' jx jy p) ∧ (pr p = true → W (G.blk scope) elt (in2 env' jx jy p) fun y e2 => y = g p ∧ e2 = in2 env' jx jy p)) ∧ PF ((ps.filter pr).map g) (no2 env' jx jy)) → Go Hc H σ env Hc' H' σ env' → Walks2 J Hc' ps → R' J H') → wi σ H R')
    (hQ : ∀ D vs acc e2 Hc2 H2, PF acc e2 → Nw Hc H σ env D vs acc Hc2 H2 e2 → Q (.ref D) H2) : tLc wi (gTup G.K 2 (gCons (gName jx) (gCons (gName jy) gNil))) (tWT (G.blk scope) c) (tW (G.blk scope) elt) [jx, jy] σ H Q := by
  refine hwi _ fun ps J e0 Hc1 H1 ⟨hsz, hel, jF⟩ go0 wk D hD => ?_
  obtain ⟨vs0, lv, tv, wgo, wyld, wstop⟩ := wk
  let e1 := no2 e0 jx jy
  let Pv : Nat → Hp → Prop := fun i H' => ∃ Hc' acc vs, acc = ((ps.take i).filter pr).map g ∧ vs.length ≤ i ∧ Nw Hc H σ env D vs acc Hc' H' e1 ∧ Same Hc1 Hc'
  have old : H D = none := by
    cases q : H D with
    | none => rfl
    | some o => exact absurd hD (go0.ex D (by rw [q]; simp))
  have out1 : Hc1 D = none := Same.free go0.rep.same hD
  have g1 : Go Hc H σ env Hc1 (upd H1 D (.lst [])) σ e1 := go_drop jy (go_drop jx (go0.trans (go_new go0.rep hD)))
  refine ⟨fun i m H' => m = vs0.length - i ∧ i ≤ vs0.length ∧ Pv i H', ⟨vs0.length, by omega, Nat.zero_le _, Hc1, [], [], rfl, Nat.le_refl _, ⟨g1, old, upd_same, .nil, out1, fun o => own_ne_new go0.rep hD (own_set rfl (own_set rfl o))⟩, .refl _⟩, ?_⟩
  rintro i m H2 ⟨em, hi, Hc2, acc, vs, al, hl, nw, sm⟩
  subst em
  have s12 : Same Hc1 H2 := sm.trans nw.go.rep.same
  by_cases hlt : i < vs0.length
  · refine .inr ⟨wgo H2 s12 i hlt, Pv (i + 1), fun H' p' => ⟨vs0.length - (i + 1), by omega, rfl, hlt, p'⟩, fun x H' y => ?_⟩
    obtain ⟨T, u, v, ex, hT, eH, ev⟩ := wyld i H2 x H' s12 y hlt
    subst ex eH
    obtain ⟨d, d', ed, td, td'⟩ := tv i u v ev
    have gN : Go Hc2 H2 σ e1 Hc2 (upd H2 T (.tup [u, v])) σ e1 := go_new nw.go.rep hT
    have eσ : ((wipe σ [jx, jy]).set jx (some u)).set jy (some v) = (σ.set jx (some u)).set jy (some v) := by
      show (((σ.set jy none).set jx none).set jx (some u)).set jy (some v) = _
      rw [List.set_set, List.set_comm _ _ hne.symm, List.set_set]
    refine ⟨T, [u, v], rfl, .inl (.inl upd_same), rfl, u, [v], rfl, v, [], rfl, rfl, ?_⟩
    show wipe (((wipe σ [jx, jy]).set jx (some u)).set jy (some v)) [jx, jy] = wipe σ [jx, jy] ∧ tWT (G.blk scope) c (((wipe σ [jx, jy]).set jx (some u)).set jy (some v)) (upd H2 T (.tup [u, v])) _
    rw [eσ]
    refine ⟨by
      show ((((σ.set jx (some u)).set jy (some v)).set jy none).set jx none) = (σ.set jy none).set jx none
      rw [List.set_set, List.set_comm _ _ hne, List.set_set], ?_⟩
    have hn1 : nown e1 jx := by
      show nown (no2 e0 jx jy) jx
      rw [no2_comm hne]
      exact nown_set rfl
    have hn2 : nown (e1.set jx (.va d)) jy := by
      show nown (((e0.set jx .no).set jy .no).set jx (.va d)) jy
      rw [List.set_comm _ _ hne.symm]
      exact nown_set rfl
    have R1 : Rp Hc2 (upd H2 T (.tup [u, v])) (σ.set jx (some u)) (e1.set jx (.va d)) := rp_swap gN.rep rfl fun _ => ⟨u, rfl, td.mono sm⟩
    have R2 : Rp Hc2 (upd H2 T (.tup [u, v])) ((σ.set jx (some u)).set jy (some v)) (in2 e0 jx jy (d, d')) := rp_swap R1 rfl fun _ => ⟨v, rfl, td'.mono sm⟩
    have fS : ((ps.take (i + 1)).filter pr).map g = ((ps.take i).filter pr).map g ++ if pr (d, d') = true then [g (d, d')] else [] := by
      rw [take_snoc ed, List.filter_append, List.map_append, List.filter_cons, List.filter_nil]
      by_cases h : pr (d, d') = true
      · rw [if_pos h, if_pos h]; rfl
      · rw [if_neg h, if_neg h]; rfl
    have back : ∀ {Hc4 H4 : Hp}, Go Hc2 (upd H2 T (.tup [u, v])) ((σ.set jx (some u)).set jy (some v)) (in2 e0 jx jy (d, d')) Hc4 H4 ((σ.set jx (some u)).set jy (some v)) (in2 e0 jx jy (d, d')) → Go Hc2 H2 σ e1 Hc4 H4 σ e1 := fun {Hc4 H4} go4 => by
      have ga := go_swap (j := jy) (t := .va d') (o := some v) hn2 rfl go4
      have gb := go_swap (j := jx) (t := .va d) (o := some u) hn1 rfl ga
      rw [in2_out hne] at gb
      exact gN.trans gb
    obtain ⟨hc, he⟩ := hel i (d, d') ed
    refine ⟨Hc2, _, _, R2, hc, fun k e3 Hc3 H3 ⟨ek, ee⟩ go3 => ?_⟩
    subst ee
    cases k with
    | true =>
      rw [if_pos rfl]
      rw [← ek, if_pos rfl] at fS
      refine tW.use go3.rep (he ek.symm) fun y dy e2 Hc4 H4 ⟨rr, ee⟩ go4 ty => ?_
      subst ee
      have g34 := back (go3.trans go4)
      have keep : H4 D = some (.lst vs) := g34.kp D _ nw.at' nw.no
      have out4 : Hc4 D = none := g34.out D (by rw [nw.at']; simp) nw.out nw.no
      refine ⟨vs, keep, Nat.lt_of_lt_of_le (show vs.length < 100000 by omega) (by decide), Hc4, acc ++ [dy], vs ++ [y], by rw [fS, al, rr], by rw [List.length_append]; show vs.length + 1 ≤ i + 1; omega, ⟨?_, old, upd_same, ?_, out4, nw.no⟩, sm.trans g34.core⟩
      · exact go_write (nw.go.trans g34) old out4 nw.no
      · exact Trs.append (nw.tr.mono g34.core) (.cons ty .nil)
    | false =>
      rw [if_neg Bool.false_ne_true]
      rw [← ek, if_neg Bool.false_ne_true, List.append_nil] at fS
      have g34 := back go3
      exact ⟨Hc3, acc, vs, by rw [fS]; exact al, by omega, ⟨nw.go.trans g34, old, g34.kp D _ nw.at' nw.no, nw.tr.mono g34.core, g34.out D (by rw [nw.at']; simp) nw.out nw.no, nw.no⟩, sm.trans g34.core⟩
  · have e : i = vs0.length := by omega
    subst e
    exact .inl ⟨wstop H2 s12, hQ D vs acc e1 Hc2 H2 (by rw [lv, List.take_length] at al; rw [al]; exact jF) nw⟩
section
variable {G : Gx} {env : En} {P : PyData → En → Prop} {elt iter c : Expr} {scope : Scope} {pos px py pt : Pos} {x y : Str}
theorem w_lcPf (jx jy : Nat) {k1} (pr : PyData × PyData → Bool) (g : PyData × PyData → PyData) (h : WI2 G (.Tuple [.Name x px, .Name y py] k1 pt) iter env fun ps e0 => ps.length < 100000 ∧ (∀ (i : Nat) (p : PyData × PyData), ps[i]? = some p → WT (G.blk scope) c (in2 e0 jx jy p) (fun k e1 => k = pr p ∧ e1 = in2 e0 jx jy p) ∧ (pr p = true → W (G.blk scope) elt (in2 e0 jx jy p) fun y e2 => y = g p ∧ e2 = in2 e0 jx jy p)) ∧ P (.list ((ps.filter pr).map g)) (no2 e0 jx jy))
    (hnd : G.N.Nodup) (hne : jx ≠ jy := by decide) (hb : blkC G.N G.sc scope [(x, jx), (y, jy)] = true := by first | decide +kernel | (dsimp only [Gx.blk]; decide +kernel) | rfl) (hj : G.N[jx]? = some x := by rfl) (hj2 : G.N[jy]? = some y := by rfl)
    (hl : (relS scope G.sc).names.lookup x = some .local ∨ (relS scope G.sc).names.lookup x = some .cell := by first | exact .inl rfl | exact .inr rfl)
    (hf : scope.names.lookup x = some .cell ∨ (relS scope G.sc).names.lookup x = some .local := by first | exact .inl rfl | exact .inr rfl)
    (hl2 : (relS scope G.sc).names.lookup y = some .local ∨ (relS scope G.sc).names.lookup y = some .cell := by first | exact .inl rfl | exact .inr rfl)
    (hf2 : scope.names.lookup y = some .cell ∨ (relS scope G.sc).names.lookup y = some .local := by first | exact .inl rfl | exact .inr rfl) (hs : ∀ (v : Env) y, foldedSetIterable iter v y = pure y := by exact fun _ _ => rfl) :
    W G (.ListComp elt [⟨.Tuple [.Name x px, .Name y py] k1 pt, iter, [c], 0⟩] scope pos) env P := fun X hX => by
  obtain ⟨wi, hi, rd⟩ := h X hX
  intro pins s σ Hc H Q I R q
  have nm : ∀ {z : Str} {j : Nat} {pz : Pos}, G.N[j]? = some z → ((relS scope G.sc).names.lookup z = some .local ∨ (relS scope G.sc).names.lookup z = some .cell) → (scope.names.lookup z = some .cell ∨ (relS scope G.sc).names.lookup z = some .local) → ∀ (s : Shared) (H : Hp) (C : Addr) (cl : List (Str × Addr)) (fp : List Addr), PG (X.blk s H scope (compEnvC scope cl C X.env) fp) (.Name z pz) (gName j) := by
    intro z j pz hj hl hf s H C cl fp
    have i2 := inG_blk hX scope s H C cl fp
    refine pg_name (i := j) (by rw [i2.N]; exact hnd) (by rw [i2.N]; exact hj) ?_ ?_
    · show _ ∨ _
      rw [i2.sc]
      exact hl
    · rcases hf with hf | hf
      · exact .inl (by show (scope.names.lookup z == some .cell) = true; rw [hf]; rfl)
      · exact .inr (by rw [i2.sc]; exact hf)
  refine (pe_lc (own := [(x, jx), (y, jy)]) (g := gTup G.K 2 (gCons (gName jx) (gCons (gName jy) gNil))) hX.calm (by rw [hX.N]; exact hnd) hi (blkOk_by (by rw [hX.N, hX.sc]; exact hb)) (fun s H C cl fp => by
    have i2 := inG_blk hX scope s H C cl fp
    have z := pg_tup (n := 2) (k := k1) (pos := pt) i2.calm (pgs_cons (nm (pz := px) hj hl hf s H C cl fp) (pgs_cons (nm (pz := py) hj2 hl2 hf2 s H C cl fp) pgs_nil)) rfl rfl
    rw [i2.K] at z
    exact z) (fun s H C cl fp => pts_one (ptW (inG_blk hX scope s H C cl fp) c)) (fun s H C cl fp => peW (inG_blk hX scope s H C cl fp) elt) (hs X.env)).run pins s σ H Q I ?_
  refine lcPf_read (pr := pr) (g := g) (PF := fun ds e => P (.list ds) e) hne R (rd σ Hc H · R) fun D vs acc e2 Hc2 H2 pf nw => ?_
  have z := nw.freeze
  exact q _ _ _ _ _ pf z.1 z.2
end
end TL

/-! min of a list of pairs of ints -/
namespace TL
open PySem PySem.Spec PyProof.Rows L2
/-- by the first, then by the second -/
def leP (q r : Int × Int) : Prop := q.1 < r.1 ∨ (q.1 = r.1 ∧ q.2 ≤ r.2)
theorem lt_leP (q r : Int × Int) : PySem.W.DatumOrd.lt q r = true ↔ ¬ leP r q := by
  show (if q.1 = r.1 then decide (q.2 < r.2) else decide (q.1 < r.1)) = true ↔ _
  unfold leP
  by_cases h : q.1 = r.1
  · rw [if_pos h, decide_eq_true_iff]
    omega
  · rw [if_neg h, decide_eq_true_iff]
    omega
theorem leP_trans {a b c : Int × Int} (h : leP a b) (k : leP b c) : leP a c := by
  unfold leP at *
  omega
theorem minOf_le : ∀ (xs : List (Int × Int)) (x : Int × Int), ∀ r ∈ x :: xs, leP (PySem.W.minOf x xs) r
  | [], x, r, h => by
    rw [List.mem_singleton.mp h]
    exact .inr ⟨rfl, Int.le_refl _⟩
  | y :: xs, x, r, h => by
    show leP (PySem.W.minOf (if PySem.W.DatumOrd.lt y x = true then y else x) xs) r
    have ih := minOf_le xs (if PySem.W.DatumOrd.lt y x = true then y else x)
    have hx : leP (if PySem.W.DatumOrd.lt y x = true then y else x) x ∧ leP (if PySem.W.DatumOrd.lt y x = true then y else x) y := by
      by_cases q : PySem.W.DatumOrd.lt y x = true
      · rw [if_pos q]
        have := (lt_leP y x).mp q
        unfold leP at *
        omega
      · rw [if_neg q]
        have q : leP x y := Classical.byContradiction fun z => q ((lt_leP y x).mpr z)
        unfold leP at *
        omega
    rcases List.mem_cons.mp h with e | h
    · rw [e]
      exact leP_trans (ih _ List.mem_cons_self) hx.1
    rcases List.mem_cons.mp h with e | h
    · rw [e]
      exact leP_trans (ih _ List.mem_cons_self) hx.2
    · exact ih r (List.mem_cons_of_mem _ h)
theorem reads_int {h : Heap} {v : Value} {a : Int} {as : List Addr} (r : Reads h v (.int a) as) : ∃ t, v = .int a t := by
  cases r
  exact ⟨_, rfl⟩
theorem reads_pr {h : Heap} {v : Value} {p q : Int × Int} {as bs : List Addr} (r : Reads h v (prD p) as) (r2 : Reads h v (prD q) bs) : p = q := by
  unfold prD at r r2
  cases r with
  | tuple h1 c1 d1 k1 =>
    cases r2 with
    | tuple h2 c2 d2 k2 =>
      rw [h1] at h2
      cases h2
      rw [d1] at d2
      cases d2
      generalize Array.toList _ = l at k1 k2
      cases k1 with
      | cons u1 k1 =>
        cases k1 with
        | cons u2 k1 =>
          cases k2 with
          | cons w1 k2 =>
            cases k2 with
            | cons w2 k2 =>
              obtain ⟨t1, e1⟩ := reads_int u1
              obtain ⟨t2, e2⟩ := reads_int w1
              obtain ⟨t3, e3⟩ := reads_int u2
              obtain ⟨t4, e4⟩ := reads_int w2
              rw [e1] at e2
              rw [e3] at e4
              injection e2 with e2 _
              injection e4 with e4 _
              exact Prod.ext e2 e4
theorem readsAll_at {h : Heap} : ∀ {vs : List Value} {ds : List PyData} {as : List Addr} {i : Nat} {v : Value} {d : PyData}, ReadsAll h vs ds as → vs[i]? = some v → ds[i]? = some d → ∃ bs, Reads h v d bs
  | _, _, _, _, _, _, .nil, e, _ => by simp at e
  | _, _, _, 0, _, _, .cons r _, e1, e2 => by
    cases e1
    cases e2
    exact ⟨_, r⟩
  | _, _, _, i + 1, v, d, .cons _ k, e1, e2 => readsAll_at (i := i) k (by simpa using e1) (by simpa using e2)
theorem readsAll_lenP {h : Heap} : ∀ {vs : List Value} {ds : List PyData} {as : List Addr}, ReadsAll h vs ds as → vs.length = ds.length
  | _, _, _, .nil => rfl
  | _, _, _, .cons _ k => by rw [List.length_cons, List.length_cons, readsAll_lenP k]
def rMinP (K : PySem.W.Frag) : List V → Hp → VK → Prop := fun vs H Q => ∃ (a : Addr) (ws : List V) (ps : List (Int × Int)), vs = [V.ref a] ∧ SqL K H a ws ∧ Dp K H (.ref a) (.list (ps.map prD)) ∧ ps ≠ [] ∧ ∀ (i : Nat) (z : V) (q : Int × Int), ws[i]? = some z → ps[i]? = some q → (∀ r ∈ ps, leP q r) → Q z H
theorem cr_minP {X : Cx} (hc : X.calm = true) (hu : X.A.units + 64 < cLine) : CallR X (.builtin "min") (rMinP X.K) := by
  intro pins s σ H vs us Q I r h
  obtain ⟨a, ws, ps, rfl, hs, dp, ne, q⟩ := h
  obtain ⟨its, rv, hl, _⟩ := I.list hs
  rw [Vals.ref1 r]
  obtain ⟨as, rd⟩ := Dp.reads I _ _ (.ref a) dp rfl
  cases ps with
  | nil => exact absurd rfl ne
  | cons x xs =>
    have hl' := hl.isList
    cases rd with
    | list h1 c1 d1 k1 =>
      rename_i o vs n as'
      obtain ⟨o2, h2, c2, n2, d2⟩ := id hl'
      rw [h1] at h2
      cases h2
      rw [d1] at d2
      cases d2
      refine PySem.W.min_list_datum (α := Int × Int) (x := x) (xs := xs) (I.ok.hd hc) hl' ⟨as', k1⟩ (show X.A.units + 1 + PySem.W.Datum.depth (Int × Int) < cLine from ?_) fun i v h' tk ei ⟨bs, hb⟩ hk => ?_
      · exact Nat.lt_of_le_of_lt (Nat.add_le_add_left (show 1 + PySem.W.Datum.depth (Int × Int) ≤ 64 by decide) _) hu
      · have ei' : its[i]? = some v := by simpa using ei
        have lw : ws.length = its.length := rv.length
        have iw : i < ws.length := by rw [lw]; exact (List.getElem?_eq_some_iff.mp ei').1
        obtain ⟨u, eu, rz⟩ := Vals.get rv (List.getElem?_eq_getElem iw)
        rw [ei'] at eu
        cases eu
        have hz := List.getElem?_eq_getElem iw
        generalize ws[i] = z at hz rz
        have hlen := readsAll_lenP k1
        have hi : i < (x :: xs).length := by
          have := (List.getElem?_eq_some_iff.mp ei').1
          simp at hlen
          simp
          omega
        obtain ⟨cs, hc2⟩ := readsAll_at (i := i) (v := v) (d := prD (x :: xs)[i]) k1 (by simpa using ei') (by rw [List.getElem?_map, List.getElem?_eq_getElem hi]; rfl)
        have e : (x :: xs)[i] = PySem.W.minOf x xs := reads_pr (PySem.W.reads_keeps hk hc2) hb
        refine ⟨z, H, I.kept (t' := tk) hk, rz, q i z _ hz (List.getElem?_eq_getElem hi) fun r hr => ?_⟩
        rw [e]
        exact minOf_le xs x r hr
/-- min of a list of pairs -/
theorem w_minP {G : Gx} {env : En} {P : PyData → En → Prop} {e : Expr} {p pos : Pos} (hu : G.A.units + 64 < cLine) (hm : G.mg "min" = none) (h : W G e env fun d e1 => ∃ ps : List (Int × Int), d = .list (ps.map prD) ∧ ps ≠ [] ∧ ∀ q, q ∈ ps → (∀ r, r ∈ ps → leP q r) → P (prD q) e1) (hg : GlG G "min" := by rfl) (ns : noStar [e] = true := by rfl) : W G (.Call (.Name "min" p) [e] [] pos) env P :=
  w_callB (r := fun X => rMinP X.K) (fun X hX => cr_minP hX.calm (by rw [hX.A]; exact hu)) boot_min hm hg (fun X hX => W.imp h fun d e1 ⟨ps, ed, ne, pn⟩ Hc H vs Q s t q => by
    subst ed
    cases t with
    | cons t u =>
      cases u
      have t0 := t
      cases t with
      | @lst a ws _ m k =>
        refine ⟨a, ws, ps, rfl, SqL.of (s _ _ m), dp_of (t0.mono s), ne, fun i z q0 hz hq hle => ?_⟩
        obtain ⟨z', t', e1, e2⟩ : ∃ z', ∃ d', (ps.map prD)[i]? = some d' ∧ (z' = z ∧ Tr Hc z d') := by
          obtain ⟨d', h1, h2⟩ := k.getV hz
          exact ⟨z, d', h1, rfl, h2⟩
        rw [List.getElem?_map, hq] at e1
        cases e1
        exact q _ _ Hc H (pn q0 (List.mem_of_getElem? hq) hle) (.refl s) e2.2) ns (by decide) (by decide)
end TL

/-! the least code of which two pairs of one dye have unlike numbers -/
namespace TL
open PySem PySem.Spec PyProof.Rows L2
def luL (a b : List Int) : List Int := ((a.zip b).filter fun p => !decide (p.1 = p.2)).map fun p => if p.2 < p.1 then p.2 else p.1
theorem luL_cons (x y : Int) (a b : List Int) : luL (x :: a) (y :: b) = if x = y then luL a b else (if y < x then y else x) :: luL a b := by
  unfold luL
  rw [List.zip_cons_cons, List.filter_cons]
  by_cases h : x = y
  · rw [if_pos h, if_neg (by simp [h])]
  · rw [if_neg h, if_pos (by simp [h])]
    rfl
theorem lu_ne : ∀ {a b : List Int}, a.length = b.length → a ≠ b → luL a b ≠ []
  | [], [], _, h => absurd rfl h
  | x :: a, y :: b, h, k => by
    rw [luL_cons]
    by_cases e : x = y
    · rw [if_pos e]
      exact lu_ne (by simpa using h) fun z => k (by rw [e, z])
    · rw [if_neg e]
      exact fun z => (nomatch z)
  | [], _ :: _, h, _ => by simp at h
  | _ :: _, [], h, _ => by simp at h
theorem lu_ge : ∀ {a b : List Int} {m : Int}, (∀ x ∈ a, m ≤ x) → (∀ x ∈ b, m ≤ x) → ∀ u ∈ luL a b, m ≤ u
  | [], b, m, _, _, u, h => by simp [luL] at h
  | _ :: _, [], m, _, _, u, h => by simp [luL] at h
  | x :: a, y :: b, m, h1, h2, u, h => by
    rw [luL_cons] at h
    have ih := lu_ge (a := a) (b := b) (m := m) (fun z hz => h1 z (List.mem_cons_of_mem _ hz)) (fun z hz => h2 z (List.mem_cons_of_mem _ hz)) u
    have hx := h1 x List.mem_cons_self
    have hy := h2 y List.mem_cons_self
    by_cases e : x = y
    · rw [if_pos e] at h
      exact ih h
    · rw [if_neg e] at h
      rcases List.mem_cons.mp h with z | z
      · rw [z]; split <;> assumption
      · exact ih z
theorem cnt_zero {l : List Int} {u : Int} (h : ∀ x ∈ l, u < x) : l.count u = 0 := List.count_eq_zero.mpr fun hm => absurd (h u hm) (by omega)
theorem lu_least : ∀ {a b : List Int}, a.length = b.length → a.Pairwise (· ≤ ·) → b.Pairwise (· ≤ ·) → ∀ v, v ∈ luL a b → (∀ u ∈ luL a b, v ≤ u) → a.count v ≠ b.count v ∧ ∀ u, a.count u ≠ b.count u → v ≤ u
  | [], [], _, _, _, v, h, _ => by simp [luL] at h
  | [], _ :: _, h, _, _, _, _, _ => by simp at h
  | _ :: _, [], h, _, _, _, _, _ => by simp at h
  | x :: a, y :: b, hl, h1, h2, v, hv, hm => by
    rw [List.pairwise_cons] at h1 h2
    rw [luL_cons] at hv hm
    by_cases e : x = y
    · rw [if_pos e] at hv hm
      subst e
      obtain ⟨q1, q2⟩ := lu_least (by simpa using hl) h1.2 h2.2 v hv hm
      refine ⟨fun z => q1 ?_, fun u hu => q2 u fun z => hu ?_⟩
      · rw [List.count_cons, List.count_cons] at z
        omega
      · rw [List.count_cons, List.count_cons, z]
    · rw [if_neg e] at hv hm
      -- the lesser head is the least
      have key : ∀ {p q : Int} {c d : List Int}, p < q → (∀ z ∈ c, p ≤ z) → (∀ z ∈ d, q ≤ z) → (p :: c).count p ≠ (q :: d).count p ∧ ∀ u, (p :: c).count u ≠ (q :: d).count u → p ≤ u := fun {p q c d} hpq hc hd => by
        have z0 : (q :: d).count p = 0 := cnt_zero fun z hz => by
          rcases List.mem_cons.mp hz with e | e
          · omega
          · have := hd z e; omega
        refine ⟨?_, fun u hu => ?_⟩
        · rw [z0, List.count_cons_self]
          omega
        · by_cases l : p ≤ u
          · exact l
          · exfalso
            refine hu ?_
            rw [cnt_zero fun z hz => ?_, cnt_zero fun z hz => ?_]
            · rcases List.mem_cons.mp hz with e | e
              · omega
              · have := hd z e; omega
            · rcases List.mem_cons.mp hz with e | e
              · omega
              · have := hc z e; omega
      rcases Int.lt_or_gt_of_ne e with l | l
      · have hx : (if y < x then y else x) = x := if_neg (by omega)
        rw [hx] at hv hm
        have ev : v = x := by
          have g1 := hm x List.mem_cons_self
          rcases List.mem_cons.mp hv with z | z
          · exact z
          · have := lu_ge (m := x) h1.1 (fun z hz => by have := h2.1 z hz; omega) v z
            omega
        subst ev
        exact key l h1.1 h2.1
      · have hx : (if y < x then y else x) = y := if_pos l
        rw [hx] at hv hm
        have ev : v = y := by
          have g1 := hm y List.mem_cons_self
          rcases List.mem_cons.mp hv with z | z
          · exact z
          · have := lu_ge (m := y) (fun z hz => by have := h1.1 z hz; omega) h2.1 v z
            omega
        subst ev
        obtain ⟨q1, q2⟩ := key l h2.1 h1.1
        exact ⟨fun z => q1 z.symm, fun u hu => q2 u fun z => hu z.symm⟩
def luM (a b : List Int) : Int := match luL a b with
  | [] => 0
  | x :: xs => xs.foldl (fun m y => if y < m then y else m) x
theorem luM_of {a b : List Int} (h : luL a b ≠ []) : luM a b ∈ luL a b ∧ ∀ u ∈ luL a b, luM a b ≤ u := by
  unfold luM
  have aux : ∀ (xs : List Int) (x : Int), xs.foldl (fun m y => if y < m then y else m) x ∈ x :: xs ∧ ∀ u ∈ x :: xs, xs.foldl (fun m y => if y < m then y else m) x ≤ u := by
    intro xs
    induction xs with
    | nil => exact fun x => ⟨List.mem_cons_self, fun u hu => by rw [List.mem_singleton.mp hu]; exact Int.le_refl _⟩
    | cons y xs ih =>
      intro x
      rw [List.foldl_cons]
      obtain ⟨h1, h2⟩ := ih (if y < x then y else x)
      have hx : (if y < x then y else x) ≤ x ∧ (if y < x then y else x) ≤ y := by
        by_cases h : y < x
        · rw [if_pos h]; omega
        · rw [if_neg h]; omega
      have g := h2 _ List.mem_cons_self
      refine ⟨?_, fun u hu => ?_⟩
      · rcases List.mem_cons.mp h1 with z | z
        · rw [z]
          by_cases h : y < x
          · rw [if_pos h]; exact List.mem_cons_of_mem _ List.mem_cons_self
          · rw [if_neg h]; exact List.mem_cons_self
        · exact List.mem_cons_of_mem _ (List.mem_cons_of_mem _ z)
      · rcases List.mem_cons.mp hu with z | z
        · rw [z]; exact Int.le_trans g hx.1
        rcases List.mem_cons.mp z with z | z
        · rw [z]; exact Int.le_trans g hx.2
        · exact h2 u (List.mem_cons_of_mem _ z)
  cases q : luL a b with
  | nil => exact absurd q h
  | cons x xs => exact aux xs x
/-! the breach -/
def toI : PyData → List Int
  | .tuple ds => ds.map fun d => match d with | .int i => i | _ => 0
  | _ => []
theorem toI_of (l : List Int) : toI (.tuple (l.map .int)) = l := by
  show (l.map PyData.int).map (fun d => match d with | .int i => i | _ => 0) = l
  rw [List.map_map]
  exact (List.map_congr_left fun _ _ => rfl).trans (List.map_id l)
def cods (n : Nat) (t : Tb) (x y : Nat) : List Int := (List.range n).map fun z => (mny t : Int) * atN t x z + atN t z y
def btP (n : Nat) (t : Tb) (x y : Nat) : PyData := .tuple ((srtI (cods n t x y)).map .int)
def gC (n : Nat) (t : Tb) (x y : Nat) : Int × PyData := (atN t x y, btP n t x y)
def fC (v : PyData) (p : Int × PyData) : Option (Int × Int) := if toI v ≠ toI p.2 then some (luM (toI v) (toI p.2), p.1) else none
def CntAt (n : Nat) (t : Tb) (c v : Int) : Prop := ∃ x y x' y', x < n ∧ y < n ∧ x' < n ∧ y' < n ∧ atN t x y = v ∧ atN t x' y' = v ∧ (cods n t x y).count c ≠ (cods n t x' y').count c
theorem gC_mem {n : Nat} {t : Tb} {k : Int} {d : PyData} (h : (k, d) ∈ scn n (gC n t) n 0) : ∃ x y, x < n ∧ y < n ∧ atN t x y = k ∧ d = btP n t x y := by
  obtain ⟨x, y, hx, hy, e⟩ := scn_mem.mp h
  unfold gC at e
  injection e with e1 e2
  exact ⟨x, y, hx, hy, e1, e2.symm⟩
theorem cods_len (n : Nat) (t : Tb) (x y : Nat) : (cods n t x y).length = n := by unfold cods; rw [List.length_map, List.length_range]
theorem srt_cnt (l : List Int) (c : Int) : (srtI l).count c = l.count c := (srtI_perm l).count_eq c
theorem cnt_sound {n : Nat} {t : Tb} {q : Int × Int} (h : q ∈ brkG fC [] (scn n (gC n t) n 0)) : CntAt n t q.1 q.2 := by
  obtain ⟨i, p, u, h1, h2, h3⟩ := brkG_mem.mp h
  obtain ⟨k, d⟩ := p
  rw [List.nil_append] at h2
  obtain ⟨x, y, hx, hy, e1, e2⟩ := gC_mem (List.mem_of_getElem? h1)
  obtain ⟨x', y', hx', hy', e3, e4⟩ := gC_mem (List.mem_of_mem_take (fstV_mem h2))
  subst e2 e4
  unfold fC btP at h3
  rw [toI_of, toI_of] at h3
  by_cases ne : srtI (cods n t x' y') ≠ srtI (cods n t x y)
  · rw [if_pos ne] at h3
    cases h3
    have hl : (srtI (cods n t x' y')).length = (srtI (cods n t x y)).length := by rw [srtI_len, srtI_len, cods_len, cods_len]
    obtain ⟨m1, m2⟩ := luM_of (lu_ne hl ne)
    have := (lu_least hl (srtI_sorted _) (srtI_sorted _) _ m1 m2).1
    rw [srt_cnt, srt_cnt] at this
    exact ⟨x', y', x, y, hx', hy', hx, hy, e3, e1, this⟩
  · rw [if_neg ne] at h3
    cases h3
theorem cnt_whole {n : Nat} {t : Tb} {c v : Int} (h : CntAt n t c v) : ∃ q ∈ brkG fC [] (scn n (gC n t) n 0), q.2 = v ∧ q.1 ≤ c := by
  obtain ⟨x, y, x', y', hx, hy, hx', hy', e1, e2, ne⟩ := h
  have m1 : (v, btP n t x y) ∈ scn n (gC n t) n 0 := scn_mem.mpr ⟨x, y, hx, hy, by unfold gC; rw [e1]⟩
  have m2 : (v, btP n t x' y') ∈ scn n (gC n t) n 0 := scn_mem.mpr ⟨x', y', hx', hy', by unfold gC; rw [e2]⟩
  obtain ⟨u, hu⟩ := fstV_some m1
  obtain ⟨a, b, ha, hb, ea, eu⟩ := gC_mem (fstV_mem hu)
  -- the one that differs from the first
  obtain ⟨x0, y0, hx0, hy0, e0, n0⟩ : ∃ x0 y0, x0 < n ∧ y0 < n ∧ atN t x0 y0 = v ∧ (cods n t x0 y0).count c ≠ (cods n t a b).count c := by
    by_cases z : (cods n t x y).count c = (cods n t a b).count c
    · exact ⟨x', y', hx', hy', e2, fun w => ne (z.trans w.symm)⟩
    · exact ⟨x, y, hx, hy, e1, z⟩
  have m0 : (v, btP n t x0 y0) ∈ scn n (gC n t) n 0 := scn_mem.mpr ⟨x0, y0, hx0, hy0, by unfold gC; rw [e0]⟩
  obtain ⟨i, hi⟩ := List.getElem?_of_mem m0
  have sne : srtI (cods n t a b) ≠ srtI (cods n t x0 y0) := fun z => n0 (by rw [← srt_cnt (cods n t x0 y0), ← srt_cnt (cods n t a b), z])
  have dne : btP n t x0 y0 ≠ u := fun z => by
    rw [eu] at z
    have := congrArg toI z
    unfold btP at this
    rw [toI_of, toI_of] at this
    exact sne this.symm
  have ft := fstV_take hu hi dne
  have hl : (srtI (cods n t a b)).length = (srtI (cods n t x0 y0)).length := by rw [srtI_len, srtI_len, cods_len, cods_len]
  obtain ⟨q1, q2⟩ := luM_of (lu_ne hl sne)
  have least := (lu_least hl (srtI_sorted _) (srtI_sorted _) _ q1 q2).2 c (by rw [srt_cnt, srt_cnt]; exact fun z => n0 z.symm)
  refine ⟨(luM (srtI (cods n t a b)) (srtI (cods n t x0 y0)), v), brkG_mem.mpr ⟨i, (v, btP n t x0 y0), u, hi, by rw [List.nil_append]; exact ft, ?_⟩, rfl, least⟩
  rw [eu]
  unfold fC btP
  rw [toI_of, toI_of, if_pos sne]
def IsCnt (n : Nat) (t : Tb) (d : PyData) : Prop := ((∀ c v, ¬ CntAt n t c v) ∧ d = .none) ∨ ∃ c v, CntAt n t c v ∧ (∀ c' v', CntAt n t c' v' → leP (c, v) (c', v')) ∧ d = .tuple [.str "count", .int (c / (mny t : Int)), .int (c % (mny t : Int)), .int v]
end TL

namespace TL
open PySem PySem.Spec PyProof.Rows L2
theorem eqvAll_dec : ∀ a b : List Int, PyData.eqvAll (a.map .int) (b.map .int) = decide (a = b)
  | [], [] => by simp [PyData.eqvAll]
  | [], _ :: _ => by simp [PyData.eqvAll]
  | _ :: _, [] => by simp [PyData.eqvAll]
  | x :: a, y :: b => by
    have ih := eqvAll_dec a b
    rw [List.map_cons, List.map_cons]
    simp only [PyData.eqvAll, PyData.eqv, ih]
    by_cases h1 : x = y <;> by_cases h2 : a = b <;> simp [h1, h2]
theorem eqv_dec (a b : List Int) : PyData.eqv (.tuple (a.map .int)) (.tuple (b.map .int)) = decide (a = b) := by
  simp only [PyData.eqv]
  exact eqvAll_dec a b
theorem shaped_T (xs : List Int) : SeqAt.shaped (.tuple (xs.map .int)) = true := by
  unfold SeqAt.shaped
  have c1 : (PyData.tuple (xs.map PyData.int)).canLay0 = true := by
    simp only [PyData.canLay0]
    exact canAll _ (fun i => by simp [PyData.canLay0]) xs
  have c2 : (PyData.tuple (xs.map PyData.int)).depth ≤ 64 := by
    simp only [PyData.depth]
    have := dep_ints xs
    omega
  rw [c1, decide_eq_true c2]
  rfl
theorem ints_injS : ∀ {a b : List Int}, a.map PyData.int = b.map PyData.int → a = b
  | [], [], _ => rfl
  | [], _ :: _, h => by cases h
  | _ :: _, [], h => by cases h
  | x :: a, y :: b, h => by
    rw [List.map_cons, List.map_cons] at h
    injection h with h1 h2
    injection h1 with h1
    rw [h1, ints_injS h2]
def preLe (ds : List PyData) : Prop := ∃ a b : List Int, ds = [.tuple (a.map .int), .tuple (b.map .int)] ∧ a.length = b.length ∧ a ≠ b ∧ a.length ≤ 100
def postLe (ds : List PyData) (d : PyData) : Prop := ∀ a b : List Int, ds = [.tuple (a.map .int), .tuple (b.map .int)] → d = .int (luM a b)
def prU (p : PyData × PyData) : Bool := match p with | (.int x, .int y) => !decide (x = y) | _ => false
def mnU (p : PyData × PyData) : PyData := match p with | (.int x, .int y) => .int (if y < x then y else x) | _ => .none
theorem lu_zip : ∀ a b : List Int, (((a.map PyData.int).zip (b.map PyData.int)).filter prU).map mnU = (luL a b).map .int
  | [], _ => rfl
  | _ :: _, [] => rfl
  | x :: a, y :: b => by
    have ih := lu_zip a b
    rw [luL_cons, List.map_cons, List.map_cons, List.zip_cons_cons, List.filter_cons]
    by_cases h : x = y
    · rw [if_pos h, if_neg (by show ¬ (!decide (x = y)) = true; simp [h])]
      exact ih
    · rw [if_neg h, if_pos (by show (!decide (x = y)) = true; simp [h]), List.map_cons, ih]
      rfl
def postCb (ds : List PyData) (d : PyData) : Prop := ∀ (n : Nat) (t : Tb), ds = [tbT t] → Dye n t → IsCnt n t d
end TL
namespace K09
open PySem PySem.Spec PyProof.Rows L2 TL
section
variable {P : Program} {w : World} {K : PySem.W.Frag} {mg : Str → Option Value} {base : Heap} {k : Nat} {f : Addr} {fd : FuncData}
abbrev nLe : List Str := ["one", "other", "a", "b"]
abbrev sLe : Stmt := topS 8
theorem scLe : FnScope nLe ["one", "other"] (defScope sLe) := ⟨rfl, rfl, rfl, by decide +kernel, rfl, by decide +kernel, by decide +kernel⟩
theorem ok_le (F : Fun K "least_uneven" "least_uneven" sLe f fd) (m1 : mg "zip" = none) (m3 : mg "min" = none) : FnG P w K mg base 1 f fd ["one", "other"] (spP preLe postLe) := by
  refine fnP F scLe (fun ds ⟨_, _, e, _⟩ => by rw [e]; rfl) fun A hg hr ds ⟨a, b, e, hl, hne, h100⟩ => ?_
  subst e
  refine r_ret (w_minL m3 (w_lcPf 2 3 prU mnU (wi_zipTT m1 (w_name 0 (w_name 1 ⟨a.map .int, b.map .int, rfl, by rw [List.length_map, List.length_map, hl], by rw [List.length_zip, List.length_map, List.length_map]; omega, fun i p ep => ?_, ?_⟩))) scLe.nd))
  · obtain ⟨z1, z2⟩ := List.getElem?_zip_eq_some.mp (show ((a.map PyData.int).zip (b.map PyData.int))[i]? = some (p.1, p.2) from ep)
    obtain ⟨x, hx, ex⟩ := mem_ints (List.mem_of_getElem? z1)
    obtain ⟨y, hy, ey⟩ := mem_ints (List.mem_of_getElem? z2)
    obtain ⟨p1, p2⟩ := p
    subst ex ey
    exact ⟨wt_neI (w_name 2 ⟨x, rfl, w_name 3 ⟨y, rfl, rfl, rfl⟩⟩), fun _ => w_min2 m3 (w_name 2 (w_name 3 ⟨x, y, rfl, rfl, rfl⟩))⟩
  · rw [lu_zip]
    have ne := lu_ne hl hne
    obtain ⟨q1, q2⟩ := luM_of ne
    refine ⟨luL a b, rfl, ne, fun m hm hy a' b' e' => ?_⟩
    injection e' with e1 e2
    injection e2 with e2 _
    injection e1 with e1
    injection e2 with e2
    have e1 := ints_injS e1
    have e2 := ints_injS e2
    subst e1 e2
    have g1 := hy _ q1
    have g2 := q2 _ hm
    congr 1
    omega
abbrev nCb : List Str := ["dyeing", "r", "firsts", "broken", "row", "between_row", "dye", "between", "first", "uneven"]
abbrev sCb : Stmt := topS 7
theorem scCb : FnScope nCb ["dyeing"] (defScope sCb) := ⟨rfl, rfl, rfl, by decide +kernel, rfl, by decide +kernel, by decide +kernel⟩
theorem ok_cb (F : Fun K "count_breach" "count_breach" sCb f fd) (m1 : mg "zip" = none) (m3 : mg "min" = none) (DM : Dc P w K mg base "dye_count" 1 ["dyeing"] (spP preMy postMy)) (DB : Dc P w K mg base "between_table" 2 ["dyeing"] (spP preT postBt)) (DL : Dc P w K mg base "least_uneven" 1 ["one", "other"] (spP preLe postLe)) : FnG P w K mg base 3 f fd ["dyeing"] (spP preT postCb) := by
  refine fnP F scCb (fun ds ⟨_, _, e, _⟩ => by rw [e]; rfl) fun A hg hr ds ⟨n, t, e, ht, hn⟩ => ?_
  subst e
  obtain ⟨fM, fdM, CM⟩ := DM.callee (N := nCb) (st := sCb) hr hg (by decide : 1 ≤ 2)
  obtain ⟨fB, fdB, CB⟩ := DB.callee (N := nCb) (st := sCb) hr hg (by decide : 2 ≤ 2)
  obtain ⟨fL, fdL, CL⟩ := DL.callee (N := nCb) (st := sCb) hr hg (by decide : 1 ≤ 2)
  have hu : A.units + 64 < cLine := by have := hr.units; exact this
  have hs := ht.sq
  have hl : t.length = n := hs.1
  have hrow := hs.2
  have lc : (colT n t).length = n := by unfold colT; rw [List.length_map, List.length_range]
  have hmy := ht.mny_le
  have hnn0 : n * n ≤ 16 * 16 := Nat.mul_le_mul hn hn
  refine r_asg 1 scCb.nd (w_callP CM (w_name 0 ⟨preT_many ht hn, fun d pd => ?_⟩))
  obtain ⟨z, ez, hz⟩ := pd t rfl
  have hz := many_eq ht hz
  subst ez hz
  refine r_dnew 2 scCb.nd (by show 2 < 10; decide) fun p => ?_
  refine r_new 3 scCb.nd (by show 3 < 10; decide) ?_
  refine r_forP 4 5 scCb.nd (wi_zipTL m1 (w_name 0 (w_callP CB (w_name 0 ⟨⟨n, t, rfl, ht, hn⟩, fun d pd => ?_⟩))))
  have e := pd n t rfl ht
  subst e
  refine ⟨t.map rowT, (btwT n t).map fun l => .list (l.map fun c => .tuple (c.map .int)), rfl, by unfold btwT; rw [List.length_map, List.length_map, List.length_map], fun i e => i ≤ n ∧ ∃ s4 s5 s6 s7 s8 : Sl, e = [.va (tbT t), .va (.int (mny t : Int)), .dk p (kvOf (scn n (gC n t) i 0)), .ow ((brkG fC [] (scn n (gC n t) i 0)).map prD), s4, s5, s6, s7, s8, .no], ⟨Nat.zero_le _, .no, .no, .no, .no, .no, rfl⟩, fun i q e eq ⟨hi, s4, s5, s6, s7, s8, ee⟩ => ?_, fun e ⟨hi, s4, s5, s6, s7, s8, ee⟩ => ?_⟩
  · subst ee
    have lz : ((t.map rowT).zip ((btwT n t).map fun l => PyData.list (l.map fun c => .tuple (c.map .int)))).length = n := by
      unfold btwT
      rw [List.length_zip, List.length_map, List.length_map, List.length_map, hl, Nat.min_self]
    have hi' : i < n := by
      have := (List.getElem?_eq_some_iff.mp eq).1
      omega
    obtain ⟨z1, z2⟩ := List.getElem?_zip_eq_some.mp (show ((t.map rowT).zip ((btwT n t).map fun l => PyData.list (l.map fun c => .tuple (c.map .int))))[i]? = some (q.1, q.2) from eq)
    have hr' : t[i]? = some t[i] := List.getElem?_eq_getElem (by omega)
    rw [List.getElem?_map, hr'] at z1
    rw [List.getElem?_map] at z2
    unfold btwT at z2
    rw [List.getElem?_map, hr'] at z2
    have z1 : rowT t[i] = q.1 := Option.some.inj z1
    have z2 : PyData.list (((colT n t).map fun c => srtI (codeL (mny t) t[i] c)).map fun c => .tuple (c.map .int)) = q.2 := Option.some.inj z2
    rw [← z1, ← z2]
    generalize t[i] = row at *
    have lrow := hrow row (List.mem_of_getElem? hr')
    have lz2 : ((row.map PyData.int).zip (((colT n t).map fun c => srtI (codeL (mny t) row c)).map fun c => PyData.tuple (c.map .int))).length = n := by
      rw [List.length_zip, List.length_map, List.length_map, List.length_map, lc, lrow, Nat.min_self]
    refine r_forP 6 7 scCb.nd (wi_zipTL m1 (w_name 4 (w_name 5 ⟨row.map .int, ((colT n t).map fun c => srtI (codeL (mny t) row c)).map fun c => .tuple (c.map .int), rfl, by rw [List.length_map, List.length_map, List.length_map, lc, lrow], fun m e => m ≤ n ∧ ∃ s6 s7 s8 : Sl, e = [.va (tbT t), .va (.int (mny t : Int)), .dk p (kvOf (scn n (gC n t) i m)), .ow ((brkG fC [] (scn n (gC n t) i m)).map prD), .va (rowT row), .va (.list (((colT n t).map fun c => srtI (codeL (mny t) row c)).map fun c => .tuple (c.map .int))), s6, s7, s8, .no], ⟨Nat.zero_le _, s6, s7, s8, rfl⟩, fun m q e eq ⟨hm, s6, s7, s8, ee⟩ => ?_, fun e ⟨hm, s6, s7, s8, ee⟩ => ?_⟩)))
    · subst ee
      have hm' : m < n := by
        have := (List.getElem?_eq_some_iff.mp eq).1
        omega
      obtain ⟨z1, z2⟩ := List.getElem?_zip_eq_some.mp (show ((row.map PyData.int).zip (((colT n t).map fun c => srtI (codeL (mny t) row c)).map fun c => PyData.tuple (c.map .int)))[m]? = some (q.1, q.2) from eq)
      rw [List.getElem?_map, row_atN hs hi' hm' hr'] at z1
      have ecode : codeL (mny t) row (t.map fun r => r.getD m 0) = cods n t i m := by
        have := codeL_at hs hi' hm'
        rw [List.getD_eq_getElem?_getD, hr', List.getD_eq_getElem?_getD, colT_at hm'] at this
        exact this
      rw [List.getElem?_map, List.getElem?_map, colT_at hm'] at z2
      have z1 : PyData.int (atN t i m) = q.1 := Option.some.inj z1
      have z2 : PyData.tuple ((srtI (codeL (mny t) row (t.map fun r => r.getD m 0))).map .int) = q.2 := Option.some.inj z2
      rw [ecode] at z2
      rw [← z1, ← z2]
      have cS := scn_col n (gC n t) i m
      have lS := scn_len n (gC n t) i m
      have hnn : i * n ≤ 16 * 16 := Nat.mul_le_mul (by omega) hn
      have allI : ∀ k d, (k, d) ∈ scn n (gC n t) i m → ∃ x y, d = btP n t x y := fun k d hd => by
        unfold scn at hd
        rcases List.mem_append.mp hd with h | h
        · obtain ⟨x, _, h⟩ := List.mem_flatMap.mp h
          obtain ⟨y, _, e⟩ := List.mem_map.mp h
          unfold gC at e
          injection e with _ e
          exact ⟨_, _, e.symm⟩
        · obtain ⟨y, _, e⟩ := List.mem_map.mp h
          unfold gC at e
          injection e with _ e
          exact ⟨_, _, e.symm⟩
      have bS := brkG_snoc fC (gC n t i m) (scn n (gC n t) i m) []
      have kS := kvOf_snoc (scn n (gC n t) i m) (gC n t i m)
      rw [← cS] at bS kS
      have bl := brkG_len fC (scn n (gC n t) i m) []
      have kl := kvOf_len (scn n (gC n t) i m)
      have kv := kvOf_val (atN t i m) (scn n (gC n t) i m)
      rw [List.nil_append] at bS
      have bS : brkG fC [] (scn n (gC n t) i (m + 1)) = brkG fC [] (scn n (gC n t) i m) ++ match fstV (scn n (gC n t) i m) (atN t i m) with | some v => (fC v (gC n t i m)).toList | none => [] := bS
      have kS : kvOf (scn n (gC n t) i (m + 1)) = if (valD (kvOf (scn n (gC n t) i m)) (.inl (atN t i m))).isSome = true then kvOf (scn n (gC n t) i m) else kvOf (scn n (gC n t) i m) ++ [(.inl (atN t i m), btP n t i m)] := kS
      have hbt : PyData.tuple ((srtI (cods n t i m)).map .int) = btP n t i m := rfl
      generalize scn n (gC n t) i m = L at *
      refine r_asg 8 scCb.nd (w_dset 2 rfl (w_name 6 (w_name 7 ⟨kvOf L, .inl (atN t i m), rfl, rfl, by omega, fun d' hd' => ?_, fun hno => ?_⟩)))
      · rw [hd'] at kv kS
        rw [← kv] at bS
        obtain ⟨x0, y0, eu⟩ := allI _ _ (fstV_mem kv.symm)
        subst eu
        have kS : kvOf (scn n (gC n t) i (m + 1)) = kvOf L := kS
        have fS : fC (btP n t x0 y0) (gC n t i m) = if srtI (cods n t x0 y0) ≠ srtI (cods n t i m) then some (luM (srtI (cods n t x0 y0)) (srtI (cods n t i m)), atN t i m) else none := by
          show (if toI (btP n t x0 y0) ≠ toI (btP n t i m) then some (luM (toI (btP n t x0 y0)) (toI (btP n t i m)), atN t i m) else none) = _
          unfold btP
          rw [toI_of, toI_of]
        have bS : brkG fC [] (scn n (gC n t) i (m + 1)) = brkG fC [] L ++ (fC (btP n t x0 y0) (gC n t i m)).toList := bS
        rw [fS] at bS
        refine r_if (wt_neD hu (w_name 8 (w_name 7 ⟨shaped_T _, shaped_T _, ?_⟩)))
        rw [eqv_dec]
        refine ifn (fun hne => ?_) fun heq => ?_
        · rw [if_pos hne] at bS
          refine r_append 3 rfl ?_
          refine w_tup ?_
          refine w_callP CL ?_
          refine w_name 8 (w_name 7 ⟨⟨srtI (cods n t x0 y0), srtI (cods n t i m), rfl, by rw [srtI_len, srtI_len, cods_len, cods_len], hne, by rw [srtI_len, cods_len]; omega⟩, fun d pd => ?_⟩)
          have e := pd (srtI (cods n t x0 y0)) (srtI (cods n t i m)) rfl
          subst e
          refine w_name 6 ⟨by show 2 ≤ sizeLine; decide, (brkG fC [] L).map prD, rfl, by rw [List.length_map]; omega, r_nil ?_⟩
          refine r_nil ⟨hm', .va (.int (atN t i m)), .va (btP n t i m), .va (btP n t x0 y0), ?_⟩
          rw [bS, kS, List.map_append]
          rfl
        · rw [if_neg (fun z => z heq)] at bS
          refine r_nil (r_nil ⟨hm', .va (.int (atN t i m)), .va (btP n t i m), .va (btP n t x0 y0), ?_⟩)
          rw [bS, kS]
          show _ = [_, _, _, Sl.ow ((brkG fC [] L ++ []).map prD), _, _, _, _, _, _]
          rw [List.append_nil]
          rfl
      · rw [hno] at kv kS
        rw [← kv] at bS
        have bS : brkG fC [] (scn n (gC n t) i (m + 1)) = brkG fC [] L ++ [] := bS
        have kS : kvOf (scn n (gC n t) i (m + 1)) = kvOf L ++ [(.inl (atN t i m), btP n t i m)] := kS
        refine r_if (wt_neD hu (w_name 8 (w_name 7 ⟨shaped_T _, shaped_T _, ?_⟩)))
        rw [eqv_dec]
        refine ifF (by simp) (r_nil (r_nil ⟨hm', .va (.int (atN t i m)), .va (btP n t i m), .va (btP n t i m), ?_⟩))
        rw [bS, kS, putD_new hno, List.append_nil]
        rfl
    · subst ee
      rw [lz2, scn_row]
      exact r_nil ⟨hi', _, _, s6, s7, s8, rfl⟩
  · subst ee
    have lz : ((t.map rowT).zip ((btwT n t).map fun l => PyData.list (l.map fun c => .tuple (c.map .int)))).length = n := by
      unfold btwT
      rw [List.length_zip, List.length_map, List.length_map, List.length_map, hl, Nat.min_self]
    rw [lz]
    have g1 : ∀ q, q ∈ brkG fC [] (scn n (gC n t) n 0) → CntAt n t q.1 q.2 := fun q h => cnt_sound h
    have g2 : ∀ c v, CntAt n t c v → ∃ q ∈ brkG fC [] (scn n (gC n t) n 0), q.2 = v ∧ q.1 ≤ c := fun c v h => cnt_whole h
    generalize brkG fC [] (scn n (gC n t) n 0) = zs at *
    refine r_if (wt_not (wt_trO 3 rfl ?_))
    rw [Bool.not_not]
    have fin : ∀ d, IsCnt n t d → postCb [tbT t] d := fun d h n' t' e' ht' => by
      injection e' with e' _
      have e' := tbT_inj e'
      subst e'
      have : n' = n := by rw [← ht'.sq.1, hl]
      subst this
      exact h
    refine ifb (fun hz => ?_) fun hz => ?_
    · refine r_ret (w_non (fin _ (.inl ⟨fun c v h => ?_, rfl⟩)))
      obtain ⟨q, hq, _⟩ := g2 c v h
      cases zs with
      | nil => cases hq
      | cons _ _ => cases hz
    · refine r_nil (r_un2 9 6 (w_minP hu m3 (w_freeze 3 ⟨zs, rfl, (by intro e; rw [e] at hz; cases hz), fun q hq hle => ⟨.int q.1, .int q.2, rfl, ?_⟩⟩)) scCb.nd (by intro v hv; cases v; subst hv; rfl))
      have hc := g1 q hq
      have hpos : 1 ≤ mny t := by
        obtain ⟨x, y, _, _, hx, hy, _⟩ := hc
        have := ht.bd hx hy
        omega
      refine r_ret (w_tup (w_str (w_fdiv (w_name 9 ⟨q.1, rfl, w_name 1 ⟨(mny t : Int), rfl, ⟨by omega, by omega⟩, w_mod (w_name 9 ⟨q.1, rfl, w_name 1 ⟨(mny t : Int), rfl, by omega, w_name 6 ⟨by show 4 ≤ sizeLine; decide, fin _ (.inr ⟨q.1, q.2, hc, fun c' v' h' => ?_, rfl⟩)⟩⟩⟩)⟩⟩))))
      obtain ⟨r, hr1, hr2, hr3⟩ := g2 c' v' h'
      have := hle r hr1
      unfold leP at *
      rw [← hr2]
      show q.1 < c' ∨ (q.1 = c' ∧ q.2 ≤ r.2)
      omega
end
end K09

namespace TL
open PySem PySem.Spec PyProof.Rows L2
def noneD : PyData → Bool
  | .none => true
  | _ => false
theorem none_tr {H : Hp} {v : V} {d : PyData} (t : Tr H v d) : decide (v = V.non) = noneD d := by
  cases t <;> rfl
section
variable {G : Gx} {env : En} {P : PyData → En → Prop} {PB : Bool → En → Prop} {a : Expr} {pos p : Pos} {j : Nat}
/-- a is None -/
theorem w_isN (h : W G a env fun x e1 => P (.bool (noneD x)) e1) : W G (.Compare a [.Is] [.Constant .none j p] pos) env P :=
  w_cmp (r := fun X => fun x y H Q => y = .non ∧ Q (.bl (decide (x = .non))) H) (fun _ _ => op_isN) (by rfl) fun X hX => W.imp h fun x e1 pd => w_non (by
    intro Hc H u v Q s t1 t2 q
    cases t2
    refine ⟨rfl, ?_⟩
    rw [none_tr t1]
    exact q _ _ Hc H pd (.refl s) (.bl _))
theorem wt_isN (h : W G a env fun x e1 => PB (noneD x) e1) : WT G (.Compare a [.Is] [.Constant .none j p] pos) env PB :=
  wt_cmp (r := fun X => fun x y H Q => y = .non ∧ Q (.bl (decide (x = .non))) H) (fun _ _ => op_isN) (by rfl) fun X hX => W.imp h fun x e1 pd => w_non (by
    intro Hc H u v Q s t1 t2 q
    cases t2
    refine ⟨rfl, ?_⟩
    rw [none_tr t1]
    exact q _ _ Hc H ⟨_, rfl, pd⟩ (.refl s) (.bl _))
end
end TL

namespace TL
open PySem PySem.Spec PyProof.Rows L2
/-- what closed_breach tells -/
def IsBr (n : Nat) (t : Tb) (d : PyData) : Prop := (∃ v, MixAt n t v ∧ (∀ u, MixAt n t u → v ≤ u) ∧ d = .tuple [.str "middle", .int v]) ∨
  ((∀ v, ¬ MixAt n t v) ∧ ∃ v, TrnAt n t v ∧ (∀ u, TrnAt n t u → v ≤ u) ∧ d = .tuple [.str "turned", .int v]) ∨
  ((∀ v, ¬ MixAt n t v) ∧ (∀ v, ¬ TrnAt n t v) ∧ IsCnt n t d)
/-- none of the three -/
def NoBr (n : Nat) (t : Tb) : Prop := (∀ v, ¬ MixAt n t v) ∧ (∀ v, ¬ TrnAt n t v) ∧ ∀ c v, ¬ CntAt n t c v
theorem IsBr.none_iff {n : Nat} {t : Tb} {d : PyData} (h : IsBr n t d) : noneD d = true ↔ NoBr n t := by
  rcases h with ⟨v, h1, _, e⟩ | ⟨h0, v, h1, _, e⟩ | ⟨h0, h1, h2⟩
  · subst e
    exact ⟨fun z => (nomatch z), fun z => absurd h1 (z.1 v)⟩
  · subst e
    exact ⟨fun z => (nomatch z), fun z => absurd h1 (z.2.1 v)⟩
  · rcases h2 with ⟨h3, e⟩ | ⟨c, v, h3, _, e⟩
    · subst e
      exact ⟨fun _ => ⟨h0, h1, h3⟩, fun _ => rfl⟩
    · subst e
      exact ⟨fun z => (nomatch z), fun z => absurd h3 (z.2.2 c v)⟩
def postBr (ds : List PyData) (d : PyData) : Prop := ∀ (n : Nat) (t : Tb), ds = [tbT t] → Dye n t → IsBr n t d
def postIc (ds : List PyData) (d : PyData) : Prop := ∀ (n : Nat) (t : Tb), ds = [tbT t] → Dye n t → ∃ b, d = .bool b ∧ (b = true ↔ NoBr n t)
end TL
namespace K09
open PySem PySem.Spec PyProof.Rows L2 TL
section
variable {P : Program} {w : World} {K : PySem.W.Frag} {mg : Str → Option Value} {base : Heap} {k : Nat} {f : Addr} {fd : FuncData}
abbrev nBr : List Str := ["dyeing", "breach"]
abbrev sBr : Stmt := topS 4
theorem scBr : FnScope nBr ["dyeing"] (defScope sBr) := ⟨rfl, rfl, rfl, by decide +kernel, rfl, by decide +kernel, by decide +kernel⟩
theorem ok_br (F : Fun K "closed_breach" "closed_breach" sBr f fd) (DM : Dc P w K mg base "middle_breach" 1 ["dyeing"] (spP preT postMd)) (DT : Dc P w K mg base "turned_breach" 1 ["dyeing"] (spP preT postTr)) (DC : Dc P w K mg base "count_breach" 3 ["dyeing"] (spP preT postCb)) : FnG P w K mg base 4 f fd ["dyeing"] (spP preT postBr) := by
  refine fnP F scBr (fun ds ⟨_, _, e, _⟩ => by rw [e]; rfl) fun A hg hr ds ⟨n, t, e, ht, hn⟩ => ?_
  subst e
  obtain ⟨fM, fdM, CM⟩ := DM.callee (N := nBr) (st := sBr) hr hg (by decide : 1 ≤ 3)
  obtain ⟨fT, fdT, CT⟩ := DT.callee (N := nBr) (st := sBr) hr hg (by decide : 1 ≤ 3)
  obtain ⟨fC, fdC, CC⟩ := DC.callee (N := nBr) (st := sBr) hr hg (by decide : 3 ≤ 3)
  have fin : ∀ d, IsBr n t d → postBr [tbT t] d := fun d h n' t' e' ht' => by
    injection e' with e' _
    have e' := tbT_inj e'
    subst e'
    have : n' = n := by rw [← ht'.sq.1, ht.sq.1]
    subst this
    exact h
  refine r_asg 1 scBr.nd (w_callP CM (w_name 0 ⟨⟨n, t, rfl, ht, hn⟩, fun d pd => ?_⟩))
  rcases pd n t rfl ht with ⟨h0, e⟩ | ⟨v, h1, h2, e⟩
  · subst e
    refine r_if (wt_isN (w_name 1 (ifT rfl ?_)))
    refine r_asg 1 scBr.nd (w_callP CT (w_name 0 ⟨⟨n, t, rfl, ht, hn⟩, fun d pd => ?_⟩))
    rcases pd n t rfl ht with ⟨h1, e⟩ | ⟨v, h1, h2, e⟩
    · subst e
      refine r_nil (r_if (wt_isN (w_name 1 (ifT rfl ?_))))
      refine r_asg 1 scBr.nd (w_callP CC (w_name 0 ⟨⟨n, t, rfl, ht, hn⟩, fun d pd => r_nil (r_ret (w_name 1 (fin d (.inr (.inr ⟨h0, h1, pd n t rfl ht⟩)))))⟩))
    · subst e
      exact r_nil (r_if (wt_isN (w_name 1 (ifF rfl (r_nil (r_ret (w_name 1 (fin _ (.inr (.inl ⟨h0, v, h1, h2, rfl⟩))))))))))
  · subst e
    refine r_if (wt_isN (w_name 1 (ifF rfl (r_nil ?_))))
    exact r_if (wt_isN (w_name 1 (ifF rfl (r_nil (r_ret (w_name 1 (fin _ (.inl ⟨v, h1, h2, rfl⟩))))))))
abbrev sIc : Stmt := topS 9
theorem scIc : FnScope ["dyeing"] ["dyeing"] (defScope sIc) := ⟨rfl, rfl, rfl, by decide +kernel, rfl, by decide +kernel, by decide +kernel⟩
theorem ok_ic (F : Fun K "is_closed" "is_closed" sIc f fd) (DB : Dc P w K mg base "closed_breach" 4 ["dyeing"] (spP preT postBr)) : FnG P w K mg base 5 f fd ["dyeing"] (spP preT postIc) := by
  refine fnP F scIc (fun ds ⟨_, _, e, _⟩ => by rw [e]; rfl) fun A hg hr ds ⟨n, t, e, ht, hn⟩ => ?_
  subst e
  obtain ⟨fB, fdB, CB⟩ := DB.callee (N := ["dyeing"]) (st := sIc) hr hg (by decide : 4 ≤ 4)
  refine r_ret (w_isN (w_callP CB (w_name 0 ⟨⟨n, t, rfl, ht, hn⟩, fun d pd => ?_⟩)))
  intro n' t' e' ht'
  injection e' with e' _
  have e' := tbT_inj e'
  subst e'
  have : n' = n := by rw [← ht'.sq.1, ht.sq.1]
  subst this
  exact ⟨_, rfl, (pd n' t rfl ht).none_iff⟩
end
end K09

namespace TL
open PySem PySem.Spec PyProof.Rows L2
def prsR (n : Nat) (t : Tb) (v : Int) (x k : Nat) : List (Nat × Nat) := ((List.range k).filter fun y => decide (atN t x y = v)).map fun y => (x, y)
def prsP (n : Nat) (t : Tb) (v : Int) (i : Nat) : List (Nat × Nat) := (List.range i).flatMap fun x => prsR n t v x n
theorem prsP_succ (n : Nat) (t : Tb) (v : Int) (i : Nat) : prsP n t v (i + 1) = prsP n t v i ++ prsR n t v i n := by
  unfold prsP
  rw [List.range_succ, List.flatMap_append, List.flatMap_cons, List.flatMap_nil, List.append_nil]
theorem prsR_succ (n : Nat) (t : Tb) (v : Int) (x k : Nat) : prsR n t v x (k + 1) = prsR n t v x k ++ if atN t x k = v then [(x, k)] else [] := by
  unfold prsR
  rw [List.range_succ, List.filter_append, List.map_append, List.filter_cons, List.filter_nil]
  by_cases h : atN t x k = v
  · rw [if_pos (decide_eq_true h), if_pos h]; rfl
  · rw [if_neg (by rw [decide_eq_false h]; exact Bool.false_ne_true), if_neg h]; rfl
theorem prsR_len (n : Nat) (t : Tb) (v : Int) (x k : Nat) : (prsR n t v x k).length ≤ k := by
  unfold prsR
  rw [List.length_map]
  exact Nat.le_trans (List.length_filter_le _ _) (Nat.le_of_eq List.length_range)
theorem prsP_len (n : Nat) (t : Tb) (v : Int) : ∀ i, (prsP n t v i).length ≤ i * n
  | 0 => Nat.zero_le _
  | i + 1 => by
    rw [prsP_succ, List.length_append, Nat.add_mul, Nat.one_mul]
    have := prsP_len n t v i
    have := prsR_len n t v i n
    omega
theorem prsP_mem {n : Nat} {t : Tb} {v : Int} {p : Nat × Nat} : p ∈ prsP n t v n ↔ p.1 < n ∧ p.2 < n ∧ atN t p.1 p.2 = v := by
  unfold prsP prsR
  rw [List.mem_flatMap]
  constructor
  · rintro ⟨x, hx, h⟩
    obtain ⟨y, hy, e⟩ := List.mem_map.mp h
    obtain ⟨hy, hv⟩ := List.mem_filter.mp hy
    rw [← e]
    exact ⟨List.mem_range.mp hx, List.mem_range.mp hy, of_decide_eq_true hv⟩
  · rintro ⟨hx, hy, hv⟩
    exact ⟨p.1, List.mem_range.mpr hx, List.mem_map.mpr ⟨p.2, List.mem_filter.mpr ⟨List.mem_range.mpr hy, decide_eq_true hv⟩, rfl⟩⟩
def prePa (ds : List PyData) : Prop := ∃ (n : Nat) (t : Tb) (v : Int), ds = [tbT t, .int v] ∧ Sq n t ∧ n ≤ 16
def postPa (ds : List PyData) (d : PyData) : Prop := ∀ (n : Nat) (t : Tb) (v : Int), ds = [tbT t, .int v] → Sq n t → d = .list ((prsP n t v n).map prN)
def btwC (n : Nat) (t : Tb) (x y : Nat) (a b : Int) : Nat := ((List.range n).filter fun z => decide (atN t x z = a ∧ atN t z y = b)).length
def preBe (ds : List PyData) : Prop := ∃ (n : Nat) (t : Tb) (p : Nat × Nat) (a b : Int), ds = [tbT t, prN p, .int a, .int b] ∧ Sq n t ∧ n ≤ 16 ∧ p.1 < n ∧ p.2 < n
def postBe (ds : List PyData) (d : PyData) : Prop := ∀ (n : Nat) (t : Tb) (p : Nat × Nat) (a b : Int), ds = [tbT t, prN p, .int a, .int b] → Sq n t → d = .int (btwC n t p.1 p.2 a b : Nat)
theorem btwC_count (n : Nat) (t : Tb) (x y : Nat) (a b : Int) : btwC n t x y a b = (btw n t x y).count (a, b) := by
  unfold btwC btw
  rw [List.count, List.countP_map, List.countP_eq_length_filter]
  refine congrArg List.length (List.filter_congr fun z _ => ?_)
  show decide _ = ((atN t x z, atN t z y) == (a, b))
  by_cases h : atN t x z = a ∧ atN t z y = b
  · rw [decide_eq_true h, h.1, h.2]
    exact (beq_self_eq_true _).symm
  · rw [decide_eq_false h]
    refine (beq_eq_false_iff_ne.mpr fun e => h ?_).symm
    injection e with e1 e2
    exact ⟨e1, e2⟩
end TL
namespace K09
open PySem PySem.Spec PyProof.Rows L2 TL
section
variable {P : Program} {w : World} {K : PySem.W.Frag} {mg : Str → Option Value} {base : Heap} {k : Nat} {f : Addr} {fd : FuncData}
abbrev nPa : List Str := ["dyeing_here", "dye", "found", "x", "y"]
abbrev sPa : Stmt := topS 31
theorem scPa : FnScope nPa ["dyeing_here", "dye"] (defScope sPa) := ⟨rfl, rfl, rfl, by decide +kernel, rfl, by decide +kernel, by decide +kernel⟩
theorem ok_pa (F : Fun K "_law_pairs" "_law_pairs" sPa f fd) (m1 : mg "range" = none) (m2 : mg "len" = none) : FnG P w K mg base 1 f fd ["dyeing_here", "dye"] (spP prePa postPa) := by
  refine fnP F scPa (fun ds ⟨_, _, _, e, _⟩ => by rw [e]; rfl) fun A hg hr ds ⟨n, t, v, e, hs, hn⟩ => ?_
  subst e
  have lt : (t.map rowT).length = n := by rw [List.length_map, hs.1]
  refine r_asg 2 scPa.nd (w_lst ⟨Nat.zero_le _, ?_⟩)
  refine r_for 3 scPa.nd (wi_rg m1 (w_len m2 (w_name 0 ⟨(t.map rowT).length, rfl, _, rfl, by omega, by omega, ?_⟩)))
  rw [lt, Int.toNat_natCast]
  refine ⟨fun i e => i ≤ n ∧ ∃ s3 : Sl, e = [.va (tbT t), .va (.int v), .va (.list ((prsP n t v i).map prN)), s3, .no], ⟨Nat.zero_le _, .no, rfl⟩, fun i d e ed ⟨hi, s3, ee⟩ => ?_, fun e ⟨hi, s3, ee⟩ => ?_⟩
  · subst ee
    obtain ⟨hi', ed⟩ := rgD_get ed
    rw [Int.zero_add] at ed
    subst ed
    have l1 := prsP_len n t v i
    have hnn : i * n ≤ 16 * 16 := Nat.mul_le_mul (by omega) hn
    refine r_asg 2 scPa.nd (w_cat (w_name 2 ⟨(prsP n t v i).map prN, rfl, w_lc 4 (t := some _) (wi_rg m1 (w_len m2 (w_name 0 ⟨(t.map rowT).length, rfl, _, rfl, by omega, by omega, ?_⟩))) scPa.nd⟩))
    rw [lt, Int.toNat_natCast]
    refine ⟨by rw [rgD_len]; omega, fun m acc e => acc = (prsR n t v i m).map prN ∧ m ≤ n ∧ e = [.va (tbT t), .va (.int v), .va (.list ((prsP n t v i).map prN)), .va (.int (i : Int)), .no], ⟨rfl, Nat.zero_le _, rfl⟩, fun acc e ⟨h1, h2, h3⟩ => ?_, fun m d acc e ed _ ⟨h1, h2, h3⟩ => ?_⟩
    · rw [rgD_len] at h1
      subst h1 h3
      have l2 := prsR_len n t v i n
      refine ⟨_, rfl, ?_, r_nil ⟨hi', .va (.int (i : Int)), ?_⟩⟩
      · rw [List.length_map, List.length_map]
        exact Nat.le_trans (show (prsP n t v i).length + (prsR n t v i n).length ≤ 1000 by omega) (by decide)
      · rw [prsP_succ, List.map_append]
        rfl
    · subst h3
      obtain ⟨hm, ed⟩ := rgD_get ed
      rw [Int.zero_add] at ed
      subst ed
      obtain ⟨r, q1, q2, _⟩ := tq_atN hs hi' hm
      have rS := prsR_succ n t v i m
      refine wt_eqI (w_sub (w_sub (w_name 0 (w_name 3 ⟨_, _, _, rfl, rfl, q1, w_name 4 ⟨_, _, _, rfl, rfl, q2, _, rfl, w_name 1 ⟨v, rfl, ifd (fun hk => ?_) fun hk => ?_⟩⟩⟩))))
      · rw [if_pos hk] at rS
        exact w_tup (w_name 3 (w_name 4 ⟨by show 2 ≤ sizeLine; decide, by rw [h1, rS, List.map_append]; rfl, hm, rfl⟩))
      · rw [if_neg hk, List.append_nil] at rS
        exact ⟨by rw [h1, rS], hm, rfl⟩
  · subst ee
    rw [rgD_len]
    refine r_ret (w_name 2 fun n' t' v' e' hs' => ?_)
    injection e' with e1 e2
    injection e2 with e2 _
    injection e2 with e2
    have e1 := tbT_inj e1
    subst e1 e2
    have : n' = n := by rw [← hs'.1, hs.1]
    subst this
    rfl
abbrev nBw : List Str := ["dyeing_here", "pair", "first", "second", "x", "y", "z"]
abbrev sBe2 : Stmt := topS 32
theorem scBe2 : FnScope nBw ["dyeing_here", "pair", "first", "second"] (defScope sBe2) := ⟨rfl, rfl, rfl, by decide +kernel, rfl, by decide +kernel, by decide +kernel⟩
theorem ok_btw (F : Fun K "_law_between" "_law_between" sBe2 f fd) (m1 : mg "range" = none) (m2 : mg "len" = none) : FnG P w K mg base 1 f fd ["dyeing_here", "pair", "first", "second"] (spP preBe postBe) := by
  refine fnP F scBe2 (fun ds ⟨_, _, _, _, _, e, _⟩ => by rw [e]; rfl) fun A hg hr ds ⟨n, t, p, a, b, e, hs, hn, hp1, hp2⟩ => ?_
  subst e
  obtain ⟨x, y⟩ := p
  have lt : (t.map rowT).length = n := by rw [List.length_map, hs.1]
  refine r_un2 4 5 (w_name 1 ⟨.int (x : Int), .int (y : Int), rfl, ?_⟩) scBe2.nd (by intro v hv; cases v; subst hv; rfl)
  refine r_ret (w_len m2 (w_lc 6 (t := some _) (wi_rg m1 (w_len m2 (w_name 0 ⟨(t.map rowT).length, rfl, _, rfl, by omega, by omega, ?_⟩))) scBe2.nd))
  rw [lt, Int.toNat_natCast]
  refine ⟨by rw [rgD_len]; omega, cj_filter (fun d => match d with | .int z => decide (atN t x z.toNat = a ∧ atN t z.toNat y = b) | _ => false) (fun d hd => ?_) (fun d hd => w_name 6 ⟨rfl, rfl⟩) ?_⟩
  · obtain ⟨z, hz, ez⟩ := rg_in hd
    subst ez
    obtain ⟨r, q1, q2, _⟩ := tq_atN hs hp1 hz
    obtain ⟨r', q3, q4, _⟩ := tq_atN hs hz hp2
    refine wt_and (wt_eqI (w_sub (w_sub (w_name 0 (w_name 4 ⟨_, _, _, rfl, rfl, q1, w_name 6 ⟨_, _, _, rfl, rfl, q2, _, rfl, w_name 2 ⟨a, rfl, ifd (fun hk => ?_) fun hk => ?_⟩⟩⟩)))))
    · refine wt_eqI (w_sub (w_sub (w_name 0 (w_name 6 ⟨_, _, _, rfl, rfl, q3, w_name 5 ⟨_, _, _, rfl, rfl, q4, _, rfl, w_name 3 ⟨b, rfl, ?_, rfl⟩⟩⟩))))
      show decide _ = decide (atN t x (z : Int).toNat = a ∧ atN t (z : Int).toNat y = b)
      rw [Int.toNat_natCast]
      by_cases h2 : atN t z y = b
      · rw [decide_eq_true h2, decide_eq_true ⟨hk, h2⟩]
      · rw [decide_eq_false h2, decide_eq_false fun q => h2 q.2]
    · refine ⟨?_, rfl⟩
      show false = decide (atN t x (z : Int).toNat = a ∧ atN t (z : Int).toNat y = b)
      rw [Int.toNat_natCast]
      exact (decide_eq_false fun q => hk q.1).symm
  · refine ⟨_, rfl, fun n' t' p' a' b' e' hs' => ?_⟩
    injection e' with e1 e2
    injection e2 with e2 e3
    injection e3 with e3 e4
    injection e4 with e4 _
    injection e3 with e3
    injection e4 with e4
    have e1 := tbT_inj e1
    subst e1 e3 e4
    have en : n' = n := by rw [← hs'.1, hs.1]
    subst en
    have ep : p' = (x, y) := by
      obtain ⟨x', y'⟩ := p'
      unfold prN at e2
      injection e2 with e2
      injection e2 with f1 f2
      injection f2 with f2 _
      injection f1 with f1
      injection f2 with f2
      have g1 : (x : Int) = x' := f1
      have g2 : (y : Int) = y' := f2
      exact Prod.ext (by omega) (by omega)
    subst ep
    unfold btwC
    congr 1
    have : (rgD 0 n').filter (fun d => match d with | .int z => decide (atN t x z.toNat = a ∧ atN t z.toNat y = b) | _ => false) = ((List.range n').filter fun z => decide (atN t x z = a ∧ atN t z y = b)).map fun (z : Nat) => PyData.int (z : Int) := by
      unfold rgD
      rw [List.filter_map]
      have : ∀ z : Nat, (PyData.int (0 + (z : Int))) = .int (z : Int) := fun z => by rw [Int.zero_add]
      rw [show (fun (i : Nat) => PyData.int (0 + (i : Int))) = fun (z : Nat) => PyData.int (z : Int) from funext this]
      refine congrArg _ (List.filter_congr fun z _ => ?_)
      show decide (atN t x (z : Int).toNat = a ∧ atN t (z : Int).toNat y = b) = _
      rw [Int.toNat_natCast]
    rw [this, List.length_map]
end
end K09

/-! len(set(a list of ints)) -/
namespace TL
open PySem PySem.Spec PyProof.Rows L2
def disI (ns : List Int) : Nat := (PyProof.Rows.firstMet (fun i => ns.getD i 0) ns.length).length
theorem dd_mem {xs : List Int} {x y : Int} : y ∈ PyProof.Rows.step_dedup xs x ↔ y ∈ xs ∨ y = x := by
  unfold PyProof.Rows.step_dedup
  by_cases h : (xs.any (· == x)) = true
  · rw [if_pos h]
    refine ⟨.inl, fun z => z.elim id fun e => ?_⟩
    obtain ⟨w, hw, e2⟩ := List.any_eq_true.mp h
    rw [e, ← eq_of_beq e2]
    exact hw
  · rw [if_neg h, List.mem_append, List.mem_singleton]
theorem dd_nodup {xs : List Int} {x : Int} (h : xs.Nodup) : (PyProof.Rows.step_dedup xs x).Nodup := by
  unfold PyProof.Rows.step_dedup
  by_cases q : (xs.any (· == x)) = true
  · rw [if_pos q]; exact h
  · rw [if_neg q, List.nodup_append]
    refine ⟨h, by simp, fun a ha b hb e => ?_⟩
    rw [List.mem_singleton.mp hb] at e
    exact q (List.any_eq_true.mpr ⟨a, ha, by rw [e]; exact beq_self_eq_true _⟩)
theorem fm_mem {val : Nat → Int} {y : Int} : ∀ {i : Nat}, y ∈ PyProof.Rows.firstMet val i ↔ ∃ j, j < i ∧ val j = y
  | 0 => ⟨fun h => (nomatch h), fun ⟨j, h, _⟩ => by omega⟩
  | i + 1 => by
    rw [PyProof.Rows.firstMet_succ, dd_mem, fm_mem (i := i)]
    constructor
    · rintro (⟨j, h, e⟩ | e)
      · exact ⟨j, by omega, e⟩
      · exact ⟨i, by omega, e.symm⟩
    · rintro ⟨j, h, e⟩
      by_cases q : j = i
      · exact .inr (by rw [← q]; exact e.symm)
      · exact .inl ⟨j, by omega, e⟩
theorem fm_nodup (val : Nat → Int) : ∀ i : Nat, (PyProof.Rows.firstMet val i).Nodup
  | 0 => List.nodup_nil
  | i + 1 => by rw [PyProof.Rows.firstMet_succ]; exact dd_nodup (fm_nodup val i)
theorem dis_mem {ns : List Int} {y : Int} : y ∈ PyProof.Rows.firstMet (fun i => ns.getD i 0) ns.length ↔ y ∈ ns := by
  rw [fm_mem]
  constructor
  · rintro ⟨j, h, e⟩
    rw [List.getD_eq_getElem?_getD, List.getElem?_eq_getElem h] at e
    rw [← e]
    exact List.getElem_mem h
  · intro h
    obtain ⟨j, hj⟩ := List.getElem?_of_mem h
    obtain ⟨hl, e⟩ := List.getElem?_eq_some_iff.mp hj
    exact ⟨j, hl, by rw [List.getD_eq_getElem?_getD, hj]; rfl⟩
/-- more than one exactly if two are unlike -/
theorem dis_two {ns : List Int} : 1 < disI ns ↔ ∃ a ∈ ns, ∃ b ∈ ns, a ≠ b := by
  have nd := fm_nodup (fun i => ns.getD i 0) ns.length
  have mm : ∀ y, y ∈ PyProof.Rows.firstMet (fun i => ns.getD i 0) ns.length ↔ y ∈ ns := fun y => dis_mem
  unfold disI
  generalize PyProof.Rows.firstMet (fun i => ns.getD i 0) ns.length = l at *
  constructor
  · intro h
    match l, nd, mm, h with
    | a :: b :: _, nd, mm, _ =>
      have := (List.nodup_cons.mp nd).1
      exact ⟨a, (mm a).mp List.mem_cons_self, b, (mm b).mp (List.mem_cons_of_mem _ List.mem_cons_self), fun e => this (e ▸ List.mem_cons_self)⟩
  · rintro ⟨a, ha, b, hb, ne⟩
    have ha := (mm a).mpr ha
    have hb := (mm b).mpr hb
    match l, ha, hb with
    | [x], ha, hb => exact absurd ((List.mem_singleton.mp ha).trans (List.mem_singleton.mp hb).symm) ne
    | _ :: _ :: _, _, _ => simp
def tLenSetA (K : PySem.W.Frag) (ta : TE) : TE := fun σ H Q => ta σ H fun x H1 => ∃ (l : Addr) (ns : List Int), x = V.ref l ∧ SqL K H1 l (ns.map V.int) ∧ ns.length ≤ 4000 ∧ Q (.int (disI ns : Nat)) H1
theorem pe_lenSetA {X : Cx} {a : Expr} {ta : TE} {p p2 q pos : Pos} (hg : Gl X "len") (hm : X.mg "len" = none) (hg2 : Gl X "set") (hm2 : X.mg "set" = none) (ha : PE X a ta) (hc : X.calm = true)
    (na : starEach [a] X.env = (false, eval a X.env) :: starEach [] X.env) : PE X (.Call (.Name "len" p) [.Call (.Name "set" p2) [a] [] q] [] pos) (tLenSetA X.K ta) := by
  refine ⟨fun pins s σ H Q I h => ?_⟩
  refine Call_ (ld_blt I hg hm PySem.boot_len ?_)
  refine PyProof.Rows.callWith_builtin1 (PyProof.Rows.args_cons ?_ rfl) rfl rfl
  refine Call_ (ld_blt I hg2 hm2 PyProof.Rows.boot_set ?_)
  refine PyProof.Rows.callWith_type1 (PyProof.Rows.args_cons (thn (ha.run pins s σ H _ I h) fun v s1 ⟨x, H1, I1, r1, q1⟩ => PyProof.Rows.args_nil ?_) na) na rfl
  obtain ⟨l, ns, rfl, hq, hl, q1⟩ := q1
  cases r1
  obtain ⟨its, r, pl, hz⟩ := I1.list hq
  have hlen : its.toArray.size = ns.length := by rw [List.size_toArray, ← r.length, List.length_map]
  refine call_set_list (I1.ok.hd hc) pl.isList (ns := ns) (by simpa using r.ints) (by rw [hlen]; unfold scanBound; omega) fun h' tk hS hk => ?_
  refine PyProof.Rows.args_nil ?_
  rw [hlen] at hS
  obtain ⟨o, es, ep, t, ho, hex, hd, _, _, _, hf, hn⟩ := hS
  have I2 : Inv X pins σ H1 { s1 with heap := h', toks := tk } := I1.kept fun b o e => hk b o (Heap.lt_size e) e
  have fl : (PyProof.Rows.firstMet (fun i => ns.getD i 0) ns.length).length ≤ ns.length := PyProof.Rows.firstMet_length_le _ _
  exact call_len_set ho hex hd hf (by rw [hn] <;> omega) ⟨.int (disI ns : Nat), H1, I2.tok _, ⟨_, by rw [hn]; rfl⟩, q1⟩
theorem w_lenSet {G : Gx} {env : En} {P : PyData → En → Prop} {e : Expr} {p p2 q pos : Pos} (m1 : G.mg "len" = none) (m2 : G.mg "set" = none) (h : W G e env fun d e1 => ∃ ns : List Int, d = .list (ns.map .int) ∧ ns.length ≤ 4000 ∧ P (.int (disI ns : Nat)) e1) (hg : GlG G "len" := by rfl) (hg2 : GlG G "set" := by rfl) (ns : noStar [e] = true := by rfl) :
    W G (.Call (.Name "len" p) [.Call (.Name "set" p2) [e] [] q] [] pos) env P :=
  W.of (fun X => tLenSetA X.K (tW G e)) (fun X hX => pe_lenSetA (glX hX hg) (by rw [hX.mg]; exact m1) (glX hX hg2) (by rw [hX.mg]; exact m2) (peW hX e) hX.calm (star_cons (noStar_cons ns).1)) fun X hX σ Hc H Q R r =>
    tW.use R h fun v d e1 Hc1 H1 ⟨zs, ed, hl, pd⟩ go t => by
      subst ed
      cases t with
      | @lst a1 vs1 _ m1 k1 =>
        have ek := Trs.of_ints k1
        subst ek
        exact ⟨a1, zs, rfl, SqL.of (go.rep.same _ _ m1), hl, r _ _ _ _ _ pd go (.int _)⟩
end TL

/-! set(a list of values of one kind); len(set(a list of truth values)) -/
namespace TL
open PySem PySem.Spec PyProof.Rows L2
section
variable {K : Type} [DecidableEq K] [BEq K] [LawfulBEq K]
def ddK (xs : List K) (x : K) : List K := if xs.any (· == x) then xs else xs ++ [x]
def fmK (val : Nat → K) (i : Nat) : List K := ((List.range i).map val).foldl ddK []
theorem fmK_zero (val : Nat → K) : fmK val 0 = [] := rfl
theorem fmK_succ (val : Nat → K) (i : Nat) : fmK val (i + 1) = ddK (fmK val i) (val i) := by
  unfold fmK; rw [List.range_succ, List.map_append, List.foldl_append]; rfl
theorem fmK_len (val : Nat → K) : ∀ i, (fmK val i).length ≤ i
  | 0 => Nat.le_refl _
  | i + 1 => by
    rw [fmK_succ]; unfold ddK
    have ih := fmK_len val i
    split
    · omega
    · rw [List.length_append, List.length_singleton]; omega
theorem ddK_any (σ : List K) (v k : K) : (ddK σ v).any (· == k) = (σ.any (· == k) || decide (k = v)) := by
  unfold ddK
  by_cases h : σ.any (· == v) = true
  · rw [if_pos h]
    by_cases e : k = v
    · subst e; rw [h]; simp
    · simp [e]
  · rw [if_neg h, List.any_append]
    by_cases e : k = v
    · subst e; simp
    · have hb : (v == k) = false := by simpa [beq_iff_eq] using (fun h' : v = k => e h'.symm)
      simp [hb, e]
theorem ddK_length (σ : List K) (v : K) : (ddK σ v).length = if σ.any (· == v) then σ.length else σ.length + 1 := by
  unfold ddK; split <;> simp
theorem ddK_mem {xs : List K} {x y : K} : y ∈ ddK xs x ↔ y ∈ xs ∨ y = x := by
  unfold ddK
  by_cases h : (xs.any (· == x)) = true
  · rw [if_pos h]
    refine ⟨.inl, fun z => z.elim id fun e => ?_⟩
    obtain ⟨w, hw, e2⟩ := List.any_eq_true.mp h
    rw [e, ← eq_of_beq e2]
    exact hw
  · rw [if_neg h, List.mem_append, List.mem_singleton]
theorem ddK_nodup {xs : List K} {x : K} (h : xs.Nodup) : (ddK xs x).Nodup := by
  unfold ddK
  by_cases q : (xs.any (· == x)) = true
  · rw [if_pos q]; exact h
  · rw [if_neg q, List.nodup_append]
    refine ⟨h, by simp, fun a ha b hb e => ?_⟩
    rw [List.mem_singleton.mp hb] at e
    exact q (List.any_eq_true.mpr ⟨a, ha, by rw [e]; exact beq_self_eq_true _⟩)
theorem fmK_mem {val : Nat → K} {y : K} : ∀ {i : Nat}, y ∈ fmK val i ↔ ∃ j, j < i ∧ val j = y
  | 0 => ⟨fun h => (nomatch h), fun ⟨j, h, _⟩ => by omega⟩
  | i + 1 => by
    rw [fmK_succ, ddK_mem, fmK_mem (i := i)]
    constructor
    · rintro (⟨j, h, e⟩ | e)
      · exact ⟨j, by omega, e⟩
      · exact ⟨i, by omega, e.symm⟩
    · rintro ⟨j, h, e⟩
      by_cases q : j = i
      · exact .inr (by rw [← q]; exact e.symm)
      · exact .inl ⟨j, by omega, e⟩
theorem fmK_nodup (val : Nat → K) : ∀ i : Nat, (fmK val i).Nodup
  | 0 => List.nodup_nil
  | i + 1 => by rw [fmK_succ]; exact ddK_nodup (fmK_nodup val i)
/-- the unlike members of a list, in the sequence in which they are met -/
def disK (z : K) (ns : List K) : List K := fmK (fun i => ns.getD i z) ns.length
theorem disK_mem {z : K} {ns : List K} {y : K} : y ∈ disK z ns ↔ y ∈ ns := by
  unfold disK
  rw [fmK_mem]
  constructor
  · rintro ⟨j, h, e⟩
    rw [List.getD_eq_getElem?_getD, List.getElem?_eq_getElem h] at e
    rw [← e]
    exact List.getElem_mem h
  · intro h
    obtain ⟨j, hj⟩ := List.getElem?_of_mem h
    obtain ⟨hl, e⟩ := List.getElem?_eq_some_iff.mp hj
    exact ⟨j, hl, by rw [List.getD_eq_getElem?_getD, hj]; rfl⟩
theorem disK_nodup (z : K) (ns : List K) : (disK z ns).Nodup := fmK_nodup _ _
theorem disK_two {z : K} {ns : List K} : 1 < (disK z ns).length ↔ ∃ a ∈ ns, ∃ b ∈ ns, a ≠ b := by
  have nd := disK_nodup z ns
  have mm : ∀ y, y ∈ disK z ns ↔ y ∈ ns := fun y => disK_mem
  generalize disK z ns = l at *
  constructor
  · intro h
    match l, nd, mm, h with
    | a :: b :: _, nd, mm, _ =>
      have := (List.nodup_cons.mp nd).1
      exact ⟨a, (mm a).mp List.mem_cons_self, b, (mm b).mp (List.mem_cons_of_mem _ List.mem_cons_self), fun e => this (e ▸ List.mem_cons_self)⟩
  · rintro ⟨a, ha, b, hb, ne⟩
    have ha := (mm a).mpr ha
    have hb := (mm b).mpr hb
    match l, ha, hb with
    | [x], ha, hb => exact absurd ((List.mem_singleton.mp ha).trans (List.mem_singleton.mp hb).symm) ne
    | _ :: _ :: _, _, _ => simp
section
variable {prog : Program} {w : World} {A : Around} {R : Result → Shared → Prop} {I : Addr} {fp wr : List Addr} {G : Array GenState → Array GenState → Prop} {n : Nat} {P : Nat → Value → Prop} {St : Nat → Shared → Prop}
theorem codeAny_set_updateK (knd : KeyKind prog w K) (W : WalksS prog w A.in1 I fp wr G n P St) (S : Addr) (hSf : S ∉ fp)
    (val : Nat → K) (hval : ∀ i v, P i v → knd.is (val i) v = true ∧ v.scannable = true) (hb : n + 1 < scanBound) :
    ∀ (k i : Nat) (s : Shared), n - i = k → i ≤ n → St i s →
      s.heap.SetOf knd S (fun k' => (fmK val i).any (· == k')) (fmK val i).length →
      (∀ s', Moved (S :: wr) G s s' → s'.heap.SetOf knd S (fun k' => (fmK val n).any (· == k')) (fmK val n).length → R (.ok (.ret .none)) s') →
      codeAny (model prog w) A (.builtin "set.update.loop" ⟨[.ref S, .ref I], []⟩) R s := by
  have hSw : S ∉ wr := fun h => hSf (W.sub _ h)
  have hsub : ∀ b ∈ wr, b ∈ S :: wr := fun b hb => List.mem_cons_of_mem _ hb
  intro k
  induction k with
  | zero =>
    intro i s hk hi hst hS hR
    have hin : i = n := by omega
    subst hin
    refine codeAny_builtin PyProof.Rows.F.entry_set_update_loop ?_
    rw [Around.under_plainId PyProof.Rows.F.plain_set_update_loop _]
    show wpAny _ A.in1 (pyNext (.ref I) >>= _) _ _ s
    refine wpAny_bind (W.done s _ _ hst fun s' hm => ?_)
    show wpAny _ A.in1 (ret Value.none) _ _ s'
    exact wpAny_pure (hR s' (hm.mono hsub) (by
      obtain ⟨o, es, ep, t, ho, rest⟩ := hS
      exact ⟨o, es, ep, t, hm.heap S _ hSw ho, rest⟩))
  | succ k ih =>
    intro i s hk hi hst hS hR
    have hlt : i < n := by omega
    refine codeAny_builtin PyProof.Rows.F.entry_set_update_loop ?_
    rw [Around.under_plainId PyProof.Rows.F.plain_set_update_loop _]
    show wpAny _ A.in1 (pyNext (.ref I) >>= _) _ _ s
    refine wpAny_bind (W.item i s _ _ hlt hst fun v s' hP hst' hm => ?_)
    obtain ⟨hv, hsc⟩ := hval i v hP
    have hS' : s'.heap.SetOf knd S (fun k' => (fmK val i).any (· == k')) (fmK val i).length := by
      obtain ⟨o, es, ep, tb, ho, rest⟩ := hS
      exact ⟨o, es, ep, tb, hm.heap S _ hSw ho, rest⟩
    show wpAny _ A.in1 (holding [v] (setAdd S v) >>= _) _ _ s'
    refine wpAny_bind (wpAny_holding ?_)
    unfold setAdd
    refine wpAny_holding ?_
    refine wpAny_bind (knd.pyHash (k := val i) hv ?_)
    have hroom : (fmK val i).length + 1 < scanBound := by have := fmK_len val i; omega
    refine wpAny_setAddHashed_of (knd := knd) (s := { s' with toks := s'.toks + 1 }) hv hsc hS' hroom fun h' hsb hS2 => ?_
    have hSi : h'.SetOf knd S (fun k' => (fmK val (i + 1)).any (· == k')) (fmK val (i + 1)).length :=
      PyProof.Rows.SetOf_congr hS2 (fun k' => by rw [fmK_succ, ddK_any]) (by rw [fmK_succ, ddK_length])
    refine wpAny_pure ⟨plainId_quiet PyProof.Rows.F.plain_set_update_loop _, ih (i + 1) _ (by omega) hlt (W.frame _ s' _ _ hst' (Nat.le_succ _) fun b hb o e => ?_) hSi fun s'' hm'' hS'' => ?_⟩
    · rw [hsb.2 b (fun h : b = S => hSf (by rw [← h]; exact hb))]; exact e
    · refine hR s'' (Moved.trans W.gtrans ((hm.mono hsub).then_heap (Nat.le_succ _) fun b o hb e => ?_) hm'') hS''
      rw [hsb.2 b (fun h : b = S => hb (by rw [h]; exact List.mem_cons_self))]; exact e
end
section
variable {prog : Program} {w : World} {A : Around} {E : Value → Shared → Prop} {s : Shared}
set_option maxHeartbeats 3200000 in
theorem call_set_listK (knd : KeyKind prog w K) {l : Addr} {items : Array Value} (val : Nat → K) {Q : Value → Shared → Prop}
    (hh : A.handled = none) (hl : s.heap.IsList l items) (hval : ∀ (i : Nat) (v : Value), items[i]? = some v → knd.is (val i) v = true ∧ v.scannable = true) (hb : items.size + 1 < scanBound)
    (h : ∀ (h' : Heap) (tk : Nat), h'.SetOf knd s.heap.objs.size (fun k' => (fmK val items.size).any (· == k')) (fmK val items.size).length →
      (∀ b o, b < s.heap.objs.size → s.heap.get? b = some o → h'.get? b = some o) → Q (.ref s.heap.objs.size) { s with heap := h', toks := tk }) :
    wpAny (model prog w) A (call (.type "set") [.ref l]) Q E s := by
  obtain ⟨c, tl, hmro⟩ := PySem.F.called_set.mro
  have hmade := PySem.F.called_set.made
  have hsub := PySem.F.called_set.sub
  refine wpAny_call (codeAny_of_tree ?_)
  show wpAny _ _ (callAny (.type "set") _) _ _ _
  refine wpAny_pure ⟨Code.quiet_builtin _ (by decide +kernel), codeAny_builtin PySem.F.entry_type_call ?_⟩
  rw [Around.under_plain (weight_type_call_type "set" [.ref l] []) rfl]
  have h1 := PySem.F.called_set.notType
  have h2 := PySem.F.called_set.canCreate
  have hct := PySem.F.typeCall_set_1 (.ref l)
  repeat (any_goals (first | assumption | wp_step))
  refine codeAny_mono (code_set_new_1 (.ref l) (E := E) (Q₁ := fun obj s₁ => ∃ led : Bool, obj = .ref s.heap.objs.size ∧ s₁ = { s with heap := s.heap.push { cls := .type "set", dict := none, data := .set #[] 0 (.fresh 0 0 led) } }) fun led => ⟨led, rfl, rfl⟩) fun r s₁ hr => ?_
  cases r with
  | error e => exact hr
  | ok fl =>
    cases fl with
    | ret obj =>
      obtain ⟨led, rfl, rfl⟩ := hr
      have hS : (s.heap.push { cls := .type "set", dict := none, data := .set #[] 0 (.fresh 0 0 led) }).get? s.heap.objs.size = some { cls := .type "set", dict := none, data := .set #[] 0 (.fresh 0 0 led) } := Heap.get?_push_size _ rfl
      have hT : Shared.TypeIs { s with heap := s.heap.push { cls := .type "set", dict := none, data := .set #[] 0 (.fresh 0 0 led) } } (.ref s.heap.objs.size) "set" := ⟨_, hS, rfl⟩
      have hli := PySem.F.called_set.init.lookup
      have hbi := PySem.F.called_set.init.bind (.ref s.heap.objs.size)
      repeat (any_goals (first | assumption | wp_step))
      refine codeAny_mono (codeAny_call_builtin (R := wants (fun r s₂ => r = .none ∧ ∃ h' tk, s₂ = { s with heap := h', toks := tk } ∧
          h'.SetOf knd s.heap.objs.size (fun k' => (fmK val items.size).any (· == k')) (fmK val items.size).length ∧
          (∀ b o, b < s.heap.objs.size → s.heap.get? b = some o → h'.get? b = some o)) E) PySem.F.called_set.init.plain PySem.F.entry_set_init (check_set_init_1 hT ?_)) fun r₂ s₂ hr₂ => ?_
      · obtain ⟨ol, hol, hcl, nl, hdl⟩ := hl
        obtain ⟨ocls, odict, odata, oslots⟩ := ol
        simp only at hcl hdl
        subst hcl; subst hdl
        have hol' : (s.heap.push { cls := .type "set", dict := none, data := .set #[] 0 (.fresh 0 0 led) }).get? l = some { cls := .type "list", dict := odict, data := .seq items nl, slots := oslots } := Heap.get?_push_of_some _ hol
        have hsls := PySem.F.sub_list_set
        have hslf := PySem.F.sub_list_frozenset
        have hne : (Value.type "list" == Value.type "dict") = false := by decide
        have hl1 : (s.heap.push { cls := .type "set", dict := none, data := .set #[] 0 (.fresh 0 0 led) }).IsList l items := ⟨_, hol', rfl, nl, rfl⟩
        unfold Builtin.«set.__init__» noKeywords Builtin.Frozenset.updateFrom
        generalize hPI : pyIter = PI
        wp_walk
        subst hPI
        refine wpAny_pyIter_list hl1 ?_
        refine wpAny_bind (wpAny_runValue ?_)
        have hlS : l < s.heap.objs.size := Heap.lt_size hol
        have hh3 : A.in1.in1.in1.handled = none := by simp [hh]
        have hneI : l ≠ (s.heap.push { cls := .type "set", dict := none, data := .set #[] 0 (.fresh 0 0 led) }).objs.size := by
          rw [Heap.size_push]; exact Nat.ne_of_lt (Nat.lt_succ_of_lt hlS)
        have hSf : s.heap.objs.size ∉ [(s.heap.push { cls := .type "set", dict := none, data := .set #[] 0 (.fresh 0 0 led) }).objs.size, l] := by
          rw [Heap.size_push]; simp only [List.mem_cons, List.mem_singleton, List.not_mem_nil, or_false, not_or]
          exact ⟨Nat.ne_of_lt (Nat.lt_succ_self _), Nat.ne_of_gt hlS⟩
        refine codeAny_set_updateK knd ((Walks.list hh3 _ l hneI items).toS) s.heap.objs.size
          hSf val hval hb (items.size - 0) 0 _ (by omega) (Nat.zero_le _)
          ⟨⟨_, Heap.get?_push_size _ rfl, rfl, rfl⟩, (hl1.push _)⟩ ?hS0 ?hR
        case hS0 =>
          have hget : ((s.heap.push { cls := .type "set", dict := none, data := .set #[] 0 (.fresh 0 0 led) }).push { cls := .type "list_iterator", data := .fields #[.ref l, .int 0 0] }).get? s.heap.objs.size
              = some { cls := .type "set", dict := none, data := .set #[] 0 (.fresh 0 0 led) } := Heap.get?_push_of_some _ hS
          exact PyProof.Rows.SetOf_congr ((PyProof.Rows.setObjOf_fresh (knd := knd) led).setOf hget (by unfold scanBound; omega)) (fun _ => rfl) rfl
        case hR =>
          intro s' hm hS'
          obtain ⟨h', g', d', tk', os'⟩ := s'
          have eg : g' = s.gens := hm.gens
          have ed : d' = s.drawn := hm.drawn
          have eo : os' = s.os := hm.os
          subst eg; subst ed; subst eo
          show wpAny _ _ _ _ _ _
          refine wpAny_pure ?_
          show wpAny _ _ (ret Value.none) _ _ _
          refine wpAny_pure ⟨rfl, h', tk', rfl, hS', fun b o hb e => ?_⟩
          have hb1 : b ≠ s.heap.objs.size := Nat.ne_of_lt hb
          have hb2 : b ≠ (s.heap.push { cls := .type "set", dict := none, data := .set #[] 0 (.fresh 0 0 led) }).objs.size := by
            rw [Heap.size_push]; exact Nat.ne_of_lt (Nat.lt_succ_of_lt hb)
          exact hm.heap b o (by simp only [List.mem_cons, List.mem_singleton, List.not_mem_nil, or_false, not_or]; exact ⟨hb1, hb2⟩) (Heap.get?_push_of_some _ (Heap.get?_push_of_some _ e))
      · cases r₂ with
        | error e => exact hr₂
        | ok fl₂ =>
          cases fl₂ with
          | ret r =>
            obtain ⟨rfl, h', tk, rfl, hS', hk'⟩ := hr₂
            repeat (any_goals (first | assumption | wp_step))
            exact h _ _ hS' hk'
          | _ => exact hr₂.elim
    | _ => exact hr.elim
end
end
def tLenSetB (K : PySem.W.Frag) (ta : TE) : TE := fun σ H Q => ta σ H fun x H1 => ∃ (l : Addr) (bs : List Bool), x = V.ref l ∧ SqL K H1 l (bs.map V.bl) ∧ bs.length ≤ 4000 ∧ Q (.int ((disK false bs).length : Nat)) H1
theorem vals_bl : ∀ {bs : List Bool} {vs : List Value}, Vals (bs.map V.bl) vs → ∀ {i : Nat} {v : Value}, vs[i]? = some v → v = .bool (bs.getD i false)
  | [], _, .nil, i, v, e => by simp at e
  | b :: bs, _, .cons r t, 0, v, e => by
    simp at e
    subst e
    exact r
  | b :: bs, _, .cons r t, i + 1, v, e => by
    have := vals_bl t (i := i) (v := v) (by simpa using e)
    simpa using this
theorem pe_lenSetB {X : Cx} {a : Expr} {ta : TE} {p p2 q pos : Pos} (hg : Gl X "len") (hm : X.mg "len" = none) (hg2 : Gl X "set") (hm2 : X.mg "set" = none) (ha : PE X a ta) (hc : X.calm = true)
    (na : starEach [a] X.env = (false, eval a X.env) :: starEach [] X.env) : PE X (.Call (.Name "len" p) [.Call (.Name "set" p2) [a] [] q] [] pos) (tLenSetB X.K ta) := by
  refine ⟨fun pins s σ H Q I h => ?_⟩
  refine Call_ (ld_blt I hg hm PySem.boot_len ?_)
  refine PyProof.Rows.callWith_builtin1 (PyProof.Rows.args_cons ?_ rfl) rfl rfl
  refine Call_ (ld_blt I hg2 hm2 PyProof.Rows.boot_set ?_)
  refine PyProof.Rows.callWith_type1 (PyProof.Rows.args_cons (thn (ha.run pins s σ H _ I h) fun v s1 ⟨x, H1, I1, r1, q1⟩ => PyProof.Rows.args_nil ?_) na) na rfl
  obtain ⟨l, bs, rfl, hq, hl, q1⟩ := q1
  cases r1
  obtain ⟨its, r, pl, hz⟩ := I1.list hq
  have hlen : its.toArray.size = bs.length := by rw [List.size_toArray, ← r.length, List.length_map]
  refine call_set_listK (PpSet.boolK _ _) (I1.ok.hd hc) pl.isList (val := fun i => bs.getD i false) (fun i v e => ?_) (by rw [hlen]; unfold scanBound; omega) fun h' tk hS hk => ?_
  · have := vals_bl r (i := i) (v := v) (by simpa using e)
    rw [this]
    exact ⟨PpSet.boolK_is _ _ _, rfl⟩
  refine PyProof.Rows.args_nil ?_
  rw [hlen] at hS
  obtain ⟨o, es, ep, t, ho, hex, hd, _, _, _, hf, hn⟩ := hS
  have I2 : Inv X pins σ H1 { s1 with heap := h', toks := tk } := I1.kept fun b o e => hk b o (Heap.lt_size e) e
  have fl : (fmK (fun i => bs.getD i false) bs.length).length ≤ bs.length := fmK_len _ _
  exact call_len_set ho hex hd hf (by rw [hn] <;> omega) ⟨.int ((disK false bs).length : Nat), H1, I2.tok _, ⟨_, by rw [hn]; rfl⟩, q1⟩
theorem Trs.of_bools {H : Hp} : ∀ {bs : List Bool} {vs : List V}, Trs H vs (bs.map PyData.bool) → vs = bs.map V.bl
  | [], _, .nil => rfl
  | n :: ns, _, .cons t u => by cases t; rw [Trs.of_bools u]; rfl
theorem w_lenSetB {G : Gx} {env : En} {P : PyData → En → Prop} {e : Expr} {p p2 q pos : Pos} (m1 : G.mg "len" = none) (m2 : G.mg "set" = none) (h : W G e env fun d e1 => ∃ bs : List Bool, d = .list (bs.map .bool) ∧ bs.length ≤ 4000 ∧ P (.int ((disK false bs).length : Nat)) e1) (hg : GlG G "len" := by rfl) (hg2 : GlG G "set" := by rfl) (ns : noStar [e] = true := by rfl) :
    W G (.Call (.Name "len" p) [.Call (.Name "set" p2) [e] [] q] [] pos) env P :=
  W.of (fun X => tLenSetB X.K (tW G e)) (fun X hX => pe_lenSetB (glX hX hg) (by rw [hX.mg]; exact m1) (glX hX hg2) (by rw [hX.mg]; exact m2) (peW hX e) hX.calm (star_cons (noStar_cons ns).1)) fun X hX σ Hc H Q R r =>
    tW.use R h fun v d e1 Hc1 H1 ⟨zs, ed, hl, pd⟩ go t => by
      subst ed
      cases t with
      | @lst a1 vs1 _ m1 k1 =>
        have ek := Trs.of_bools k1
        subst ek
        exact ⟨a1, zs, rfl, SqL.of (go.rep.same _ _ m1), hl, r _ _ _ _ _ pd go (.int _)⟩
end TL

/-! what closed_breach tells is one thing alone; the first breach of each kind by going through dyes in sequence -/
namespace TL
open PySem PySem.Spec PyProof.Rows L2
theorem leP_anti {p q : Int × Int} (h : leP p q) (k : leP q p) : p = q := by
  unfold leP at *
  exact Prod.ext (by omega) (by omega)
theorem IsMid.uniq {n : Nat} {t : Tb} {d d' : PyData} (h : IsMid n t d) (k : IsMid n t d') : d = d' := by
  rcases h with ⟨h0, e⟩ | ⟨v, h1, h2, e⟩ <;> rcases k with ⟨k0, e'⟩ | ⟨u, k1, k2, e'⟩
  · rw [e, e']
  · exact absurd k1 (h0 u)
  · exact absurd h1 (k0 v)
  · have : v = u := Int.le_antisymm (h2 u k1) (k2 v h1)
    rw [e, e', this]
theorem IsTrn.uniq {n : Nat} {t : Tb} {d d' : PyData} (h : IsTrn n t d) (k : IsTrn n t d') : d = d' := by
  rcases h with ⟨h0, e⟩ | ⟨v, h1, h2, e⟩ <;> rcases k with ⟨k0, e'⟩ | ⟨u, k1, k2, e'⟩
  · rw [e, e']
  · exact absurd k1 (h0 u)
  · exact absurd h1 (k0 v)
  · have : v = u := Int.le_antisymm (h2 u k1) (k2 v h1)
    rw [e, e', this]
theorem IsCnt.uniq {n : Nat} {t : Tb} {d d' : PyData} (h : IsCnt n t d) (k : IsCnt n t d') : d = d' := by
  rcases h with ⟨h0, e⟩ | ⟨c, v, h1, h2, e⟩ <;> rcases k with ⟨k0, e'⟩ | ⟨b, u, k1, k2, e'⟩
  · rw [e, e']
  · exact absurd k1 (h0 b u)
  · exact absurd h1 (k0 c v)
  · have := leP_anti (h2 b u k1) (k2 c v h1)
    injection this with e1 e2
    rw [e, e', e1, e2]
/-- a count breach as the law asks it: a first and a second dye, and a dye with two pairs that they stand between unlike often -/
theorem cntAt_btw {n : Nat} {t : Tb} (h : Dye n t) {a b v : Int} (ha : 0 ≤ a ∧ a < (mny t : Int)) (hb : 0 ≤ b ∧ b < (mny t : Int)) : CntAt n t ((mny t : Int) * a + b) v ↔ ∃ x y x' y', x < n ∧ y < n ∧ x' < n ∧ y' < n ∧ atN t x y = v ∧ atN t x' y' = v ∧ (btw n t x y).count (a, b) ≠ (btw n t x' y').count (a, b) := by
  have key : ∀ x y, x < n → y < n → (cods n t x y).count ((mny t : Int) * a + b) = (btw n t x y).count (a, b) := fun x y hx hy => by
    have e : cods n t x y = (btw n t x y).map fun q => (mny t : Int) * q.1 + q.2 := by
      unfold cods btw
      rw [List.map_map]
      rfl
    rw [e]
    have bd : ∀ q ∈ btw n t x y, (0 ≤ q.1 ∧ q.1 < (mny t : Int)) ∧ 0 ≤ q.2 ∧ q.2 < (mny t : Int) := fun q hq => by
      obtain ⟨z, hz, ez⟩ := List.mem_map.mp hq
      have hz := List.mem_range.mp hz
      rw [← ez]
      exact ⟨h.bd hx hz, h.bd hz hy⟩
    generalize btw n t x y = l at bd
    induction l with
    | nil => rfl
    | cons q l ih =>
      rw [List.map_cons, List.count_cons, List.count_cons, ih fun r hr => bd r (List.mem_cons_of_mem _ hr)]
      congr 1
      have hq := bd q List.mem_cons_self
      have iff : (mny t : Int) * q.1 + q.2 = (mny t : Int) * a + b ↔ q = (a, b) := by
        constructor
        · intro e2
          have h1 : ((mny t : Int) * q.1 + q.2) / (mny t : Int) = q.1 := by
            rw [Int.add_comm, Int.add_mul_ediv_left _ _ (by omega), Int.ediv_eq_zero_of_lt hq.2.1 hq.2.2, Int.zero_add]
          have h2 : ((mny t : Int) * a + b) / (mny t : Int) = a := by
            rw [Int.add_comm, Int.add_mul_ediv_left _ _ (by omega), Int.ediv_eq_zero_of_lt hb.1 hb.2, Int.zero_add]
          have e1 : q.1 = a := by rw [← h1, e2, h2]
          refine Prod.ext e1 ?_
          rw [e1] at e2
          show q.2 = b
          omega
        · intro e2
          rw [e2]
      by_cases c : q = (a, b)
      · rw [if_pos (by rw [iff.mpr c]; exact beq_self_eq_true _), if_pos (by rw [c]; exact beq_self_eq_true _)]
      · rw [if_neg (fun z => c (iff.mp (eq_of_beq z))), if_neg (fun z => c (eq_of_beq z))]
  constructor
  · rintro ⟨x, y, x', y', hx, hy, hx', hy', e1, e2, ne⟩
    rw [key x y hx hy, key x' y' hx' hy'] at ne
    exact ⟨x, y, x', y', hx, hy, hx', hy', e1, e2, ne⟩
  · rintro ⟨x, y, x', y', hx, hy, hx', hy', e1, e2, ne⟩
    rw [← key x y hx hy, ← key x' y' hx' hy'] at ne
    exact ⟨x, y, x', y', hx, hy, hx', hy', e1, e2, ne⟩
end TL

/-! [.. for x, y in a list of tuples], [.. for x, y, z in ..] -/
namespace TL
open PySem PySem.Spec PyProof.Rows L2
theorem trsT2 {H : Hp} {vs : List V} {a b : PyData} (t : Trs H vs [a, b]) : ∃ u1 u2, vs = [u1, u2] ∧ Tr H u1 a ∧ Tr H u2 b := by
  cases t with
  | cons t1 t =>
    cases t with
    | cons t2 t =>
      cases t
      exact ⟨_, _, rfl, t1, t2⟩
theorem trsT3 {H : Hp} {vs : List V} {a b c : PyData} (t : Trs H vs [a, b, c]) : ∃ u1 u2 u3, vs = [u1, u2, u3] ∧ Tr H u1 a ∧ Tr H u2 b ∧ Tr H u3 c := by
  cases t with
  | cons t1 t =>
    obtain ⟨u2, u3, e, t2, t3⟩ := trsT2 t
    subst e
    exact ⟨_, _, _, rfl, t1, t2, t3⟩
def noT2 (e : En) (j1 j2 : Nat) : En := ((e.set j1 .no).set j2 .no)
def inT2 (e : En) (j1 j2 : Nat) (d1 d2 : PyData) : En := (((noT2 e j1 j2).set j1 (.va d1)).set j2 (.va d2))
theorem setsT2 {α : Type} {l : List α} {j1 j2 : Nat} (h12 : j1 ≠ j2) {a1 a2 b1 b2 : α} : ((((l.set j2 a2).set j1 a1).set j1 b1).set j2 b2) = ((l.set j1 b1).set j2 b2) := by
  apply List.ext_getElem?
  intro i
  by_cases q1 : j1 = i <;> by_cases q2 : j2 = i <;> simp [List.getElem?_set, q1, q2, h12, h12.symm]
theorem wipesT2 {α : Type} {l : List α} {j1 j2 : Nat} (h12 : j1 ≠ j2) {a : α} {b1 b2 : α} : ((((l.set j1 b1).set j2 b2).set j2 a).set j1 a) = ((l.set j2 a).set j1 a) := by
  apply List.ext_getElem?
  intro i
  by_cases q1 : j1 = i <;> by_cases q2 : j2 = i <;> simp [List.getElem?_set, q1, q2, h12, h12.symm]
theorem inT2_out {e : En} {j1 j2 : Nat} (h12 : j1 ≠ j2) {d1 d2 : PyData} : (((inT2 e j1 j2 d1 d2).set j2 .no).set j1 .no) = noT2 e j1 j2 := by
  unfold inT2 noT2
  apply List.ext_getElem?
  intro i
  by_cases q1 : j1 = i <;> by_cases q2 : j2 = i <;> simp [List.getElem?_set, q1, q2, h12, h12.symm]
theorem lcT2_read {G : Gx} {scope : Scope} {j1 j2 : Nat} (h12 : j1 ≠ j2) {elt : Expr} {wi : TI} {env : En} {RR : PyData → PyData → Prop} {PF : List PyData → En → Prop} {σ : L2.St} {Hc H : Hp} {Q : VK} (R : Rp Hc H σ env)
    (hwi : ∀ R' : It → Hp → Prop, (∀ ds J env' Hc' H', (ds.length < 100000 ∧ (∀ (i : Nat) (d : PyData), ds[i]? = some d → ∃ d1 d2, d = .tuple [d1, d2] ∧ W (G.blk scope) elt (inT2 env' j1 j2 d1 d2) fun y e2 => RR d y ∧ e2 = inT2 env' j1 j2 d1 d2) ∧ ∀ acc, All2 RR ds acc → PF acc (noT2 env' j1 j2)) → Go Hc H σ env Hc' H' σ env' → Walks J Hc' ds → R' J H') → wi σ H R')
    (hQ : ∀ D vs acc e2 Hc2 H2, PF acc e2 → Nw Hc H σ env D vs acc Hc2 H2 e2 → Q (.ref D) H2) : tLc wi (gTup G.K 2 (gCons (gName j1) (gCons (gName j2) gNil))) tYes (tW (G.blk scope) elt) [j1, j2] σ H Q := by
  refine hwi _ fun ps J e0 Hc1 H1 ⟨hsz, hel, jF⟩ go0 wk D hD => ?_
  obtain ⟨vs0, tv, wgo, wyld, wstop⟩ := wk
  have lv := tv.length
  let e1 := noT2 e0 j1 j2
  let Pv : Nat → Hp → Prop := fun i H' => ∃ Hc' acc vs, All2 RR (ps.take i) acc ∧ vs.length ≤ i ∧ Nw Hc H σ env D vs acc Hc' H' e1 ∧ Same Hc1 Hc'
  have old : H D = none := by
    cases q : H D with
    | none => rfl
    | some o => exact absurd hD (go0.ex D (by rw [q]; simp))
  have out1 : Hc1 D = none := Same.free go0.rep.same hD
  have g1 : Go Hc H σ env Hc1 (upd H1 D (.lst [])) σ e1 := go_drop j2 (go_drop j1 (go0.trans (go_new go0.rep hD)))
  refine ⟨fun i m H' => m = vs0.length - i ∧ i ≤ vs0.length ∧ Pv i H', ⟨vs0.length, by omega, Nat.zero_le _, Hc1, [], [], trivial, Nat.le_refl _, ⟨g1, old, upd_same, .nil, out1, fun o => own_ne_new go0.rep hD (own_set rfl (own_set rfl o))⟩, .refl _⟩, ?_⟩
  rintro i m H2 ⟨em, hi, Hc2, acc, vs, al, hl, nw, sm⟩
  subst em
  have s12 : Same Hc1 H2 := sm.trans nw.go.rep.same
  by_cases hlt : i < vs0.length
  · refine .inr ⟨wgo H2 s12 i hlt, Pv (i + 1), fun H' p' => ⟨vs0.length - (i + 1), by omega, rfl, hlt, p'⟩, fun x H' y => ?_⟩
    obtain ⟨eH, ev⟩ := wyld i H2 x H' s12 y hlt
    subst eH
    obtain ⟨d, ed, td⟩ := tv.getV ev
    obtain ⟨d1, d2, ded, hw⟩ := hel i d ed
    subst ded
    cases td with
    | @tup T xs _ mx kx =>
      obtain ⟨u1, u2, ex, t1, t2⟩ := trsT2 kx
      subst ex
      refine ⟨T, _, rfl, (mx.mono s12).sq, rfl, u1, [u2], rfl, u2, [], rfl, rfl, ?_⟩
      show wipe (((wipe σ [j1, j2]).set j1 (some u1)).set j2 (some u2)) [j1, j2] = wipe σ [j1, j2] ∧ tYes (((wipe σ [j1, j2]).set j1 (some u1)).set j2 (some u2)) H' _
      rw [show (((wipe σ [j1, j2]).set j1 (some u1)).set j2 (some u2)) = ((σ.set j1 (some u1)).set j2 (some u2)) from setsT2 h12]
      refine ⟨wipesT2 h12, ?_⟩
      have hn1 : nown e1 j1 := by
        have z : nown e1 j1 := by
          show nown (noT2 e0 j1 j2) j1
          unfold noT2
          exact nown_put (nown_set rfl) rfl
        exact z
      have hn2 : nown (e1.set j1 (.va d1)) j2 := by
        have z : nown e1 j2 := by
          show nown (noT2 e0 j1 j2) j2
          unfold noT2
          exact nown_set rfl
        exact nown_put (z) rfl
      have R1 : Rp Hc2 H' (σ.set j1 (some u1)) (e1.set j1 (.va d1)) := rp_swap nw.go.rep rfl fun _ => ⟨u1, rfl, t1.mono sm⟩
      have R2 : Rp Hc2 H' ((σ.set j1 (some u1)).set j2 (some u2)) ((e1.set j1 (.va d1)).set j2 (.va d2)) := rp_swap R1 rfl fun _ => ⟨u2, rfl, t2.mono sm⟩
      have z : tW (G.blk scope) elt ((σ.set j1 (some u1)).set j2 (some u2)) H' fun y H4 => ∃ ac, H4 D = some (.lst ac) ∧ ac.length < sizeLine ∧ Pv (i + 1) (upd H4 D (.lst (ac ++ [y]))) := by
        refine tW.use R2 hw fun y dy e2 Hc4 H4 ⟨rr, ee⟩ go4 ty => ?_
        subst ee
        have gs2 := go_swap (j := j2) (t := .va d2) (o := some u2) hn2 rfl go4
        have g34 := go_swap (j := j1) (t := .va d1) (o := some u1) hn1 rfl gs2
        rw [inT2_out h12] at g34
        have keep : H4 D = some (.lst vs) := g34.kp D _ nw.at' nw.no
        have out4 : Hc4 D = none := g34.out D (by rw [nw.at']; simp) nw.out nw.no
        refine ⟨vs, keep, Nat.lt_of_lt_of_le (show vs.length < 100000 by omega) (by decide), Hc4, acc ++ [dy], vs ++ [y], by rw [take_snoc ed]; exact al.snoc rr, by rw [List.length_append]; show vs.length + 1 ≤ i + 1; omega, ⟨?_, old, upd_same, ?_, out4, nw.no⟩, sm.trans g34.core⟩
        · exact go_write (nw.go.trans g34) old out4 nw.no
        · exact Trs.append (nw.tr.mono g34.core) (.cons ty .nil)
      exact iteT (B := Pv (i + 1) H') z
  · have e : i = vs0.length := by omega
    subst e
    exact .inl ⟨wstop H2 s12, hQ D vs acc e1 Hc2 H2 (jF acc (by rw [lv, List.take_length] at al; exact al)) nw⟩
theorem w_lcT2 {G : Gx} {env : En} {P : PyData → En → Prop} {elt iter : Expr} {scope : Scope} {pos pt q1 q2 : Pos} {x1 x2 : Str} (j1 j2 : Nat) {k1} (RR : PyData → PyData → Prop)
    (h : WI G (.Tuple [.Name x1 q1, .Name x2 q2] k1 pt) iter env fun ds e0 => ds.length < 100000 ∧ (∀ (i : Nat) (d : PyData), ds[i]? = some d → ∃ d1 d2, d = .tuple [d1, d2] ∧ W (G.blk scope) elt (inT2 e0 j1 j2 d1 d2) fun y e2 => RR d y ∧ e2 = inT2 e0 j1 j2 d1 d2) ∧ ∀ acc, All2 RR ds acc → P (.list acc) (noT2 e0 j1 j2))
    (hnd : G.N.Nodup) (h12 : j1 ≠ j2 := by decide) (hb : blkC G.N G.sc scope [(x1, j1), (x2, j2)] = true := by first | decide +kernel | (dsimp only [Gx.blk]; decide +kernel) | rfl)
    (hj1 : G.N[j1]? = some x1 := by rfl) (hl1 : (relS scope G.sc).names.lookup x1 = some .local ∨ (relS scope G.sc).names.lookup x1 = some .cell := by first | exact .inl rfl | exact .inr rfl)
    (hf1 : scope.names.lookup x1 = some .cell ∨ (relS scope G.sc).names.lookup x1 = some .local := by first | exact .inl rfl | exact .inr rfl)
    (hj2 : G.N[j2]? = some x2 := by rfl) (hl2 : (relS scope G.sc).names.lookup x2 = some .local ∨ (relS scope G.sc).names.lookup x2 = some .cell := by first | exact .inl rfl | exact .inr rfl)
    (hf2 : scope.names.lookup x2 = some .cell ∨ (relS scope G.sc).names.lookup x2 = some .local := by first | exact .inl rfl | exact .inr rfl)
    (hs : ∀ (v : Env) y, foldedSetIterable iter v y = pure y := by exact fun _ _ => rfl) :
    W G (.ListComp elt [⟨.Tuple [.Name x1 q1, .Name x2 q2] k1 pt, iter, [], 0⟩] scope pos) env P := fun X hX => by
  obtain ⟨wi, hi, rd⟩ := h X hX
  intro pins s σ Hc H Q I R q
  have nm : ∀ {z : Str} {j : Nat} {pz : Pos}, G.N[j]? = some z → ((relS scope G.sc).names.lookup z = some .local ∨ (relS scope G.sc).names.lookup z = some .cell) → (scope.names.lookup z = some .cell ∨ (relS scope G.sc).names.lookup z = some .local) → ∀ (s : Shared) (H : Hp) (C : Addr) (cl : List (Str × Addr)) (fp : List Addr), PG (X.blk s H scope (compEnvC scope cl C X.env) fp) (.Name z pz) (gName j) := by
    intro z j pz hj hl hf s H C cl fp
    have i2 := inG_blk hX scope s H C cl fp
    refine pg_name (i := j) (by rw [i2.N]; exact hnd) (by rw [i2.N]; exact hj) ?_ ?_
    · show _ ∨ _
      rw [i2.sc]
      exact hl
    · rcases hf with hf | hf
      · exact .inl (by show (scope.names.lookup z == some .cell) = true; rw [hf]; rfl)
      · exact .inr (by rw [i2.sc]; exact hf)
  refine (pe_lc (own := [(x1, j1), (x2, j2)]) (g := gTup G.K 2 (gCons (gName j1) (gCons (gName j2) gNil))) hX.calm (by rw [hX.N]; exact hnd) hi (blkOk_by (by rw [hX.N, hX.sc]; exact hb)) (fun s H C cl fp => by
    have i2 := inG_blk hX scope s H C cl fp
    have z := pg_tup (n := 2) (k := k1) (pos := pt) i2.calm (pgs_cons (nm (pz := q1) hj1 hl1 hf1 s H C cl fp) (pgs_cons (nm (pz := q2) hj2 hl2 hf2 s H C cl fp) pgs_nil)) rfl rfl
    rw [i2.K] at z
    exact z) (fun s H C cl fp => pts_nil) (fun s H C cl fp => peW (inG_blk hX scope s H C cl fp) elt) (hs X.env)).run pins s σ H Q I ?_
  refine lcT2_read h12 R (rd σ Hc H · R) fun D vs acc e2 Hc2 H2 pf nw => ?_
  have z := nw.freeze
  exact q _ _ _ _ _ pf z.1 z.2
def noT3 (e : En) (j1 j2 j3 : Nat) : En := (((e.set j1 .no).set j2 .no).set j3 .no)
def inT3 (e : En) (j1 j2 j3 : Nat) (d1 d2 d3 : PyData) : En := ((((noT3 e j1 j2 j3).set j1 (.va d1)).set j2 (.va d2)).set j3 (.va d3))
theorem setsT3 {α : Type} {l : List α} {j1 j2 j3 : Nat} (h12 : j1 ≠ j2) (h13 : j1 ≠ j3) (h23 : j2 ≠ j3) {a1 a2 a3 b1 b2 b3 : α} : ((((((l.set j3 a3).set j2 a2).set j1 a1).set j1 b1).set j2 b2).set j3 b3) = (((l.set j1 b1).set j2 b2).set j3 b3) := by
  apply List.ext_getElem?
  intro i
  by_cases q1 : j1 = i <;> by_cases q2 : j2 = i <;> by_cases q3 : j3 = i <;> simp [List.getElem?_set, q1, q2, q3, h12, h12.symm, h13, h13.symm, h23, h23.symm]
theorem wipesT3 {α : Type} {l : List α} {j1 j2 j3 : Nat} (h12 : j1 ≠ j2) (h13 : j1 ≠ j3) (h23 : j2 ≠ j3) {a : α} {b1 b2 b3 : α} : ((((((l.set j1 b1).set j2 b2).set j3 b3).set j3 a).set j2 a).set j1 a) = (((l.set j3 a).set j2 a).set j1 a) := by
  apply List.ext_getElem?
  intro i
  by_cases q1 : j1 = i <;> by_cases q2 : j2 = i <;> by_cases q3 : j3 = i <;> simp [List.getElem?_set, q1, q2, q3, h12, h12.symm, h13, h13.symm, h23, h23.symm]
theorem inT3_out {e : En} {j1 j2 j3 : Nat} (h12 : j1 ≠ j2) (h13 : j1 ≠ j3) (h23 : j2 ≠ j3) {d1 d2 d3 : PyData} : ((((inT3 e j1 j2 j3 d1 d2 d3).set j3 .no).set j2 .no).set j1 .no) = noT3 e j1 j2 j3 := by
  unfold inT3 noT3
  apply List.ext_getElem?
  intro i
  by_cases q1 : j1 = i <;> by_cases q2 : j2 = i <;> by_cases q3 : j3 = i <;> simp [List.getElem?_set, q1, q2, q3, h12, h12.symm, h13, h13.symm, h23, h23.symm]
theorem lcT3_read {G : Gx} {scope : Scope} {j1 j2 j3 : Nat} (h12 : j1 ≠ j2) (h13 : j1 ≠ j3) (h23 : j2 ≠ j3) {elt : Expr} {wi : TI} {env : En} {RR : PyData → PyData → Prop} {PF : List PyData → En → Prop} {σ : L2.St} {Hc H : Hp} {Q : VK} (R : Rp Hc H σ env)
    (hwi : ∀ R' : It → Hp → Prop, (∀ ds J env' Hc' H', (ds.length < 100000 ∧ (∀ (i : Nat) (d : PyData), ds[i]? = some d → ∃ d1 d2 d3, d = .tuple [d1, d2, d3] ∧ W (G.blk scope) elt (inT3 env' j1 j2 j3 d1 d2 d3) fun y e2 => RR d y ∧ e2 = inT3 env' j1 j2 j3 d1 d2 d3) ∧ ∀ acc, All2 RR ds acc → PF acc (noT3 env' j1 j2 j3)) → Go Hc H σ env Hc' H' σ env' → Walks J Hc' ds → R' J H') → wi σ H R')
    (hQ : ∀ D vs acc e2 Hc2 H2, PF acc e2 → Nw Hc H σ env D vs acc Hc2 H2 e2 → Q (.ref D) H2) : tLc wi (gTup G.K 3 (gCons (gName j1) (gCons (gName j2) (gCons (gName j3) gNil)))) tYes (tW (G.blk scope) elt) [j1, j2, j3] σ H Q := by
  refine hwi _ fun ps J e0 Hc1 H1 ⟨hsz, hel, jF⟩ go0 wk D hD => ?_
  obtain ⟨vs0, tv, wgo, wyld, wstop⟩ := wk
  have lv := tv.length
  let e1 := noT3 e0 j1 j2 j3
  let Pv : Nat → Hp → Prop := fun i H' => ∃ Hc' acc vs, All2 RR (ps.take i) acc ∧ vs.length ≤ i ∧ Nw Hc H σ env D vs acc Hc' H' e1 ∧ Same Hc1 Hc'
  have old : H D = none := by
    cases q : H D with
    | none => rfl
    | some o => exact absurd hD (go0.ex D (by rw [q]; simp))
  have out1 : Hc1 D = none := Same.free go0.rep.same hD
  have g1 : Go Hc H σ env Hc1 (upd H1 D (.lst [])) σ e1 := go_drop j3 (go_drop j2 (go_drop j1 (go0.trans (go_new go0.rep hD))))
  refine ⟨fun i m H' => m = vs0.length - i ∧ i ≤ vs0.length ∧ Pv i H', ⟨vs0.length, by omega, Nat.zero_le _, Hc1, [], [], trivial, Nat.le_refl _, ⟨g1, old, upd_same, .nil, out1, fun o => own_ne_new go0.rep hD (own_set rfl (own_set rfl (own_set rfl o)))⟩, .refl _⟩, ?_⟩
  rintro i m H2 ⟨em, hi, Hc2, acc, vs, al, hl, nw, sm⟩
  subst em
  have s12 : Same Hc1 H2 := sm.trans nw.go.rep.same
  by_cases hlt : i < vs0.length
  · refine .inr ⟨wgo H2 s12 i hlt, Pv (i + 1), fun H' p' => ⟨vs0.length - (i + 1), by omega, rfl, hlt, p'⟩, fun x H' y => ?_⟩
    obtain ⟨eH, ev⟩ := wyld i H2 x H' s12 y hlt
    subst eH
    obtain ⟨d, ed, td⟩ := tv.getV ev
    obtain ⟨d1, d2, d3, ded, hw⟩ := hel i d ed
    subst ded
    cases td with
    | @tup T xs _ mx kx =>
      obtain ⟨u1, u2, u3, ex, t1, t2, t3⟩ := trsT3 kx
      subst ex
      refine ⟨T, _, rfl, (mx.mono s12).sq, rfl, u1, [u2, u3], rfl, u2, [u3], rfl, u3, [], rfl, rfl, ?_⟩
      show wipe ((((wipe σ [j1, j2, j3]).set j1 (some u1)).set j2 (some u2)).set j3 (some u3)) [j1, j2, j3] = wipe σ [j1, j2, j3] ∧ tYes ((((wipe σ [j1, j2, j3]).set j1 (some u1)).set j2 (some u2)).set j3 (some u3)) H' _
      rw [show ((((wipe σ [j1, j2, j3]).set j1 (some u1)).set j2 (some u2)).set j3 (some u3)) = (((σ.set j1 (some u1)).set j2 (some u2)).set j3 (some u3)) from setsT3 h12 h13 h23]
      refine ⟨wipesT3 h12 h13 h23, ?_⟩
      have hn1 : nown e1 j1 := by
        have z : nown e1 j1 := by
          show nown (noT3 e0 j1 j2 j3) j1
          unfold noT3
          exact nown_put (nown_put (nown_set rfl) rfl) rfl
        exact z
      have hn2 : nown (e1.set j1 (.va d1)) j2 := by
        have z : nown e1 j2 := by
          show nown (noT3 e0 j1 j2 j3) j2
          unfold noT3
          exact nown_put (nown_set rfl) rfl
        exact nown_put (z) rfl
      have hn3 : nown ((e1.set j1 (.va d1)).set j2 (.va d2)) j3 := by
        have z : nown e1 j3 := by
          show nown (noT3 e0 j1 j2 j3) j3
          unfold noT3
          exact nown_set rfl
        exact nown_put (nown_put (z) rfl) rfl
      have R1 : Rp Hc2 H' (σ.set j1 (some u1)) (e1.set j1 (.va d1)) := rp_swap nw.go.rep rfl fun _ => ⟨u1, rfl, t1.mono sm⟩
      have R2 : Rp Hc2 H' ((σ.set j1 (some u1)).set j2 (some u2)) ((e1.set j1 (.va d1)).set j2 (.va d2)) := rp_swap R1 rfl fun _ => ⟨u2, rfl, t2.mono sm⟩
      have R3 : Rp Hc2 H' (((σ.set j1 (some u1)).set j2 (some u2)).set j3 (some u3)) (((e1.set j1 (.va d1)).set j2 (.va d2)).set j3 (.va d3)) := rp_swap R2 rfl fun _ => ⟨u3, rfl, t3.mono sm⟩
      have z : tW (G.blk scope) elt (((σ.set j1 (some u1)).set j2 (some u2)).set j3 (some u3)) H' fun y H4 => ∃ ac, H4 D = some (.lst ac) ∧ ac.length < sizeLine ∧ Pv (i + 1) (upd H4 D (.lst (ac ++ [y]))) := by
        refine tW.use R3 hw fun y dy e2 Hc4 H4 ⟨rr, ee⟩ go4 ty => ?_
        subst ee
        have gs3 := go_swap (j := j3) (t := .va d3) (o := some u3) hn3 rfl go4
        have gs2 := go_swap (j := j2) (t := .va d2) (o := some u2) hn2 rfl gs3
        have g34 := go_swap (j := j1) (t := .va d1) (o := some u1) hn1 rfl gs2
        rw [inT3_out h12 h13 h23] at g34
        have keep : H4 D = some (.lst vs) := g34.kp D _ nw.at' nw.no
        have out4 : Hc4 D = none := g34.out D (by rw [nw.at']; simp) nw.out nw.no
        refine ⟨vs, keep, Nat.lt_of_lt_of_le (show vs.length < 100000 by omega) (by decide), Hc4, acc ++ [dy], vs ++ [y], by rw [take_snoc ed]; exact al.snoc rr, by rw [List.length_append]; show vs.length + 1 ≤ i + 1; omega, ⟨?_, old, upd_same, ?_, out4, nw.no⟩, sm.trans g34.core⟩
        · exact go_write (nw.go.trans g34) old out4 nw.no
        · exact Trs.append (nw.tr.mono g34.core) (.cons ty .nil)
      exact iteT (B := Pv (i + 1) H') z
  · have e : i = vs0.length := by omega
    subst e
    exact .inl ⟨wstop H2 s12, hQ D vs acc e1 Hc2 H2 (jF acc (by rw [lv, List.take_length] at al; exact al)) nw⟩
theorem w_lcT3 {G : Gx} {env : En} {P : PyData → En → Prop} {elt iter : Expr} {scope : Scope} {pos pt q1 q2 q3 : Pos} {x1 x2 x3 : Str} (j1 j2 j3 : Nat) {k1} (RR : PyData → PyData → Prop)
    (h : WI G (.Tuple [.Name x1 q1, .Name x2 q2, .Name x3 q3] k1 pt) iter env fun ds e0 => ds.length < 100000 ∧ (∀ (i : Nat) (d : PyData), ds[i]? = some d → ∃ d1 d2 d3, d = .tuple [d1, d2, d3] ∧ W (G.blk scope) elt (inT3 e0 j1 j2 j3 d1 d2 d3) fun y e2 => RR d y ∧ e2 = inT3 e0 j1 j2 j3 d1 d2 d3) ∧ ∀ acc, All2 RR ds acc → P (.list acc) (noT3 e0 j1 j2 j3))
    (hnd : G.N.Nodup) (h12 : j1 ≠ j2 := by decide) (h13 : j1 ≠ j3 := by decide) (h23 : j2 ≠ j3 := by decide) (hb : blkC G.N G.sc scope [(x1, j1), (x2, j2), (x3, j3)] = true := by first | decide +kernel | (dsimp only [Gx.blk]; decide +kernel) | rfl)
    (hj1 : G.N[j1]? = some x1 := by rfl) (hl1 : (relS scope G.sc).names.lookup x1 = some .local ∨ (relS scope G.sc).names.lookup x1 = some .cell := by first | exact .inl rfl | exact .inr rfl)
    (hf1 : scope.names.lookup x1 = some .cell ∨ (relS scope G.sc).names.lookup x1 = some .local := by first | exact .inl rfl | exact .inr rfl)
    (hj2 : G.N[j2]? = some x2 := by rfl) (hl2 : (relS scope G.sc).names.lookup x2 = some .local ∨ (relS scope G.sc).names.lookup x2 = some .cell := by first | exact .inl rfl | exact .inr rfl)
    (hf2 : scope.names.lookup x2 = some .cell ∨ (relS scope G.sc).names.lookup x2 = some .local := by first | exact .inl rfl | exact .inr rfl)
    (hj3 : G.N[j3]? = some x3 := by rfl) (hl3 : (relS scope G.sc).names.lookup x3 = some .local ∨ (relS scope G.sc).names.lookup x3 = some .cell := by first | exact .inl rfl | exact .inr rfl)
    (hf3 : scope.names.lookup x3 = some .cell ∨ (relS scope G.sc).names.lookup x3 = some .local := by first | exact .inl rfl | exact .inr rfl)
    (hs : ∀ (v : Env) y, foldedSetIterable iter v y = pure y := by exact fun _ _ => rfl) :
    W G (.ListComp elt [⟨.Tuple [.Name x1 q1, .Name x2 q2, .Name x3 q3] k1 pt, iter, [], 0⟩] scope pos) env P := fun X hX => by
  obtain ⟨wi, hi, rd⟩ := h X hX
  intro pins s σ Hc H Q I R q
  have nm : ∀ {z : Str} {j : Nat} {pz : Pos}, G.N[j]? = some z → ((relS scope G.sc).names.lookup z = some .local ∨ (relS scope G.sc).names.lookup z = some .cell) → (scope.names.lookup z = some .cell ∨ (relS scope G.sc).names.lookup z = some .local) → ∀ (s : Shared) (H : Hp) (C : Addr) (cl : List (Str × Addr)) (fp : List Addr), PG (X.blk s H scope (compEnvC scope cl C X.env) fp) (.Name z pz) (gName j) := by
    intro z j pz hj hl hf s H C cl fp
    have i2 := inG_blk hX scope s H C cl fp
    refine pg_name (i := j) (by rw [i2.N]; exact hnd) (by rw [i2.N]; exact hj) ?_ ?_
    · show _ ∨ _
      rw [i2.sc]
      exact hl
    · rcases hf with hf | hf
      · exact .inl (by show (scope.names.lookup z == some .cell) = true; rw [hf]; rfl)
      · exact .inr (by rw [i2.sc]; exact hf)
  refine (pe_lc (own := [(x1, j1), (x2, j2), (x3, j3)]) (g := gTup G.K 3 (gCons (gName j1) (gCons (gName j2) (gCons (gName j3) gNil)))) hX.calm (by rw [hX.N]; exact hnd) hi (blkOk_by (by rw [hX.N, hX.sc]; exact hb)) (fun s H C cl fp => by
    have i2 := inG_blk hX scope s H C cl fp
    have z := pg_tup (n := 3) (k := k1) (pos := pt) i2.calm (pgs_cons (nm (pz := q1) hj1 hl1 hf1 s H C cl fp) (pgs_cons (nm (pz := q2) hj2 hl2 hf2 s H C cl fp) (pgs_cons (nm (pz := q3) hj3 hl3 hf3 s H C cl fp) pgs_nil))) rfl rfl
    rw [i2.K] at z
    exact z) (fun s H C cl fp => pts_nil) (fun s H C cl fp => peW (inG_blk hX scope s H C cl fp) elt) (hs X.env)).run pins s σ H Q I ?_
  refine lcT3_read h12 h13 h23 R (rd σ Hc H · R) fun D vs acc e2 Hc2 H2 pf nw => ?_
  have z := nw.freeze
  exact q _ _ _ _ _ pf z.1 z.2
end TL

namespace TL
open PySem PySem.Spec PyProof.Rows L2
theorem cnt_bd {n : Nat} {t : Tb} (h : Dye n t) {c v : Int} (k : CntAt n t c v) : ∃ a b : Nat, a < mny t ∧ b < mny t ∧ c = (mny t : Int) * a + b ∧ c / (mny t : Int) = a ∧ c % (mny t : Int) = b := by
  obtain ⟨x, y, x', y', hx, hy, hx', hy', e1, e2, ne⟩ := k
  have go : ∀ x y, x < n → y < n → c ∈ cods n t x y → ∃ a b : Nat, a < mny t ∧ b < mny t ∧ c = (mny t : Int) * a + b ∧ c / (mny t : Int) = a ∧ c % (mny t : Int) = b := fun x y hx hy hc => by
    obtain ⟨z, hz, e⟩ := List.mem_map.mp hc
    have hz := List.mem_range.mp hz
    have b1 := h.bd hx hz
    have b2 := h.bd hz hy
    obtain ⟨a, ea⟩ := Int.eq_ofNat_of_zero_le b1.1
    obtain ⟨b, eb⟩ := Int.eq_ofNat_of_zero_le b2.1
    rw [ea] at b1
    rw [eb] at b2
    rw [ea, eb] at e
    have ha : a < mny t := by omega
    have hb : b < mny t := by omega
    refine ⟨a, b, ha, hb, e.symm, ?_, ?_⟩
    · rw [← e, Int.add_comm, Int.add_mul_ediv_left _ _ (by omega), Int.ediv_eq_zero_of_lt (by omega) (by omega), Int.zero_add]
    · rw [← e, Int.add_comm, Int.add_mul_emod_self_left, Int.emod_eq_of_lt (by omega) (by omega)]
  by_cases q : c ∈ cods n t x y
  · exact go x y hx hy q
  · by_cases q' : c ∈ cods n t x' y'
    · exact go x' y' hx' hy' q'
    · exact absurd (by rw [List.count_eq_zero.mpr q, List.count_eq_zero.mpr q']) ne
theorem bb_ne {α : Type} {p : α → Prop} [DecidablePred p] {l : List α} : 1 < (disK false (l.map fun x => decide (p x))).length ↔ (∃ a ∈ l, p a) ∧ ∃ b ∈ l, ¬ p b := by
  rw [disK_two]
  constructor
  · rintro ⟨a, ha, b, hb, ne⟩
    obtain ⟨x, hx, ex⟩ := List.mem_map.mp ha
    obtain ⟨y, hy, ey⟩ := List.mem_map.mp hb
    subst ex ey
    by_cases h1 : p x
    · refine ⟨⟨x, hx, h1⟩, y, hy, fun h2 => ne (by rw [decide_eq_true h1, decide_eq_true h2])⟩
    · by_cases h2 : p y
      · exact ⟨⟨y, hy, h2⟩, x, hx, h1⟩
      · exact absurd (by rw [decide_eq_false h1, decide_eq_false h2]) ne
  · rintro ⟨⟨a, ha, h1⟩, b, hb, h2⟩
    exact ⟨_, List.mem_map.mpr ⟨a, ha, rfl⟩, _, List.mem_map.mpr ⟨b, hb, rfl⟩, by rw [decide_eq_true h1, decide_eq_false h2]; exact Bool.noConfusion⟩
theorem prN_inj {p q : Nat × Nat} (h : prN p = prN q) : p = q := by
  unfold prN at h
  injection h with h
  injection h with f1 f2
  injection f2 with f2 _
  injection f1 with f1
  injection f2 with f2
  have g1 : (p.1 : Int) = q.1 := f1
  have g2 : (p.2 : Int) = q.2 := f2
  exact Prod.ext (by omega) (by omega)
theorem mixAt_iff {n : Nat} {t : Tb} {v : Int} : MixAt n t v ↔ (∃ p ∈ prsP n t v n, p.1 = p.2) ∧ ∃ p ∈ prsP n t v n, ¬ p.1 = p.2 := by
  constructor
  · rintro ⟨x, y, hx, hy, ne, e, z, hz, e2⟩
    exact ⟨⟨(z, z), prsP_mem.mpr ⟨hz, hz, e2⟩, rfl⟩, (x, y), prsP_mem.mpr ⟨hx, hy, e⟩, ne⟩
  · rintro ⟨⟨p, hp, ep⟩, q, hq, ne⟩
    obtain ⟨h1, h2, h3⟩ := prsP_mem.mp hp
    obtain ⟨k1, k2, k3⟩ := prsP_mem.mp hq
    exact ⟨q.1, q.2, k1, k2, ne, k3, p.1, h1, by rw [← ep] at h3; exact h3⟩
theorem trnAt_iff {n : Nat} {t : Tb} {v : Int} : TrnAt n t v ↔ 1 < disI ((prsP n t v n).map fun p => atN t p.2 p.1) := by
  rw [dis_two]
  constructor
  · rintro ⟨x, y, x', y', hx, hy, hx', hy', e1, e2, ne⟩
    exact ⟨_, List.mem_map.mpr ⟨(x, y), prsP_mem.mpr ⟨hx, hy, e1⟩, rfl⟩, _, List.mem_map.mpr ⟨(x', y'), prsP_mem.mpr ⟨hx', hy', e2⟩, rfl⟩, ne⟩
  · rintro ⟨a, ha, b, hb, ne⟩
    obtain ⟨p, hp, ep⟩ := List.mem_map.mp ha
    obtain ⟨q, hq, eq⟩ := List.mem_map.mp hb
    obtain ⟨h1, h2, h3⟩ := prsP_mem.mp hp
    obtain ⟨k1, k2, k3⟩ := prsP_mem.mp hq
    exact ⟨p.1, p.2, q.1, q.2, h1, h2, k1, k2, h3, k3, by rw [ep, eq]; exact ne⟩
theorem cntAt_iff {n : Nat} {t : Tb} (h : Dye n t) {a b : Nat} {v : Int} (ha : a < mny t) (hb : b < mny t) : CntAt n t ((mny t : Int) * a + b) v ↔ ∃ p ∈ prsP n t v n, ∃ q ∈ prsP n t v n, btwC n t p.1 p.2 a b ≠ btwC n t q.1 q.2 a b := by
  rw [cntAt_btw h (by omega) (by omega)]
  constructor
  · rintro ⟨x, y, x', y', hx, hy, hx', hy', e1, e2, ne⟩
    exact ⟨(x, y), prsP_mem.mpr ⟨hx, hy, e1⟩, (x', y'), prsP_mem.mpr ⟨hx', hy', e2⟩, by rw [btwC_count, btwC_count]; exact ne⟩
  · rintro ⟨p, hp, q, hq, ne⟩
    obtain ⟨h1, h2, h3⟩ := prsP_mem.mp hp
    obtain ⟨k1, k2, k3⟩ := prsP_mem.mp hq
    exact ⟨p.1, p.2, q.1, q.2, h1, h2, k1, k2, h3, k3, by rw [← btwC_count, ← btwC_count]; exact ne⟩
theorem MixAt.bd {n : Nat} {t : Tb} (h : Dye n t) {v : Int} (k : MixAt n t v) : ∃ u : Nat, u < mny t ∧ v = u := by
  obtain ⟨x, y, hx, hy, _, e, _⟩ := k
  have := h.bd hx hy
  exact ⟨v.toNat, by omega, by omega⟩
theorem TrnAt.bd {n : Nat} {t : Tb} (h : Dye n t) {v : Int} (k : TrnAt n t v) : ∃ u : Nat, u < mny t ∧ v = u := by
  obtain ⟨x, y, _, _, hx, hy, _, _, e, _⟩ := k
  have := h.bd hx hy
  exact ⟨v.toNat, by omega, by omega⟩
theorem CntAt.bdv {n : Nat} {t : Tb} (h : Dye n t) {c v : Int} (k : CntAt n t c v) : ∃ u : Nat, u < mny t ∧ v = u := by
  obtain ⟨x, y, _, _, hx, hy, _, _, e, _⟩ := k
  have := h.bd hx hy
  exact ⟨v.toNat, by omega, by omega⟩
/-- none of the triples ahead of (a, b, c) -/
def NoTri (n : Nat) (t : Tb) (a b c : Nat) : Prop := ∀ i j k : Nat, i < mny t → j < mny t → k < mny t → (i < a ∨ (i = a ∧ (j < b ∨ (j = b ∧ k < c)))) → ¬ CntAt n t ((mny t : Int) * i + j) (k : Int)
def lotD (n : Nat) (t : Tb) (d : PyData) : PyData := match d with | .int z => .list ((prsP n t z n).map prN) | _ => .none
end TL
namespace K09
open PySem PySem.Spec PyProof.Rows L2 TL
section
variable {P : Program} {w : World} {K : PySem.W.Frag} {mg : Str → Option Value} {base : Heap} {k : Nat} {f : Addr} {fd : FuncData}
abbrev nLb : List Str := ["dyeing_here", "many", "lots", "dye", "x", "y", "first", "second", "some", "pair"]
abbrev sLb : Stmt := topS 33
theorem scLb : FnScope nLb ["dyeing_here"] (defScope sLb) := ⟨rfl, rfl, rfl, by decide +kernel, rfl, by decide +kernel, by decide +kernel⟩
theorem ok_lb (F : Fun K "_law_breach" "_law_breach" sLb f fd) (m1 : mg "range" = none) (m2 : mg "len" = none) (m3 : mg "set" = none) (m4 : mg "max" = none) (m5 : mg "min" = none) (DM : Dc P w K mg base "_law_many" 1 ["dyeing_here"] (spP preMy postMy)) (DP : Dc P w K mg base "_law_pairs" 1 ["dyeing_here", "dye"] (spP prePa postPa)) (DB : Dc P w K mg base "_law_between" 1 ["dyeing_here", "pair", "first", "second"] (spP preBe postBe)) : FnG P w K mg base 2 f fd ["dyeing_here"] (spP preT postBr) := by
  refine fnP F scLb (fun ds ⟨_, _, e, _⟩ => by rw [e]; rfl) fun A hg hr ds ⟨n, t, e, ht, hn⟩ => ?_
  subst e
  obtain ⟨fM, fdM, CM⟩ := DM.callee (N := nLb) (st := sLb) hr hg (by decide : 1 ≤ 1)
  obtain ⟨fP, fdP, CP⟩ := DP.callee (N := nLb) (st := sLb) hr hg (by decide : 1 ≤ 1)
  obtain ⟨fB, fdB, CB⟩ := DB.callee (N := nLb) (st := sLb) hr hg (by decide : 1 ≤ 1)
  have hs := ht.sq
  have hmy := ht.mny_le
  have hnn : n * n ≤ 16 * 16 := Nat.mul_le_mul hn hn
  have fin : ∀ d, IsBr n t d → postBr [tbT t] d := fun d h n' t' e' ht' => by
    injection e' with e' _
    have e' := tbT_inj e'
    subst e'
    have : n' = n := by rw [← ht'.sq.1, ht.sq.1]
    subst this
    exact h
  have pl : ∀ v, (prsP n t v n).length ≤ 256 := fun v => by have := prsP_len n t v n; omega
  refine r_asg 1 scLb.nd (w_callP CM (w_name 0 ⟨dye_many ht hn, fun d pd => ?_⟩))
  obtain ⟨z, ez, hz⟩ := pd t rfl
  have hz := many_eq ht hz
  subst ez hz
  refine r_lc 2 3 false true (t := none) (wi_rg m1 (w_name 1 ⟨(mny t : Int), rfl, by omega, by omega, ?_⟩)) scLb.nd (hsw := .inl ⟨rfl, rfl, fun v hv => by cases v; subst hv; rfl⟩)
  rw [Int.toNat_natCast]
  refine ⟨by rw [rgD_len]; omega, cj_map (lotD n t) (fun d hd => ?_) ⟨by show 2 < 10; decide, ?_⟩⟩
  · obtain ⟨i, hi, e⟩ := rg_in hd
    subst e
    exact w_callP (CP.blk _) (w_name 0 (w_name 3 ⟨⟨n, t, (i : Int), rfl, hs, hn⟩, fun d pd => ⟨pd n t _ rfl hs, rfl⟩⟩))
  rw [rgD_map (lotD n t) (fun i => .list ((prsP n t (i : Int) n).map prN)) (fun _ => rfl)]
  have lot : ∀ i, i < mny t → atI ((List.range (mny t)).map fun (i : Nat) => PyData.list ((prsP n t (i : Int) n).map prN)) (i : Int) = some (.list ((prsP n t (i : Int) n).map prN)) := fun i hi => atI_nat (by rw [List.getElem?_map, List.getElem?_range hi]; rfl)
  generalize (List.range (mny t)).map (fun (i : Nat) => PyData.list ((prsP n t (i : Int) n).map prN)) = LT at lot
  -- one dye after another: the middle
  refine r_for 3 scLb.nd (wi_rg m1 (w_name 1 ⟨(mny t : Int), rfl, by omega, by omega, ?_⟩))
  rw [Int.toNat_natCast]
  refine ⟨fun i e => i ≤ mny t ∧ (∀ u : Nat, u < i → ¬ MixAt n t (u : Int)) ∧ ∃ s3 : Sl, e = [.va (tbT t), .va (.int (mny t : Int)), .va (.list LT), s3, .no, .no, .no, .no, .no, .no], ⟨Nat.zero_le _, fun u h => absurd h (Nat.not_lt_zero _), .no, rfl⟩, fun i d e ed ⟨hi, hno, s3, ee⟩ => ?_, fun e ⟨hi, hno, s3, ee⟩ => ?_⟩
  · subst ee
    obtain ⟨hi', ed⟩ := rgD_get ed
    rw [Int.zero_add] at ed
    subst ed
    have hpl := pl (i : Int)
    refine r_if (wt_gt (w_lenSetB m2 m3 (w_lcT2 4 5 (fun d y => ∀ p : Nat × Nat, d = prN p → y = .bool (decide (p.1 = p.2))) (wi_seq (w_sub (w_name 2 (w_name 3 ⟨_, _, _, rfl, rfl, lot i hi', _, rfl, by rw [List.length_map]; omega, fun j d hd => ?_, fun acc al => ?_⟩)))) scLb.nd)))
    · obtain ⟨p, hp, e⟩ := mem_pr (List.mem_of_getElem? hd)
      subst e
      refine ⟨.int (p.1 : Int), .int (p.2 : Int), rfl, w_eqI (w_name 4 ⟨(p.1 : Int), rfl, w_name 5 ⟨(p.2 : Int), rfl, fun q eq => ?_, rfl⟩⟩)⟩
      have := prN_inj eq
      subst this
      exact congrArg PyData.bool (decide_eq_decide.mpr ⟨fun z => by omega, fun z => by omega⟩)
    · have := all2_fmap (g := prN) (F := fun p => .bool (decide (p.1 = p.2))) al
      subst this
      refine ⟨(prsP n t (i : Int) n).map fun p => decide (p.1 = p.2), by rw [List.map_map]; rfl, by rw [List.length_map]; omega, _, rfl, w_int ⟨1, rfl, ifd (fun h => ?_) fun h => r_nil (r_nil ⟨hi', fun u hu hm => ?_, _, rfl⟩)⟩⟩
      · have hm : MixAt n t (i : Int) := mixAt_iff.mpr (bb_ne.mp (by omega))
        refine r_ret (w_tup (w_str (w_name 3 ⟨by show 2 ≤ sizeLine; decide, fin _ (.inl ⟨(i : Int), hm, fun u hu => ?_, rfl⟩)⟩)))
        obtain ⟨u', h1, h2⟩ := hu.bd ht
        subst h2
        by_cases q : u' < i
        · exact absurd hu (hno u' q)
        · omega
      · by_cases q : u = i
        · subst q
          have := bb_ne (p := fun p : Nat × Nat => p.1 = p.2) (l := prsP n t (u : Int) n) |>.mpr (mixAt_iff.mp hm)
          omega
        · exact hno u (by omega) hm
  subst ee
  rw [rgD_len] at hno
  have hMid : ∀ v, ¬ MixAt n t v := fun v h => by
    obtain ⟨u, h1, h2⟩ := h.bd ht
    subst h2
    exact hno u h1 h
  clear hno hi
  -- the turned ones
  refine r_for 3 scLb.nd (wi_rg m1 (w_name 1 ⟨(mny t : Int), rfl, by omega, by omega, ?_⟩))
  rw [Int.toNat_natCast]
  refine ⟨fun i e => i ≤ mny t ∧ (∀ u : Nat, u < i → ¬ TrnAt n t (u : Int)) ∧ ∃ s3 : Sl, e = [.va (tbT t), .va (.int (mny t : Int)), .va (.list LT), s3, .no, .no, .no, .no, .no, .no], ⟨Nat.zero_le _, fun u h => absurd h (Nat.not_lt_zero _), s3, rfl⟩, fun i d e ed ⟨hi, hno, s3, ee⟩ => ?_, fun e ⟨hi, hno, s3, ee⟩ => ?_⟩
  · subst ee
    obtain ⟨hi', ed⟩ := rgD_get ed
    rw [Int.zero_add] at ed
    subst ed
    have hpl := pl (i : Int)
    refine r_if (wt_gt (w_lenSet m2 m3 (w_lcT2 4 5 (fun d y => ∀ p : Nat × Nat, d = prN p → y = .int (atN t p.2 p.1)) (wi_seq (w_sub (w_name 2 (w_name 3 ⟨_, _, _, rfl, rfl, lot i hi', _, rfl, by rw [List.length_map]; omega, fun j d hd => ?_, fun acc al => ?_⟩)))) scLb.nd)))
    · obtain ⟨p, hp, e⟩ := mem_pr (List.mem_of_getElem? hd)
      subst e
      obtain ⟨h1, h2, _⟩ := prsP_mem.mp hp
      obtain ⟨r, q1, q2, _⟩ := tq_atN hs h2 h1
      refine ⟨.int (p.1 : Int), .int (p.2 : Int), rfl, w_sub (w_sub (w_name 0 (w_name 5 ⟨_, _, _, rfl, rfl, q1, w_name 4 ⟨_, _, _, rfl, rfl, q2, fun q eq => ?_, rfl⟩⟩)))⟩
      have := prN_inj eq
      subst this
      rfl
    · have := all2_fmap (g := prN) (F := fun p => .int (atN t p.2 p.1)) al
      subst this
      refine ⟨(prsP n t (i : Int) n).map fun p => atN t p.2 p.1, by rw [List.map_map]; rfl, by rw [List.length_map]; omega, _, rfl, w_int ⟨1, rfl, ifd (fun h => ?_) fun h => r_nil (r_nil ⟨hi', fun u hu hm => ?_, _, rfl⟩)⟩⟩
      · have hm : TrnAt n t (i : Int) := trnAt_iff.mpr (by omega)
        refine r_ret (w_tup (w_str (w_name 3 ⟨by show 2 ≤ sizeLine; decide, fin _ (.inr (.inl ⟨hMid, (i : Int), hm, fun u hu => ?_, rfl⟩))⟩)))
        obtain ⟨u', h1, h2⟩ := hu.bd ht
        subst h2
        by_cases q : u' < i
        · exact absurd hu (hno u' q)
        · omega
      · by_cases q : u = i
        · subst q
          have := trnAt_iff.mp hm
          omega
        · exact hno u (by omega) hm
  subst ee
  rw [rgD_len] at hno
  have hTrn : ∀ v, ¬ TrnAt n t v := fun v h => by
    obtain ⟨u, h1, h2⟩ := h.bd ht
    subst h2
    exact hno u h1 h
  clear hno hi
  -- the triples
  refine r_for 6 scLb.nd (wi_rg m1 (w_name 1 ⟨(mny t : Int), rfl, by omega, by omega, ?_⟩))
  rw [Int.toNat_natCast]
  refine ⟨fun a e => a ≤ mny t ∧ NoTri n t a 0 0 ∧ ∃ s3 s6 s7 s8 : Sl, e = [.va (tbT t), .va (.int (mny t : Int)), .va (.list LT), s3, .no, .no, s6, s7, s8, .no], ⟨Nat.zero_le _, fun i j k hi hj hk q => by omega, s3, .no, .no, .no, rfl⟩, fun a d e ed ⟨hi, hno, s3, s6, s7, s8, ee⟩ => ?_, fun e ⟨hi, hno, s3, s6, s7, s8, ee⟩ => ?_⟩
  · subst ee
    obtain ⟨ha, ed⟩ := rgD_get ed
    rw [Int.zero_add] at ed
    subst ed
    refine r_for 7 scLb.nd (wi_rg m1 (w_name 1 ⟨(mny t : Int), rfl, by omega, by omega, ?_⟩))
    rw [Int.toNat_natCast]
    refine ⟨fun b e => b ≤ mny t ∧ NoTri n t a b 0 ∧ ∃ s3 s7 s8 : Sl, e = [.va (tbT t), .va (.int (mny t : Int)), .va (.list LT), s3, .no, .no, .va (.int (a : Int)), s7, s8, .no], ⟨Nat.zero_le _, hno, s3, s7, s8, rfl⟩, fun b d e ed ⟨hi, hno, s3, s7, s8, ee⟩ => ?_, fun e ⟨hi, hno, s3, s7, s8, ee⟩ => ?_⟩
    · subst ee
      obtain ⟨hb, ed⟩ := rgD_get ed
      rw [Int.zero_add] at ed
      subst ed
      refine r_for 3 scLb.nd (wi_rg m1 (w_name 1 ⟨(mny t : Int), rfl, by omega, by omega, ?_⟩))
      rw [Int.toNat_natCast]
      refine ⟨fun c e => c ≤ mny t ∧ NoTri n t a b c ∧ ∃ s3 s8 : Sl, e = [.va (tbT t), .va (.int (mny t : Int)), .va (.list LT), s3, .no, .no, .va (.int (a : Int)), .va (.int (b : Int)), s8, .no], ⟨Nat.zero_le _, hno, s3, s8, rfl⟩, fun c d e ed ⟨hi, hno, s3, s8, ee⟩ => ?_, fun e ⟨hi, hno, s3, s8, ee⟩ => ?_⟩
      · subst ee
        obtain ⟨hc, ed⟩ := rgD_get ed
        rw [Int.zero_add] at ed
        subst ed
        have hpl := pl (c : Int)
        refine r_lc 8 9 false true (t := none) (wi_seq (w_sub (w_name 2 (w_name 3 ⟨_, _, _, rfl, rfl, lot c hc, _, rfl, by rw [List.length_map]; omega, cj_rel (fun d y => ∀ p : Nat × Nat, d = prN p → y = .int (btwC n t p.1 p.2 a b : Nat)) (fun d hd => ?_) fun acc al => ⟨by show 8 < 10; decide, ?_⟩⟩)))) scLb.nd (hsw := .inl ⟨rfl, rfl, fun v hv => by cases v; subst hv; rfl⟩)
        · obtain ⟨p, hp, e⟩ := mem_pr hd
          subst e
          obtain ⟨h1, h2, _⟩ := prsP_mem.mp hp
          refine w_callP (CB.blk _) (w_name 0 (w_name 9 (w_name 6 (w_name 7 ⟨⟨n, t, p, (a : Int), (b : Int), rfl, hs, hn, h1, h2⟩, fun d pd => ⟨fun q eq => ?_, rfl⟩⟩))))
          have := prN_inj eq
          subst this
          exact pd n t p _ _ rfl hs
        · have := all2_fmap (g := prN) (F := fun p => .int (btwC n t p.1 p.2 a b : Nat)) al
          subst this
          have ez : (prsP n t (c : Int) n).map (fun p => PyData.int (btwC n t p.1 p.2 a b : Nat)) = ((prsP n t (c : Int) n).map fun p => ((btwC n t p.1 p.2 a b : Nat) : Int)).map .int := by rw [List.map_map]; rfl
          rw [ez]
          have hne : prsP n t (c : Int) n ≠ [] := fun e => by
            obtain ⟨x, y, hx, hy, e2⟩ := ht.dense hc
            have : (x, y) ∈ prsP n t (c : Int) n := prsP_mem.mpr ⟨hx, hy, e2⟩
            rw [e] at this
            cases this
          have hz : (prsP n t (c : Int) n).map (fun p => ((btwC n t p.1 p.2 a b : Nat) : Int)) ≠ [] := fun e => hne (List.map_eq_nil_iff.mp e)
          refine r_if (wt_neI (w_maxL m4 (w_name 8 ⟨_, rfl, ⟨_, rfl⟩, hz, fun mx h1 h2 => ⟨mx, rfl, w_minL m5 (w_name 8 ⟨_, rfl, hz, fun mn h3 h4 => ⟨mn, rfl, ?_⟩⟩)⟩⟩)))
          show (if (!decide (mx = mn)) = true then _ else _)
          rw [show (!decide (mx = mn)) = decide (mx ≠ mn) from by simp]
          have key := cntAt_iff ht (v := (c : Int)) ha hb
          refine ifd (fun h => ?_) fun h => r_nil (r_nil ⟨hc, fun i j k hi hj hk q => ?_, _, _, rfl⟩)
          · have hcn : CntAt n t ((mny t : Int) * a + b) (c : Int) := by
              obtain ⟨p, hp, ep⟩ := List.mem_map.mp h1
              obtain ⟨q, hq, eq⟩ := List.mem_map.mp h3
              exact key.mpr ⟨p, hp, q, hq, fun e => h (by rw [← ep, ← eq, e])⟩
            obtain ⟨a', b', _, _, e1, e2, e3⟩ := cnt_bd ht hcn
            have fa : ((mny t : Int) * a + b) / (mny t : Int) = a := by
              rw [Int.add_comm, Int.add_mul_ediv_left _ _ (by omega), Int.ediv_eq_zero_of_lt (by omega) (by omega), Int.zero_add]
            have fb : ((mny t : Int) * a + b) % (mny t : Int) = b := by
              rw [Int.add_comm, Int.add_mul_emod_self_left, Int.emod_eq_of_lt (by omega) (by omega)]
            refine r_ret (w_tup (w_str (w_name 6 (w_name 7 (w_name 3 ⟨by show 4 ≤ sizeLine; decide, fin _ (.inr (.inr ⟨hMid, hTrn, .inr ⟨_, _, hcn, fun c' v' h' => ?_, by rw [fa, fb]⟩⟩))⟩)))))
            obtain ⟨i, j, hi, hj, e4, _, _⟩ := cnt_bd ht h'
            obtain ⟨u, hu, e5⟩ := h'.bdv ht
            subst e4 e5
            have nq := fun q => hno i j u hi hj hu q h'
            unfold leP
            show (mny t : Int) * a + b < (mny t : Int) * i + j ∨ ((mny t : Int) * a + b = (mny t : Int) * i + j ∧ (c : Int) ≤ u)
            have hia : a ≤ i := by
              by_cases q : i < a
              · exact absurd (.inl q) nq
              · omega
            rcases Nat.lt_or_ge a i with q | q
            · left
              have h5 : (mny t : Int) * (a + 1) ≤ (mny t : Int) * i := Int.mul_le_mul_of_nonneg_left (by omega) (by omega)
              rw [Int.mul_add, Int.mul_one] at h5
              omega
            · have : i = a := by omega
              subst this
              by_cases q1 : j < b
              · exact absurd (.inr ⟨rfl, .inl q1⟩) nq
              · by_cases q2 : j = b
                · subst q2
                  by_cases q3 : u < c
                  · exact absurd (.inr ⟨rfl, .inr ⟨rfl, q3⟩⟩) nq
                  · right
                    exact ⟨rfl, by omega⟩
                · left
                  omega
          · intro hm
            by_cases q3 : i = a ∧ j = b ∧ k = c
            · obtain ⟨q4, q5, q6⟩ := q3
              subst q4 q5 q6
              obtain ⟨p, hp, p', hp', ne⟩ := key.mp hm
              have f1 := h2 _ (List.mem_map.mpr ⟨p, hp, rfl⟩)
              have f2 := h2 _ (List.mem_map.mpr ⟨p', hp', rfl⟩)
              have f3 := h4 _ (List.mem_map.mpr ⟨p, hp, rfl⟩)
              have f4 := h4 _ (List.mem_map.mpr ⟨p', hp', rfl⟩)
              have f5 : mx = mn := Decidable.of_not_not h
              exact ne (by omega)
            · exact hno i j k hi hj hk (by omega) hm
      · subst ee
        rw [rgD_len] at hno
        exact r_nil ⟨hb, fun i j k hi hj hk q => hno i j k hi hj hk (by omega), _, _, _, rfl⟩
    · subst ee
      rw [rgD_len] at hno
      exact r_nil ⟨ha, fun i j k hi hj hk q => hno i j k hi hj hk (by omega), _, _, _, _, rfl⟩
  · subst ee
    rw [rgD_len] at hno
    refine r_ret (w_non (fin _ (.inr (.inr ⟨hMid, hTrn, .inl ⟨fun c v h => ?_, rfl⟩⟩))))
    obtain ⟨i, j, hi, hj, e4, _, _⟩ := cnt_bd ht h
    obtain ⟨u, hu, e5⟩ := h.bdv ht
    subst e4 e5
    exact hno i j u hi hj hu (by omega) h
end
end K09

namespace TL
open PySem PySem.Spec PyProof.Rows L2
section
variable {G : Gx} {env : En} {N : DE} {rest : List Stmt} {a c a2 c2 e : Expr} {pos px ps1 ps2 px2 ps3 ps4 pt : Pos} {x : Str}
/-- what a store x[a][c] = d asks -/
def Set2 (G : Gx) (i : Nat) (D : Addr) (as : List Addr) (a c : Expr) (d : PyData) (e0 : En) (Q : En → Prop) : Prop :=
  e0[i]? = some (.raw (.ref D) (lstφ D as)) ∧ W G a e0 fun k e1 => ∃ (kk : Nat) (d0 : Addr), k = .int (kk : Int) ∧ e1[i]? = some (.raw (.ref D) (lstφ D as)) ∧ as[kk]? = some d0 ∧ W G c e1 fun y e2 => ∃ (g : Nat) (ds : List PyData) (j : Int) (l : Nat), e2[g]? = some (.oa d0 ds) ∧ y = .int j ∧ ixN ds.length j = some l ∧ Q (e2.set g (.oa d0 (ds.set l d)))
theorem set2_use {X : Cx} {i : Nat} {D : Addr} {as : List Addr} {d : PyData} {e0 : En} {Q : En → Prop} {σ : L2.St} {Hc H Hc0 : Hp} {v : V} {R' : L2.St → Hp → Prop} (R : Rp Hc H σ e0) (h : Set2 G i D as a c d e0 Q) (t : Tr Hc0 v d) (s0 : Same Hc0 Hc)
    (k : ∀ e' Hc' H', Q e' → Go Hc H σ e0 Hc' H' σ e' → R' σ H') : gSub (tOp (rIxL X.K) (tVar i) (tW G a)) (tW G c) rSetL v σ H R' := by
  obtain ⟨he, h1⟩ := h
  obtain ⟨e1, _⟩ := R.ok i _ he
  refine ⟨_, e1, tW.use R h1 fun v1 k1 en1 Hc1 H1 ⟨kk, d0, ek, hi1, ea, h2⟩ go t1 => ?_⟩
  subst ek
  cases t1
  obtain ⟨f1, f2, _⟩ := go.rep.ok i _ hi1
  have f2 : Hc1 D = some (.lst (as.map V.ref)) := f2
  refine ⟨D, _, (kk : Int), .ref d0, rfl, rfl, SqL.of (go.rep.same _ _ f2), atI_nat (by rw [List.getElem?_map, ea]; rfl), ?_⟩
  refine tW.use go.rep h2 fun v2 y en2 Hc2 H2 ⟨g, ds, j, l, eg, ey, el, hr⟩ go2 t2 => ?_
  subst ey
  cases t2
  obtain ⟨vs, g1, g2, g3, g4⟩ := go2.rep.ok g _ eg
  refine ⟨d0, vs, j, l, rfl, rfl, g3, by rw [g4.length]; exact el, ?_⟩
  have gg := go_own (o := .lst (vs.set l v)) (t := .oa d0 (ds.set l d)) go2.rep eg rfl g1 g2 rfl ⟨_, g1, g2, upd_same, Trs.set (t.mono (s0.trans (go.trans go2).core)) l g4⟩
  exact k _ _ _ hr ((go.trans go2).trans gg)
/-- x[a][c], x[a2][c2] = e -/
theorem r_set22 (i : Nat) {k1 : Nat} {D : Addr} {as : List Addr} (h : W G e env fun d e0 => ∃ d1 d2, d = .tuple [d1, d2] ∧ Set2 G i D as a c d1 e0 fun e3 => Set2 G i D as a2 c2 d2 e3 fun e6 => Rs G rest e6 N)
    (hw : ∀ v : Env, v.scope = G.sc → swappedStores [.Tuple [.Subscript (.Subscript (.Name x px) a ps1) c ps2, .Subscript (.Subscript (.Name x px2) a2 ps3) c2 ps4] k1 pt] e v = pure none)
    (hs : ∀ (v : Env) l, v.scope = G.sc → swapsWithSole [.Tuple [.Subscript (.Subscript (.Name x px) a ps1) c ps2, .Subscript (.Subscript (.Name x px2) a2 ps3) c2 ps4] k1 pt] e l v = pure false := by exact fun _ _ _ => rfl)
    (hN : G.N[i]? = some x := by rfl) (hv : Vis G.sc x := by first | exact Or.inl rfl | exact Or.inr (Or.inl rfl) | exact Or.inr (Or.inr rfl))
    (hsub : ∀ (v : Env) (u : Value), assign (.Subscript (.Subscript (.Name x px) a ps1) c ps2) v u = (do
      let ov ← holding [u] (eval (.Subscript (.Name x px) a ps1) v)
      let iv ← holding [u, ov] (eval c v)
      standAt ps2
      holding [u, ov, iv] (setItem ov iv u)
      release [u, ov, iv] []) := by exact fun _ _ => rfl)
    (hsub2 : ∀ (v : Env) (u : Value), assign (.Subscript (.Subscript (.Name x px2) a2 ps3) c2 ps4) v u = (do
      let ov ← holding [u] (eval (.Subscript (.Name x px2) a2 ps3) v)
      let iv ← holding [u, ov] (eval c2 v)
      standAt ps4
      holding [u, ov, iv] (setItem ov iv u)
      release [u, ov, iv] []) := by exact fun _ _ => rfl)
    (hd : (x == ("__debug__" : Str)) = false := by decide) (hcd : (x == ("__classdict__" : Str)) = false := by decide) (hp : PlainIx a := by exact fun _ _ => rfl) (hp2 : PlainIx a2 := by exact fun _ _ => rfl) :
    Rs G (.Assign [.Tuple [.Subscript (.Subscript (.Name x px) a ps1) c ps2, .Subscript (.Subscript (.Name x px2) a2 ps3) c2 ps4] k1 pt] e pos :: rest) env N :=
  Rs.of (fun X => tSeq (tAsg (tW G e) (gTup X.K 2 (gCons (gSub (tOp (rIxL X.K) (tVar i) (tW G a)) (tW G c) rSetL) (gCons (gSub (tOp (rIxL X.K) (tVar i) (tW G a2)) (tW G c2) rSetL) gNil)))) (tRs G rest)) (fun X hX => pss_cons (ps_asg (peW hX.g e)
      (pg_tup hX.g.calm (pgs_cons (pg_sub (pe_ix ix_list (pvG hX.g i hN hv hd hcd) (peW hX.g a) hp) (peW hX.g c) set_list (hsub X.env)) (pgs_cons (pg_sub (pe_ix ix_list (pvG hX.g i hN hv hd hcd) (peW hX.g a2) hp2) (peW hX.g c2) set_list (hsub2 X.env)) pgs_nil)) rfl rfl) (hs _ _ hX.g.sc) (hw _ hX.g.sc) rfl) (pssR hX rest)) fun X hX σ Hc H DD R q =>
    tW.use R h fun v d en0 Hc0 H0 ⟨d1, d2, ed, h1⟩ go t => by
      subst ed
      cases t with
      | tup m t =>
        cases t with
        | @cons v1 _ _ _ t1 t =>
          cases t with
          | @cons v2 _ _ _ t2 t =>
            cases t
            refine ⟨_, _, rfl, (m.mono go.rep.same).sq, rfl, v1, [v2], rfl, ?_⟩
            refine set2_use go.rep h1 t1 (.refl _) fun e3 Hc3 H3 h3 g3 => ⟨v2, [], rfl, ?_⟩
            refine set2_use g3.rep h3 t2 g3.core fun e6 Hc6 H6 h6 g6 => ⟨rfl, ?_⟩
            exact tRs.use g6.rep h6 (q.from ((go.trans g3).trans g6))
end
end TL

namespace K09
open PySem PySem.Spec PyProof.Rows L2 TL
section
variable {P : Program} {w : World} {K : PySem.W.Frag} {mg : Str → Option Value} {base : Heap} {k : Nat} {f : Addr} {fd : FuncData}
abbrev sDyed : Stmt := topS 14
theorem scDyed : FnScope ["rows", "spots", "found", "row", "line", "key"] ["rows"] (defScope sDyed) := ⟨rfl, rfl, rfl, by decide +kernel, rfl, by decide +kernel, by decide +kernel⟩
theorem ok_dyed (F : Fun K "_law_dyed" "_law_dyed" sDyed f fd) (m1 : mg "len" = none) (m2 : mg "tuple" = none) : FnG P w K mg base (k + 1) f fd ["rows"] (spP preDy postDy) := by
  refine fnP F scDyed (fun ds ⟨_, _, e, _⟩ => by rw [e]; rfl) fun A hg hr ds ⟨d0, t, e, ht, hl, hlr⟩ => ?_
  subst e
  obtain ⟨rs, ers, al⟩ := id ht
  have hu : A.units + 1 < cLine := hu_of hr
  refine r_parNew 1 2 (fun p => ?_) scDyed.nd (by show 1 < 6; decide) (by show 2 < 6; decide) (by intro v hv; cases v; subst hv; rfl)
  refine r_for 3 scDyed.nd (wi_seq (w_name 0 ⟨rs, ers, fun i e => ∃ s3 s4 s5, e = [.va d0, .dk p (kvK (dyTab [] (t.take i)).2), .ow ((dyTab [] (t.take i)).1.map rowT), s3, s4, s5] ∧ (dyTab [] (t.take i)).2.length ≤ 16 * i, ⟨_, _, _, rfl, Nat.zero_le _⟩, fun i d e ed he => ?_, fun e he => ?_⟩))
  · obtain ⟨s3, s4, s5, ee, hk⟩ := he
    subst ee
    obtain ⟨r, er, hd⟩ := al.get ed
    have hi : i < t.length := (List.getElem?_eq_some_iff.mp er).1
    have hrl := hlr r (List.mem_of_getElem? er)
    have es : t.take (i + 1) = t.take i ++ [r] := by rw [List.take_add_one, er]; rfl
    have hT1 : (dyTab [] (t.take i)).1.length ≤ i := by
      rw [dyTab_len, List.length_take]
      exact Nat.min_le_left _ _
    generalize hT : dyTab [] (t.take i) = T at *
    obtain ⟨T1, ks⟩ := T
    refine r_new 4 scDyed.nd (by show 4 < 6; decide) ?_
    refine r_for 5 scDyed.nd (wi_seq (w_name 3 ⟨_, hd, fun j e => ∃ s5, e = [.va d0, .dk p (kvK (dyLine ks (r.take j)).2), .ow (T1.map rowT), .va d, .ow ((dyLine ks (r.take j)).1.map .int), s5], ⟨_, rfl⟩, fun j c e ec he => ?_, fun e he => ?_⟩))
    · obtain ⟨s5, ee⟩ := he
      subst ee
      rw [List.getElem?_map] at ec
      cases ex : r[j]? with
      | none => rw [ex] at ec; cases ec
      | some x =>
        rw [ex] at ec
        cases ec
        have hj : j < r.length := (List.getElem?_eq_some_iff.mp ex).1
        have ej : r.take (j + 1) = r.take j ++ [x] := by rw [List.take_add_one, ex]; rfl
        have hlen := (dyLine_len (r.take j) ks)
        have htk : (r.take j).length ≤ j := by rw [List.length_take]; exact Nat.min_le_left _ _
        generalize hL : dyLine ks (r.take j) = Lk at *
        obtain ⟨o, kk⟩ := Lk
        have hkk : kk.length ≤ 300 := by
          have := hlen.2
          show kk.length ≤ 300
          simp only at this hk
          omega
        have nx : dyLine ks (r.take (j + 1)) = (o ++ [(kk.idxOf x : Int)], nk kk x) := by rw [ej, dyLine_snoc, hL]
        refine r_if (wt_dnin 1 hu (w_name 5 ⟨p, kvK kk, .inl x, rfl, rfl, ?_⟩))
        have ev := kv_val kk 0 x
        rw [Nat.zero_add] at ev
        have app : ∀ kk', kvK kk' = kvK (nk kk x) → valD (kvK kk') (.inl x) = some (.int (kk.idxOf x : Int)) → ∀ N : DE, (∀ s5, N.nx [.va d0, .dk p (kvK kk'), .ow (T1.map rowT), .va d, .ow ((o ++ [(kk.idxOf x : Int)]).map .int), s5]) →
            Rs (GxOf P w K mg base ["rows", "spots", "found", "row", "line", "key"] sDyed A) [((match (match (defBody sDyed).getD 1 (.Pass ⟨0, 0, 0, 0⟩) with | .For _ _ b _ _ => b | _ => []).getD 1 (.Pass ⟨0, 0, 0, 0⟩) with | .For _ _ b _ _ => b | _ => []) : List Stmt).getD 1 (.Pass ⟨0, 0, 0, 0⟩)]
              [.va d0, .dk p (kvK kk'), .ow (T1.map rowT), .va d, .ow (o.map .int), .va (.int x)] N := by
          intro kk' e1 e2 N hN
          refine r_append 4 rfl (w_dget 1 hu rfl (w_name 5 ⟨_, .inl x, _, rfl, rfl, e2, _, rfl, ?_, r_nil ?_⟩))
          · have := hlen.1
            simp only at this
            rw [List.length_map]
            omega
          · have := hN (.va (.int x))
            rw [List.map_append] at this
            exact this
        by_cases hm : x ∈ kk
        · rw [if_pos hm] at ev
          have ev' : valD (kvK kk) (.inl x) = some (.int (kk.idxOf x : Int)) := ev
          refine ifF (by rw [ev']; rfl) (r_nil (app kk (by unfold nk; rw [if_pos hm]) ev' _ fun s5 => ⟨s5, ?_⟩))
          rw [nx]
          unfold nk
          rw [if_pos hm]
        · rw [if_neg hm] at ev
          have ev' : valD (kvK kk) (.inl x) = none := ev
          refine ifT (by rw [ev']; rfl) (r_dput 1 hu (w_lenD 1 m1 rfl ⟨p, _, rfl, w_name 5 ⟨_, .inl x, rfl, rfl, ?_, ?_⟩⟩))
          · show (kvF 0 kk).length < 100000
            rw [kv_len]
            omega
          · rw [show (kvK kk).length = kk.length from kv_len 0 kk, kv_put hm]
            have e3 := kv_val (kk ++ [x]) 0 x
            rw [if_pos (by simp), Nat.zero_add, idx_snoc hm] at e3
            refine r_nil (app (kk ++ [x]) (by unfold nk; rw [if_neg hm]) (by rw [idx_not hm]; exact e3) _ fun s5 => ⟨s5, ?_⟩)
            rw [nx]
            unfold nk
            rw [if_neg hm]
    · obtain ⟨s5, ee⟩ := he
      rw [List.length_map, List.take_length] at ee
      subst ee
      refine r_append 2 rfl (w_tupC m2 (w_freeze 4 ⟨_, rfl, _, rfl, ?_, r_nil ?_⟩))
      · rw [List.length_map]
        have : T1.length ≤ i := by
          have := hT1
          simp only at this
          exact this
        omega
      · refine ⟨.va d, .va (.list ((dyLine ks r).1.map .int)), s5, ?_, ?_⟩
        · rw [es, dyTab_snoc, hT, List.map_append]
          rfl
        · rw [es, dyTab_snoc, hT]
          have := (dyLine_len r ks).2
          simp only at hk ⊢
          omega
  · obtain ⟨s3, s4, s5, ee, _⟩ := he
    rw [← al.length, List.take_length] at ee
    subst ee
    refine r_ret (w_tupC m2 (w_freeze 2 ⟨_, rfl, fun d1 t' e ht' => ?_⟩))
    cases e
    rw [isTb_inj ht' ht]
    rfl
end
end K09

namespace K09
open PySem PySem.Spec PyProof.Rows L2 TL
section
variable {P : Program} {w : World} {K : PySem.W.Frag} {mg : Str → Option Value} {base : Heap} {k : Nat} {f : Addr} {fd : FuncData}
abbrev sDraw : Stmt := topS 12
theorem scDraw : FnScope ["m", "bound", "found", "spot", "cells", "extra", "cell", "blend"] ["m", "bound"] (defScope sDraw) := ⟨rfl, rfl, rfl, by decide +kernel, rfl, by decide +kernel, by decide +kernel⟩
theorem small_mul {i j : Int} (h1 : -1000000000000 ≤ i) (h2 : i ≤ 1000000000000) : CMul i j := .inl ⟨by omega, by omega⟩
theorem small_mulR {i j : Int} (h1 : -1000000000000 ≤ j) (h2 : j ≤ 1000000000000) : CMul i j := .inr ⟨by omega, by omega⟩
theorem ok_draw (F : Fun K "_law_draw" "_law_draw" sDraw f fd) (m1 : mg "int" = none) (m2 : mg "len" = none) : FnG P w K mg base (k + 1) f fd ["m", "bound"] (spM 1 preD postD) := by
  refine fnDraw F scDraw (by decide) fun A hg hr a l s p ns b hb1 hb2 h1 h2 h3 h4 h5 h6 => ?_
  have hu : A.units + 1 < cLine := hu_of hr
  refine r_if (wt_gt (w_dget 0 hu rfl (w_str ⟨_, kL, _, rfl, rfl, val_L, l, rfl, w_int ⟨0, rfl, ifd (fun hl => ?_) fun hl => ?_⟩⟩)))
  · refine r_asg 2 scDraw.nd (w_mod (w_intC m1 (w_dget 0 hu rfl (w_str ⟨_, kL, _, rfl, rfl, val_L, l, rfl, l, rfl, w_name 1 ⟨b, rfl, by omega, ?_⟩⟩))))
    refine r_dput 0 hu (w_fdiv (w_dget 0 hu rfl (w_str ⟨_, kL, _, rfl, rfl, val_L, l, rfl, w_name 1 ⟨b, rfl, ⟨by omega, by omega⟩, a, _, rfl, w_str ⟨_, kL, rfl, rfl, by show 4 < 100000; decide, ?_⟩⟩⟩)))
    rw [put_L]
    exact r_ret (w_name 2 ⟨_, _, rfl, h5, by omega, _, rfl, Int.emod_nonneg _ (by omega), Int.emod_lt_of_pos _ (by omega)⟩)
  · refine r_nil ?_
    refine r_asg 3 scDraw.nd (w_dget 0 hu rfl (w_str ⟨_, kP, _, rfl, rfl, val_P, ?_⟩))
    refine r_dput 0 hu (w_add (w_name 3 ⟨p, rfl, w_int ⟨1, rfl, a, _, rfl, w_str ⟨_, kP, rfl, rfl, by show 4 < 100000; decide, ?_⟩⟩⟩))
    rw [put_P]
    have sp : (-1000000000000 : Int) ≤ p ∧ p ≤ 1000000000000 := by omega
    refine r_par2 4 5 (w_dget 0 hu rfl (w_str ⟨_, kC, _, rfl, rfl, val_C, w_add (w_dget 0 hu rfl (w_str ⟨_, kS, _, rfl, rfl, val_S, s, rfl, w_mul (w_mul (w_int ⟨40503, rfl, w_name 3 ⟨p, rfl, small_mul (by decide) (by decide), _, rfl, w_name 3 ⟨p, rfl, small_mulR sp.1 sp.2, _, rfl, _, _, rfl, ?_⟩⟩⟩))⟩))⟩)) scDraw.nd (fun v hv => ?_)
    · generalize s + 40503 * p * p = ex
      have hlen : (ns.map PyData.int).length = ns.length := List.length_map ..
      have hpos : 0 < ns.length := by
        cases ns with
        | nil => exact absurd rfl h1
        | cons _ _ => exact Nat.succ_pos _
      -- cell = cells[int(spot) % len(cells)]
      have hj : 0 ≤ p % (ns.length : Int) ∧ p % (ns.length : Int) < ns.length := ⟨Int.emod_nonneg _ (by omega), Int.emod_lt_of_pos _ (by omega)⟩
      obtain ⟨j, ej⟩ := Int.eq_ofNat_of_zero_le hj.1
      have hjl : j < ns.length := by omega
      refine r_asg 6 scDraw.nd (w_sub (w_name 4 (w_mod (w_intC m1 (w_name 3 ⟨p, rfl, p, rfl, w_len m2 (w_name 4 ⟨ns.length, ?_, _, rfl, ?_, ns.map PyData.int, p % (ns.length : Int), .int ns[j], rfl, rfl, ?_, ?_⟩)⟩)))))
      · show some (ns.map PyData.int).length = _
        rw [hlen]
      · omega
      · rw [ej]
        exact atI_nat (by rw [List.getElem?_map, List.getElem?_eq_getElem hjl]; rfl)
      generalize ns[j] = c
      -- blend
      refine r_asg 7 scDraw.nd (w_mod (w_intC m1 (w_add (w_mul (w_name 6 ⟨c, rfl, w_add (w_mul (w_int ⟨2, rfl, w_name 3 ⟨p, rfl, small_mul (by decide) (by decide), _, rfl, w_int ⟨3, rfl, _, rfl, small_mulR (by omega) (by omega), _, rfl, w_name 5 ⟨ex, rfl, _, rfl, _, rfl, w_int ⟨2147483647, rfl, by decide, ?_⟩⟩⟩⟩⟩))⟩)))))
      generalize hb3 : (c * (2 * p + 3) + ex) % 2147483647 = b1
      have hb4 : 0 ≤ b1 ∧ b1 < 2147483647 := by rw [← hb3]; exact ⟨Int.emod_nonneg _ (by decide), Int.emod_lt_of_pos _ (by decide)⟩
      refine r_asg 7 scDraw.nd (w_mod (w_intC m1 (w_add (w_add (w_mul (w_name 7 ⟨b1, rfl, w_name 7 ⟨b1, rfl, small_mul (by omega) (by omega), _, rfl, w_mul (w_int ⟨69621, rfl, w_name 3 ⟨p, rfl, small_mul (by decide) (by decide), _, rfl, _, rfl, w_dget 0 hu rfl (w_str ⟨_, kS, _, rfl, rfl, val_S, s, rfl, _, rfl, _, rfl, w_int ⟨2147483629, rfl, by decide, ?_⟩⟩)⟩⟩)⟩⟩))))))
      generalize hb5 : (b1 * b1 + 69621 * p + s) % 2147483629 = b2
      have hb6 : 0 ≤ b2 ∧ b2 < 2147483629 := by rw [← hb5]; exact ⟨Int.emod_nonneg _ (by decide), Int.emod_lt_of_pos _ (by decide)⟩
      refine r_ret (w_mod (w_fdiv (w_mod (w_intC m1 (w_add (w_mul (w_name 7 ⟨b2, rfl, w_int ⟨48271, rfl, small_mul (by omega) (by omega), _, rfl, w_name 3 ⟨p, rfl, _, rfl, _, rfl, w_int ⟨2147483647, rfl, by decide, _, rfl, w_int ⟨11, rfl, ⟨by decide, by decide⟩, _, rfl, w_name 1 ⟨b, rfl, by omega, ?_⟩⟩⟩⟩⟩⟩)))))))
      exact ⟨l, p + 1, rfl, by omega, by omega, _, rfl, Int.emod_nonneg _ (by omega), Int.emod_lt_of_pos _ (by omega)⟩
    · cases v
      subst hv
      rfl
end
end K09

namespace K09
open PySem PySem.Spec PyProof.Rows L2 TL
section
variable {P : Program} {w : World} {K : PySem.W.Frag} {mg : Str → Option Value} {base : Heap} {k : Nat} {f : Addr} {fd : FuncData}
abbrev sMany : Stmt := topS 15
theorem scMany : FnScope ["dyeing_here", "row"] ["dyeing_here"] (defScope sMany) := ⟨rfl, rfl, rfl, by decide +kernel, rfl, by decide +kernel, by decide +kernel⟩
theorem ok_many (F : Fun K "_law_many" "_law_many" sMany f fd) (m1 : mg "max" = none) :
    FnG P w K mg base 1 f fd ["dyeing_here"] (spP preMy postMy) := by
  refine fnP F scMany (fun ds ⟨t, e, _⟩ => by rw [e]; rfl) fun A hg hr ds ⟨t, e, hne, hl⟩ => ?_
  subst e
  refine r_ret (w_if (wt_neD (by have := hr.units; exact this) (w_name 0 (w_tup ⟨Nat.zero_le _, shaped_tb t, by decide +kernel, ?_⟩))))
  rw [eqv_nil]
  cases t with
  | nil => exact w_int fun t e => ⟨0, rfl, .inl ⟨by cases t with | nil => rfl | cons _ _ => simp [tbT] at e, rfl⟩⟩
  | cons r0 t0 =>
    generalize ht : r0 :: t0 = t at *
    have htn : t ≠ [] := by rw [← ht]; exact List.cons_ne_nil _ _
    rw [show (!t.isEmpty) = true by rw [← ht]; rfl, if_pos rfl]
    refine w_add (w_int ⟨1, rfl, w_maxL m1 (w_lc 1 (t := none) (lc_seq (w_name 0 ⟨t.map rowT, rfl, by rw [List.length_map]; omega, cj_rel isMaxRow (fun d hd => ?_) fun acc a => ?_⟩)) scMany.nd)⟩)
    · obtain ⟨r, hrm, er⟩ := List.mem_map.mp hd
      subst er
      exact w_maxT (by have := hr.units; exact this) m1 (w_name 1 ⟨r, rfl, hne r hrm, fun m hm hy => ⟨fun r' e => by rw [← rowT_inj e]; exact ⟨m, hm, rfl, hy⟩, rfl⟩⟩)
    · obtain ⟨zs, e, al⟩ := maxRows a
      subst e
      refine ⟨zs, rfl, ⟨_, rfl⟩, fun z => ?_, fun m hm hy => ⟨m, rfl, fun t' e => ⟨1 + m, rfl, .inr ?_⟩⟩⟩
      · subst z
        exact htn (List.eq_nil_of_length_eq_zero al.length)
      · injection e with e _
        rw [← tbT_inj e]
        have e1 : (1 + m - 1 : Int) = m := by omega
        rw [e1]
        obtain ⟨q1, q2⟩ := All2.memR al
        refine ⟨?_, fun r hr x hx => ?_⟩
        · obtain ⟨r, hr, h1, _⟩ := q1 m hm
          exact ⟨r, hr, h1⟩
        · obtain ⟨z, hz, _, h2⟩ := q2 r hr
          exact Int.le_trans (h2 x hx) (hy z hz)
abbrev sLike : Stmt := topS 30
theorem scLike : FnScope ["told", "due"] ["told", "due"] (defScope sLike) := ⟨rfl, rfl, rfl, by decide +kernel, rfl, by decide +kernel, by decide +kernel⟩
theorem ok_like (F : Fun K "_law_like" "_law_like" sLike f fd) (m1 : mg "repr" = none) : FnG P w K mg base 1 f fd ["told", "due"] (spP preLk postLk) := by
  refine fnP F scLike (fun ds ⟨_, _, _, e, _⟩ => by rw [e]; rfl) fun A hg hr ds ⟨a, B, D, e, h1, h2, h3, h4⟩ => ?_
  subst e
  have hB : a.shown.length ≤ sizeLine := Nat.le_trans h2.ln (Nat.le_trans h3 (by decide))
  have hu : A.units + (a.depth + 1) < cLine := by
    have := hr.units
    have := h2.dp
    omega
  exact r_ret (w_eqF (w_repr m1 hg (w_name 0 ⟨h1, h2.sh, h2.nd, hB, hu, w_repr m1 hg (w_name 1 ⟨h1, h2.sh, h2.nd, hB, hu, _, _, rfl, rfl, rfl, congrArg PyData.bool (decide_eq_true rfl)⟩)⟩)))
end
end K09

namespace TL
open PySem PySem.Spec PyProof.Rows L2
def intsD : PyData → List PyData
  | .tuple xs => xs
  | .list xs => xs
  | _ => []
theorem ixN_of {n j : Nat} (h : j < n) : L2.ixN n (j : Int) = some j := by
  unfold L2.ixN
  rw [if_pos (by omega), if_pos (by omega), Int.toNat_natCast]
theorem rows_get {rs : Tb} {i : Nat} (h : i < rs.length) : (rs.map fun r => r.map PyData.int).getD i [] = (rs.getD i []).map .int := by
  rw [List.getD_eq_getElem?_getD, List.getElem?_map, List.getElem?_eq_getElem h, List.getD_eq_getElem?_getD, List.getElem?_eq_getElem h]
  rfl
theorem rows_set (rs : Tb) (i j : Nat) (v : Int) : (rs.map fun r => r.map PyData.int).set i (((rs.getD i []).map PyData.int).set j (.int v)) = (rs.set i ((rs.getD i []).set j v)).map fun r => r.map .int := by
  rw [List.map_set, List.map_set]
theorem sq_set {n : Nat} {rs : Tb} (h : Sq n rs) {i : Nat} (hi : i < n) (j : Nat) (v : Int) : Sq n (rs.set i ((rs.getD i []).set j v)) := by
  refine ⟨by rw [List.length_set]; exact h.1, fun r hr => ?_⟩
  rcases List.mem_or_eq_of_mem_set hr with z | z
  · exact h.2 r z
  · rw [z, List.length_set, List.getD_eq_getElem?_getD, List.getElem?_eq_getElem (by rw [h.1]; exact hi)]
    exact h.2 _ (List.getElem_mem _)
end TL
namespace K09
open PySem PySem.Spec PyProof.Rows L2 TL
section
variable {P : Program} {w : World} {K : PySem.W.Frag} {mg : Str → Option Value} {base : Heap} {k : Nat} {f : Addr} {fd : FuncData}
abbrev nBn : List Str := ["m", "dyeing_here", "n", "many", "word", "x", "y", "dye", "rows", "row", "one", "?0", "?1", "?2", "?3", "?4", "?5", "?6", "?7", "?8", "?9", "?10", "?11", "?12", "?13", "?14", "?15"]
abbrev sBn : Stmt := topS 34
theorem scBn : FnScope nBn ["m", "dyeing_here"] (defScope sBn) := ⟨rfl, rfl, rfl, by decide +kernel, rfl, by decide +kernel, by decide +kernel⟩
theorem ok_bn (F : Fun K "_law_bent" "_law_bent" sBn f fd) (m1 : mg "len" = none) (m2 : mg "list" = none) (DM : Dc P w K mg base "_law_many" 1 ["dyeing_here"] (spP preMy postMy)) (DD : Dc P w K mg base "_law_draw" 1 ["m", "bound"] (spM 1 preD postD)) (DY : Dc P w K mg base "_law_dyed" 1 ["rows"] (spP preDy postDy)) : FnG P w K mg base 2 f fd ["m", "dyeing_here"] (spM 4 preG postG) := by
  refine fnM F scBn (fun ds ⟨_, _, e, _⟩ => by rw [e]; rfl) fun A hg hr a n0 ds ⟨n, t, e, ht, hn⟩ hn0 => ?_
  subst e
  obtain ⟨fM, fdM, CM⟩ := DM.callee (N := nBn) (st := sBn) hr hg (by decide : 1 ≤ 1)
  obtain ⟨fD, fdD, CD⟩ := DD.callee (N := nBn) (st := sBn) hr hg (by decide : 1 ≤ 1)
  obtain ⟨fY, fdY, CY⟩ := DY.callee (N := nBn) (st := sBn) hr hg (by decide : 1 ≤ 1)
  have hs := ht.sq
  have lt : (t.map rowT).length = n := by rw [List.length_map, hs.1]
  have hmy := ht.mny_le
  have hnn : n * n ≤ 16 * 16 := Nat.mul_le_mul hn hn
  refine r_un3 2 3 4 (w_tup ?_) scBn.nd (by intro v hv; cases v; subst hv; rfl)
  refine w_len m1 (w_name 1 ⟨(t.map rowT).length, rfl, w_callP CM (w_name 1 ⟨dye_many ht hn, fun d pd => ?_⟩)⟩)
  obtain ⟨z, ez, hz⟩ := pd t rfl
  have hz := many_eq ht hz
  subst ez hz
  refine w_callM 0 CD rfl (w_int ⟨n0, rfl, by omega, ⟨4, rfl, by decide, by decide⟩, fun d n1 hn1 pd => ⟨by show 3 ≤ sizeLine; decide, _, _, _, rfl, ?_⟩⟩)
  obtain ⟨wd, e1, g1, g2⟩ := pd_int pd
  subst e1
  rw [lt]
  refine r_if (wt_eqI (w_name 2 ⟨(n : Int), rfl, w_int ⟨0, rfl, ifd (fun h => ?_) fun h => r_nil ?_⟩⟩))
  · exact r_ret (w_name 1 ⟨n1, rfl, by omega, postG_of ht rfl ht⟩)
  have hpos : 1 ≤ mny t := by
    have := ht.bd (x := 0) (y := 0) (by omega) (by omega)
    omega
  refine r_un3 5 6 7 (w_tup ?_) scBn.nd (by intro v hv; cases v; subst hv; rfl)
  refine w_callM 0 CD rfl (w_name 2 ⟨n1, rfl, by omega, ⟨(n : Int), rfl, by omega, by omega⟩, fun d2 n2 hn2 pd2 => ?_⟩)
  refine w_callM 0 CD rfl (w_name 2 ⟨n2, rfl, by omega, ⟨(n : Int), rfl, by omega, by omega⟩, fun d3 n3 hn3 pd3 => ?_⟩)
  refine w_callM 0 CD rfl (w_name 3 ⟨n3, rfl, by omega, ⟨(mny t : Int), rfl, by omega, by omega⟩, fun d4 n4 hn4 pd4 => ⟨by show 3 ≤ sizeLine; decide, _, _, _, rfl, ?_⟩⟩)
  obtain ⟨zx, e2, x1, x2⟩ := pd_int pd2
  obtain ⟨zy, e3, y1, y2⟩ := pd_int pd3
  obtain ⟨dy', e4, _, _⟩ := pd_int pd4
  obtain ⟨x, ex⟩ := Int.eq_ofNat_of_zero_le x1
  obtain ⟨y, ey⟩ := Int.eq_ofNat_of_zero_le y1
  subst e2 e3 e4 ex ey
  have hx : x < n := by omega
  have hy : y < n := by omega
  refine r_oll 8 9 11 true scBn.nd (wi_seq (w_name 1 ⟨t.map rowT, rfl, by omega, cn_map intsD (fun d hd => ?_) ?_⟩)) (hgh := by show ((nBn.drop 11).all fun x => ((defScope sBn).names.lookup x).isNone) = true; decide +kernel) (hsw := .inl ⟨rfl, rfl, fun v hv => by cases v; subst hv; rfl⟩)
  · obtain ⟨r, _, er⟩ := List.mem_map.mp hd
    subst er
    exact wn_list m2 (w_name 9 ⟨r.map .int, rfl, rfl, rfl⟩)
  have eds : (t.map rowT).map intsD = t.map fun r => r.map PyData.int := by rw [List.map_map]; rfl
  rw [eds]
  refine ⟨[.ms a n4, .va (tbT t), .va (.int (n : Int)), .va (.int (mny t : Int)), .va (.int wd), .va (.int (x : Int)), .va (.int (y : Int)), .va (.int dy'), .no, .no, .no], rfl, rfl, by decide, by rw [List.length_map, hs.1]; exact hn, fun D as hl => ?_⟩
  rw [List.length_map, hs.1] at hl
  show Rs _ _ ([.ms a n4, .va (tbT t), .va (.int (n : Int)), .va (.int (mny t : Int)), .va (.int wd), .va (.int (x : Int)), .va (.int (y : Int)), .va (.int dy'), .raw (.ref D) (lstφ D as), .no, .no] ++ gho as (t.map fun r => r.map PyData.int)) _
  -- the end
  have fin : ∀ (rs : Tb) (d0 d : PyData), Sq n rs → IsTb d0 rs → postDy [d0] d → postG [tbT t] d := fun rs d0 d hq hi pd => postG_of ht (pd d0 rs rfl hi) (dye_of hq)
  have pre : ∀ (rs : Tb) (d0 : PyData), Sq n rs → IsTb d0 rs → preDy [d0] := fun rs d0 hq hi => ⟨d0, rs, rfl, hi, by rw [hq.1]; exact hn, fun r hr => by rw [hq.2 r hr]; exact hn⟩
  have ld : ∀ (rs : Tb), (rs.map fun r => r.map PyData.int).map PyData.list = rs.map rowL := fun rs => by rw [List.map_map]; rfl
  -- one store
  have one : ∀ (rs : Tb), Sq n rs → rs.length = n := fun rs h => h.1
  obtain ⟨wz, ewz⟩ := Int.eq_ofNat_of_zero_le g1
  subst ewz
  have last : ∀ (rs : Tb), Sq n rs → Rs (GxOf P w K mg base nBn sBn A) ((defBody sBn).drop 8) ([.ms a n4, .va (tbT t), .va (.int (n : Int)), .va (.int (mny t : Int)), .va (.int (wz : Int)), .va (.int (x : Int)), .va (.int (y : Int)), .va (.int dy'), .raw (.ref D) (lstφ D as), .no, .no] ++ gho as (rs.map fun r => r.map PyData.int))
      { nx := fun e => ∃ n', e[0]? = some (.ms a n') ∧ n' ≤ n0 + 4 ∧ postG [tbT t] .none, rt := fun d e => ∃ n', e[0]? = some (.ms a n') ∧ n' ≤ n0 + 4 ∧ postG [tbT t] d } := fun rs hq => by
    refine r_ret (w_callP CY (w_frz2 8 11 rfl (by rw [List.length_map, hq.1]; exact hn) (by rw [List.length_map, hq.1]; exact hl) ?_))
    rw [ld rs]
    exact ⟨pre rs _ hq (isTb_L rs), fun d pd => ⟨n4, rfl, by omega, fin rs _ d hq (isTb_L rs) pd⟩⟩
  have has : ∀ q, q < n → as[q]? = some (as.getD q 0) := fun q h => by
    rw [List.getD_eq_getElem?_getD, List.getElem?_eq_getElem (by omega)]
    rfl
  have rl : ∀ (rs : Tb) (q : Nat), Sq n rs → q < n → ((rs.getD q []).map PyData.int).length = n := fun rs q h hq => by
    rw [List.length_map, List.getD_eq_getElem?_getD, List.getElem?_eq_getElem (by rw [h.1]; exact hq)]
    exact h.2 _ (List.getElem_mem _)
  have gat : ∀ (b : En) (rs : Tb) (q : Nat), b.length = 11 → Sq n rs → q < n → (b ++ gho as (rs.map fun r => r.map PyData.int))[11 + q]? = some (.oa (as.getD q 0) ((rs.getD q []).map .int)) := fun b rs q hb h hq => by
    rw [← rows_get (by rw [h.1]; exact hq)]
    exact gho_at hb (by rw [List.length_map, h.1]; exact hl) (by rw [List.length_map, h.1]; exact hn) (by rw [List.length_map, h.1]; exact hq)
  have gst : ∀ (b : En) (rs : Tb) (q j : Nat) (v : Int), b.length = 11 → Sq n rs → q < n → (b ++ gho as (rs.map fun r => r.map PyData.int)).set (11 + q) (.oa (as.getD q 0) (((rs.getD q []).map PyData.int).set j (.int v))) = b ++ gho as ((rs.set q ((rs.getD q []).set j v)).map fun r => r.map PyData.int) := fun b rs q j v hb h hq => by
    rw [gho_set hb (by rw [List.length_map, h.1]; exact hl) (by rw [List.length_map, h.1]; exact hn) (by rw [List.length_map, h.1]; exact hq), rows_set]
  have hw4 : wz = 0 ∨ wz = 1 ∨ wz = 2 ∨ wz = 3 := by omega
  rcases hw4 with e | e | e | e
  · subst e
    refine r_if (wt_eqI (w_name 4 ⟨0, rfl, w_int ⟨0, rfl, ifT rfl ?_⟩⟩))
    refine r_set2 8 (w_name 7 ⟨rfl, w_name 5 ⟨x, as.getD x 0, rfl, rfl, has x hx, w_name 6 ⟨11 + x, (t.getD x []).map .int, (y : Int), y, gat _ t x rfl hs hx, rfl, ixN_of (by rw [rl t x hs hx]; exact hy), ?_⟩⟩⟩)
    rw [gst _ t x y dy' rfl hs hx]
    refine r_nil (r_if (wt_eqI (w_name 4 ⟨0, rfl, w_int ⟨1, rfl, ifF rfl (r_nil ?_)⟩⟩)))
    refine r_if (wt_eqI (w_name 4 ⟨0, rfl, w_int ⟨2, rfl, ifF rfl (r_nil ?_)⟩⟩))
    refine r_if (wt_eqI (w_name 4 ⟨0, rfl, w_int ⟨3, rfl, ifF rfl (r_nil ?_)⟩⟩))
    exact last _ (sq_set hs hx y dy')
  · subst e
    refine r_if (wt_eqI (w_name 4 ⟨1, rfl, w_int ⟨0, rfl, ifF rfl (r_nil ?_)⟩⟩))
    refine r_if (wt_eqI (w_name 4 ⟨1, rfl, w_int ⟨1, rfl, ifT rfl ?_⟩⟩))
    refine r_set2 8 (w_name 3 ⟨rfl, w_name 5 ⟨x, as.getD x 0, rfl, rfl, has x hx, w_name 6 ⟨11 + x, (t.getD x []).map .int, (y : Int), y, gat _ t x rfl hs hx, rfl, ixN_of (by rw [rl t x hs hx]; exact hy), ?_⟩⟩⟩)
    rw [gst _ t x y (mny t : Int) rfl hs hx]
    refine r_nil (r_if (wt_eqI (w_name 4 ⟨1, rfl, w_int ⟨2, rfl, ifF rfl (r_nil ?_)⟩⟩)))
    refine r_if (wt_eqI (w_name 4 ⟨1, rfl, w_int ⟨3, rfl, ifF rfl (r_nil ?_)⟩⟩))
    exact last _ (sq_set hs hx y (mny t : Int))
  · subst e
    refine r_if (wt_eqI (w_name 4 ⟨2, rfl, w_int ⟨0, rfl, ifF rfl (r_nil ?_)⟩⟩))
    refine r_if (wt_eqI (w_name 4 ⟨2, rfl, w_int ⟨1, rfl, ifF rfl (r_nil ?_)⟩⟩))
    refine r_if (wt_eqI (w_name 4 ⟨2, rfl, w_int ⟨2, rfl, ifT rfl ?_⟩⟩))
    refine r_lc 8 9 false true (t := none) (lc_seq (w_frz2 8 11 rfl (by rw [List.length_map, hs.1]; exact hn) (by rw [List.length_map, hs.1]; exact hl) ?_)) scBn.nd (hsw := .inl ⟨rfl, rfl, fun v hv => by cases v; subst hv; rfl⟩)
    rw [ld t]
    refine ⟨t.map rowL, rfl, by rw [List.length_map, hs.1]; omega, cj_rel (fun d z => ∀ r, d = rowL r → z = rowL (r.map fun one => if one = (mny t : Int) - 1 then dy' else one)) (fun d hd => ?_) fun acc al => ⟨by show 8 < 27; decide, ?_⟩⟩
    · obtain ⟨r, hr, er⟩ := List.mem_map.mp hd
      subst er
      refine w_lc 10 (t := none) (lc_seq (w_name 9 ⟨r.map .int, rfl, by rw [List.length_map, hs.2 r hr]; omega, cj_rel (fun d z => ∀ i : Int, d = .int i → z = .int (if i = (mny t : Int) - 1 then dy' else i)) (fun d hd => ?_) fun acc al => ⟨fun r' e => ?_, rfl⟩⟩)) scBn.nd
      · obtain ⟨i, _, ei⟩ := mem_ints hd
        subst ei
        refine w_if (wt_eqI (w_name 10 ⟨i, rfl, w_minus (w_name 3 ⟨(mny t : Int), rfl, w_int ⟨1, rfl, _, rfl, ifd (fun h => ?_) fun h => ?_⟩⟩)⟩))
        · refine w_name 7 ⟨fun i' e => ?_, rfl⟩
          injection e with e
          rw [← e, if_pos h]
        · refine w_name 10 ⟨fun i' e => ?_, rfl⟩
          injection e with e
          rw [← e, if_neg h]
      · rw [all2_fmap (g := PyData.int) (F := fun i => .int (if i = (mny t : Int) - 1 then dy' else i)) al]
        have e2 : r = r' := by
          unfold rowL at e
          injection e with e
          exact ints_injS e
        rw [← e2]
        unfold rowL
        rw [List.map_map]
        rfl
    · rw [all2_fmap (g := rowL) (F := fun r => rowL (r.map fun one => if one = (mny t : Int) - 1 then dy' else one)) al]
      have eT : (t.map fun r => rowL (r.map fun one => if one = (mny t : Int) - 1 then dy' else one)) = ((t.map fun r => r.map fun one => if one = (mny t : Int) - 1 then dy' else one)).map rowL := by rw [List.map_map]; rfl
      rw [eT]
      have hq : Sq n (t.map fun r => r.map fun one => if one = (mny t : Int) - 1 then dy' else one) := ⟨by rw [List.length_map]; exact hs.1, fun r hr => by
        obtain ⟨s, hs2, e⟩ := List.mem_map.mp hr
        rw [← e, List.length_map]
        exact hs.2 s hs2⟩
      generalize (t.map fun r => r.map fun one => if one = (mny t : Int) - 1 then dy' else one) = rs at *
      refine r_nil (r_if (wt_eqI (w_name 4 ⟨2, rfl, w_int ⟨3, rfl, ifF rfl (r_nil ?_)⟩⟩)))
      exact r_ret (w_callP CY (w_name 8 ⟨pre rs _ hq (isTb_L rs), fun d pd => ⟨n4, rfl, by omega, fin rs _ d hq (isTb_L rs) pd⟩⟩))
  · subst e
    refine r_if (wt_eqI (w_name 4 ⟨3, rfl, w_int ⟨0, rfl, ifF rfl (r_nil ?_)⟩⟩))
    refine r_if (wt_eqI (w_name 4 ⟨3, rfl, w_int ⟨1, rfl, ifF rfl (r_nil ?_)⟩⟩))
    refine r_if (wt_eqI (w_name 4 ⟨3, rfl, w_int ⟨2, rfl, ifF rfl (r_nil ?_)⟩⟩))
    refine r_if (wt_eqI (w_name 4 ⟨3, rfl, w_int ⟨3, rfl, ifT rfl ?_⟩⟩))
    refine r_set22 8 (D := D) (as := as) (w_tup (w_name 3 (w_name 3 ⟨by show 2 ≤ sizeLine; decide, .int (mny t : Int), .int (mny t : Int), rfl, rfl, w_name 5 ⟨x, as.getD x 0, rfl, rfl, has x hx, w_name 6 ⟨11 + x, (t.getD x []).map .int, (y : Int), y, gat _ t x rfl hs hx, rfl, ixN_of (by rw [rl t x hs hx]; exact hy), ?_⟩⟩⟩))) (by intro v hv; cases v; subst hv; rfl)
    rw [gst _ t x y (mny t : Int) rfl hs hx]
    have h1 := sq_set hs hx y (mny t : Int)
    generalize t.set x ((t.getD x []).set y (mny t : Int)) = rs at *
    refine ⟨rfl, w_name 6 ⟨y, as.getD y 0, rfl, rfl, has y hy, w_name 5 ⟨11 + y, (rs.getD y []).map .int, (x : Int), x, gat _ rs y rfl h1 hy, rfl, ixN_of (by rw [rl rs y h1 hy]; exact hx), ?_⟩⟩⟩
    rw [gst _ rs y x (mny t : Int) rfl h1 hy]
    exact r_nil (last _ (sq_set h1 hy x (mny t : Int)))
end
end K09

namespace K09
open PySem PySem.Spec PyProof.Rows L2 TL
section
variable {P : Program} {w : World} {K : PySem.W.Frag} {mg : Str → Option Value} {base : Heap} {k : Nat} {f : Addr} {fd : FuncData}
abbrev sOf : Stmt := topS 13
theorem scOf : FnScope ["m", "some"] ["m", "some"] (defScope sOf) := ⟨rfl, rfl, rfl, by decide +kernel, rfl, by decide +kernel, by decide +kernel⟩
theorem ok_of (F : Fun K "_law_of" "_law_of" sOf f fd) (m1 : mg "len" = none) (D : Dc P w K mg base "_law_draw" 1 ["m", "bound"] (spM 1 preD postD)) : FnG P w K mg base 2 f fd ["m", "some"] (spM 1 preOf postOf) := by
  refine fnM F scOf (fun ds ⟨_, e, _⟩ => by rw [e]; rfl) fun A hg hr a n ds ⟨xs, e, hne, hl⟩ hn => ?_
  subst e
  obtain ⟨fD, fdD, C⟩ := D.callee (N := ["m", "some"]) (st := sOf) hr hg (Nat.le_refl _)
  have hpos : 0 < xs.length := by
    cases xs with
    | nil => exact absurd rfl hne
    | cons _ _ => exact Nat.succ_pos _
  refine r_ret (w_sub (w_name 1 (w_callM 0 C rfl (w_len m1 (w_name 1 ⟨xs.length, rfl, n, rfl, hn, ⟨_, rfl, by omega, by omega⟩, fun d n' hn' pd => ?_⟩)))))
  obtain ⟨b, i, e1, e2, i0, i1⟩ := pd
  injection e1 with e1 _
  injection e1 with e1
  subst e1 e2
  obtain ⟨x, hx, ex⟩ := atI_int (l := xs) i0 (by omega)
  exact ⟨xs, i, x, rfl, rfl, ex, n', rfl, hn', xs, rfl, hx⟩
end
end K09

namespace K09
open PySem PySem.Spec PyProof.Rows L2 TL
section
variable {P : Program} {w : World} {K : PySem.W.Frag} {mg : Str → Option Value} {base : Heap} {k : Nat} {f : Addr} {fd : FuncData}
abbrev sDrawn : Stmt := topS 19
abbrev nDrawn : List Str := ["m", "most", "n", "word", "top", "rows", "x", "y", "i", "j"]
theorem scDrawn : FnScope nDrawn ["m", "most"] (defScope sDrawn) := ⟨rfl, rfl, rfl, by decide +kernel, rfl, by decide +kernel, by decide +kernel⟩
theorem sq_at {n : Nat} {t : Tb} (h : Sq n t) {i j : Int} (hi : 0 ≤ i ∧ i < n) (hj : 0 ≤ j ∧ j < n) : ∃ r z, atI (t.map rowL) i = some (rowL r) ∧ atI (r.map PyData.int) j = some (.int z) := by
  obtain ⟨a, ea⟩ := Int.eq_ofNat_of_zero_le hi.1
  obtain ⟨b, eb⟩ := Int.eq_ofNat_of_zero_le hj.1
  have ha : a < t.length := by have := h.1; omega
  have hr := h.2 t[a] (List.getElem_mem ha)
  have hb : b < t[a].length := by omega
  refine ⟨t[a], t[a][b], ?_, ?_⟩
  · rw [ea]
    exact atI_nat (by rw [List.getElem?_map, List.getElem?_eq_getElem ha]; rfl)
  · rw [eb]
    exact atI_nat (by rw [List.getElem?_map, List.getElem?_eq_getElem hb]; rfl)
theorem ok_drawn (F : Fun K "_law_drawn" "_law_drawn" sDrawn f fd) (m1 : mg "range" = none) (m2 : mg "min" = none) (m3 : mg "max" = none) (m4 : mg "int" = none) (D : Dc P w K mg base "_law_draw" 1 ["m", "bound"] (spM 1 preD postD)) (D2 : Dc P w K mg base "_law_dyed" 1 ["rows"] (spP preDy postDy)) :
    FnG P w K mg base 2 f fd ["m", "most"] (spM 1000 preDr postDr) := by
  refine fnM F scDrawn (fun ds ⟨_, e, _⟩ => by rw [e]; rfl) fun A hg hr a n0 ds ⟨kk, e, hk⟩ hn0 => ?_
  subst e
  obtain ⟨fD, fdD, C⟩ := D.callee (N := nDrawn) (st := sDrawn) hr hg (Nat.le_refl _)
  obtain ⟨fE, fdE, CE⟩ := D2.callee (N := nDrawn) (st := sDrawn) hr hg (Nat.le_refl _)
  have hl0 : (LIM : Nat) = 1000000000 := rfl
  refine r_un3 2 3 4 (w_tup (w_callM 0 C rfl (w_add (w_name 1 ⟨kk, rfl, w_int ⟨1, rfl, n0, rfl, by omega, ⟨_, rfl, by omega, by omega⟩, fun d1 n1 hn1 pd1 => ?_⟩⟩)))) scDrawn.nd (by intro v hv; cases v; subst hv; rfl)
  refine w_callM 0 C rfl (w_int ⟨n1, rfl, by omega, ⟨_, rfl, by decide, by decide⟩, fun d2 n2 hn2 pd2 => w_add (w_int ⟨1, rfl, w_callM 0 C rfl (w_int ⟨n2, rfl, by omega, ⟨_, rfl, by decide, by decide⟩, fun d3 n3 hn3 pd3 => ?_⟩)⟩)⟩)
  obtain ⟨nn, e1, g1, g2⟩ := pd_int pd1
  obtain ⟨wd, e2, g3, g4⟩ := pd_int pd2
  obtain ⟨tp, e3, g5, g6⟩ := pd_int pd3
  subst e1 e2 e3
  obtain ⟨n, en⟩ := Int.eq_ofNat_of_zero_le g1
  subst en
  refine ⟨tp, rfl, by show 3 ≤ sizeLine; decide, _, _, _, rfl, ?_⟩
  have hn : n ≤ 16 := by omega
  have hnn : n * n ≤ 256 := Nat.mul_le_mul hn hn
  -- rows, drawn
  refine r_lc 5 6 false false (t := none) (wi_rg m1 (w_name 2 ⟨(n : Int), rfl, by omega, by omega, ?_⟩)) scDrawn.nd (hsw := .inr ⟨rfl, fun v hv => by cases v; subst hv; rfl⟩)
  rw [Int.toNat_natCast]
  refine ⟨by rw [rgD_len]; omega, cj_grid (jy := 7) (fun c e => ∃ n', e = [.ms a n', .va (.int kk), .va (.int (n : Int)), .va (.int wd), .va (.int (1 + tp)), .no, .no, .no, .no, .no] ∧ n' ≤ n3 + c) (by omega) m1 scDrawn.nd ⟨n3, rfl, Nat.le_refl _⟩
    (fun c e ⟨n', ee, _⟩ => by subst ee; rfl) (fun c e i ⟨n', ee, _⟩ => by subst ee; rfl) (fun c e i ⟨n', ee, _⟩ => by subst ee; exact w_name 2 ⟨rfl, rfl⟩) (fun c e i j hi hj hc ⟨n', ee, h1⟩ => ?_) fun t e ht ⟨n', ee, h1⟩ => ?_⟩
  · subst ee
    refine w_callM 0 ((C.blk _).blk _) rfl (w_name 4 ⟨n', rfl, by omega, ⟨1 + tp, rfl, by omega, by omega⟩, fun d n4 hn4 pd => ?_⟩)
    obtain ⟨z, ez, _, _⟩ := pd_int pd
    exact ⟨⟨z, ez⟩, _, ⟨n4, rfl, by omega⟩, rfl⟩
  subst ee
  refine ⟨by show 5 < 10; decide, ?_⟩
  -- what follows, from any table
  let N0 : DE := { nx := fun e => ∃ n', e[0]? = some (.ms a n') ∧ n' ≤ n0 + 1000 ∧ postDr [.int kk] .none, rt := fun d e => ∃ n', e[0]? = some (.ms a n') ∧ n' ≤ n0 + 1000 ∧ postDr [.int kk] d }
  let G0 : Gx := GxOf P w K mg base nDrawn sDrawn A
  have k6 : ∀ (t : Tb) (s6 s7 s8 s9 : Sl) (n' : Nat), Sq n t → n' ≤ n0 + 900 → Rs G0 ((defBody sDrawn).drop 6) [.ms a n', .va (.int kk), .va (.int (n : Int)), .va (.int wd), .va (.int (1 + tp)), .va (tbL t), s6, s7, s8, s9] N0 := by
    intro t s6 s7 s8 s9 n' ht hn'
    refine r_ret (w_callP CE (w_name 5 ⟨⟨tbL t, t, rfl, isTb_L t, by have := ht.1; omega, fun r hr => by have := ht.2 r hr; omega⟩, fun d pd => ⟨n', rfl, by omega, kk, n, t, rfl, pd _ t rfl (isTb_L t), ht, by omega⟩⟩))
  have k5 : ∀ (t : Tb) (n' : Nat), Sq n t → n' ≤ n0 + 600 → Rs G0 ((defBody sDrawn).drop 5) [.ms a n', .va (.int kk), .va (.int (n : Int)), .va (.int wd), .va (.int (1 + tp)), .va (tbL t), .no, .no, .no, .no] N0 := by
    intro t n' ht hn'
    refine r_if (wt_and (wt_eqI (w_name 3 ⟨wd, rfl, w_int ⟨4, rfl, ifd (fun hw => wt_gt (w_name 2 ⟨(n : Int), rfl, w_int ⟨0, rfl, ifd (fun hp => ?_) fun _ => r_nil (k6 t _ _ _ _ n' ht (by omega))⟩⟩)) fun _ => ifF rfl (r_nil (k6 t _ _ _ _ n' ht (by omega)))⟩⟩)))
    refine r_un2 6 7 (w_tup (w_callM 0 C rfl (w_name 2 ⟨n', rfl, by omega, ⟨(n : Int), rfl, by omega, by omega⟩, fun d1 n1 hn1 pd1 => w_callM 0 C rfl (w_name 2 ⟨n1, rfl, by omega, ⟨(n : Int), rfl, by omega, by omega⟩, fun d2 n2 hn2 pd2 => ?_⟩)⟩))) scDrawn.nd (by intro v hv; cases v; subst hv; rfl)
    obtain ⟨xx, ex, _, _⟩ := pd_int pd1
    obtain ⟨yy, ey, _, _⟩ := pd_int pd2
    subst ex ey
    refine ⟨by show 2 ≤ sizeLine; decide, _, _, rfl, ?_⟩
    refine r_lc 5 8 false false (t := none) (wi_rg m1 (w_name 2 ⟨(n : Int), rfl, by omega, by omega, ?_⟩)) scDrawn.nd (hsw := .inr ⟨rfl, fun v hv => by cases v; subst hv; rfl⟩)
    rw [Int.toNat_natCast]
    refine ⟨by rw [rgD_len]; omega, cj_grid (jy := 9) (fun c e => e = [.ms a n2, .va (.int kk), .va (.int (n : Int)), .va (.int wd), .va (.int (1 + tp)), .va (tbL t), .va (.int xx), .va (.int yy), .no, .no]) (by omega) m1 scDrawn.nd rfl
      (fun c e ee => by subst ee; rfl) (fun c e i ee => by subst ee; rfl) (fun c e i ee => by subst ee; exact w_name 2 ⟨rfl, rfl⟩) (fun c e i j hi hj hc ee => ?_) fun t2 e ht2 ee => ?_⟩
    · subst ee
      refine w_intC m4 (w_and (w_eqI (w_name 8 ⟨(i : Int), rfl, w_name 6 ⟨xx, rfl, _, rfl, ifb (fun _ => w_eqI (w_name 9 ⟨(j : Int), rfl, w_name 7 ⟨yy, rfl, _, rfl, ⟨_, rfl⟩, _, rfl, rfl⟩⟩)) fun _ => ⟨_, rfl, ⟨_, rfl⟩, _, rfl, rfl⟩⟩⟩)))
    · subst ee
      exact ⟨by show 5 < 10; decide, r_nil (k6 t2 _ _ _ _ n2 ht2 (by omega))⟩
  -- a grid made of the rows alone
  have k4 : ∀ (t : Tb) (n' : Nat), Sq n t → n' ≤ n0 + 600 → Rs G0 ((defBody sDrawn).drop 4) [.ms a n', .va (.int kk), .va (.int (n : Int)), .va (.int wd), .va (.int (1 + tp)), .va (tbL t), .no, .no, .no, .no] N0 := by
    intro t n' ht hn'
    refine r_if (wt_and (wt_eqI (w_name 3 ⟨wd, rfl, w_int ⟨3, rfl, ifd (fun hw => wt_gt (w_name 2 ⟨(n : Int), rfl, w_int ⟨0, rfl, ifd (fun hp => ?_) fun _ => r_nil (k5 t n' ht hn')⟩⟩)) fun _ => ifF rfl (r_nil (k5 t n' ht hn'))⟩⟩)))
    refine r_lc 5 6 false false (t := none) (wi_rg m1 (w_name 2 ⟨(n : Int), rfl, by omega, by omega, ?_⟩)) scDrawn.nd (hsw := .inr ⟨rfl, fun v hv => by cases v; subst hv; rfl⟩)
    rw [Int.toNat_natCast]
    refine ⟨by rw [rgD_len]; omega, cj_grid (jy := 7) (fun c e => e = [.ms a n', .va (.int kk), .va (.int (n : Int)), .va (.int wd), .va (.int (1 + tp)), .va (tbL t), .no, .no, .no, .no]) (by omega) m1 scDrawn.nd rfl
      (fun c e ee => by subst ee; rfl) (fun c e i ee => by subst ee; rfl) (fun c e i ee => by subst ee; exact w_name 2 ⟨rfl, rfl⟩) (fun c e i j hi hj hc ee => ?_) fun t2 e ht2 ee => ?_⟩
    · subst ee
      obtain ⟨r, z, h1, h2⟩ := sq_at ht (i := 0) (j := ((j : Int) - (i : Int)) % (n : Int)) ⟨by omega, by omega⟩ ⟨Int.emod_nonneg _ (by omega), Int.emod_lt_of_pos _ (by omega)⟩
      refine w_sub (w_sub (w_name 5 (w_int ⟨_, _, _, rfl, rfl, h1, w_mod (w_intC m4 (w_minus (w_name 7 ⟨(j : Int), rfl, w_name 6 ⟨(i : Int), rfl, _, rfl, _, rfl, w_name 2 ⟨(n : Int), rfl, by omega, _, _, _, rfl, rfl, h2, ⟨z, rfl⟩, _, rfl, rfl⟩⟩⟩)))⟩)))
    · subst ee
      exact ⟨by show 5 < 10; decide, r_nil (k5 t2 n' ht2 hn')⟩
  have k3 : ∀ (t : Tb) (n' : Nat), Sq n t → n' ≤ n0 + 600 → Rs G0 ((defBody sDrawn).drop 3) [.ms a n', .va (.int kk), .va (.int (n : Int)), .va (.int wd), .va (.int (1 + tp)), .va (tbL t), .no, .no, .no, .no] N0 := by
    intro t n' ht hn'
    refine r_if (wt_eqI (w_name 3 ⟨wd, rfl, w_int ⟨2, rfl, ifd (fun hw => ?_) fun _ => r_nil (k4 t n' ht hn')⟩⟩))
    refine r_lc 5 6 false false (t := none) (wi_rg m1 (w_name 2 ⟨(n : Int), rfl, by omega, by omega, ?_⟩)) scDrawn.nd (hsw := .inr ⟨rfl, fun v hv => by cases v; subst hv; rfl⟩)
    rw [Int.toNat_natCast]
    refine ⟨by rw [rgD_len]; omega, cj_grid (jy := 7) (fun c e => e = [.ms a n', .va (.int kk), .va (.int (n : Int)), .va (.int wd), .va (.int (1 + tp)), .va (tbL t), .no, .no, .no, .no]) (by omega) m1 scDrawn.nd rfl
      (fun c e ee => by subst ee; rfl) (fun c e i ee => by subst ee; rfl) (fun c e i ee => by subst ee; exact w_name 2 ⟨rfl, rfl⟩) (fun c e i j hi hj hc ee => ?_) fun t2 e ht2 ee => ?_⟩
    · subst ee
      obtain ⟨r, z, h1, h2⟩ := sq_at ht (i := if (j : Int) < (i : Int) then (j : Int) else (i : Int)) (j := if (j : Int) > (i : Int) then (j : Int) else (i : Int)) (by constructor <;> split <;> omega) (by constructor <;> split <;> omega)
      refine w_if (wt_neI (w_name 6 ⟨(i : Int), rfl, w_name 7 ⟨(j : Int), rfl, ifn (fun _ => ?_) fun _ => w_name 4 ⟨⟨_, rfl⟩, _, rfl, rfl⟩⟩⟩))
      exact w_sub (w_sub (w_name 5 (w_min2 m2 (w_name 6 (w_name 7 ⟨_, _, rfl, _, _, _, rfl, rfl, h1, w_max2 m3 (w_name 6 (w_name 7 ⟨_, _, rfl, _, _, _, rfl, rfl, h2, ⟨z, rfl⟩, _, rfl, rfl⟩))⟩)))))
    · subst ee
      exact ⟨by show 5 < 10; decide, r_nil (k4 t2 n' ht2 hn')⟩
  have k2 : ∀ (t : Tb) (n' : Nat), Sq n t → n' ≤ n0 + 600 → Rs G0 ((defBody sDrawn).drop 2) [.ms a n', .va (.int kk), .va (.int (n : Int)), .va (.int wd), .va (.int (1 + tp)), .va (tbL t), .no, .no, .no, .no] N0 := by
    intro t n' ht hn'
    refine r_if (wt_eqI (w_name 3 ⟨wd, rfl, w_int ⟨1, rfl, ifd (fun hw => ?_) fun _ => r_nil (k3 t n' ht hn')⟩⟩))
    refine r_lc 5 6 false false (t := none) (wi_rg m1 (w_name 2 ⟨(n : Int), rfl, by omega, by omega, ?_⟩)) scDrawn.nd (hsw := .inr ⟨rfl, fun v hv => by cases v; subst hv; rfl⟩)
    rw [Int.toNat_natCast]
    refine ⟨by rw [rgD_len]; omega, cj_grid (jy := 7) (fun c e => e = [.ms a n', .va (.int kk), .va (.int (n : Int)), .va (.int wd), .va (.int (1 + tp)), .va (tbL t), .no, .no, .no, .no]) (by omega) m1 scDrawn.nd rfl
      (fun c e ee => by subst ee; rfl) (fun c e i ee => by subst ee; rfl) (fun c e i ee => by subst ee; exact w_name 2 ⟨rfl, rfl⟩) (fun c e i j hi hj hc ee => ?_) fun t2 e ht2 ee => ?_⟩
    · subst ee
      obtain ⟨r, z, h1, h2⟩ := sq_at ht (i := if (j : Int) < (i : Int) then (j : Int) else (i : Int)) (j := if (j : Int) > (i : Int) then (j : Int) else (i : Int)) (by constructor <;> split <;> omega) (by constructor <;> split <;> omega)
      exact w_sub (w_sub (w_name 5 (w_min2 m2 (w_name 6 (w_name 7 ⟨_, _, rfl, _, _, _, rfl, rfl, h1, w_max2 m3 (w_name 6 (w_name 7 ⟨_, _, rfl, _, _, _, rfl, rfl, h2, ⟨z, rfl⟩, _, rfl, rfl⟩))⟩)))))
    · subst ee
      exact ⟨by show 5 < 10; decide, r_nil (k3 t2 n' ht2 hn')⟩
  exact k2 t n' ht (by omega)
end
end K09

namespace K09
open PySem PySem.Spec PyProof.Rows L2 TL
section
variable {P : Program} {w : World} {K : PySem.W.Frag} {mg : Str → Option Value} {base : Heap} {k : Nat} {f : Addr} {fd : FuncData}
abbrev sBeg : Stmt := topS 11
abbrev nBeg : List Str := ["script", "k", "cells", "great", "seed", "cell"]
theorem scBeg : FnScope nBeg ["script", "k"] (defScope sBeg) := ⟨rfl, rfl, rfl, by decide +kernel, rfl, by decide +kernel, by decide +kernel⟩
theorem ok_beg (F : Fun K "_law_begun" "_law_begun" sBeg f fd) (m1 : mg "int" = none) : FnG P w K mg base 1 f fd ["script", "k"] (spB K) := by
  refine fnB F scBeg fun A hg hr a j ns hj hl => ?_
  refine r_asg 2 scBeg.nd (w_cat (w_rawFrom 0 rfl (fun _ h => h) (w_name 1 ⟨_, rfl, rfl, fun u1 l1 => ⟨_, rfl, w_rawTo 0 rfl (fun _ h => h) (w_name 1 ⟨_, rfl, rfl, fun u2 l2 => ⟨_, rfl, ?_, ?_⟩⟩)⟩⟩)))
  · rw [List.length_map, List.length_map]
    exact Nat.le_trans (show u1.length + u2.length ≤ 200 by omega) (by decide)
  rw [← List.map_append]
  have hcl : (u1 ++ u2).length ≤ 126 := by rw [List.length_append]; omega
  generalize u1 ++ u2 = cs at *
  refine r_lc 3 5 false true (t := some _) (lc_seq (w_name 2 ⟨cs.map .int, rfl, by rw [List.length_map]; omega, cj_filter (fun d => match d with | .int y => decide ((10 : Int) ^ 18 ≤ y) | _ => false) (fun d hd => ?_) (fun d hd => w_name 5 ⟨rfl, rfl⟩) ⟨by show 3 < 6; decide, ?_⟩⟩)) scBeg.nd (hsw := .inl ⟨rfl, rfl, fun v hv => by cases v; subst hv; rfl⟩)
  · obtain ⟨y, hy, ey⟩ := mem_ints hd
    subst ey
    exact wt_ge (w_name 5 ⟨y, rfl, w_pow (w_int ⟨10, rfl, w_int ⟨18, rfl, ⟨by decide, by decide, by decide⟩, _, rfl, rfl, rfl⟩⟩)⟩)
  have ef : (cs.map PyData.int).filter (fun d => match d with | .int y => decide ((10 : Int) ^ 18 ≤ y) | _ => false) = (cs.filter fun y => decide ((10 : Int) ^ 18 ≤ y)).map PyData.int := by
    rw [List.filter_map]
    rfl
  rw [ef]
  generalize cs.filter (fun y => decide ((10 : Int) ^ 18 ≤ y)) = gs
  refine r_asg 4 scBeg.nd (w_add (w_int ⟨71, rfl, w_name 1 ⟨_, rfl, ?_⟩⟩))
  refine r_for 5 scBeg.nd (wi_seq (w_name 2 ⟨cs.map .int, rfl, fun i e => ∃ (s : Int) (s5 : Sl), 0 ≤ s ∧ s < 2147483647 ∧ e = [.raw (.ref a) (scφ K a ns), .va (.int (j : Int)), .va (.list (cs.map .int)), .va (.list (gs.map .int)), .va (.int s), s5],
    ⟨71 + (j : Int), .no, by omega, by omega, rfl⟩, fun i d e ed he => ?_, fun e he => ?_⟩))
  · obtain ⟨s, s5, h1, h2, ee⟩ := he
    subst ee
    obtain ⟨y, hy, ey⟩ := mem_ints (List.mem_of_getElem? ed)
    subst ey
    refine r_asg 4 scBeg.nd (w_mod (w_intC m1 (w_add (w_mul (w_name 4 ⟨s, rfl, w_int ⟨48271, rfl, small_mul (by omega) (by omega), _, rfl, w_name 5 ⟨y, rfl, _, rfl, _, rfl, w_int ⟨2147483647, rfl, by decide, r_nil ?_⟩⟩⟩⟩)))))
    exact ⟨_, _, Int.emod_nonneg _ (by decide), Int.emod_lt_of_pos _ (by decide), rfl⟩
  · obtain ⟨s, s5, h1, h2, ee⟩ := he
    subst ee
    refine r_retDict (w_if (wt_neD (by have := hr.units; exact this) (w_name 3 (w_lst ⟨Nat.zero_le _, ?_, by decide +kernel, ?_⟩)))) mergeK4
    · show SeqAt.shaped (.list (gs.map .int)) = true
      unfold SeqAt.shaped
      have c1 : (PyData.list (gs.map PyData.int)).canLay0 = true := by
        simp only [PyData.canLay0]
        exact canAll _ (fun i => by simp [PyData.canLay0]) gs
      have c2 : (PyData.list (gs.map PyData.int)).depth ≤ 64 := by
        simp only [PyData.depth]
        have := dep_ints gs
        omega
      rw [c1, decide_eq_true c2]
      rfl
    · have hge : PyData.eqv (.list (gs.map .int)) (.list []) = gs.isEmpty := by
        cases gs with
        | nil => simp [PyData.eqv, PyData.eqvAll]
        | cons r t => simp [PyData.eqv, PyData.eqvAll]
      rw [hge]
      cases gs with
      | nil =>
        refine ifF rfl (w_int (w_name 4 (w_cat (w_name 2 ⟨_, rfl, w_lst (w_add (w_mul (w_int ⟨53, rfl, w_name 1 ⟨_, rfl, small_mul (by decide) (by decide), _, rfl, w_int ⟨11, rfl, ?_, _, rfl, ?_, w_int ?_⟩⟩⟩)))⟩))))
        · show 1 ≤ sizeLine
          decide
        · rw [List.length_map]
          exact Nat.le_trans (show cs.length + 1 ≤ 200 by omega) (by decide)
        · refine ⟨_, _, _, _, rfl, 0, s, cs ++ [53 * (j : Int) + 11], 0, ?_, by simp, by rw [List.length_append]; show cs.length + 1 ≤ 200; omega, h1, h2, rfl⟩
          unfold msD
          rw [List.map_append]
          rfl
      | cons g0 gs =>
        refine ifT rfl (w_sub (w_name 3 (w_int ⟨(g0 :: gs).map .int, 0, .int g0, rfl, rfl, atI_nat (j := 0) rfl, w_name 4 (w_cat (w_name 2 ⟨_, rfl, w_lst (w_add (w_mul (w_int ⟨53, rfl, w_name 1 ⟨_, rfl, small_mul (by decide) (by decide), _, rfl, w_int ⟨11, rfl, ?_, _, rfl, ?_, w_int ?_⟩⟩⟩)))⟩))⟩)))
        · show 1 ≤ sizeLine
          decide
        · rw [List.length_map]
          exact Nat.le_trans (show cs.length + 1 ≤ 200 by omega) (by decide)
        · refine ⟨_, _, _, _, rfl, g0, s, cs ++ [53 * (j : Int) + 11], 0, ?_, by simp, by rw [List.length_append]; show cs.length + 1 ≤ 200; omega, h1, h2, rfl⟩
          unfold msD
          rw [List.map_append]
          rfl
end
end K09

/-! the words of the draws of dyeings that many laws share (K54's and K56's texts hold their own copies) -/
namespace TL
open PySem PySem.Spec PyProof.Rows L2
/-- repr of an int -/
theorem w_reprI {G : Gx} {env : En} {P : PyData → En → Prop} {e : Expr} {p pos : Pos} (hm : G.mg "repr" = none) (h : W G e env fun d e1 => ∃ n : Int, d = .int n ∧ n.natAbs.log2 < 1920 ∧ P (.str (toString n)) e1) (hg : GlG G "repr" := by rfl) (ns : noStar [e] = true := by rfl) : W G (.Call (.Name "repr" p) [e] [] pos) env P :=
  w_callB (r := fun X xs H Q => ∃ i, xs = [.int i] ∧ i.natAbs.log2 < 1920 ∧ Q (.str (toString i)) H) (fun X _ => SkE.call_repr_int) boot_repr hm hg (fun X hX => W.imp h fun d e1 ⟨n, en, hl, pn⟩ Hc H vs Q s t q => by
    subst en
    cases t with
    | cons t u =>
      cases u
      cases t
      exact ⟨n, rfl, hl, q _ _ Hc H pn (.refl s) (.str _)⟩) ns (by decide) (by decide)

def triD (p : Int × Int × Int) : PyData := .tuple [.int p.1, .int p.2.1, .int p.2.2]
def triK (p : Int × Int × Int) : NestedKey := .tup [.num p.1, .num p.2.1, .num p.2.2]
theorem tri_key (p : Int × Int × Int) : KeyD (triD p) (triK p) := key_ints [p.1, p.2.1, p.2.2]
def besT (s t : Tb) (n x y : Nat) : Int × Int × Int := if x < n then if y < n then (0, atN s x y, 0) else (2, atN s x x, atN t (y - n) (y - n)) else if y < n then (3, atN t (x - n) (x - n), atN s y y) else (1, atN t (x - n) (y - n), 0)
def besF (s t : Tb) (n x y : Nat) : NestedKey := triK (besT s t n x y)
def besR (s t : Tb) (n N x : Nat) : PyData := .list ((List.range N).map fun y => triD (besT s t n x y))
theorem all2_map {α β γ : Type} {R : β → γ → Prop} {f : α → β} {g : α → γ} (h : ∀ x, R (f x) (g x)) : ∀ l : List α, All2 R (l.map f) (l.map g)
  | [] => trivial
  | a :: l => ⟨h a, all2_map h l⟩
theorem bes_tb (s t : Tb) (n N : Nat) : IsTbN (.list ((List.range N).map (besR s t n N))) (tabF N (besF s t n)) :=
  ⟨_, rfl, all2_map (R := KRow) (f := fun x => (List.range N).map fun y => besF s t n x y) (g := besR s t n N) (fun x => ⟨_, rfl, all2_map (R := fun k e => KeyD e k) (f := fun y => besF s t n x y) (g := fun y => triD (besT s t n x y)) (fun y => tri_key _) _⟩) _⟩
theorem rg_split {α : Type} (n m : Nat) (g : Nat → α) : (List.range (n + m)).map g = (List.range n).map g ++ (List.range m).map fun y => g (n + y) := by
  rw [List.range_add, List.map_append, List.map_map]
  rfl
theorem tabF_len {α : Type} (n : Nat) (f : Nat → Nat → α) : (tabF n f).length = n ∧ ∀ r ∈ tabF n f, r.length = n := by
  unfold tabF
  refine ⟨by rw [List.length_map, List.length_range], fun r hr => ?_⟩
  obtain ⟨i, _, e⟩ := List.mem_map.mp hr
  rw [← e, List.length_map, List.length_range]
def preB (ds : List PyData) : Prop := ∃ (n m : Nat) (s t : Tb), ds = [tbT s, tbT t] ∧ Dye n s ∧ Dye m t ∧ n + m ≤ 16
def postB (ds : List PyData) (d : PyData) : Prop := ∀ (n m : Nat) (s t : Tb), ds = [tbT s, tbT t] → Dye n s → Dye m t → d = tbT (gdyF (n + m) (besF s t n))

def preQ (ds : List PyData) : Prop := ∃ n : Nat, ds = [.int (n : Int)] ∧ n ≤ 16
def postQ (ds : List PyData) (d : PyData) : Prop := ∀ n : Nat, ds = [.int (n : Int)] → ∃ u, d = tbT u ∧ Dye n u
def preSt (ds : List PyData) : Prop := ds = []
def postSt (_ : List PyData) (d : PyData) : Prop := ∃ (n : Nat) (t : Tb), d = tbT t ∧ Dye n t ∧ 1 ≤ n ∧ n ≤ 16
def bOf : List Stmt → List Stmt
  | .If _ b _ _ :: _ => b
  | _ => []
theorem hQ {z : Int} (h0 : 0 ≤ z) (h : z ≤ 16) : preQ [.int z] ∧ ∀ d, postQ [.int z] d → ∃ (n : Nat) (u : Tb), (n : Int) = z ∧ d = tbT u ∧ Dye n u := by
  obtain ⟨n, rfl⟩ := Int.eq_ofNat_of_zero_le h0
  exact ⟨⟨n, rfl, by omega⟩, fun d pd => by obtain ⟨u, e, h⟩ := pd n rfl; exact ⟨n, u, rfl, e, h⟩⟩
theorem hP {z : Int} {n : Nat} {t : Tb} (ht : Dye n t) (h1 : 1 ≤ n) (h2 : n ≤ 16) (h0 : 0 ≤ z) (h : z ≤ 16) (hp : n ^ z.toNat ≤ 16) : preP [tbT t, .int z] ∧ ∀ d, postP [tbT t, .int z] d → postSt [] d := by
  obtain ⟨k, rfl⟩ := Int.eq_ofNat_of_zero_le h0
  rw [Int.toNat_natCast] at hp
  exact ⟨⟨n, k, t, rfl, ht, h1, h2, by omega, hp⟩, fun d pd => by obtain ⟨u, e, h⟩ := pd n k t rfl ht; exact ⟨n ^ k, u, e, h, Nat.pow_pos h1, hp⟩⟩
theorem hW {n m : Nat} {s t : Tb} (hs : Dye n s) (ht : Dye m t) (h1 : 1 ≤ n) (h2 : 1 ≤ m) (h : n * m ≤ 16) : preW [tbT s, tbT t] ∧ ∀ d, postW [tbT s, tbT t] d → postSt [] d := by
  have a1 : n * 1 ≤ n * m := Nat.mul_le_mul_left n h2
  have a2 : 1 * m ≤ n * m := Nat.mul_le_mul_right m h1
  exact ⟨⟨n, m, s, t, rfl, hs, ht, h, by omega, by omega⟩, fun d pd => by obtain ⟨u, e, hu⟩ := pd n m s t rfl hs ht; exact ⟨n * m, u, e, hu, Nat.mul_pos h1 h2, h⟩⟩
def okS (sp : List Nat) : Bool := decide (sp.length ≤ 16) && sp.all (fun x => decide (1 ≤ x ∧ x ≤ 16)) && (List.range (sp.length + 1)).all fun i => decide (pr (sp.take i) ≤ 16)
theorem hS {sp : List Nat} (h : okS sp = true) : preS [tpN sp] ∧ ∀ d, postGr [tpN sp] d → ∃ u, d = tbT u ∧ Dye (pr sp) u := by
  unfold okS at h
  simp only [Bool.and_eq_true, List.all_eq_true, decide_eq_true_eq] at h
  exact ⟨⟨sp, rfl, h.1.1, h.1.2, fun i hi => h.2 i (List.mem_range.mpr (by omega))⟩, fun d pd => pd sp rfl⟩
def prs : List (Nat × Nat) := [(0, 1), (0, 2), (0, 3), (0, 4), (1, 2), (1, 3), (1, 4), (2, 3), (2, 4), (3, 4)]

def preEv (ds : List PyData) : Prop := ∃ kk : Nat, ds = [.int (kk : Int)] ∧ 1 ≤ kk ∧ kk ≤ 16
def postEv (_ : List PyData) (d : PyData) : Prop := postSt [] d
theorem okS1 : ∀ n : _root_.Fin 17, 1 ≤ n.val → okS [n.val] = true := by decide
theorem pr1 (n : Nat) : pr [n] = n := Nat.mul_one n
theorem hS1 {n : Nat} (h1 : 1 ≤ n) (h2 : n ≤ 16) : preS [tpN [n]] ∧ ∀ d, postGr [tpN [n]] d → ∃ u, d = tbT u ∧ Dye n u := by
  obtain ⟨a, b⟩ := hS (okS1 ⟨n, by omega⟩ h1)
  rw [pr1] at b
  exact ⟨a, b⟩
def spans6 (n : Nat) : List (List Nat) := [[n], [2, 2], [2, 3], [2, 4], [3, 3], [2, 2, 2]]
theorem hS6 {n : Nat} (h1 : 1 ≤ n) (h2 : n ≤ 16) {d : PyData} (hd : d ∈ (spans6 n).map tpN) : preS [d] ∧ ∀ d', postGr [d] d' → postSt [] d' := by
  obtain ⟨p, hp, e⟩ := List.mem_map.mp hd
  subst e
  have ok : okS p = true ∧ 1 ≤ pr p ∧ pr p ≤ 16 := by
    rcases List.mem_cons.mp hp with rfl | hp
    · exact ⟨okS1 ⟨n, by omega⟩ h1, by rw [pr1]; exact h1, by rw [pr1]; exact h2⟩
    · have : ∀ p ∈ ([[2, 2], [2, 3], [2, 4], [3, 3], [2, 2, 2]] : List (List Nat)), okS p = true ∧ 1 ≤ pr p ∧ pr p ≤ 16 := by decide
      exact this p hp
  obtain ⟨a, b⟩ := hS ok.1
  exact ⟨a, fun d' pd => by obtain ⟨u, e, h⟩ := b d' pd; exact ⟨_, u, e, h, ok.2⟩⟩

def postCl (_ : List PyData) (d : PyData) : Prop := ∃ (n : Nat) (t : Tb), d = tbT t ∧ Dye n t ∧ n ≤ 16
def postSm (ds : List PyData) (d : PyData) : Prop := ∃ (kk n : Nat) (t : Tb), ds = [.int (kk : Int)] ∧ d = tbT t ∧ Dye n t ∧ n ≤ kk
theorem hB {n m : Nat} {s t : Tb} (hs : Dye n s) (ht : Dye m t) (h : n + m ≤ 16) : preB [tbT s, tbT t] ∧ ∀ d, postB [tbT s, tbT t] d → postCl [] d :=
  ⟨⟨n, m, s, t, rfl, hs, ht, h⟩, fun d pd => ⟨n + m, _, pd n m s t rfl hs ht, gdyF_dye _ _, h⟩⟩
theorem hDr {kk : Nat} {d : PyData} (h : postDr [.int (kk : Int)] d) : ∃ (n : Nat) (t : Tb), d = tbT t ∧ Dye n t ∧ n ≤ kk := by
  obtain ⟨k, n, t, e, ed, hs, hn⟩ := h
  injection e with e _
  injection e with e
  have : kk = k := by omega
  subst this
  exact ⟨n, dy t, ed, dye_of hs, hn⟩
end TL

namespace K09
open PySem PySem.Spec PyProof.Rows L2 TL
section
variable {P : Program} {w : World} {K : PySem.W.Frag} {mg : Str → Option Value} {base : Heap} {k : Nat} {f : Addr} {fd : FuncData}
abbrev sDyN : Stmt := topS 14
abbrev nDyN : List Str := ["rows", "spots", "found", "row", "line", "key"]
theorem scDyN : FnScope nDyN ["rows"] (defScope sDyN) := ⟨rfl, rfl, rfl, by decide +kernel, rfl, by decide +kernel, by decide +kernel⟩
theorem ok_dyedN (F : Fun K "_law_dyed" "_law_dyed" sDyN f fd) (m1 : mg "len" = none) (m2 : mg "tuple" = none) : FnG P w K mg base (k + 1) f fd ["rows"] (spP preDyN postDyN) := by
  refine fnP F scDyN (fun ds ⟨_, _, e, _⟩ => by rw [e]; rfl) fun A hg hr ds ⟨d0, t, e, ht, hl, hlr⟩ => ?_
  subst e
  obtain ⟨rs, ers, al⟩ := id ht
  have hu : A.units + 64 < cLine := by have := hr.units; exact this
  refine r_parNewN 1 2 (fun p => ?_) scDyN.nd (by show 1 < 6; decide) (by show 2 < 6; decide) (by intro v hv; cases v; subst hv; rfl)
  refine r_for 3 scDyN.nd (wi_seq (w_name 0 ⟨rs, ers, fun i e => ∃ s3 s4 s5, e = [.va d0, .dn P w p (gTab [] (t.take i)).2, .ow ((gTab [] (t.take i)).1.map rowT), s3, s4, s5] ∧ (gTab [] (t.take i)).2.length ≤ 16 * i, ⟨_, _, _, rfl, Nat.zero_le _⟩, fun i d e ed he => ?_, fun e he => ?_⟩))
  · obtain ⟨s3, s4, s5, ee, hk⟩ := he
    subst ee
    obtain ⟨r, er, es0, hd, ka⟩ := al.get ed
    have hi : i < t.length := (List.getElem?_eq_some_iff.mp er).1
    have hrl := hlr r (List.mem_of_getElem? er)
    have hkl := ka.length
    have es : t.take (i + 1) = t.take i ++ [r] := by rw [List.take_add_one, er]; rfl
    have hT1 : (gTab [] (t.take i)).1.length ≤ i := by
      rw [gTab_len, List.length_take]
      exact Nat.min_le_left _ _
    generalize hT : gTab [] (t.take i) = T at *
    obtain ⟨T1, ks⟩ := T
    refine r_new 4 scDyN.nd (by show 4 < 6; decide) ?_
    refine r_for 5 scDyN.nd (wi_seq (w_name 3 ⟨_, hd, fun j e => ∃ s5, e = [.va d0, .dn P w p (gLine ks (r.take j)).2, .ow (T1.map rowT), .va d, .ow ((gLine ks (r.take j)).1.map .int), s5], ⟨_, rfl⟩, fun j c e ec he => ?_, fun e he => ?_⟩))
    · obtain ⟨s5, ee⟩ := he
      subst ee
      obtain ⟨x, ex, kx⟩ := ka.get ec
      have hj : j < r.length := (List.getElem?_eq_some_iff.mp ex).1
      have ej : r.take (j + 1) = r.take j ++ [x] := by rw [List.take_add_one, ex]; rfl
      have hlen := (gLine_len (r.take j) ks)
      have htk : (r.take j).length ≤ j := by rw [List.length_take]; exact Nat.min_le_left _ _
      generalize hL : gLine ks (r.take j) = Lk at *
      obtain ⟨o, kk⟩ := Lk
      have hkk : kk.length ≤ 300 := by
        have := hlen.1
        show kk.length ≤ 300
        simp only at this hk
        omega
      have nx : gLine ks (r.take (j + 1)) = (o ++ [(kk.idxOf x : Int)], gnk kk x) := by rw [ej, gLine_snoc, hL]
      refine r_if (wt_dninN 1 hu (w_name 5 ⟨p, kk, x, rfl, kx, ?_⟩))
      have app : ∀ kk' : List NestedKey, kk' = gnk kk x → x ∈ kk' → kk'.idxOf x = kk.idxOf x → ∀ N : DE, (∀ s5, N.nx [.va d0, .dn P w p kk', .ow (T1.map rowT), .va d, .ow ((o ++ [(kk.idxOf x : Int)]).map .int), s5]) →
          Rs (GxOf P w K mg base nDyN sDyN A) [((match (match (defBody sDyN).getD 1 (.Pass ⟨0, 0, 0, 0⟩) with | .For _ _ b _ _ => b | _ => []).getD 1 (.Pass ⟨0, 0, 0, 0⟩) with | .For _ _ b _ _ => b | _ => []) : List Stmt).getD 1 (.Pass ⟨0, 0, 0, 0⟩)]
            [.va d0, .dn P w p kk', .ow (T1.map rowT), .va d, .ow (o.map .int), .va c] N := by
        intro kk' e1 e2 e3 N hN
        refine r_append 4 rfl (w_dgetN 1 hu rfl (w_name 5 ⟨_, x, rfl, kx, e2, _, rfl, ?_, r_nil ?_⟩))
        · have := hlen.2
          simp only at this
          rw [List.length_map]
          omega
        · have := hN (.va c)
          rw [List.map_append] at this
          rw [e3]
          exact this
      by_cases hm : x ∈ kk
      · have e1 : gnk kk x = kk := by unfold gnk; rw [if_pos hm]
        refine ifF (by rw [decide_eq_true hm]; rfl) (r_nil (app kk e1.symm hm rfl _ fun s5 => ⟨s5, ?_⟩))
        rw [nx, e1]
      · have e1 : gnk kk x = kk ++ [x] := by unfold gnk; rw [if_neg hm]
        refine ifT (by rw [decide_eq_false hm]; rfl) (r_dputN 1 hu (w_lenDN 1 m1 rfl (by show kk.length < 1000000; omega) ⟨p, _, rfl, w_name 5 ⟨kk, x, rfl, rfl, kx, hm, by omega, r_nil ?_⟩⟩))
        refine app (kk ++ [x]) e1.symm (by simp) (by rw [gidx_snoc hm, gidx_not hm]) _ fun s5 => ⟨s5, ?_⟩
        rw [nx, e1]
    · obtain ⟨s5, ee⟩ := he
      rw [← hkl, List.take_length] at ee
      subst ee
      refine r_append 2 rfl (w_tupC m2 (w_freeze 4 ⟨_, rfl, _, rfl, ?_, r_nil ?_⟩))
      · rw [List.length_map]
        have : T1.length ≤ i := by
          have := hT1
          simp only at this
          exact this
        omega
      · refine ⟨.va d, .va (.list ((gLine ks r).1.map .int)), s5, ?_, ?_⟩
        · rw [es, gTab_snoc, hT, List.map_append]
          rfl
        · rw [es, gTab_snoc, hT]
          have := (gLine_len r ks).1
          simp only at hk ⊢
          omega
  · obtain ⟨s3, s4, s5, ee, hk⟩ := he
    rw [← al.length, List.take_length] at ee
    subst ee
    refine r_ret (w_tupC m2 (w_freeze 2 ⟨_, rfl, fun d1 t' e ht' => ?_⟩))
    cases e
    rw [isTbN_inj ht' ht]
    rfl
end
end K09

namespace K09
open PySem PySem.Spec PyProof.Rows L2 TL
section
variable {P : Program} {w : World} {K : PySem.W.Frag} {mg : Str → Option Value} {base : Heap} {k : Nat} {f : Addr} {fd : FuncData}
def preLkA (ds : List PyData) : Prop := preLk ds ∨ ∃ i : Int, ds = [.int i, .int i] ∧ i.natAbs.log2 < 1920
theorem ok_likeA (F : Fun K "_law_like" "_law_like" sLike f fd) (m1 : mg "repr" = none) : FnG P w K mg base 1 f fd ["told", "due"] (spP preLkA postLk) := by
  refine fnP F scLike (fun ds h => by rcases h with ⟨_, _, _, e, _⟩ | ⟨_, e, _⟩ <;> rw [e] <;> rfl) fun A hg hr ds h => ?_
  rcases h with ⟨a, B, D, e, h1, h2, h3, h4⟩ | ⟨i, e, hi⟩
  · subst e
    have hB : a.shown.length ≤ sizeLine := Nat.le_trans h2.ln (Nat.le_trans h3 (by decide))
    have hu : A.units + (a.depth + 1) < cLine := by
      have := hr.units
      have := h2.dp
      omega
    exact r_ret (w_eqF (w_repr m1 hg (w_name 0 ⟨h1, h2.sh, h2.nd, hB, hu, w_repr m1 hg (w_name 1 ⟨h1, h2.sh, h2.nd, hB, hu, _, _, rfl, rfl, rfl, congrArg PyData.bool (decide_eq_true rfl)⟩)⟩)))
  · subst e
    exact r_ret (w_eqF (w_reprI m1 (w_name 0 ⟨i, rfl, hi, w_reprI m1 (w_name 1 ⟨i, rfl, hi, _, _, rfl, rfl, rfl, congrArg PyData.bool (decide_eq_true rfl)⟩)⟩)))
end
end K09

namespace K09
open PySem PySem.Spec PyProof.Rows L2 TL
section
variable {P : Program} {w : World} {K : PySem.W.Frag} {mg : Str → Option Value} {base : Heap} {k : Nat} {f : Addr} {fd : FuncData}
abbrev nBd : List Str := ["dyeing_here", "n", "x", "y"]
abbrev sBd : Stmt := topS 16
theorem scBd : FnScope nBd ["dyeing_here"] (defScope sBd) := ⟨rfl, rfl, rfl, by decide +kernel, rfl, by decide +kernel, by decide +kernel⟩
theorem ok_bd (F : Fun K "_law_begun_dyeing" "_law_begun_dyeing" sBd f fd) (m1 : mg "len" = none) (m2 : mg "range" = none) (m3 : mg "int" = none) (D : Dc P w K mg base "_law_dyed" 1 ["rows"] (spP preDyN postDyN)) : FnG P w K mg base 2 f fd ["dyeing_here"] (spP preG postG) := by
  refine fnP F scBd (fun ds ⟨_, t, e, _⟩ => by rw [e]; rfl) fun A hg hr ds ⟨n, t, e, ht, hn⟩ => ?_
  subst e
  obtain ⟨fD, fdD, CD⟩ := D.callee (N := nBd) (st := sBd) hr hg (by decide : 1 ≤ 1)
  refine r_asg 1 scBd.nd (w_len m1 (w_name 0 ⟨_, rfl, ?_⟩))
  rw [List.length_map, ht.sq.1]
  refine r_ret (w_callP CD (w_lc 2 (t := none) (wi_rg m2 (w_name 1 ⟨(n : Int), rfl, by omega, by omega, ?_⟩)) scBd.nd))
  rw [Int.toNat_natCast]
  refine ⟨by rw [rgD_len]; omega, cj_rel (fun _ row => KL n row) (fun d hd => ?_) fun acc al => ?_⟩
  · obtain ⟨x, hx, ex⟩ := rg_in hd
    subst ex
    refine w_lc 3 (t := none) (wi_rg m2 (w_name 1 ⟨(n : Int), rfl, by omega, by omega, ?_⟩)) scBd.nd
    rw [Int.toNat_natCast]
    refine ⟨by rw [rgD_len]; omega, cj_rel (fun _ e => ∃ k, KeyD e k) (fun d hd => ?_) fun es a2 => ⟨⟨es, rfl, by rw [← a2.length, rgD_len], a2.split⟩, rfl⟩⟩
    obtain ⟨y, hy, ey⟩ := rg_in hd
    subst ey
    obtain ⟨r, h1, h2, _⟩ := tq_atN ht.sq hx hy
    obtain ⟨s, h3, h4, _⟩ := tq_atN ht.sq hy hx
    refine w_tup (w_sub (w_sub (w_name 0 (w_name 2 ⟨_, _, _, rfl, rfl, h1, w_name 3 ⟨_, _, _, rfl, rfl, h2, w_sub (w_sub (w_name 0 (w_name 3 ⟨_, _, _, rfl, rfl, h3, w_name 2 ⟨_, _, _, rfl, rfl, h4, w_intC m3 (w_eqI (w_name 2 ⟨_, rfl, w_name 3 ⟨_, rfl, ?_⟩⟩))⟩⟩)))⟩⟩))))
    refine ⟨_, rfl, ?_, ⟨_, key_ints [atN t x y, atN t y x, if decide ((x : Int) = (y : Int)) = true then 1 else 0]⟩, rfl⟩
    show 3 ≤ sizeLine
    decide
  · obtain ⟨p1, p2⟩ := tbK (d := .list acc) rfl (by rw [← al.length, rgD_len]) al.split hn
    refine ⟨p1, fun d pd => ?_⟩
    obtain ⟨u, e1, e2⟩ := p2 d pd
    exact postG_of ht e1 e2
abbrev nRo : List Str := ["dyeing_here", "n", "rows", "x", "line", "y", "between", "z"]
abbrev sRo : Stmt := topS 17
theorem scRo : FnScope nRo ["dyeing_here"] (defScope sRo) := ⟨rfl, rfl, rfl, by decide +kernel, rfl, by decide +kernel, by decide +kernel⟩
theorem ok_ro (F : Fun K "_law_round" "_law_round" sRo f fd) (m1 : mg "len" = none) (m2 : mg "range" = none) (m3 : mg "sorted" = none) (m4 : mg "tuple" = none) (D : Dc P w K mg base "_law_dyed" 1 ["rows"] (spP preDyN postDyN)) : FnG P w K mg base 2 f fd ["dyeing_here"] (spP preG postG) := by
  refine fnP F scRo (fun ds ⟨_, t, e, _⟩ => by rw [e]; rfl) fun A hg hr ds ⟨n, t, e, ht, hn⟩ => ?_
  subst e
  obtain ⟨fD, fdD, CD⟩ := D.callee (N := nRo) (st := sRo) hr hg (by decide : 1 ≤ 1)
  refine r_parNew2 1 2 (w_len m1 (w_name 0 ⟨_, rfl, by show 2 < 8; decide, ?_⟩)) scRo.nd (by intro v hv; cases v; subst hv; rfl)
  rw [List.length_map, ht.sq.1]
  refine r_for 3 scRo.nd (wi_rg m2 (w_name 1 ⟨(n : Int), rfl, by omega, by omega, ?_⟩))
  rw [Int.toNat_natCast]
  refine ⟨fun i e => i ≤ n ∧ ∃ (rows : List PyData) (s3 s4 s5 s6 : Sl), rows.length = i ∧ (∀ row ∈ rows, KL n row) ∧ e = [.va (tbT t), .va (.int (n : Int)), .ow rows, s3, s4, s5, s6, .no], ⟨Nat.zero_le _, [], .no, .no, .no, .no, rfl, fun _ h => (nomatch h), rfl⟩, fun i d e ed ⟨hi, rows, s3, s4, s5, s6, hl, hk, ee⟩ => ?_, fun e ⟨hi, rows, s3, s4, s5, s6, hl, hk, ee⟩ => ?_⟩
  · subst ee
    obtain ⟨hi', ed⟩ := rgD_get ed
    rw [Int.zero_add] at ed
    subst ed
    refine r_new 4 scRo.nd (by show 4 < 8; decide) ?_
    refine r_for 5 scRo.nd (wi_rg m2 (w_name 1 ⟨(n : Int), rfl, by omega, by omega, ?_⟩))
    rw [Int.toNat_natCast]
    refine ⟨fun j e => j ≤ n ∧ ∃ (es : List PyData) (s5 s6 : Sl), es.length = j ∧ (∀ e ∈ es, ∃ k, KeyD e k) ∧ e = [.va (tbT t), .va (.int (n : Int)), .ow rows, .va (.int (i : Int)), .ow es, s5, s6, .no], ⟨Nat.zero_le _, [], s5, s6, rfl, fun _ h => (nomatch h), rfl⟩, fun j d e ed ⟨hj, es, s5, s6, he, hke, ee⟩ => ?_, fun e ⟨hj, es, s5, s6, he, hke, ee⟩ => ?_⟩
    · subst ee
      obtain ⟨hj', ed⟩ := rgD_get ed
      rw [Int.zero_add] at ed
      subst ed
      let pr : Nat → Int × Int := fun z => (atN t i z, atN t z j)
      refine r_asg 6 scRo.nd (w_sortedP m3 (w_lc 7 (t := none) (wi_rg m2 (w_name 1 ⟨(n : Int), rfl, by omega, by omega, ?_⟩)) scRo.nd))
      rw [Int.toNat_natCast]
      refine ⟨by rw [rgD_len]; omega, cj_map (fun d => match d with | .int z => prD (pr z.toNat) | _ => .none) (fun d hd => ?_) ⟨(List.range n).map pr, ?_, by rw [List.length_map, List.length_range]; omega, fun q hq => ?_, fun bs hbs => ?_⟩⟩
      · obtain ⟨z, hz, ez⟩ := rg_in hd
        subst ez
        obtain ⟨r, h1, h2, _⟩ := tq_atN ht.sq hi' hz
        obtain ⟨s, h3, h4, _⟩ := tq_atN ht.sq hz hj'
        refine w_tup (w_sub (w_sub (w_name 0 (w_name 3 ⟨_, _, _, rfl, rfl, h1, w_name 7 ⟨_, _, _, rfl, rfl, h2, w_sub (w_sub (w_name 0 (w_name 7 ⟨_, _, _, rfl, rfl, h3, w_name 5 ⟨_, _, _, rfl, rfl, h4, ?_, rfl, rfl⟩⟩)))⟩⟩))))
        show 2 ≤ sizeLine
        decide
      · unfold rgD
        rw [List.map_map, List.map_map]
        refine congrArg PyData.list (List.map_congr_left fun z _ => ?_)
        show prD (pr (0 + (z : Int)).toNat) = prD (pr z)
        rw [Int.zero_add, Int.toNat_natCast]
      · obtain ⟨z, hz, ez⟩ := List.mem_map.mp hq
        have hz' := List.mem_range.mp hz
        have hnn : n * n ≤ 256 := Nat.mul_le_mul hn hn
        obtain ⟨r, _, _, h1, h2⟩ := tq_atN ht.sq hi' hz'
        obtain ⟨s, _, _, h3, h4⟩ := tq_atN ht.sq hz' hj'
        have b1 := ht.low r h1 _ h2
        have b2 := ht.low s h3 _ h4
        rw [← ez]
        exact ⟨⟨b1.1, by show atN t i z < 1000; omega⟩, b2.1, by show atN t z j < 1000; omega⟩
      · have hbl : bs.length = n := by rw [hbs.length_eq, List.length_map, List.length_map, List.length_range]
        obtain ⟨r, h1, h2, _⟩ := tq_atN ht.sq hi' hj'
        refine r_append 4 rfl ?_
        refine w_catT ?_
        refine w_tup ?_
        refine w_sub (w_sub (w_name 0 (w_name 3 ⟨_, _, _, rfl, rfl, h1, w_name 5 ⟨_, _, _, rfl, rfl, h2, ?_, _, rfl, ?_⟩⟩)))
        rotate_left
        refine w_tupC m4 (w_name 6 ⟨_, rfl, _, rfl, ?_, _, rfl, ?_, r_nil ?_⟩)
        rotate_right
        · show 1 ≤ sizeLine
          decide
        · refine Nat.le_trans (show 1 + bs.length ≤ 100 by omega) (by decide)
        · omega
        · refine ⟨hj', es ++ [.tuple ([.int (atN t i j)] ++ bs)], _, _, by rw [List.length_append, he]; rfl, fun e hm => ?_, rfl⟩
          rcases List.mem_append.mp hm with z | z
          · exact hke e z
          · rw [List.mem_singleton.mp z]
            have key : ∀ l : List PyData, (∀ b ∈ l, ∃ q, b = prD q) → ∃ ks, nkDs l = some ks ∧ NestedKey.depthAll ks ≤ 1 := by
              intro l
              induction l with
              | nil => exact fun _ => ⟨[], rfl, Nat.zero_le _⟩
              | cons b l ih =>
                intro h
                obtain ⟨q, eq⟩ := h b List.mem_cons_self
                obtain ⟨ks, k1, k2⟩ := ih fun x hx => h x (List.mem_cons_of_mem _ hx)
                subst eq
                refine ⟨.tup [.num q.1, .num q.2] :: ks, ?_, ?_⟩
                · show (match nkD (prD q), nkDs l with | some k, some ks => some (k :: ks) | _, _ => none) = _
                  rw [k1]
                  rfl
                · show max (NestedKey.depth (.tup [.num q.1, .num q.2])) (NestedKey.depthAll ks) ≤ 1
                  exact Nat.max_le.mpr ⟨Nat.le_refl _, k2⟩
            obtain ⟨ks, k1, k2⟩ := key bs fun b hb => by
              obtain ⟨q, _, eq⟩ := List.mem_map.mp (hbs.mem_iff.mp hb)
              exact ⟨q, eq.symm⟩
            refine ⟨_, key_tup (ks := .num (atN t i j) :: ks) ?_ ?_⟩
            · show (match nkD (.int (atN t i j)), nkDs bs with | some k, some ks => some (k :: ks) | _, _ => none) = _
              rw [k1]
              rfl
            · show max 0 (NestedKey.depthAll ks) ≤ 7
              omega
    · subst ee
      rw [rgD_len] at he
      refine r_append 2 rfl (w_freeze 4 ⟨rows, rfl, by omega, r_nil ?_⟩)
      refine ⟨hi', rows ++ [.list es], _, _, _, _, by rw [List.length_append, hl]; rfl, fun row hm => ?_, rfl⟩
      rcases List.mem_append.mp hm with z | z
      · exact hk row z
      · rw [List.mem_singleton.mp z]
        exact ⟨es, rfl, he, hke⟩
  · subst ee
    rw [rgD_len] at hl
    obtain ⟨p1, p2⟩ := tbK (d := .list rows) rfl hl hk hn
    refine r_ret (w_callP CD (w_freeze 2 ⟨p1, fun d pd => ?_⟩))
    obtain ⟨u, e1, e2⟩ := p2 d pd
    exact postG_of ht e1 e2
abbrev nCg : List Str := ["dyeing_here", "found", "step", "later"]
abbrev sCg : Stmt := topS 18
theorem scCg : FnScope nCg ["dyeing_here"] (defScope sCg) := ⟨rfl, rfl, rfl, by decide +kernel, rfl, by decide +kernel, by decide +kernel⟩
theorem ok_cg (F : Fun K "_law_closing" "_law_closing" sCg f fd) (m2 : mg "range" = none) (DB : Dc P w K mg base "_law_begun_dyeing" 2 ["dyeing_here"] (spP preG postG)) (DR : Dc P w K mg base "_law_round" 2 ["dyeing_here"] (spP preG postG)) (DM : Dc P w K mg base "_law_many" 1 ["dyeing_here"] (spP preMy postMy)) : FnG P w K mg base 3 f fd ["dyeing_here"] (spP preG postG) := by
  refine fnP F scCg (fun ds ⟨_, t, e, _⟩ => by rw [e]; rfl) fun A hg hr ds ⟨n, t, e, ht, hn⟩ => ?_
  subst e
  obtain ⟨fB, fdB, CB⟩ := DB.callee (N := nCg) (st := sCg) hr hg (by decide : 2 ≤ 2)
  obtain ⟨fR, fdR, CR⟩ := DR.callee (N := nCg) (st := sCg) hr hg (by decide : 2 ≤ 2)
  obtain ⟨fM, fdM, CM⟩ := DM.callee (N := nCg) (st := sCg) hr hg (by decide : 1 ≤ 2)
  refine r_asg 1 scCg.nd (w_callP CB (w_name 0 ⟨⟨n, t, rfl, ht, hn⟩, fun d pd => ?_⟩))
  obtain ⟨u, e1, hu⟩ := pd n t rfl ht
  subst e1
  refine r_for 2 scCg.nd (wi_rg m2 (w_int ⟨260, rfl, by decide, by decide, fun _ e => ∃ (u : Tb) (s2 s3 : Sl), Dye n u ∧ e = [.va (tbT t), .va (tbT u), s2, s3], ⟨u, .no, .no, hu, rfl⟩, fun i d e ed ⟨u, s2, s3, hu, ee⟩ => ?_, fun e ⟨u, s2, s3, hu, ee⟩ => ?_⟩))
  · subst ee
    refine r_asg 3 scCg.nd (w_callP CR (w_name 1 ⟨⟨n, u, rfl, hu, hn⟩, fun d pd => ?_⟩))
    obtain ⟨v, e1, hv⟩ := pd n u rfl hu
    subst e1
    refine r_if (wt_eqI (w_callP CM (w_name 3 ⟨dye_many hv hn, fun d1 p1 => ?_⟩)))
    obtain ⟨z1, e1, _⟩ := p1 v rfl
    refine ⟨z1, e1, w_callP CM (w_name 1 ⟨dye_many hu hn, fun d2 p2 => ?_⟩)⟩
    obtain ⟨z2, e2, _⟩ := p2 u rfl
    refine ⟨z2, e2, ifd (fun _ => r_ret (w_name 1 (postG_of ht rfl hu))) fun _ => r_nil (r_asg 1 scCg.nd (w_name 3 (r_nil ⟨v, _, _, hv, rfl⟩)))⟩
  · subst ee
    exact r_ret (w_name 1 (postG_of ht rfl hu))
/-- of a number of places -/
abbrev nCo : List Str := ["q", "x", "y"]
abbrev sCo : Stmt := topS 20
theorem scCo : FnScope nCo ["q"] (defScope sCo) := ⟨rfl, rfl, rfl, by decide +kernel, rfl, by decide +kernel, by decide +kernel⟩
theorem ok_co (F : Fun K "_law_complete" "_law_complete" sCo f fd) (m2 : mg "range" = none) (m3 : mg "int" = none) (D : Dc P w K mg base "_law_dyed" 1 ["rows"] (spP preDy postDy)) : FnG P w K mg base 2 f fd ["q"] (spP preQ postQ) := by
  refine fnP F scCo (fun ds ⟨_, e, _⟩ => by rw [e]; rfl) fun A hg hr ds ⟨n, e, hn⟩ => ?_
  subst e
  obtain ⟨fD, fdD, CD⟩ := D.callee (N := nCo) (st := sCo) hr hg (by decide : 1 ≤ 1)
  let ne : Nat → Nat → Int := fun x y => if (!decide ((x : Int) = (y : Int))) = true then 1 else 0
  refine r_ret (w_callP CD (w_lc 1 (t := none) (wi_rg m2 (w_name 0 ⟨(n : Int), rfl, by omega, by omega, ?_⟩)) scCo.nd))
  rw [Int.toNat_natCast]
  refine ⟨by rw [rgD_len]; omega, cj_map (fun d => match d with | .int x => .list ((List.range n).map fun y => .int (ne x.toNat y)) | _ => .none) (fun d hd => ?_) ?_⟩
  · obtain ⟨x, hx, ex⟩ := rg_in hd
    subst ex
    refine w_lc 2 (t := none) (wi_rg m2 (w_name 0 ⟨(n : Int), rfl, by omega, by omega, ?_⟩)) scCo.nd
    rw [Int.toNat_natCast]
    refine ⟨by rw [rgD_len]; omega, cj_map (fun d => match d with | .int y => .int (ne x y.toNat) | _ => .none) (fun d hd => ?_) ⟨?_, rfl⟩⟩
    · obtain ⟨y, hy, ey⟩ := rg_in hd
      subst ey
      exact w_intC m3 (w_neI (w_name 1 ⟨_, rfl, w_name 2 ⟨_, rfl, _, rfl, rfl, rfl⟩⟩))
    · unfold rgD
      rw [List.map_map]
      refine congrArg PyData.list (List.map_congr_left fun y _ => ?_)
      show PyData.int (ne x (0 + (y : Int)).toNat) = .int (ne x y)
      rw [Int.zero_add, Int.toNat_natCast]
  · have e1 : PyData.list ((rgD 0 n).map fun d => match d with | .int x => .list ((List.range n).map fun y => .int (ne x.toNat y)) | _ => .none) = tbL (tabF n ne) := by
      unfold tbL tabF rgD
      rw [List.map_map, List.map_map]
      refine congrArg PyData.list (List.map_congr_left fun x _ => ?_)
      show PyData.list ((List.range n).map fun y => .int (ne (0 + (x : Int)).toNat y)) = rowL ((List.range n).map fun j => ne x j)
      rw [Int.zero_add, Int.toNat_natCast]
      unfold rowL
      rw [List.map_map]
      rfl
    rw [e1]
    have hs := tabF_sq n ne
    refine ⟨⟨_, tabF n ne, rfl, isTb_L _, by rw [hs.1]; exact hn, fun r hr => by rw [hs.2 r hr]; exact hn⟩, fun d pd n' e' => ?_⟩
    injection e' with e' _
    injection e' with e'
    have : n = n' := by omega
    subst this
    exact ⟨_, pd _ _ rfl (isTb_L _), dye_of hs⟩
end
end K09

namespace K09
open PySem PySem.Spec PyProof.Rows L2 TL
section
variable {P : Program} {w : World} {K : PySem.W.Frag} {mg : Str → Option Value} {base : Heap} {k : Nat} {f : Addr} {fd : FuncData}
abbrev nWo : List Str := ["one", "other", "places", "x", "y", "a", "b"]
abbrev sWo : Stmt := topS 21
theorem scWo : FnScope nWo ["one", "other"] (defScope sWo) := ⟨rfl, rfl, rfl, by decide +kernel, rfl, by decide +kernel, by decide +kernel⟩
theorem ok_wo (F : Fun K "_law_woven" "_law_woven" sWo f fd) (m1 : mg "len" = none) (m2 : mg "range" = none) (D : Dc P w K mg base "_law_dyed" 1 ["rows"] (spP preDyN postDyN)) : FnG P w K mg base 2 f fd ["one", "other"] (spP preW postW) := by
  refine fnP F scWo (fun ds ⟨_, _, _, _, e, _⟩ => by rw [e]; rfl) fun A hg hr ds ⟨n, m, s, t, e, hs, ht, hnm, hn, hm⟩ => ?_
  subst e
  obtain ⟨fD, fdD, CD⟩ := D.callee (N := nWo) (st := sWo) hr hg (by decide : 1 ≤ 1)
  have ls : (s.map rowT).length = n := by rw [List.length_map, hs.sq.1]
  have lt : (t.map rowT).length = m := by rw [List.length_map, ht.sq.1]
  refine r_asg 2 scWo.nd (w_lst ⟨Nat.zero_le _, ?_⟩)
  refine r_for 3 scWo.nd (wi_rg m2 (w_len m1 (w_name 0 ⟨(s.map rowT).length, rfl, (s.map rowT).length, rfl, by omega, by omega, ?_⟩)))
  rw [ls, Int.toNat_natCast]
  refine ⟨fun i e => i ≤ n ∧ ∃ (ps : List (Nat × Nat)) (s3 : Sl), ps.length = i * m ∧ (∀ p ∈ ps, p.1 < n ∧ p.2 < m) ∧ e = [.va (tbT s), .va (tbT t), .va (.list (ps.map prN)), s3, .no, .no, .no], ⟨Nat.zero_le _, [], .no, by simp, fun _ h => (nomatch h), rfl⟩, fun i d e ed ⟨hi, ps, s3, hl, hp, ee⟩ => ?_, fun e ⟨hi, ps, s3, hl, hp, ee⟩ => ?_⟩
  · subst ee
    obtain ⟨hi', ed⟩ := rgD_get ed
    rw [Int.zero_add] at ed
    subst ed
    have him : i * m ≤ 16 := Nat.le_trans (Nat.mul_le_mul_right m (Nat.le_of_lt hi')) hnm
    refine r_asg 2 scWo.nd (w_cat (w_name 2 ⟨_, rfl, w_lc 4 (t := none) (wi_rg m2 (w_len m1 (w_name 1 ⟨(t.map rowT).length, rfl, (t.map rowT).length, rfl, by omega, by omega, ?_⟩))) scWo.nd⟩))
    rw [lt, Int.toNat_natCast]
    refine ⟨by rw [rgD_len]; omega, cj_map (fun d => match d with | .int y => .tuple [.int (i : Int), .int y] | _ => .none) (fun d hd => ?_) ⟨_, rfl, ?_, r_nil ⟨hi', ps ++ (List.range m).map fun y => (i, y), .va (.int (i : Int)), ?_, fun p hm' => ?_, ?_⟩⟩⟩
    · obtain ⟨y, hy, ey⟩ := rg_in hd
      subst ey
      refine w_tup (w_name 3 (w_name 4 ⟨?_, rfl, rfl⟩))
      show 2 ≤ sizeLine
      decide
    · rw [List.length_map, hl, List.length_map, rgD_len]
      exact Nat.le_trans (show i * m + m ≤ 100 by omega) (by decide)
    · rw [List.length_append, List.length_map, List.length_range, hl, Nat.add_mul, Nat.one_mul]
    · rcases List.mem_append.mp hm' with z | z
      · exact hp p z
      · obtain ⟨y, hy, e⟩ := List.mem_map.mp z
        rw [← e]
        exact ⟨hi', List.mem_range.mp hy⟩
    · rw [rgD_map _ (fun y => prN (i, y)) (fun y => rfl), List.map_append, List.map_map]
      rfl
  · subst ee
    rw [rgD_len] at hl
    have l100 : (ps.map prN).length < 100000 := by rw [List.length_map, hl]; omega
    refine r_ret (w_callP CD (w_lc 5 (t := none) (lc_seq (w_name 2 ⟨ps.map prN, rfl, l100, cj_rel (fun _ row => KL (n * m) row) (fun d hd => ?_) fun acc al => ?_⟩)) scWo.nd))
    · obtain ⟨p, hp1, ep⟩ := mem_pr hd
      subst ep
      refine w_lc 6 (t := none) (lc_seq (w_name 2 ⟨ps.map prN, rfl, l100, cj_rel (fun _ e => ∃ k, KeyD e k) (fun d hd => ?_) fun es a2 => ⟨⟨es, rfl, by rw [← a2.length, List.length_map, hl], a2.split⟩, rfl⟩⟩)) scWo.nd
      obtain ⟨q, hq1, eq⟩ := mem_pr hd
      subst eq
      obtain ⟨p1, p2⟩ := hp p hp1
      obtain ⟨q1, q2⟩ := hp q hq1
      obtain ⟨r, h1, h2, _⟩ := tq_atN hs.sq p1 q1
      obtain ⟨r', h3, h4, _⟩ := tq_atN ht.sq p2 q2
      refine w_tup ?_
      refine w_sub (w_sub (w_name 0 (w_sub (w_name 5 (w_int ⟨_, 0, _, rfl, rfl, at0 _ _, ⟨_, _, _, rfl, rfl, h1, w_sub (w_name 6 (w_int ⟨_, 0, _, rfl, rfl, at0 _ _, ⟨_, _, _, rfl, rfl, h2, ?_⟩⟩))⟩⟩)))))
      refine w_sub (w_sub (w_name 1 (w_sub (w_name 5 (w_int ⟨_, 1, _, rfl, rfl, at1 _ _, ⟨_, _, _, rfl, rfl, h3, w_sub (w_name 6 (w_int ⟨_, 1, _, rfl, rfl, at1 _ _, ⟨_, _, _, rfl, rfl, h4, ?_, ⟨_, key_ints [_, _]⟩, rfl⟩⟩))⟩⟩)))))
      show 2 ≤ sizeLine
      decide
    · obtain ⟨p1, p2⟩ := tbK (d := .list acc) rfl (by rw [← al.length, List.length_map, hl]) al.split hnm
      refine ⟨p1, fun d pd => ?_⟩
      obtain ⟨u, e1, e2⟩ := p2 d pd
      exact postW_of hs ht e1 e2
abbrev nNe : List Str := ["one", "other", "places", "x", "rows", "a", "y", "b"]
abbrev sNe : Stmt := topS 22
theorem scNe : FnScope nNe ["one", "other"] (defScope sNe) := ⟨rfl, rfl, rfl, by decide +kernel, rfl, by decide +kernel, by decide +kernel⟩
theorem ok_ne (F : Fun K "_law_nested" "_law_nested" sNe f fd) (m1 : mg "len" = none) (m2 : mg "range" = none) (D : Dc P w K mg base "_law_dyed" 1 ["rows"] (spP preDyN postDyN)) : FnG P w K mg base 2 f fd ["one", "other"] (spP preW postW) := by
  refine fnP F scNe (fun ds ⟨_, _, _, _, e, _⟩ => by rw [e]; rfl) fun A hg hr ds ⟨n, m, s, t, e, hs, ht, hnm, hn, hm⟩ => ?_
  subst e
  obtain ⟨fD, fdD, CD⟩ := D.callee (N := nNe) (st := sNe) hr hg (by decide : 1 ≤ 1)
  have ls : (s.map rowT).length = n := by rw [List.length_map, hs.sq.1]
  have lt : (t.map rowT).length = m := by rw [List.length_map, ht.sq.1]
  refine r_asg 2 scNe.nd (w_lst ⟨Nat.zero_le _, ?_⟩)
  refine r_for 3 scNe.nd (wi_rg m2 (w_len m1 (w_name 0 ⟨(s.map rowT).length, rfl, (s.map rowT).length, rfl, by omega, by omega, ?_⟩)))
  rw [ls, Int.toNat_natCast]
  refine ⟨fun i e => i ≤ n ∧ ∃ (ps : List (Nat × Nat)) (s3 : Sl), ps.length = i * m ∧ (∀ p ∈ ps, p.1 < n ∧ p.2 < m) ∧ e = [.va (tbT s), .va (tbT t), .va (.list (ps.map prN)), s3, .no, .no, .no, .no], ⟨Nat.zero_le _, [], .no, by simp, fun _ h => (nomatch h), rfl⟩, fun i d e ed ⟨hi, ps, s3, hl, hp, ee⟩ => ?_, fun e ⟨hi, ps, s3, hl, hp, ee⟩ => ?_⟩
  · subst ee
    obtain ⟨hi', ed⟩ := rgD_get ed
    rw [Int.zero_add] at ed
    subst ed
    have him : i * m ≤ 16 := Nat.le_trans (Nat.mul_le_mul_right m (Nat.le_of_lt hi')) hnm
    refine r_asg 2 scNe.nd (w_cat (w_name 2 ⟨_, rfl, w_lc 6 (t := none) (wi_rg m2 (w_len m1 (w_name 1 ⟨(t.map rowT).length, rfl, (t.map rowT).length, rfl, by omega, by omega, ?_⟩))) scNe.nd⟩))
    rw [lt, Int.toNat_natCast]
    refine ⟨by rw [rgD_len]; omega, cj_map (fun d => match d with | .int y => .tuple [.int (i : Int), .int y] | _ => .none) (fun d hd => ?_) ⟨_, rfl, ?_, r_nil ⟨hi', ps ++ (List.range m).map fun y => (i, y), .va (.int (i : Int)), ?_, fun p hm' => ?_, ?_⟩⟩⟩
    · obtain ⟨y, hy, ey⟩ := rg_in hd
      subst ey
      refine w_tup (w_name 3 (w_name 6 ⟨?_, rfl, rfl⟩))
      show 2 ≤ sizeLine
      decide
    · rw [List.length_map, hl, List.length_map, rgD_len]
      exact Nat.le_trans (show i * m + m ≤ 100 by omega) (by decide)
    · rw [List.length_append, List.length_map, List.length_range, hl, Nat.add_mul, Nat.one_mul]
    · rcases List.mem_append.mp hm' with z | z
      · exact hp p z
      · obtain ⟨y, hy, e⟩ := List.mem_map.mp z
        rw [← e]
        exact ⟨hi', List.mem_range.mp hy⟩
    · rw [rgD_map _ (fun y => prN (i, y)) (fun y => rfl), List.map_append, List.map_map]
      rfl
  · subst ee
    rw [rgD_len] at hl
    have l100 : (ps.map prN).length < 100000 := by rw [List.length_map, hl]; omega
    refine r_new 4 scNe.nd (by show 4 < 8; decide) ?_
    refine r_for 5 scNe.nd (wi_seq (w_name 2 ⟨ps.map prN, rfl, fun j e => ∃ (rows : List PyData) (s5 : Sl), rows.length = j ∧ (∀ row ∈ rows, KL (n * m) row) ∧ e = [.va (tbT s), .va (tbT t), .va (.list (ps.map prN)), s3, .ow rows, s5, .no, .no], ⟨[], .no, rfl, fun _ h => (nomatch h), rfl⟩, fun j d e ed ⟨rows, s5, hr, hk, ee⟩ => ?_, fun e ⟨rows, s5, hr, hk, ee⟩ => ?_⟩))
    · subst ee
      have hj : j < ps.length := by have := (List.getElem?_eq_some_iff.mp ed).1; rw [List.length_map] at this; exact this
      obtain ⟨p, hp1, ep⟩ := mem_pr (List.mem_of_getElem? ed)
      subst ep
      refine r_append 4 rfl ?_
      refine w_lc 7 (t := none) (lc_seq (w_name 2 ⟨ps.map prN, rfl, l100, cj_rel (fun _ e => ∃ k, KeyD e k) (fun d hd => ?_) fun es a2 => ?_⟩)) scNe.nd
      · obtain ⟨q, hq1, eq⟩ := mem_pr hd
        subst eq
        obtain ⟨p1, p2⟩ := hp p hp1
        obtain ⟨q1, q2⟩ := hp q hq1
        obtain ⟨r, h1, h2, _⟩ := tq_atN hs.sq p1 q1
        obtain ⟨r', h3, h4, _⟩ := tq_atN ht.sq p2 q2
        refine w_if (wt_eqI (w_sub (w_name 5 (w_int ⟨_, 0, _, rfl, rfl, at0 _ _, _, rfl, w_sub (w_name 7 (w_int ⟨_, 0, _, rfl, rfl, at0 _ _, _, rfl, ifd (fun _ => ?_) fun _ => ?_⟩))⟩))))
        · refine w_tup (w_int ?_)
          refine w_sub (w_sub (w_name 1 (w_sub (w_name 5 (w_int ⟨_, 1, _, rfl, rfl, at1 _ _, ⟨_, _, _, rfl, rfl, h3, w_sub (w_name 7 (w_int ⟨_, 1, _, rfl, rfl, at1 _ _, ⟨_, _, _, rfl, rfl, h4, ?_, ⟨_, key_ints [_, _]⟩, rfl⟩⟩))⟩⟩)))))
          show 2 ≤ sizeLine
          decide
        · refine w_tup (w_int ?_)
          refine w_sub (w_sub (w_name 0 (w_sub (w_name 5 (w_int ⟨_, 0, _, rfl, rfl, at0 _ _, ⟨_, _, _, rfl, rfl, h1, w_sub (w_name 7 (w_int ⟨_, 0, _, rfl, rfl, at0 _ _, ⟨_, _, _, rfl, rfl, h2, ?_, ⟨_, key_ints [_, _]⟩, rfl⟩⟩))⟩⟩)))))
          show 2 ≤ sizeLine
          decide
      · refine ⟨rows, rfl, by omega, r_nil ⟨rows ++ [.list es], _, by rw [List.length_append, hr]; rfl, fun row hm' => ?_, rfl⟩⟩
        rcases List.mem_append.mp hm' with z | z
        · exact hk row z
        · rw [List.mem_singleton.mp z]
          exact ⟨es, rfl, by rw [← a2.length, List.length_map, hl], a2.split⟩
    · subst ee
      rw [List.length_map, hl] at hr
      obtain ⟨p1, p2⟩ := tbK (d := .list rows) rfl hr hk hnm
      refine r_ret (w_callP CD (w_freeze 4 ⟨p1, fun d pd => ?_⟩))
      obtain ⟨u, e1, e2⟩ := p2 d pd
      exact postW_of hs ht e1 e2
end
end K09

namespace K09
open PySem PySem.Spec PyProof.Rows L2 TL
section
variable {P : Program} {w : World} {K : PySem.W.Frag} {mg : Str → Option Value} {base : Heap} {k : Nat} {f : Addr} {fd : FuncData}
abbrev nPw : List Str := ["one", "k", "places", "step", "longer", "row", "rows", "a", "x", "b", "i"]
abbrev sPw : Stmt := topS 23
theorem scPw : FnScope nPw ["one", "k"] (defScope sPw) := ⟨rfl, rfl, rfl, by decide +kernel, rfl, by decide +kernel, by decide +kernel⟩
theorem ok_pw (F : Fun K "_law_power" "_law_power" sPw f fd) (m1 : mg "len" = none) (m2 : mg "range" = none) (m3 : mg "sorted" = none) (m4 : mg "tuple" = none) (D : Dc P w K mg base "_law_dyed" 1 ["rows"] (spP preDyN postDyN)) : FnG P w K mg base 2 f fd ["one", "k"] (spP preP postP) := by
  refine fnP F scPw (fun ds ⟨_, _, _, e, _⟩ => by rw [e]; rfl) fun A hg hr ds ⟨n, c, t, e, ht, h1, hn, hc, hp⟩ => ?_
  subst e
  obtain ⟨fD, fdD, CD⟩ := D.callee (N := nPw) (st := sPw) hr hg (by decide : 1 ≤ 1)
  have lt : (t.map rowT).length = n := by rw [List.length_map, ht.sq.1]
  have pw : ∀ i, i ≤ c → n ^ i ≤ 16 := fun i hi => Nat.le_trans (Nat.pow_le_pow_right h1 hi) hp
  refine r_asg 2 scPw.nd (w_lst (w_tup ⟨Nat.zero_le _, ?_, ?_⟩))
  · show 1 ≤ sizeLine
    decide
  refine r_for 3 scPw.nd (wi_rg m2 (w_name 1 ⟨(c : Int), rfl, by omega, by omega, ?_⟩))
  rw [Int.toNat_natCast]
  refine ⟨fun i e => i ≤ c ∧ ∃ (ps : List (List Nat)) (s3 s4 s5 : Sl), ps.length = n ^ i ∧ (∀ p ∈ ps, p.length = i ∧ ∀ x ∈ p, x < n) ∧ e = [.va (tbT t), .va (.int (c : Int)), .va (.list (ps.map tpN)), s3, s4, s5, .no, .no, .no, .no, .no], ⟨Nat.zero_le _, [[]], .no, .no, .no, rfl, fun p hp => by rw [List.mem_singleton.mp hp]; exact ⟨rfl, fun _ h => (nomatch h)⟩, rfl⟩, fun i d e ed ⟨hi, ps, s3, s4, s5, hl, hk, ee⟩ => ?_, fun e ⟨hi, ps, s3, s4, s5, hl, hk, ee⟩ => ?_⟩
  · subst ee
    obtain ⟨hi', ed⟩ := rgD_get ed
    rw [Int.zero_add] at ed
    subst ed
    refine r_asg 4 scPw.nd (w_lst ⟨Nat.zero_le _, ?_⟩)
    refine r_for 5 scPw.nd (wi_seq (w_name 2 ⟨ps.map tpN, rfl, fun j e => j ≤ ps.length ∧ ∃ (qs : List (List Nat)) (s5 : Sl), qs.length = j * n ∧ (∀ p ∈ qs, p.length = i + 1 ∧ ∀ x ∈ p, x < n) ∧ e = [.va (tbT t), .va (.int (c : Int)), .va (.list (ps.map tpN)), .va (.int (i : Int)), .va (.list (qs.map tpN)), s5, .no, .no, .no, .no, .no], ⟨Nat.zero_le _, [], s5, by simp, fun _ h => (nomatch h), rfl⟩, fun j d e ed ⟨hj, qs, s5, hq, hkq, ee⟩ => ?_, fun e ⟨hj, qs, s5, hq, hkq, ee⟩ => ?_⟩))
    · subst ee
      have hjl : j < ps.length := by have := (List.getElem?_eq_some_iff.mp ed).1; rw [List.length_map] at this; exact this
      obtain ⟨p, hp1, ep⟩ := mem_tp (List.mem_of_getElem? ed)
      subst ep
      obtain ⟨pl, pb⟩ := hk p hp1
      have hb1 : n ^ i * n ≤ 16 := by have := pw (i + 1) hi'; rwa [Nat.pow_succ] at this
      have hb2 : j * n + n ≤ 16 := by
        have : (j + 1) * n ≤ n ^ i * n := Nat.mul_le_mul_right n (by omega)
        rw [Nat.add_mul, Nat.one_mul] at this
        omega
      refine r_asg 4 scPw.nd (w_cat (w_name 4 ⟨_, rfl, w_lc 8 (t := none) (wi_rg m2 (w_len m1 (w_name 0 ⟨(t.map rowT).length, rfl, (t.map rowT).length, rfl, by omega, by omega, ?_⟩))) scPw.nd⟩))
      rw [lt, Int.toNat_natCast]
      refine ⟨by rw [rgD_len]; omega, cj_map (fun d => .tuple ((p.map fun (x : Nat) => PyData.int (x : Int)) ++ [d])) (fun d hd => ?_) ⟨_, rfl, ?_, r_nil ⟨hjl, qs ++ (List.range n).map (fun x => p ++ [x]), .va (tpN p), ?_, fun q hm' => ?_, ?_⟩⟩⟩
      · obtain ⟨x, hx, ex⟩ := rg_in hd
        subst ex
        refine w_catT ?_
        refine w_name 5 ⟨_, rfl, ?_⟩
        refine w_tup ?_
        refine w_name 8 ⟨?_, _, rfl, ?_, rfl, rfl⟩
        · show 1 ≤ sizeLine
          decide
        · rw [List.length_map, pl]
          exact Nat.le_trans (show i + 1 ≤ 100 by omega) (by decide)
      · rw [List.length_map, hq, List.length_map, rgD_len]
        exact Nat.le_trans (show j * n + n ≤ 100 by omega) (by decide)
      · rw [List.length_append, List.length_map, List.length_range, hq, Nat.add_mul, Nat.one_mul]
      · rcases List.mem_append.mp hm' with z | z
        · exact hkq q z
        · obtain ⟨x, hx, e⟩ := List.mem_map.mp z
          rw [← e]
          refine ⟨by rw [List.length_append, pl]; rfl, fun y hy => ?_⟩
          rcases List.mem_append.mp hy with z | z
          · exact pb y z
          · rw [List.mem_singleton.mp z]
            exact List.mem_range.mp hx
      · rw [rgD_map _ (fun x => tpN (p ++ [x])) (fun x => by unfold tpN; rw [List.map_append]; rfl), List.map_append, List.map_map]
        rfl
    · subst ee
      rw [List.length_map] at hq hj
      refine r_asg 2 scPw.nd (w_name 4 (r_nil ⟨hi', qs, _, _, _, by rw [hq, hl, Nat.pow_succ], hkq, rfl⟩))
  · subst ee
    rw [rgD_len] at hl hk hi
    have h16 := pw c (Nat.le_refl c)
    have l100 : (ps.map tpN).length < 100000 := by rw [List.length_map, hl]; omega
    refine r_new 6 scPw.nd (by show 6 < 11; decide) ?_
    refine r_for 7 scPw.nd (wi_seq (w_name 2 ⟨ps.map tpN, rfl, fun j e => ∃ (rows : List PyData) (s7 : Sl), rows.length = j ∧ (∀ row ∈ rows, KL (n ^ c) row) ∧ e = [.va (tbT t), .va (.int (c : Int)), .va (.list (ps.map tpN)), s3, s4, s5, .ow rows, s7, .no, .no, .no], ⟨[], .no, rfl, fun _ h => (nomatch h), rfl⟩, fun j d e ed ⟨rows, s7, hr', hkr, ee⟩ => ?_, fun e ⟨rows, s7, hr', hkr, ee⟩ => ?_⟩))
    · subst ee
      have hj : j < ps.length := by have := (List.getElem?_eq_some_iff.mp ed).1; rw [List.length_map] at this; exact this
      obtain ⟨p, hp1, ep⟩ := mem_tp (List.mem_of_getElem? ed)
      subst ep
      obtain ⟨pl, pb⟩ := hk p hp1
      refine r_append 6 rfl ?_
      refine w_lc 9 (t := none) (lc_seq (w_name 2 ⟨ps.map tpN, rfl, l100, cj_rel (fun _ e => ∃ k, KeyD e k) (fun d hd => ?_) fun es a2 => ?_⟩)) scPw.nd
      · obtain ⟨q, hq1, eq⟩ := mem_tp hd
        subst eq
        obtain ⟨ql, qb⟩ := hk q hq1
        refine w_tupC m4 (w_sortedI m3 (w_lc 10 (t := none) (wi_rg m2 (w_name 1 ⟨(c : Int), rfl, by omega, by omega, ?_⟩)) scPw.nd))
        rw [Int.toNat_natCast]
        refine ⟨by rw [rgD_len]; omega, cj_map (fun d => match d with | .int i => .int (atN t (p.getD i.toNat 0) (q.getD i.toNat 0)) | _ => .none) (fun d hd => ?_) ⟨(List.range c).map fun i => atN t (p.getD i 0) (q.getD i 0), ?_, fun ys _ _ => ⟨_, rfl, ⟨_, key_ints ys⟩, rfl⟩⟩⟩
        · obtain ⟨i, hi2, ei⟩ := rg_in hd
          subst ei
          have ip : i < p.length := by omega
          have iq : i < q.length := by omega
          have gp : p.getD i 0 = p[i] := by rw [List.getD_eq_getElem?_getD, List.getElem?_eq_getElem ip]; rfl
          have gq : q.getD i 0 = q[i] := by rw [List.getD_eq_getElem?_getD, List.getElem?_eq_getElem iq]; rfl
          obtain ⟨r, z1, z2, _⟩ := tq_atN ht.sq (pb _ (List.getElem_mem ip)) (qb _ (List.getElem_mem iq))
          refine w_sub (w_sub (w_name 0 (w_sub (w_name 7 (w_name 10 ⟨_, _, _, rfl, rfl, tp_at ip, ⟨_, _, _, rfl, rfl, z1, w_sub (w_name 9 (w_name 10 ⟨_, _, _, rfl, rfl, tp_at iq, ⟨_, _, _, rfl, rfl, z2, ?_, rfl⟩⟩))⟩⟩)))))
          show PyData.int (atN t p[i] q[i]) = .int (atN t (p.getD (i : Int).toNat 0) (q.getD (i : Int).toNat 0))
          rw [Int.toNat_natCast, gp, gq]
        · rw [rgD_map _ (fun i => .int (atN t (p.getD i 0) (q.getD i 0))) (fun i => by show PyData.int _ = _; rw [Int.toNat_natCast]), List.map_map]
          rfl
      · refine ⟨rows, rfl, by omega, r_nil ⟨rows ++ [.list es], _, by rw [List.length_append, hr']; rfl, fun row hm' => ?_, rfl⟩⟩
        rcases List.mem_append.mp hm' with z | z
        · exact hkr row z
        · rw [List.mem_singleton.mp z]
          exact ⟨es, rfl, by rw [← a2.length, List.length_map, hl], a2.split⟩
    · subst ee
      rw [List.length_map, hl] at hr'
      obtain ⟨p1, p2⟩ := tbK (d := .list rows) rfl hr' hkr h16
      refine r_ret (w_callP CD (w_freeze 6 ⟨p1, fun d pd n' c' t' e' ht' => ?_⟩))
      obtain ⟨u, e1, e2⟩ := p2 d pd
      injection e' with q1 q2
      injection q2 with q2 _
      injection q2 with q2
      have := tbT_inj q1
      subst this
      have a1 : n = n' := by rw [← ht.sq.1, ← ht'.sq.1]
      have a2 : c = c' := by omega
      subst a1 a2
      exact ⟨u, e1, e2⟩
abbrev nSu : List Str := ["spans", "found", "span", "longer", "row", "k"]
abbrev sSu : Stmt := topS 25
theorem scSu : FnScope nSu ["spans"] (defScope sSu) := ⟨rfl, rfl, rfl, by decide +kernel, rfl, by decide +kernel, by decide +kernel⟩
theorem ok_su (F : Fun K "_law_sums" "_law_sums" sSu f fd) (m2 : mg "range" = none) : FnG P w K mg base 1 f fd ["spans"] (spP preS postS) := by
  refine fnP F scSu (fun ds ⟨_, e, _⟩ => by rw [e]; rfl) fun A hg hr ds ⟨sp, e, hl0, hb0, hp0⟩ => ?_
  subst e
  refine r_asg 1 scSu.nd (w_lst (w_tup ⟨Nat.zero_le _, ?_, ?_⟩))
  · show 1 ≤ sizeLine
    decide
  refine r_for 2 scSu.nd (wi_seq (w_name 0 ⟨sp.map fun (x : Nat) => PyData.int (x : Int), rfl, fun i e => i ≤ sp.length ∧ ∃ (ps : List (List Nat)) (s2 s3 s4 : Sl), ps.length = pr (sp.take i) ∧ (∀ p ∈ ps, p.length = i) ∧ e = [.va (tpN sp), .va (.list (ps.map tpN)), s2, s3, s4, .no], ⟨Nat.zero_le _, [[]], .no, .no, .no, rfl, fun p hp => by rw [List.mem_singleton.mp hp]; rfl, rfl⟩, fun i d e ed ⟨hi, ps, s2, s3, s4, hl, hk, ee⟩ => ?_, fun e ⟨hi, ps, s2, s3, s4, hl, hk, ee⟩ => ?_⟩))
  · subst ee
    have hi' : i < sp.length := by have := (List.getElem?_eq_some_iff.mp ed).1; rw [List.length_map] at this; exact this
    rw [List.getElem?_map, List.getElem?_eq_getElem hi'] at ed
    have ed : PyData.int (sp[i] : Int) = d := Option.some.inj ed
    subst ed
    obtain ⟨b1, b2⟩ := hb0 sp[i] (List.getElem_mem hi')
    have es : sp.take (i + 1) = sp.take i ++ [sp[i]] := by rw [List.take_add_one, List.getElem?_eq_getElem hi']; rfl
    have hb1 := hp0 (i + 1) hi'
    rw [es, pr_snoc] at hb1
    have hb3 := hp0 i hi
    refine r_asg 3 scSu.nd (w_lst ⟨Nat.zero_le _, ?_⟩)
    refine r_for 4 scSu.nd (wi_seq (w_name 1 ⟨ps.map tpN, rfl, fun j e => j ≤ ps.length ∧ ∃ (qs : List (List Nat)) (s4 : Sl), qs.length = j * sp[i] ∧ (∀ p ∈ qs, p.length = i + 1) ∧ e = [.va (tpN sp), .va (.list (ps.map tpN)), .va (.int (sp[i] : Int)), .va (.list (qs.map tpN)), s4, .no], ⟨Nat.zero_le _, [], s4, by simp, fun _ h => (nomatch h), rfl⟩, fun j d e ed ⟨hj, qs, s4, hq, hkq, ee⟩ => ?_, fun e ⟨hj, qs, s4, hq, hkq, ee⟩ => ?_⟩))
    · subst ee
      have hjl : j < ps.length := by have := (List.getElem?_eq_some_iff.mp ed).1; rw [List.length_map] at this; exact this
      obtain ⟨p, hp1, ep⟩ := mem_tp (List.mem_of_getElem? ed)
      subst ep
      have pl := hk p hp1
      have hb2 : j * sp[i] + sp[i] ≤ 16 := by
        have : (j + 1) * sp[i] ≤ pr (sp.take i) * sp[i] := Nat.mul_le_mul_right _ (by omega)
        rw [Nat.add_mul, Nat.one_mul] at this
        omega
      refine r_asg 3 scSu.nd (w_cat (w_name 3 ⟨_, rfl, w_lc 5 (t := none) (wi_rg m2 (w_name 2 ⟨(sp[i] : Int), rfl, by omega, by omega, ?_⟩)) scSu.nd⟩))
      rw [Int.toNat_natCast]
      refine ⟨by rw [rgD_len]; omega, cj_map (fun d => .tuple ((p.map fun (x : Nat) => PyData.int (x : Int)) ++ [d])) (fun d hd => ?_) ⟨_, rfl, ?_, r_nil ⟨hjl, qs ++ (List.range sp[i]).map (fun x => p ++ [x]), .va (tpN p), ?_, fun q hm' => ?_, ?_⟩⟩⟩
      · obtain ⟨x, hx, ex⟩ := rg_in hd
        subst ex
        refine w_catT ?_
        refine w_name 4 ⟨_, rfl, ?_⟩
        refine w_tup ?_
        refine w_name 5 ⟨?_, _, rfl, ?_, rfl, rfl⟩
        · show 1 ≤ sizeLine
          decide
        · rw [List.length_map, pl]
          exact Nat.le_trans (show i + 1 ≤ 100 by omega) (by decide)
      · rw [List.length_map, hq, List.length_map, rgD_len]
        exact Nat.le_trans (show j * sp[i] + sp[i] ≤ 100 by omega) (by decide)
      · rw [List.length_append, List.length_map, List.length_range, hq, Nat.add_mul, Nat.one_mul]
      · rcases List.mem_append.mp hm' with z | z
        · exact hkq q z
        · obtain ⟨x, hx, e⟩ := List.mem_map.mp z
          rw [← e, List.length_append, pl]
          rfl
      · rw [rgD_map _ (fun x => tpN (p ++ [x])) (fun x => by unfold tpN; rw [List.map_append]; rfl), List.map_append, List.map_map]
        rfl
    · subst ee
      rw [List.length_map] at hq hj
      refine r_asg 1 scSu.nd (w_name 3 (r_nil ⟨hi', qs, _, _, _, by rw [hq, hl, es, pr_snoc], hkq, rfl⟩))
  · subst ee
    rw [List.length_map] at hl hk
    refine r_ret (w_name 1 fun sp' e' => ?_)
    injection e' with e' _
    have := tp_inj e'
    subst this
    exact ⟨ps, rfl, by rw [hl, List.take_length], hk⟩
abbrev nGr : List Str := ["spans", "rows", "found", "a", "b", "i"]
abbrev sGr : Stmt := topS 26
theorem scGr : FnScope nGr ["spans"] (defScope sGr) := ⟨rfl, rfl, rfl, by decide +kernel, rfl, by decide +kernel, by decide +kernel⟩
theorem ok_gr (F : Fun K "_law_group" "_law_group" sGr f fd) (m1 : mg "len" = none) (m2 : mg "range" = none) (m3 : mg "int" = none) (m4 : mg "tuple" = none) (DS : Dc P w K mg base "_law_sums" 1 ["spans"] (spP preS postS)) (D : Dc P w K mg base "_law_dyed" 1 ["rows"] (spP preDyN postDyN)) : FnG P w K mg base 2 f fd ["spans"] (spP preS postGr) := by
  refine fnP F scGr (fun ds ⟨_, e, _⟩ => by rw [e]; rfl) fun A hg hr ds ⟨sp, e, hl0, hb0, hp0⟩ => ?_
  subst e
  obtain ⟨fD, fdD, CD⟩ := D.callee (N := nGr) (st := sGr) hr hg (by decide : 1 ≤ 1)
  obtain ⟨fS, fdS, CS⟩ := DS.callee (N := nGr) (st := sGr) hr hg (by decide : 1 ≤ 1)
  refine r_asg 1 scGr.nd (w_callP CS (w_name 0 ⟨⟨sp, rfl, hl0, hb0, hp0⟩, fun d pd => ?_⟩))
  obtain ⟨ps, e1, hl, hk⟩ := pd sp rfl
  subst e1
  have h16 : pr sp ≤ 16 := by have := hp0 sp.length (Nat.le_refl _); rwa [List.take_length] at this
  have l100 : (ps.map tpN).length < 100000 := by rw [List.length_map, hl]; omega
  have lsp : (sp.map fun (x : Nat) => PyData.int (x : Int)).length = sp.length := List.length_map _
  refine r_new 2 scGr.nd (by show 2 < 6; decide) ?_
  refine r_for 3 scGr.nd (wi_seq (w_name 1 ⟨ps.map tpN, rfl, fun j e => ∃ (rows : List PyData) (s3 : Sl), rows.length = j ∧ (∀ row ∈ rows, KL (pr sp) row) ∧ e = [.va (tpN sp), .va (.list (ps.map tpN)), .ow rows, s3, .no, .no], ⟨[], .no, rfl, fun _ h => (nomatch h), rfl⟩, fun j d e ed ⟨rows, s3, hr', hkr, ee⟩ => ?_, fun e ⟨rows, s3, hr', hkr, ee⟩ => ?_⟩))
  · subst ee
    have hj : j < ps.length := by have := (List.getElem?_eq_some_iff.mp ed).1; rw [List.length_map] at this; exact this
    obtain ⟨p, hp1, ep⟩ := mem_tp (List.mem_of_getElem? ed)
    subst ep
    have pl := hk p hp1
    refine r_append 2 rfl ?_
    refine w_lc 4 (t := none) (lc_seq (w_name 1 ⟨ps.map tpN, rfl, l100, cj_rel (fun _ e => ∃ k, KeyD e k) (fun d hd => ?_) fun es a2 => ?_⟩)) scGr.nd
    · obtain ⟨q, hq1, eq⟩ := mem_tp hd
      subst eq
      have ql := hk q hq1
      refine w_tupC m4 (w_lc 5 (t := none) (wi_rg m2 (w_len m1 (w_name 0 ⟨(sp.map fun (x : Nat) => PyData.int (x : Int)).length, rfl, (sp.map fun (x : Nat) => PyData.int (x : Int)).length, rfl, by omega, by omega, ?_⟩))) scGr.nd)
      rw [lsp, Int.toNat_natCast]
      refine ⟨by rw [rgD_len]; omega, cj_rel (fun _ e => ∃ z : Int, e = .int z) (fun d hd => ?_) fun zs az => ?_⟩
      · obtain ⟨i, hi2, ei⟩ := rg_in hd
        subst ei
        have ip : i < p.length := by omega
        have iq : i < q.length := by omega
        obtain ⟨b1, b2⟩ := hb0 sp[i] (List.getElem_mem hi2)
        refine w_mod ?_
        refine w_intC m3 ?_
        refine w_minus ?_
        refine w_sub (w_name 4 (w_name 5 ⟨_, _, _, rfl, rfl, tp_at iq, _, rfl, ?_⟩))
        refine w_sub (w_name 3 (w_name 5 ⟨_, _, _, rfl, rfl, tp_at ip, _, rfl, _, rfl, _, rfl, ?_⟩))
        refine w_sub (w_name 0 (w_name 5 ⟨_, _, _, rfl, rfl, tp_at hi2, _, rfl, ?_, ⟨_, rfl⟩, rfl⟩))
        omega
      · obtain ⟨ns, ens⟩ : ∃ ns : List Int, zs = ns.map PyData.int := by
          have : ∀ l : List PyData, (∀ b ∈ l, ∃ z : Int, b = .int z) → ∃ ns : List Int, l = ns.map PyData.int := by
            intro l
            induction l with
            | nil => exact fun _ => ⟨[], rfl⟩
            | cons b l ih =>
              intro h
              obtain ⟨z, ez⟩ := h b List.mem_cons_self
              obtain ⟨ns, e⟩ := ih fun x hx => h x (List.mem_cons_of_mem _ hx)
              exact ⟨z :: ns, by rw [ez, e]; rfl⟩
          exact this zs az.split
        subst ens
        exact ⟨_, rfl, ⟨_, key_ints ns⟩, rfl⟩
    · refine ⟨rows, rfl, by omega, r_nil ⟨rows ++ [.list es], _, by rw [List.length_append, hr']; rfl, fun row hm' => ?_, rfl⟩⟩
      rcases List.mem_append.mp hm' with z | z
      · exact hkr row z
      · rw [List.mem_singleton.mp z]
        exact ⟨es, rfl, by rw [← a2.length, List.length_map, hl], a2.split⟩
  · subst ee
    rw [List.length_map, hl] at hr'
    obtain ⟨p1, p2⟩ := tbK (d := .list rows) rfl hr' hkr h16
    refine r_ret (w_callP CD (w_freeze 2 ⟨p1, fun d pd sp' e' => ?_⟩))
    obtain ⟨u, e1, e2⟩ := p2 d pd
    injection e' with e' _
    have := tp_inj e'
    subst this
    exact ⟨u, e1, e2⟩
end
end K09

namespace K09
open PySem PySem.Spec PyProof.Rows L2 TL
section
variable {P : Program} {w : World} {K : PySem.W.Frag} {mg : Str → Option Value} {base : Heap} {k : Nat} {f : Addr} {fd : FuncData}
abbrev nBe : List Str := ["one", "other", "n", "m", "rows", "x", "y"]
abbrev sBe : Stmt := topS 24
theorem scBe : FnScope nBe ["one", "other"] (defScope sBe) := ⟨rfl, rfl, rfl, by decide +kernel, rfl, by decide +kernel, by decide +kernel⟩
theorem ok_be (F : Fun K "_law_beside" "_law_beside" sBe f fd) (m1 : mg "len" = none) (m2 : mg "range" = none) (D : Dc P w K mg base "_law_dyed" 1 ["rows"] (spP preDyN postDyN)) : FnG P w K mg base 2 f fd ["one", "other"] (spP preB postB) := by
  refine fnP F scBe (fun ds ⟨_, _, _, _, e, _⟩ => by rw [e]; rfl) fun A hg hr ds ⟨n, m, s, t, e, hs, ht, hnm⟩ => ?_
  subst e
  obtain ⟨fD, fdD, CD⟩ := D.callee (N := nBe) (st := sBe) hr hg (by decide : 1 ≤ 1)
  have ls : (s.map rowT).length = n := by rw [List.length_map, hs.sq.1]
  have lt : (t.map rowT).length = m := by rw [List.length_map, ht.sq.1]
  refine r_parNew3 2 3 4 (w_len m1 (w_name 0 ⟨_, rfl, w_len m1 (w_name 1 ⟨_, rfl, _, _, rfl, by show 4 < 7; decide, ?_⟩)⟩)) scBe.nd (by intro v hv; cases v; subst hv; rfl)
  rw [ls, lt]
  refine r_for 5 scBe.nd (wi_rg m2 (w_name 2 ⟨(n : Int), rfl, by omega, by omega, ?_⟩))
  rw [Int.toNat_natCast]
  refine ⟨fun i e => i ≤ n ∧ ∃ (s5 : Sl), e = [.va (tbT s), .va (tbT t), .va (.int (n : Int)), .va (.int (m : Int)), .ow ((List.range i).map (besR s t n (n + m))), s5, .no], ⟨Nat.zero_le _, .no, rfl⟩, fun i d e ed ⟨hi, s5, ee⟩ => ?_, fun e ⟨hi, s5, ee⟩ => ?_⟩
  · subst ee
    obtain ⟨hi', ed⟩ := rgD_get ed
    rw [Int.zero_add] at ed
    subst ed
    refine r_append 4 rfl (w_cat ?_)
    refine w_lc 6 (t := none) (wi_rg m2 (w_name 2 ⟨(n : Int), rfl, by omega, by omega, ?_⟩)) scBe.nd
    rw [Int.toNat_natCast]
    refine ⟨by rw [rgD_len]; omega, cj_map (fun d => match d with | .int y => triD (0, atN s i y.toNat, 0) | _ => .none) (fun d hd => ?_) ⟨_, rfl, ?_⟩⟩
    · obtain ⟨y, hy, ey⟩ := rg_in hd
      subst ey
      obtain ⟨r, h1, h2, _⟩ := tq_atN hs.sq hi' hy
      refine w_tup (w_int (w_sub (w_sub (w_name 0 (w_name 5 ⟨_, _, _, rfl, rfl, h1, w_name 6 ⟨_, _, _, rfl, rfl, h2, w_int ⟨?_, rfl, rfl⟩⟩⟩)))))
      show 3 ≤ sizeLine
      decide
    · refine w_lc 6 (t := none) (wi_rg m2 (w_name 3 ⟨(m : Int), rfl, by omega, by omega, ?_⟩)) scBe.nd
      rw [Int.toNat_natCast]
      refine ⟨by rw [rgD_len]; omega, cj_map (fun d => match d with | .int y => triD (2, atN s i i, atN t y.toNat y.toNat) | _ => .none) (fun d hd => ?_) ⟨_, rfl, ?_, _, rfl, ?_, r_nil ⟨hi', .va (.int (i : Int)), ?_⟩⟩⟩
      · obtain ⟨y, hy, ey⟩ := rg_in hd
        subst ey
        obtain ⟨r, h1, h2, _⟩ := tq_atN hs.sq hi' hi'
        obtain ⟨r', h3, h4, _⟩ := tq_atN ht.sq hy hy
        refine w_tup (w_int (w_sub (w_sub (w_name 0 (w_name 5 ⟨_, _, _, rfl, rfl, h1, w_name 5 ⟨_, _, _, rfl, rfl, h2, w_sub (w_sub (w_name 1 (w_name 6 ⟨_, _, _, rfl, rfl, h3, w_name 6 ⟨_, _, _, rfl, rfl, h4, ?_, rfl, rfl⟩⟩)))⟩⟩)))))
        show 3 ≤ sizeLine
        decide
      · rw [List.length_map, List.length_map, rgD_len, rgD_len]
        exact Nat.le_trans (show n + m ≤ 100 by omega) (by decide)
      · rw [List.length_map, List.length_range]
        omega
      · rw [rgD_map _ (fun y => triD (0, atN s i y, 0)) (fun y => by show triD (0, atN s i (y : Int).toNat, 0) = _; rw [Int.toNat_natCast]), rgD_map _ (fun y => triD (2, atN s i i, atN t y y)) (fun y => by show triD (2, atN s i i, atN t (y : Int).toNat (y : Int).toNat) = _; rw [Int.toNat_natCast]), List.range_succ, List.map_append]
        have : besR s t n (n + m) i = .list ((List.range n).map (fun y => triD (0, atN s i y, 0)) ++ (List.range m).map fun y => triD (2, atN s i i, atN t y y)) := by
          unfold besR
          rw [rg_split]
          refine congrArg PyData.list ?_
          refine congr (congrArg _ (List.map_congr_left fun y hy => ?_)) (List.map_congr_left fun y hy => ?_)
          · unfold besT
            rw [if_pos hi', if_pos (List.mem_range.mp hy)]
          · unfold besT
            rw [if_pos hi', if_neg (by omega), Nat.add_sub_cancel_left]
        rw [List.map_singleton, this]
        rfl
  · subst ee
    rw [rgD_len]
    refine r_for 5 scBe.nd (wi_rg m2 (w_name 3 ⟨(m : Int), rfl, by omega, by omega, ?_⟩))
    rw [Int.toNat_natCast]
    refine ⟨fun i e => i ≤ m ∧ ∃ (s5 : Sl), e = [.va (tbT s), .va (tbT t), .va (.int (n : Int)), .va (.int (m : Int)), .ow ((List.range (n + i)).map (besR s t n (n + m))), s5, .no], ⟨Nat.zero_le _, s5, rfl⟩, fun i d e ed ⟨hi, s5, ee⟩ => ?_, fun e ⟨hi, s5, ee⟩ => ?_⟩
    · subst ee
      obtain ⟨hi', ed⟩ := rgD_get ed
      rw [Int.zero_add] at ed
      subst ed
      refine r_append 4 rfl (w_cat ?_)
      refine w_lc 6 (t := none) (wi_rg m2 (w_name 2 ⟨(n : Int), rfl, by omega, by omega, ?_⟩)) scBe.nd
      rw [Int.toNat_natCast]
      refine ⟨by rw [rgD_len]; omega, cj_map (fun d => match d with | .int y => triD (3, atN t i i, atN s y.toNat y.toNat) | _ => .none) (fun d hd => ?_) ⟨_, rfl, ?_⟩⟩
      · obtain ⟨y, hy, ey⟩ := rg_in hd
        subst ey
        obtain ⟨r, h1, h2, _⟩ := tq_atN ht.sq hi' hi'
        obtain ⟨r', h3, h4, _⟩ := tq_atN hs.sq hy hy
        refine w_tup (w_int (w_sub (w_sub (w_name 1 (w_name 5 ⟨_, _, _, rfl, rfl, h1, w_name 5 ⟨_, _, _, rfl, rfl, h2, w_sub (w_sub (w_name 0 (w_name 6 ⟨_, _, _, rfl, rfl, h3, w_name 6 ⟨_, _, _, rfl, rfl, h4, ?_, rfl, rfl⟩⟩)))⟩⟩)))))
        show 3 ≤ sizeLine
        decide
      · refine w_lc 6 (t := none) (wi_rg m2 (w_name 3 ⟨(m : Int), rfl, by omega, by omega, ?_⟩)) scBe.nd
        rw [Int.toNat_natCast]
        refine ⟨by rw [rgD_len]; omega, cj_map (fun d => match d with | .int y => triD (1, atN t i y.toNat, 0) | _ => .none) (fun d hd => ?_) ⟨_, rfl, ?_, _, rfl, ?_, r_nil ⟨hi', .va (.int (i : Int)), ?_⟩⟩⟩
        · obtain ⟨y, hy, ey⟩ := rg_in hd
          subst ey
          obtain ⟨r, h1, h2, _⟩ := tq_atN ht.sq hi' hy
          refine w_tup (w_int (w_sub (w_sub (w_name 1 (w_name 5 ⟨_, _, _, rfl, rfl, h1, w_name 6 ⟨_, _, _, rfl, rfl, h2, w_int ⟨?_, rfl, rfl⟩⟩⟩)))))
          show 3 ≤ sizeLine
          decide
        · rw [List.length_map, List.length_map, rgD_len, rgD_len]
          exact Nat.le_trans (show n + m ≤ 100 by omega) (by decide)
        · rw [List.length_map, List.length_range]
          omega
        · rw [rgD_map _ (fun y => triD (3, atN t i i, atN s y y)) (fun y => by show triD (3, atN t i i, atN s (y : Int).toNat (y : Int).toNat) = _; rw [Int.toNat_natCast]), rgD_map _ (fun y => triD (1, atN t i y, 0)) (fun y => by show triD (1, atN t i (y : Int).toNat, 0) = _; rw [Int.toNat_natCast]), show n + (i + 1) = (n + i) + 1 from rfl, List.range_succ, List.map_append]
          have : besR s t n (n + m) (n + i) = .list ((List.range n).map (fun y => triD (3, atN t i i, atN s y y)) ++ (List.range m).map fun y => triD (1, atN t i y, 0)) := by
            unfold besR
            rw [rg_split]
            refine congrArg PyData.list ?_
            refine congr (congrArg _ (List.map_congr_left fun y hy => ?_)) (List.map_congr_left fun y hy => ?_)
            · unfold besT
              rw [if_neg (by omega), if_pos (List.mem_range.mp hy), Nat.add_sub_cancel_left]
            · unfold besT
              rw [if_neg (by omega), if_neg (by omega), Nat.add_sub_cancel_left, Nat.add_sub_cancel_left]
          rw [List.map_singleton, this]
          rfl
    · subst ee
      rw [rgD_len]
      have tl := tabF_len (n + m) (besF s t n)
      refine r_ret (w_callP CD (w_freeze 4 ⟨⟨_, _, rfl, bes_tb s t n (n + m), by rw [tl.1]; omega, fun r hr => by rw [tl.2 r hr]; omega⟩, fun d pd n' m' s' t' e' hs' ht' => ?_⟩))
      injection e' with q1 q2
      injection q2 with q2 _
      have q1 := tbT_inj q1
      have q2 := tbT_inj q2
      subst q1 q2
      have h1 : n = n' := by rw [← hs.sq.1, ← hs'.sq.1]
      have h2 : m = m' := by rw [← ht.sq.1, ← ht'.sq.1]
      subst h1 h2
      exact pd _ _ rfl (bes_tb s t n (n + m))
end
end K09

namespace K09
open PySem PySem.Spec PyProof.Rows L2 TL
section
variable {P : Program} {w : World} {K : PySem.W.Frag} {mg : Str → Option Value} {base : Heap} {k : Nat} {f : Addr} {fd : FuncData}
abbrev nSt : List Str := ["m", "word", "small", "pairs", "x", "y", "a", "b", "p"]
abbrev sSt : Stmt := topS 27
theorem scSt : FnScope nSt ["m"] (defScope sSt) := ⟨rfl, rfl, rfl, by decide +kernel, rfl, by decide +kernel, by decide +kernel⟩
theorem ok_st (F : Fun K "_law_steady" "_law_steady" sSt f fd) (m1 : mg "len" = none) (m2 : mg "range" = none) (m3 : mg "min" = none) (m4 : mg "int" = none) (D : Dc P w K mg base "_law_draw" 1 ["m", "bound"] (spM 1 preD postD)) (DC : Dc P w K mg base "_law_complete" 2 ["q"] (spP preQ postQ)) (DP : Dc P w K mg base "_law_power" 2 ["one", "k"] (spP preP postP)) (DL : Dc P w K mg base "_law_closing" 3 ["dyeing_here"] (spP preG postG)) (DY : Dc P w K mg base "_law_dyed" 1 ["rows"] (spP preDy postDy)) (DG : Dc P w K mg base "_law_group" 2 ["spans"] (spP preS postGr)) (DW : Dc P w K mg base "_law_woven" 2 ["one", "other"] (spP preW postW)) (DN : Dc P w K mg base "_law_nested" 2 ["one", "other"] (spP preW postW)) : FnG P w K mg base 4 f fd ["m"] (spM 10 preSt postSt) := by
  refine fnM F scSt (fun ds e => by rw [show ds = [] from e]; rfl) fun A hg hr a n0 ds e hn0 => ?_
  have e' : ds = [] := e
  subst e'
  obtain ⟨fD, fdD, C⟩ := D.callee (N := nSt) (st := sSt) hr hg (by decide : 1 ≤ 3)
  obtain ⟨fC, fdC, CC⟩ := DC.callee (N := nSt) (st := sSt) hr hg (by decide : 2 ≤ 3)
  obtain ⟨fP, fdP, CP⟩ := DP.callee (N := nSt) (st := sSt) hr hg (by decide : 2 ≤ 3)
  obtain ⟨fL, fdL, CL⟩ := DL.callee (N := nSt) (st := sSt) hr hg (by decide : 3 ≤ 3)
  obtain ⟨fY, fdY, CY⟩ := DY.callee (N := nSt) (st := sSt) hr hg (by decide : 1 ≤ 3)
  obtain ⟨fG, fdG, CG⟩ := DG.callee (N := nSt) (st := sSt) hr hg (by decide : 2 ≤ 3)
  obtain ⟨fW, fdW, CW⟩ := DW.callee (N := nSt) (st := sSt) hr hg (by decide : 2 ≤ 3)
  obtain ⟨fN, fdN, CN⟩ := DN.callee (N := nSt) (st := sSt) hr hg (by decide : 2 ≤ 3)
  have hl0 : (LIM : Nat) = 1000000000 := rfl
  refine r_asg 1 scSt.nd (w_callM 0 C rfl (w_int ⟨n0, rfl, by omega, ⟨_, rfl, by decide, by decide⟩, fun d1 n1 hn1 pd1 => ?_⟩))
  obtain ⟨wd, e1, g1, g2⟩ := pd_int pd1
  subst e1
  refine r_asg 2 scSt.nd (w_lst ?_)
  refine w_callP CC (w_add (w_int ⟨1, rfl, w_callM 0 C rfl (w_int ⟨n1, rfl, by omega, ⟨_, rfl, by decide, by decide⟩, fun d2 n2 hn2 pd2 => ?_⟩)⟩))
  obtain ⟨z2, e2, g3, g4⟩ := pd_int pd2
  subst e2
  obtain ⟨q1, q2⟩ := hQ (z := 1 + z2) (by omega) (by omega)
  refine ⟨_, rfl, q1, fun d pd => ?_⟩
  obtain ⟨s1, u1, en1, e, hu1⟩ := q2 d pd
  subst e
  refine w_callP CC (w_add (w_int ⟨2, rfl, w_callM 0 C rfl (w_int ⟨n2, rfl, by omega, ⟨_, rfl, by decide, by decide⟩, fun d3 n3 hn3 pd3 => ?_⟩)⟩))
  obtain ⟨z3, e3, g5, g6⟩ := pd_int pd3
  subst e3
  obtain ⟨q1, q2⟩ := hQ (z := 2 + z3) (by omega) (by omega)
  refine ⟨_, rfl, q1, fun d pd => ?_⟩
  obtain ⟨s2, u2, en2, e, hu2⟩ := q2 d pd
  subst e
  refine ⟨by show 2 ≤ sizeLine; decide, ?_⟩
  have b1 : 1 ≤ s1 := by omega
  have b2 : s1 ≤ 4 := by omega
  have b3 : 1 ≤ s2 := by omega
  have b4 : s2 ≤ 4 := by omega
  have b5 : s1 * s2 ≤ 4 * 4 := Nat.mul_le_mul b2 b4
  let N0 : DE := { nx := fun e => ∃ n', e[0]? = some (.ms a n') ∧ n' ≤ n0 + 10 ∧ postSt [] .none, rt := fun d e => ∃ n', e[0]? = some (.ms a n') ∧ n' ≤ n0 + 10 ∧ postSt [] d }
  let G0 : Gx := GxOf P w K mg base nSt sSt A
  let E0 : En := [.ms a n3, .va (.int wd), .va (.list [tbT u1, tbT u2]), .no, .no, .no, .no, .no, .no]
  have k9 : Rs G0 ((defBody sSt).drop 9) E0 N0 := by
    obtain ⟨w1, w2⟩ := hW hu1 hu2 b1 b3 b5
    exact r_ret (w_callP CN (w_sub (w_name 2 (w_int ⟨_, 0, _, rfl, rfl, at0 _ _, w_sub (w_name 2 (w_int ⟨_, 1, _, rfl, rfl, at1 _ _, w1, fun d pd => ⟨n3, rfl, by omega, w2 d pd⟩⟩))⟩))))
  have k8 : Rs G0 ((defBody sSt).drop 8) E0 N0 := by
    obtain ⟨w1, w2⟩ := hW hu1 hu2 b1 b3 b5
    refine r_if (wt_lt (w_name 1 ⟨wd, rfl, w_int ⟨8, rfl, ifd (fun hw => ?_) fun _ => r_nil k9⟩⟩))
    exact r_ret (w_callP CW (w_sub (w_name 2 (w_int ⟨_, 0, _, rfl, rfl, at0 _ _, w_sub (w_name 2 (w_int ⟨_, 1, _, rfl, rfl, at1 _ _, w1, fun d pd => ⟨n3, rfl, by omega, w2 d pd⟩⟩))⟩))))
  have k7 : Rs G0 ((defBody sSt).drop 7) E0 N0 := by
    refine r_if (wt_eqI (w_name 1 ⟨wd, rfl, w_int ⟨5, rfl, ifd (fun hw => ?_) fun _ => r_nil k8⟩⟩))
    refine r_ret (w_callP CG (w_rep1 (w_tup (w_int ⟨by show 1 ≤ sizeLine; decide, _, rfl, w_add (w_int ⟨1, rfl, w_callM 0 C rfl (w_int ⟨n3, rfl, by omega, ⟨_, rfl, by decide, by decide⟩, fun d4 n4 hn4 pd4 => ?_⟩)⟩)⟩))))
    obtain ⟨z4, e4, g7, g8⟩ := pd_int pd4
    subst e4
    obtain ⟨c, rfl⟩ := Int.eq_ofNat_of_zero_le g7
    have hc : c = 0 ∨ c = 1 ∨ c = 2 ∨ c = 3 := by omega
    have ok1 : okS (List.replicate (1 + c) 2) = true ∧ 1 ≤ pr (List.replicate (1 + c) 2) ∧ pr (List.replicate (1 + c) 2) ≤ 16 := by
      rcases hc with rfl | rfl | rfl | rfl <;> decide
    have et : PyData.tuple (List.replicate (1 + c) (.int 2)) = tpN (List.replicate (1 + c) 2) := by
      unfold tpN
      rw [List.map_replicate]
      rfl
    obtain ⟨h1, h2⟩ := hS ok1.1
    refine ⟨_, rfl, 1 + c, by rw [Int.natCast_add]; rfl, by omega, by omega, ?_⟩
    rw [et]
    exact ⟨h1, fun d pd => ⟨n4, rfl, by omega, by obtain ⟨u, e, h⟩ := h2 d pd; exact ⟨_, u, e, h, ok1.2.1, ok1.2.2⟩⟩⟩
  have k6 : Rs G0 ((defBody sSt).drop 6) E0 N0 := by
    obtain ⟨c, p, e, q, r, q2, q3, hb, hc, he, hr2⟩ : ∃ c p e q r q2 q3, (defBody sSt).drop 6 = .If c [.Assign [.Name "pairs" p] e q, .Return (some r) q2] [] q3 :: (defBody sSt).drop 7 ∧ c = eOf ((defBody sSt).drop 6) ∧ e = eOf (bOf ((defBody sSt).drop 6)) ∧ r = eOf ((bOf ((defBody sSt).drop 6)).drop 1) := ⟨_, _, _, _, _, _, _, rfl, rfl, rfl, rfl⟩
    rw [hb]
    refine r_if ?_
    rw [hc]
    show WT _ (.Compare _ _ _ _) _ _
    refine wt_eqI (w_name 1 ⟨wd, rfl, w_int ⟨4, rfl, ifd (fun hw => ?_) fun _ => r_nil k7⟩⟩)
    refine r_asg 3 scSt.nd ?_ (hs := fun v y hv => by rw [he]; rfl)
    rw [he]
    show W _ (.List _ _) _ _
    refine w_lst ?_
    iterate 10
      refine w_tup ?_
      refine w_int (w_int ⟨by show 2 ≤ sizeLine; decide, ?_⟩)
    refine ⟨by show 10 ≤ sizeLine; decide, ?_⟩
    show Rs _ _ [.ms a n3, .va (.int wd), .va (.list [tbT u1, tbT u2]), .va (.list (prs.map prN)), .no, .no, .no, .no, .no] _
    refine r_ret ?_
    rw [hr2]
    show W _ (.Call _ _ _ _) _ _
    have l100 : (prs.map prN).length < 100000 := by rw [List.length_map]; decide
    refine w_callP CY (w_lc 6 (t := none) (lc_seq (w_name 3 ⟨prs.map prN, rfl, l100, cj_rel (fun _ row => ∃ ns : List Int, row = .list (ns.map .int) ∧ ns.length = 10) (fun d hd => ?_) fun acc al => ?_⟩)) scSt.nd)
    · obtain ⟨x, hx, ex⟩ := mem_pr hd
      subst ex
      refine w_lc 7 (t := none) (lc_seq (w_name 3 ⟨prs.map prN, rfl, l100, cj_rel (fun _ e => ∃ z : Int, e = .int z) (fun d hd => ?_) fun es a2 => ?_⟩)) scSt.nd
      · obtain ⟨y, hy, ey⟩ := mem_pr hd
        subst ey
        refine w_len m1 (w_lc 8 (t := some _) (lc_seq (w_name 6 ⟨[.int (x.1 : Int), .int (x.2 : Int)], rfl, by show 2 < 100000; decide, ?_⟩)) scSt.nd)
        refine cj_filter (fun d => match d with | .int i => !decide (i ∈ [(y.1 : Int), (y.2 : Int)]) | _ => true) (fun d hd => ?_) (fun d hd => w_name 8 ⟨rfl, rfl⟩) ⟨_, rfl, ⟨_, rfl⟩, rfl⟩
        have : ∃ i : Int, d = .int i := by
          rcases List.mem_cons.mp hd with z | z
          · exact ⟨_, z⟩
          · exact ⟨_, List.mem_singleton.mp z⟩
        obtain ⟨i, ei⟩ := this
        subst ei
        exact wt_notInI (w_name 8 ⟨i, rfl, w_name 7 ⟨[(y.1 : Int), (y.2 : Int)], rfl, rfl, rfl⟩⟩)
      · obtain ⟨ns, en⟩ := all_ints a2.split
        refine ⟨⟨ns, by rw [en], ?_⟩, rfl⟩
        have := a2.length
        rw [en, List.length_map, List.length_map] at this
        exact this.symm
    · obtain ⟨T, e1, hT⟩ := tbI (n := 10) (by rw [← al.length, List.length_map]; rfl) al.split
      rw [e1]
      refine ⟨⟨_, T, rfl, isTb_L T, by rw [hT.1]; decide, fun r hr => by rw [hT.2 r hr]; decide⟩, fun d pd => ⟨n3, rfl, by omega, 10, _, pd _ T rfl (isTb_L T), dye_of hT, by decide, by decide⟩⟩
  have k5 : Rs G0 ((defBody sSt).drop 5) E0 N0 := by
    refine r_if (wt_eqI (w_name 1 ⟨wd, rfl, w_int ⟨3, rfl, ifd (fun hw => ?_) fun _ => r_nil k6⟩⟩))
    refine r_ret (w_callP CL (w_callP CY (w_lc 4 (t := none) (wi_rg m2 (w_int ⟨((6 : Nat) : Int), rfl, by omega, by omega, ?_⟩)) scSt.nd)))
    rw [Int.toNat_natCast]
    refine ⟨by rw [rgD_len]; omega, cj_rel (fun _ row => ∃ ns : List Int, row = .list (ns.map .int) ∧ ns.length = 6) (fun d hd => ?_) fun acc al => ?_⟩
    · obtain ⟨x, hx, ex⟩ := rg_in hd
      subst ex
      refine w_lc 5 (t := none) (wi_rg m2 (w_int ⟨((6 : Nat) : Int), rfl, by omega, by omega, ?_⟩)) scSt.nd
      rw [Int.toNat_natCast]
      refine ⟨by rw [rgD_len]; omega, cj_rel (fun _ e => ∃ z : Int, e = .int z) (fun d hd => ?_) fun es a2 => ?_⟩
      · obtain ⟨y, hy, ey⟩ := rg_in hd
        subst ey
        refine w_min2 m3 ?_
        refine w_mod (w_intC m4 (w_minus (w_name 4 ⟨_, rfl, w_name 5 ⟨_, rfl, _, rfl, _, rfl, w_int ⟨6, rfl, by decide, ?_⟩⟩⟩)))
        exact w_mod (w_intC m4 (w_minus (w_name 5 ⟨_, rfl, w_name 4 ⟨_, rfl, _, rfl, _, rfl, w_int ⟨6, rfl, by decide, _, _, rfl, ⟨_, rfl⟩, rfl⟩⟩⟩)))
      · obtain ⟨ns, en⟩ := all_ints a2.split
        refine ⟨⟨ns, by rw [en], ?_⟩, rfl⟩
        have := a2.length
        rw [en, List.length_map, rgD_len] at this
        exact this.symm
    · obtain ⟨T, e1, hT⟩ := tbI (n := 6) (by rw [← al.length, rgD_len]) al.split
      rw [e1]
      refine ⟨⟨_, T, rfl, isTb_L T, by rw [hT.1]; decide, fun r hr => by rw [hT.2 r hr]; decide⟩, fun d pd => ?_⟩
      have e2 := pd _ T rfl (isTb_L T)
      subst e2
      refine ⟨⟨6, _, rfl, dye_of hT, by decide⟩, fun d pd => ⟨n3, rfl, by omega, 6, ?_⟩⟩
      obtain ⟨u, e, h⟩ := pd 6 _ rfl (dye_of hT)
      exact ⟨u, e, h, by decide, by decide⟩
  have k4 : Rs G0 ((defBody sSt).drop 4) E0 N0 := by
    refine r_if (wt_eqI (w_name 1 ⟨wd, rfl, w_int ⟨2, rfl, ifd (fun hw => ?_) fun _ => r_nil k5⟩⟩))
    refine r_ret (w_callP CP (w_callP CC (w_add (w_int ⟨3, rfl, w_callM 0 C rfl (w_int ⟨n3, rfl, by omega, ⟨_, rfl, by decide, by decide⟩, fun d4 n4 hn4 pd4 => ?_⟩)⟩))))
    obtain ⟨z4, e4, g7, g8⟩ := pd_int pd4
    subst e4
    obtain ⟨q1, q2⟩ := hQ (z := 3 + z4) (by omega) (by omega)
    refine ⟨_, rfl, q1, fun d pd => ?_⟩
    obtain ⟨s, u, en, e, hu⟩ := q2 d pd
    subst e
    have hs : s ≤ 4 := by omega
    have hp : s ^ (2 : Int).toNat ≤ 16 := Nat.le_trans (Nat.pow_le_pow_left hs 2) (by decide)
    obtain ⟨p1, p2⟩ := hP hu (by omega) (by omega) (z := 2) (by omega) (by omega) hp
    exact w_int ⟨p1, fun d pd => ⟨n4, rfl, by omega, p2 d pd⟩⟩
  have k3 : Rs G0 ((defBody sSt).drop 3) E0 N0 := by
    refine r_if (wt_eqI (w_name 1 ⟨wd, rfl, w_int ⟨1, rfl, ifd (fun hw => ?_) fun _ => r_nil k4⟩⟩))
    obtain ⟨q1, q2⟩ := hQ (z := 2) (by omega) (by omega)
    refine r_ret (w_callP CP (w_callP CC (w_int ⟨q1, fun d pd => ?_⟩)))
    obtain ⟨s, u, en, e, hu⟩ := q2 d pd
    subst e
    refine w_add (w_int ⟨1, rfl, w_callM 0 C rfl (w_int ⟨n3, rfl, by omega, ⟨_, rfl, by decide, by decide⟩, fun d4 n4 hn4 pd4 => ?_⟩)⟩)
    obtain ⟨z4, e4, g7, g8⟩ := pd_int pd4
    subst e4
    have hs : s = 2 := by omega
    subst hs
    have hp : 2 ^ (1 + z4).toNat ≤ 16 := Nat.le_trans (Nat.pow_le_pow_right (by decide) (show (1 + z4).toNat ≤ 4 by omega)) (by decide)
    obtain ⟨p1, p2⟩ := hP hu (by omega) (by omega) (z := 1 + z4) (by omega) (by omega) hp
    exact ⟨_, rfl, p1, fun d pd => ⟨n4, rfl, by omega, p2 d pd⟩⟩
  refine r_if (wt_eqI (w_name 1 ⟨wd, rfl, w_int ⟨0, rfl, ifd (fun hw => ?_) fun _ => r_nil k3⟩⟩))
  refine r_ret (w_callP CC (w_add (w_int ⟨1, rfl, w_callM 0 C rfl (w_int ⟨n3, rfl, by omega, ⟨_, rfl, by decide, by decide⟩, fun d4 n4 hn4 pd4 => ?_⟩)⟩)))
  obtain ⟨z4, e4, g7, g8⟩ := pd_int pd4
  subst e4
  obtain ⟨q1, q2⟩ := hQ (z := 1 + z4) (by omega) (by omega)
  refine ⟨_, rfl, q1, fun d pd => ⟨n4, rfl, by omega, ?_⟩⟩
  obtain ⟨s, u, en, e, hu⟩ := q2 d pd
  exact ⟨s, u, e, hu, by omega, by omega⟩
end
end K09

namespace K09
open PySem PySem.Spec PyProof.Rows L2 TL
section
variable {P : Program} {w : World} {K : PySem.W.Frag} {mg : Str → Option Value} {base : Heap} {k : Nat} {f : Addr} {fd : FuncData}
abbrev nEv : List Str := ["m", "most", "word", "n", "row", "k", "x", "y"]
abbrev sEv : Stmt := topS 28
theorem scEv : FnScope nEv ["m", "most"] (defScope sEv) := ⟨rfl, rfl, rfl, by decide +kernel, rfl, by decide +kernel, by decide +kernel⟩
theorem ok_ev (F : Fun K "_law_even" "_law_even" sEv f fd) (m2 : mg "range" = none) (m4 : mg "int" = none) (D : Dc P w K mg base "_law_draw" 1 ["m", "bound"] (spM 1 preD postD)) (DO : Dc P w K mg base "_law_of" 2 ["m", "some"] (spM 1 preOf postOf)) (DC : Dc P w K mg base "_law_complete" 2 ["q"] (spP preQ postQ)) (DL : Dc P w K mg base "_law_closing" 3 ["dyeing_here"] (spP preG postG)) (DY : Dc P w K mg base "_law_dyed" 1 ["rows"] (spP preDy postDy)) (DG : Dc P w K mg base "_law_group" 2 ["spans"] (spP preS postGr)) (DW : Dc P w K mg base "_law_woven" 2 ["one", "other"] (spP preW postW)) (DN : Dc P w K mg base "_law_nested" 2 ["one", "other"] (spP preW postW)) (DS : Dc P w K mg base "_law_steady" 4 ["m"] (spM 10 preSt postSt)) : FnG P w K mg base 5 f fd ["m", "most"] (spM 40 preEv postEv) := by
  refine fnM F scEv (fun ds ⟨_, e, _⟩ => by rw [e]; rfl) fun A hg hr a n0 ds ⟨kk, e, hk1, hk2⟩ hn0 => ?_
  subst e
  obtain ⟨fD, fdD, C⟩ := D.callee (N := nEv) (st := sEv) hr hg (by decide : 1 ≤ 4)
  obtain ⟨fO, fdO, CO⟩ := DO.callee (N := nEv) (st := sEv) hr hg (by decide : 2 ≤ 4)
  obtain ⟨fC, fdC, CC⟩ := DC.callee (N := nEv) (st := sEv) hr hg (by decide : 2 ≤ 4)
  obtain ⟨fL, fdL, CL⟩ := DL.callee (N := nEv) (st := sEv) hr hg (by decide : 3 ≤ 4)
  obtain ⟨fY, fdY, CY⟩ := DY.callee (N := nEv) (st := sEv) hr hg (by decide : 1 ≤ 4)
  obtain ⟨fG, fdG, CG⟩ := DG.callee (N := nEv) (st := sEv) hr hg (by decide : 2 ≤ 4)
  obtain ⟨fW, fdW, CW⟩ := DW.callee (N := nEv) (st := sEv) hr hg (by decide : 2 ≤ 4)
  obtain ⟨fN, fdN, CN⟩ := DN.callee (N := nEv) (st := sEv) hr hg (by decide : 2 ≤ 4)
  obtain ⟨fS, fdS, CS⟩ := DS.callee (N := nEv) (st := sEv) hr hg (by decide : 4 ≤ 4)
  have hl0 : (LIM : Nat) = 1000000000 := rfl
  refine r_un2 2 3 (w_tup (w_callM 0 C rfl (w_int ⟨n0, rfl, by omega, ⟨_, rfl, by decide, by decide⟩, fun d1 n1 hn1 pd1 => ?_⟩))) scEv.nd (by intro v hv; cases v; subst hv; rfl)
  refine w_add (w_int ⟨1, rfl, w_callM 0 C rfl (w_name 1 ⟨n1, rfl, by omega, ⟨(kk : Int), rfl, by omega, by omega⟩, fun d2 n2 hn2 pd2 => ?_⟩)⟩)
  obtain ⟨wd, e1, g1, g2⟩ := pd_int pd1
  obtain ⟨zn, e2, g3, g4⟩ := pd_int pd2
  subst e1 e2
  refine ⟨zn, rfl, by show 2 ≤ sizeLine; decide, _, _, rfl, ?_⟩
  obtain ⟨n, en⟩ : ∃ n : Nat, 1 + zn = (n : Int) := ⟨(1 + zn).toNat, by omega⟩
  rw [en]
  have hn1' : 1 ≤ n := by omega
  have hn16 : n ≤ 16 := by omega
  let N0 : DE := { nx := fun e => ∃ n', e[0]? = some (.ms a n') ∧ n' ≤ n0 + 40 ∧ postEv [.int (kk : Int)] .none, rt := fun d e => ∃ n', e[0]? = some (.ms a n') ∧ n' ≤ n0 + 40 ∧ postEv [.int (kk : Int)] d }
  let G0 : Gx := GxOf P w K mg base nEv sEv A
  let E0 : En := [.ms a n2, .va (.int (kk : Int)), .va (.int wd), .va (.int (n : Int)), .no, .no, .no, .no]
  have k5 : Rs G0 ((defBody sEv).drop 5) E0 N0 := by
    refine r_ret (w_callM 0 CS rfl ⟨n2, rfl, by omega, rfl, fun d n3 hn3 pd => ⟨n3, rfl, by omega, pd⟩⟩)
  have k4 : Rs G0 ((defBody sEv).drop 4) E0 N0 := by
    refine r_if (wt_eqI (w_name 2 ⟨wd, rfl, w_int ⟨4, rfl, ifd (fun hw => ?_) fun _ => r_nil k5⟩⟩))
    obtain ⟨h1, h2⟩ := hS1 (n := 3) (by decide) (by decide)
    refine r_ret (w_callP CW (w_callP CG (w_tup (w_int ⟨by show 1 ≤ sizeLine; decide, h1, fun d pd => ?_⟩))))
    obtain ⟨u, e, hu⟩ := h2 d pd
    subst e
    refine w_callP CC (w_add (w_int ⟨2, rfl, w_callM 0 C rfl (w_int ⟨n2, rfl, by omega, ⟨_, rfl, by decide, by decide⟩, fun d3 n3 hn3 pd3 => ?_⟩)⟩))
    obtain ⟨z3, e3, g5, g6⟩ := pd_int pd3
    subst e3
    obtain ⟨q1, q2⟩ := hQ (z := 2 + z3) (by omega) (by omega)
    refine ⟨_, rfl, q1, fun d pd => ?_⟩
    obtain ⟨s, v, es, e, hv⟩ := q2 d pd
    subst e
    have b5 : 3 * s ≤ 16 := by omega
    obtain ⟨w1, w2⟩ := hW hu hv (by decide) (by omega) b5
    exact ⟨w1, fun d pd => ⟨n3, rfl, by omega, w2 d pd⟩⟩
  have k3 : Rs G0 ((defBody sEv).drop 3) E0 N0 := by
    refine r_if (wt_eqI (w_name 2 ⟨wd, rfl, w_int ⟨3, rfl, ifd (fun hw => ?_) fun _ => r_nil k4⟩⟩))
    refine r_ret (w_callP CN (w_callP CG (w_tup (w_add (w_int ⟨2, rfl, w_callM 0 C rfl (w_int ⟨n2, rfl, by omega, ⟨_, rfl, by decide, by decide⟩, fun d3 n3 hn3 pd3 => ?_⟩)⟩)))))
    obtain ⟨z3, e3, g5, g6⟩ := pd_int pd3
    subst e3
    obtain ⟨c, ec⟩ : ∃ c : Nat, 2 + z3 = (c : Int) := ⟨(2 + z3).toNat, by omega⟩
    obtain ⟨h1, h2⟩ := hS1 (n := c) (by omega) (by omega)
    refine ⟨_, rfl, by show 1 ≤ sizeLine; decide, ?_⟩
    rw [ec]
    refine ⟨h1, fun d pd => ?_⟩
    obtain ⟨u, e, hu⟩ := h2 d pd
    subst e
    refine w_callP CC (w_add (w_int ⟨1, rfl, w_callM 0 C rfl (w_int ⟨n3, rfl, by omega, ⟨_, rfl, by decide, by decide⟩, fun d4 n4 hn4 pd4 => ?_⟩)⟩))
    obtain ⟨z4, e4, g7, g8⟩ := pd_int pd4
    subst e4
    obtain ⟨q1, q2⟩ := hQ (z := 1 + z4) (by omega) (by omega)
    refine ⟨_, rfl, q1, fun d pd => ?_⟩
    obtain ⟨s, v, es, e, hv⟩ := q2 d pd
    subst e
    have hc3 : c ≤ 3 := by omega
    have hs3 : s ≤ 3 := by omega
    have b5 : c * s ≤ 3 * 3 := Nat.mul_le_mul hc3 hs3
    obtain ⟨w1, w2⟩ := hW hu hv (by omega) (by omega) (by omega)
    exact ⟨w1, fun d pd => ⟨n4, rfl, by omega, w2 d pd⟩⟩
  have k2 : Rs G0 ((defBody sEv).drop 2) E0 N0 := by
    refine r_if (wt_eqI (w_name 2 ⟨wd, rfl, w_int ⟨2, rfl, ifd (fun hw => ?_) fun _ => r_nil k3⟩⟩))
    refine r_ret (w_callP CG (w_callM 0 CO rfl (w_lst ?_)))
    have l1 : 1 ≤ sizeLine := by decide
    have l2 : 2 ≤ sizeLine := by decide
    have l3 : 3 ≤ sizeLine := by decide
    refine w_tup (w_name 3 ⟨l1, ?_⟩)
    iterate 4
      refine w_tup ?_
      refine w_int (w_int ⟨l2, ?_⟩)
    refine w_tup ?_
    refine w_int (w_int (w_int ⟨l3, ?_⟩))
    refine ⟨by show 6 ≤ sizeLine; decide, n2, rfl, by omega, ⟨(spans6 n).map tpN, rfl, by unfold spans6; exact fun h => (nomatch h), by show 6 < 100000; decide⟩, fun d n3 hn3 pd => ?_⟩
    obtain ⟨xs, ex, hd⟩ := pd
    injection ex with ex _
    injection ex with ex
    rw [← ex] at hd
    obtain ⟨h1, h2⟩ := hS6 hn1' hn16 hd
    exact ⟨h1, fun d pd => ⟨n3, rfl, by omega, h2 d pd⟩⟩
  refine r_if (wt_lt (w_name 2 ⟨wd, rfl, w_int ⟨2, rfl, ifd (fun hw => ?_) fun _ => r_nil k2⟩⟩))
  refine r_lc 4 5 false false (t := none) (wi_rg m2 (w_name 3 ⟨(n : Int), rfl, by omega, by omega, ?_⟩)) scEv.nd (hsw := .inr ⟨rfl, fun v hv => by cases v; subst hv; rfl⟩)
  rw [Int.toNat_natCast]
  refine ⟨by rw [rgD_len]; omega, cj_all (fun _ d => ∃ z : Int, d = .int z) (fun c e => ∃ n', e = [.ms a n', .va (.int (kk : Int)), .va (.int wd), .va (.int (n : Int)), .no, .no, .no, .no] ∧ n' ≤ n2 + c) ⟨n2, rfl, Nat.le_refl _⟩ (fun c d e ed ⟨n', ee, h1⟩ => ?_) fun acc e al ⟨n', ee, h1⟩ => ?_⟩
  · subst ee
    obtain ⟨hc, _⟩ := rgD_get ed
    refine w_callM 0 (C.blk _) rfl (w_int ⟨n', rfl, by omega, ⟨_, rfl, by decide, by decide⟩, fun d4 n4 hn4 pd4 => ?_⟩)
    obtain ⟨z4, e4, _, _⟩ := pd_int pd4
    exact ⟨⟨z4, e4⟩, n4, rfl, by omega⟩
  · subst ee
    rw [rgD_len] at h1
    obtain ⟨rw_, er⟩ := all_ints al.split
    have hlr : rw_.length = n := by
      have := al.length
      rw [er, List.length_map, rgD_len] at this
      exact this.symm
    subst er
    refine ⟨by show 4 < 8; decide, ?_⟩
    refine r_ret (w_callP CL (w_callP CY (w_lc 6 (t := none) (wi_rg m2 (w_name 3 ⟨(n : Int), rfl, by omega, by omega, ?_⟩)) scEv.nd)))
    rw [Int.toNat_natCast]
    refine ⟨by rw [rgD_len]; omega, cj_rel (fun _ row => ∃ ns : List Int, row = .list (ns.map .int) ∧ ns.length = n) (fun d hd => ?_) fun acc al => ?_⟩
    · obtain ⟨x, hx, ex⟩ := rg_in hd
      subst ex
      refine w_lc 7 (t := none) (wi_rg m2 (w_name 3 ⟨(n : Int), rfl, by omega, by omega, ?_⟩)) scEv.nd
      rw [Int.toNat_natCast]
      refine ⟨by rw [rgD_len]; omega, cj_rel (fun _ e => ∃ z : Int, e = .int z) (fun d hd => ?_) fun es a2 => ?_⟩
      · obtain ⟨y, hy, ey⟩ := rg_in hd
        subst ey
        refine w_if (wt_neI (w_name 6 ⟨_, rfl, w_name 7 ⟨_, rfl, ifn (fun _ => ?_) fun _ => w_int ⟨⟨_, rfl⟩, rfl⟩⟩⟩))
        have ha : ∃ i : Nat, ((y : Int) - (x : Int)) % (n : Int) = (i : Int) ∧ i < n := by
          have h1 := Int.emod_nonneg ((y : Int) - (x : Int)) (b := (n : Int)) (by omega)
          have h2 := Int.emod_lt_of_pos ((y : Int) - (x : Int)) (b := (n : Int)) (by omega)
          exact ⟨(((y : Int) - (x : Int)) % (n : Int)).toNat, by omega, by omega⟩
        obtain ⟨i, ei, hi⟩ := ha
        have hi' : i < rw_.length := by omega
        refine w_sub (w_name 4 (w_mod (w_intC m4 (w_minus (w_name 7 ⟨_, rfl, w_name 6 ⟨_, rfl, _, rfl, _, rfl, w_name 3 ⟨(n : Int), rfl, by omega, rw_.map .int, (i : Int), .int rw_[i], rfl, by rw [ei], ?_, ⟨_, rfl⟩, rfl⟩⟩⟩)))))
        exact atI_nat (by rw [List.getElem?_map, List.getElem?_eq_getElem hi']; rfl)
      · obtain ⟨ns, en⟩ := all_ints a2.split
        refine ⟨⟨ns, by rw [en], ?_⟩, rfl⟩
        have := a2.length
        rw [en, List.length_map, rgD_len] at this
        exact this.symm
    · obtain ⟨T, e1, hT⟩ := tbI (n := n) (by rw [← al.length, rgD_len]) al.split
      rw [e1]
      refine ⟨⟨_, T, rfl, isTb_L T, by rw [hT.1]; exact hn16, fun r hr => by rw [hT.2 r hr]; exact hn16⟩, fun d pd => ?_⟩
      have e2 := pd _ T rfl (isTb_L T)
      subst e2
      refine ⟨⟨n, _, rfl, dye_of hT, hn16⟩, fun d pd => ⟨n', rfl, by omega, n, ?_⟩⟩
      obtain ⟨u, e, h⟩ := pd n _ rfl (dye_of hT)
      exact ⟨u, e, h, hn1', hn16⟩
end
end K09

namespace K09
open PySem PySem.Spec PyProof.Rows L2 TL
section
variable {P : Program} {w : World} {K : PySem.W.Frag} {mg : Str → Option Value} {base : Heap} {k : Nat} {f : Addr} {fd : FuncData}
abbrev nCl : List Str := ["m", "most", "word", "some"]
abbrev sCl : Stmt := topS 29
theorem scCl : FnScope nCl ["m", "most"] (defScope sCl) := ⟨rfl, rfl, rfl, by decide +kernel, rfl, by decide +kernel, by decide +kernel⟩
theorem ok_cl (F : Fun K "_law_closed" "_law_closed" sCl f fd) (D : Dc P w K mg base "_law_draw" 1 ["m", "bound"] (spM 1 preD postD)) (DR : Dc P w K mg base "_law_drawn" 2 ["m", "most"] (spM 1000 preDr postDr)) (DO : Dc P w K mg base "_law_of" 2 ["m", "some"] (spM 1 preOf postOf)) (DC : Dc P w K mg base "_law_complete" 2 ["q"] (spP preQ postQ)) (DP : Dc P w K mg base "_law_power" 2 ["one", "k"] (spP preP postP)) (DL : Dc P w K mg base "_law_closing" 3 ["dyeing_here"] (spP preG postG)) (DG : Dc P w K mg base "_law_group" 2 ["spans"] (spP preS postGr)) (DB : Dc P w K mg base "_law_beside" 2 ["one", "other"] (spP preB postB)) (DEv : Dc P w K mg base "_law_even" 5 ["m", "most"] (spM 40 preEv postEv)) : FnG P w K mg base 6 f fd ["m", "most"] (spM 1010 preEv postCl) := by
  refine fnM F scCl (fun ds ⟨_, e, _⟩ => by rw [e]; rfl) fun A hg hr a n0 ds ⟨kk, e, hk1, hk2⟩ hn0 => ?_
  subst e
  obtain ⟨fD, fdD, C⟩ := D.callee (N := nCl) (st := sCl) hr hg (by decide : 1 ≤ 5)
  obtain ⟨fR, fdR, CR⟩ := DR.callee (N := nCl) (st := sCl) hr hg (by decide : 2 ≤ 5)
  obtain ⟨fO, fdO, CO⟩ := DO.callee (N := nCl) (st := sCl) hr hg (by decide : 2 ≤ 5)
  obtain ⟨fC, fdC, CC⟩ := DC.callee (N := nCl) (st := sCl) hr hg (by decide : 2 ≤ 5)
  obtain ⟨fP, fdP, CP⟩ := DP.callee (N := nCl) (st := sCl) hr hg (by decide : 2 ≤ 5)
  obtain ⟨fL, fdL, CL⟩ := DL.callee (N := nCl) (st := sCl) hr hg (by decide : 3 ≤ 5)
  obtain ⟨fG, fdG, CG⟩ := DG.callee (N := nCl) (st := sCl) hr hg (by decide : 2 ≤ 5)
  obtain ⟨fB, fdB, CB⟩ := DB.callee (N := nCl) (st := sCl) hr hg (by decide : 2 ≤ 5)
  obtain ⟨fE, fdE, CE⟩ := DEv.callee (N := nCl) (st := sCl) hr hg (by decide : 5 ≤ 5)
  have hl0 : (LIM : Nat) = 1000000000 := rfl
  have l1 : 1 ≤ sizeLine := by decide
  refine r_asg 2 scCl.nd (w_callM 0 C rfl (w_int ⟨n0, rfl, by omega, ⟨_, rfl, by decide, by decide⟩, fun d1 n1 hn1 pd1 => ?_⟩))
  obtain ⟨wd, e1, g1, g2⟩ := pd_int pd1
  subst e1
  let N0 : DE := { nx := fun e => ∃ n', e[0]? = some (.ms a n') ∧ n' ≤ n0 + 1010 ∧ postCl [.int (kk : Int)] .none, rt := fun d e => ∃ n', e[0]? = some (.ms a n') ∧ n' ≤ n0 + 1010 ∧ postCl [.int (kk : Int)] d }
  let G0 : Gx := GxOf P w K mg base nCl sCl A
  let E0 : En := [.ms a n1, .va (.int (kk : Int)), .va (.int wd), .no]
  have k3 : Rs G0 ((defBody sCl).drop 3) E0 N0 := by
    refine r_ret (w_callM 0 CE rfl (w_name 1 ⟨n1, rfl, by omega, ⟨kk, rfl, hk1, hk2⟩, fun d n2 hn2 pd => ⟨n2, rfl, by omega, ?_⟩⟩))
    obtain ⟨n, t, e, h, _, h16⟩ := pd
    exact ⟨n, t, e, h, h16⟩
  have k2 : Rs G0 ((defBody sCl).drop 2) E0 N0 := by
    refine r_if (wt_eqI (w_name 2 ⟨wd, rfl, w_int ⟨2, rfl, ifd (fun hw => ?_) fun _ => r_nil k3⟩⟩))
    refine r_asg 3 scCl.nd (w_lst ?_)
    -- complete(2)
    obtain ⟨q1, q2⟩ := hQ (z := 2) (by omega) (by omega)
    refine w_callP CC (w_int ⟨q1, fun d pd => ?_⟩)
    obtain ⟨s1, t1, es1, e, ht1⟩ := q2 d pd
    subst e
    -- group((3,))
    obtain ⟨h1, h2⟩ := hS1 (n := 3) (by decide) (by decide)
    refine w_callP CG (w_tup (w_int ⟨l1, h1, fun d pd => ?_⟩))
    obtain ⟨t2, e, ht2⟩ := h2 d pd
    subst e
    -- complete(4)
    obtain ⟨q3, q4⟩ := hQ (z := 4) (by omega) (by omega)
    refine w_callP CC (w_int ⟨q3, fun d pd => ?_⟩)
    obtain ⟨s3, t3, es3, e, ht3⟩ := q4 d pd
    subst e
    -- power(complete(2), 2)
    refine w_callP CP (w_callP CC (w_int ⟨q1, fun d pd => ?_⟩))
    obtain ⟨s0, t0, es0, e, ht0⟩ := q2 d pd
    subst e
    have hs0 : s0 = 2 := by omega
    subst hs0
    refine w_int ⟨⟨2, 2, t0, rfl, ht0, by decide, by decide, by decide, by decide⟩, fun d pd => ?_⟩
    obtain ⟨t4, e, ht4⟩ := pd 2 2 t0 rfl ht0
    subst e
    -- group((4,))
    obtain ⟨h3, h4⟩ := hS1 (n := 4) (by decide) (by decide)
    refine w_callP CG (w_tup (w_int ⟨l1, h3, fun d pd => ?_⟩))
    obtain ⟨t5, e, ht5⟩ := h4 d pd
    subst e
    refine ⟨by show 5 ≤ sizeLine; decide, ?_⟩
    refine r_ret (w_callP CB (w_callM 0 CO rfl (w_name 3 ⟨n1, rfl, by omega, ⟨[tbT t1, tbT t2, tbT t3, tbT t4, tbT t5], rfl, fun h => (nomatch h), by show 5 < 100000; decide⟩, fun d n2 hn2 pd => ?_⟩)))
    have : ∃ (n : Nat) (t : Tb), d = tbT t ∧ Dye n t ∧ n ≤ 4 := by
      obtain ⟨xs, ex, hd⟩ := pd
      injection ex with ex _
      injection ex with ex
      rw [← ex] at hd
      rcases List.mem_cons.mp hd with z | hd
      · exact ⟨_, _, z, ht1, by omega⟩
      rcases List.mem_cons.mp hd with z | hd
      · exact ⟨_, _, z, ht2, by decide⟩
      rcases List.mem_cons.mp hd with z | hd
      · exact ⟨_, _, z, ht3, by omega⟩
      rcases List.mem_cons.mp hd with z | hd
      · exact ⟨_, _, z, ht4, by decide⟩
      · exact ⟨_, _, List.mem_singleton.mp hd, ht5, by decide⟩
    obtain ⟨n, t, e, ht, hn4⟩ := this
    subst e
    refine w_callP CC (w_callM 0 C rfl (w_int ⟨n2, rfl, by omega, ⟨_, rfl, by decide, by decide⟩, fun d3 n3 hn3 pd3 => ?_⟩))
    obtain ⟨z3, e3, g5, g6⟩ := pd_int pd3
    subst e3
    obtain ⟨q5, q6⟩ := hQ (z := z3) (by omega) (by omega)
    refine ⟨q5, fun d pd => ?_⟩
    obtain ⟨s6, t6, es6, e, ht6⟩ := q6 d pd
    subst e
    obtain ⟨b1, b2⟩ := hB ht ht6 (by omega)
    exact ⟨b1, fun d pd => ⟨n3, rfl, by omega, b2 d pd⟩⟩
  refine r_if (wt_lt (w_name 2 ⟨wd, rfl, w_int ⟨2, rfl, ifd (fun hw => ?_) fun _ => r_nil k2⟩⟩))
  refine r_ret (w_callP CL (w_callM 0 CR rfl (w_name 1 ⟨n1, rfl, by omega, ⟨kk, rfl, hk2⟩, fun d n2 hn2 pd => ?_⟩)))
  obtain ⟨n, t, e, ht, hn⟩ := hDr pd
  subst e
  refine ⟨⟨n, t, rfl, ht, by omega⟩, fun d pd => ⟨n2, rfl, by omega, n, ?_⟩⟩
  obtain ⟨u, e, hu⟩ := pd n t rfl ht
  exact ⟨u, e, hu, by omega⟩
end
end K09

namespace TL
open PySem PySem.Spec PyProof.Rows L2
theorem IsBr.uniq {n : Nat} {t : Tb} {d d' : PyData} (h : IsBr n t d) (k : IsBr n t d') : d = d' := by
  rcases h with ⟨v, h1, h2, e⟩ | ⟨h0, v, h1, h2, e⟩ | ⟨h0, h1, h2⟩ <;> rcases k with ⟨u, k1, k2, e'⟩ | ⟨k0, u, k1, k2, e'⟩ | ⟨k0, k1, k2⟩
  · rw [e, e', show v = u from Int.le_antisymm (h2 u k1) (k2 v h1)]
  · exact absurd h1 (k0 v)
  · exact absurd h1 (k0 v)
  · exact absurd k1 (h0 u)
  · rw [e, e', show v = u from Int.le_antisymm (h2 u k1) (k2 v h1)]
  · exact absurd h1 (k1 v)
  · exact absurd k1 (h0 u)
  · exact absurd k1 (h1 u)
  · exact h2.uniq k2
theorem nbBr {n : Nat} {t : Tb} {d : PyData} (ht : Dye n t) (hn : n ≤ 16) (h : IsBr n t d) : NB 300 2 d := by
  have hmy := ht.mny_le
  have hnn : n * n ≤ 16 * 16 := Nat.mul_le_mul hn hn
  have si : ∀ u : Nat, u < mny t → ((u : Int)).natAbs < 10 ^ 12 := fun u hu => by
    have : (10 : Nat) ^ 12 = 1000000000000 := by decide
    omega
  rcases h with ⟨v, h1, h2, e⟩ | ⟨h0, v, h1, h2, e⟩ | ⟨h0, h1, ⟨_, e⟩ | ⟨c, v, h3, _, e⟩⟩
  · subst e
    obtain ⟨u, hu, ev⟩ := h1.bd ht
    subst ev
    refine (nb_tuple (B := 62) (D := 1) fun x hx => ?_).mono (by show 2 * (62 + 2) + 3 ≤ 300; decide) (by decide)
    rcases List.mem_cons.mp hx with z | hx
    · rw [z]; exact nb_str (x := "middle") (by decide)
    · rw [List.mem_singleton.mp hx]; exact (nb_int (si u hu)).mono (by decide) (by decide)
  · subst e
    obtain ⟨u, hu, ev⟩ := h1.bd ht
    subst ev
    refine (nb_tuple (B := 62) (D := 1) fun x hx => ?_).mono (by show 2 * (62 + 2) + 3 ≤ 300; decide) (by decide)
    rcases List.mem_cons.mp hx with z | hx
    · rw [z]; exact nb_str (x := "turned") (by decide)
    · rw [List.mem_singleton.mp hx]; exact (nb_int (si u hu)).mono (by decide) (by decide)
  · subst e
    exact nb_none.mono (by decide) (by decide)
  · subst e
    obtain ⟨u, hu, ev⟩ := h3.bdv ht
    obtain ⟨a, b, ha, hb, _, e1, e2⟩ := cnt_bd ht h3
    subst ev
    rw [e1, e2]
    refine (nb_tuple (B := 62) (D := 1) fun x hx => ?_).mono (by show 4 * (62 + 2) + 3 ≤ 300; decide) (by decide)
    rcases List.mem_cons.mp hx with z | hx
    · rw [z]; exact (nb_str (x := "count") (by decide)).mono (by decide) (by decide)
    rcases List.mem_cons.mp hx with z | hx
    · rw [z]; exact (nb_int (si a ha)).mono (by decide) (by decide)
    rcases List.mem_cons.mp hx with z | hx
    · rw [z]; exact (nb_int (si b hb)).mono (by decide) (by decide)
    · rw [List.mem_singleton.mp hx]; exact (nb_int (si u hu)).mono (by decide) (by decide)
/-! the first breach of a dyeing by hand -/
def any4 (n : Nat) (p : Nat → Nat → Nat → Nat → Bool) : Bool := (List.range n).any fun x => (List.range n).any fun y => (List.range n).any fun z => (List.range n).any fun w => p x y z w
theorem any4_iff {n : Nat} {p : Nat → Nat → Nat → Nat → Bool} : any4 n p = true ↔ ∃ x y z w, x < n ∧ y < n ∧ z < n ∧ w < n ∧ p x y z w = true := by
  unfold any4
  constructor
  · intro h
    obtain ⟨x, hx, h⟩ := List.any_eq_true.mp h
    obtain ⟨y, hy, h⟩ := List.any_eq_true.mp h
    obtain ⟨z, hz, h⟩ := List.any_eq_true.mp h
    obtain ⟨w, hw, h⟩ := List.any_eq_true.mp h
    exact ⟨x, y, z, w, List.mem_range.mp hx, List.mem_range.mp hy, List.mem_range.mp hz, List.mem_range.mp hw, h⟩
  · rintro ⟨x, y, z, w, hx, hy, hz, hw, h⟩
    exact List.any_eq_true.mpr ⟨x, List.mem_range.mpr hx, List.any_eq_true.mpr ⟨y, List.mem_range.mpr hy, List.any_eq_true.mpr ⟨z, List.mem_range.mpr hz, List.any_eq_true.mpr ⟨w, List.mem_range.mpr hw, h⟩⟩⟩⟩
def mixQ (n : Nat) (t : Tb) (v : Int) : Bool := any4 n fun x y z _ => decide (x ≠ y) && (decide (atN t x y = v) && decide (atN t z z = v))
def trnQ (n : Nat) (t : Tb) (v : Int) : Bool := any4 n fun x y x' y' => decide (atN t x y = v) && (decide (atN t x' y' = v) && decide (atN t y x ≠ atN t y' x'))
def cntQ (n : Nat) (t : Tb) (c v : Int) : Bool := any4 n fun x y x' y' => decide (atN t x y = v) && (decide (atN t x' y' = v) && decide ((cods n t x y).count c ≠ (cods n t x' y').count c))
theorem mixQ_iff {n : Nat} {t : Tb} {v : Int} : mixQ n t v = true ↔ MixAt n t v := by
  unfold mixQ
  rw [any4_iff]
  constructor
  · rintro ⟨x, y, z, w, hx, hy, hz, _, h⟩
    simp only [Bool.and_eq_true, decide_eq_true_eq] at h
    exact ⟨x, y, hx, hy, h.1, h.2.1, z, hz, h.2.2⟩
  · rintro ⟨x, y, hx, hy, h1, h2, z, hz, h3⟩
    exact ⟨x, y, z, x, hx, hy, hz, hx, by simp only [Bool.and_eq_true, decide_eq_true_eq]; exact ⟨h1, h2, h3⟩⟩
theorem trnQ_iff {n : Nat} {t : Tb} {v : Int} : trnQ n t v = true ↔ TrnAt n t v := by
  unfold trnQ
  rw [any4_iff]
  constructor
  · rintro ⟨x, y, z, w, hx, hy, hz, hw, h⟩
    simp only [Bool.and_eq_true, decide_eq_true_eq] at h
    exact ⟨x, y, z, w, hx, hy, hz, hw, h.1, h.2.1, h.2.2⟩
  · rintro ⟨x, y, z, w, hx, hy, hz, hw, h⟩
    exact ⟨x, y, z, w, hx, hy, hz, hw, by simp only [Bool.and_eq_true, decide_eq_true_eq]; exact h⟩
theorem cntQ_iff {n : Nat} {t : Tb} {c v : Int} : cntQ n t c v = true ↔ CntAt n t c v := by
  unfold cntQ
  rw [any4_iff]
  constructor
  · rintro ⟨x, y, z, w, hx, hy, hz, hw, h⟩
    simp only [Bool.and_eq_true, decide_eq_true_eq] at h
    exact ⟨x, y, z, w, hx, hy, hz, hw, h.1, h.2.1, h.2.2⟩
  · rintro ⟨x, y, z, w, hx, hy, hz, hw, h⟩
    exact ⟨x, y, z, w, hx, hy, hz, hw, by simp only [Bool.and_eq_true, decide_eq_true_eq]; exact h⟩
def lst (m : Nat) (p : Int → Bool) : Option Int := Option.map (fun (u : Nat) => (u : Int)) ((List.range m).find? fun (u : Nat) => p (u : Int))
theorem find_rg {p : Nat → Bool} : ∀ {m : Nat} {x : Nat}, (List.range m).find? p = some x → x < m ∧ p x = true ∧ ∀ j, j < x → p j = false
  | 0, x, h => by cases h
  | m + 1, x, h => by
    rw [List.range_succ, List.find?_append] at h
    cases e : (List.range m).find? p with
    | some u =>
      rw [e] at h
      cases h
      obtain ⟨h1, h2, h3⟩ := find_rg e
      exact ⟨by omega, h2, h3⟩
    | none =>
      rw [e] at h
      have h : List.find? p [m] = some x := h
      rw [List.find?_cons] at h
      cases q : p m with
      | false => rw [q] at h; cases h
      | true =>
        rw [q] at h
        cases h
        refine ⟨by omega, q, fun j hj => ?_⟩
        have := List.find?_eq_none.mp e j (List.mem_range.mpr hj)
        cases z : p j with
        | false => rfl
        | true => exact absurd z this
theorem lst_some {m : Nat} {p : Int → Bool} {v : Int} (h : lst m p = some v) : p v = true ∧ ∀ u : Nat, u < m → p u = true → v ≤ u := by
  unfold lst at h
  cases e : (List.range m).find? fun (u : Nat) => p (u : Int) with
  | none => rw [e] at h; cases h
  | some x =>
    rw [e] at h
    cases h
    obtain ⟨h1, h2, h3⟩ := find_rg e
    refine ⟨h2, fun u hu hp => ?_⟩
    by_cases q : u < x
    · rw [h3 u q] at hp
      cases hp
    · show (x : Int) ≤ u
      omega
theorem lst_none {m : Nat} {p : Int → Bool} (h : lst m p = none) : ∀ u : Nat, u < m → p u = false := fun u hu => by
  unfold lst at h
  have := List.find?_eq_none.mp (Option.map_eq_none_iff.mp h) u (List.mem_range.mpr hu)
  cases z : p (u : Int) with
  | false => rfl
  | true => exact absurd z this
/-- the first breach, reckoned -/
def brQ (n : Nat) (t : Tb) : PyData := match lst (mny t) (mixQ n t) with
  | some v => .tuple [.str "middle", .int v]
  | none => match lst (mny t) (trnQ n t) with
    | some v => .tuple [.str "turned", .int v]
    | none => match lst (mny t * mny t * mny t) (fun z => cntQ n t (z / (mny t : Int)) (z % (mny t : Int))) with
      | some z => .tuple [.str "count", .int (z / (mny t : Int) / (mny t : Int)), .int (z / (mny t : Int) % (mny t : Int)), .int (z % (mny t : Int))]
      | none => .none
theorem brQ_is {n : Nat} {t : Tb} (ht : Dye n t) : IsBr n t (brQ n t) := by
  unfold brQ
  have nm : ∀ {p : Int → Bool} {P : Int → Prop}, (∀ v, p v = true ↔ P v) → (∀ v, P v → ∃ u : Nat, u < mny t ∧ v = u) → lst (mny t) p = none → ∀ v, ¬ P v := fun h1 h2 h v hv => by
    obtain ⟨u, hu, e⟩ := h2 v hv
    subst e
    have := lst_none h u hu
    rw [(h1 _).mpr hv] at this
    cases this
  have sm : ∀ {p : Int → Bool} {P : Int → Prop} {v : Int}, (∀ v, p v = true ↔ P v) → (∀ v, P v → ∃ u : Nat, u < mny t ∧ v = u) → lst (mny t) p = some v → P v ∧ ∀ u, P u → v ≤ u := fun h1 h2 h => by
    obtain ⟨a, b⟩ := lst_some h
    refine ⟨(h1 _).mp a, fun u hu => ?_⟩
    obtain ⟨x, hx, e⟩ := h2 u hu
    subst e
    exact b x hx ((h1 _).mpr hu)
  cases e : lst (mny t) (mixQ n t) with
  | some v =>
    obtain ⟨a, b⟩ := sm (fun _ => mixQ_iff) (fun v h => h.bd ht) e
    exact .inl ⟨v, a, b, rfl⟩
  | none =>
    have n1 := nm (fun _ => mixQ_iff) (fun v h => h.bd ht) e
    cases e2 : lst (mny t) (trnQ n t) with
    | some v =>
      obtain ⟨a, b⟩ := sm (fun _ => trnQ_iff) (fun v h => h.bd ht) e2
      exact .inr (.inl ⟨n1, v, a, b, rfl⟩)
    | none =>
      have n2 := nm (fun _ => trnQ_iff) (fun v h => h.bd ht) e2
      refine .inr (.inr ⟨n1, n2, ?_⟩)
      have big : ∀ {c v : Int}, CntAt n t c v → ∃ z : Nat, z < mny t * mny t * mny t ∧ (z : Int) / (mny t : Int) = c ∧ (z : Int) % (mny t : Int) = v ∧ (z : Int) = c * (mny t : Int) + v ∧ 0 ≤ v ∧ v < (mny t : Int) := fun {c v} h => by
        obtain ⟨a, b, ha, hb, ec, _, _⟩ := cnt_bd ht h
        obtain ⟨u, hu, ev⟩ := h.bdv ht
        have lt : mny t * a + b < mny t * mny t := by
          have : mny t * (a + 1) ≤ mny t * mny t := Nat.mul_le_mul_left _ (by omega)
          rw [Nat.mul_add, Nat.mul_one] at this
          omega
        have lt2 : (mny t * a + b) * mny t + u < mny t * mny t * mny t := by
          have : (mny t * a + b + 1) * mny t ≤ mny t * mny t * mny t := Nat.mul_le_mul_right _ (by omega)
          rw [Nat.add_mul (mny t * a + b), Nat.one_mul] at this
          omega
        have ez : (((mny t * a + b) * mny t + u : Nat) : Int) = c * (mny t : Int) + v := by
          rw [ec, ev, Int.natCast_add, Int.natCast_mul, Int.natCast_add, Int.natCast_mul]
        refine ⟨_, lt2, ?_, ?_, ez, by omega, by omega⟩
        · rw [ez, ev, Int.mul_comm, Int.add_comm, Int.add_mul_ediv_left _ _ (by omega), Int.ediv_eq_zero_of_lt (by omega) (by omega), Int.zero_add]
        · rw [ez, ev, Int.mul_comm, Int.add_comm, Int.add_mul_emod_self_left, Int.emod_eq_of_lt (by omega) (by omega)]
      cases e3 : lst (mny t * mny t * mny t) (fun z => cntQ n t (z / (mny t : Int)) (z % (mny t : Int))) with
      | none =>
        refine .inl ⟨fun c v h => ?_, rfl⟩
        obtain ⟨z, hz, z1, z2, _⟩ := big h
        have := lst_none e3 z hz
        rw [z1, z2, cntQ_iff.mpr h] at this
        cases this
      | some z =>
        obtain ⟨a, b⟩ := lst_some e3
        have a := cntQ_iff.mp a
        refine .inr ⟨_, _, a, fun c' v' h' => ?_, rfl⟩
        obtain ⟨y, hy, y1, y2, y3, y4, y5⟩ := big h'
        have le := b y hy (by rw [y1, y2]; exact cntQ_iff.mpr h')
        obtain ⟨y0, _, w1, w2, w3, w4, w5⟩ := big a
        unfold leP
        show z / (mny t : Int) < c' ∨ (z / (mny t : Int) = c' ∧ z % (mny t : Int) ≤ v')
        have hd := Int.mul_ediv_add_emod z (mny t : Int)
        rw [← hd, y3, Int.mul_comm] at le
        rcases Int.lt_or_le c' (z / (mny t : Int)) with q | q
        · exfalso
          have : (c' + 1) * (mny t : Int) ≤ z / (mny t : Int) * (mny t : Int) := Int.mul_le_mul_of_nonneg_right (by omega) (by omega)
          rw [Int.add_mul, Int.one_mul] at this
          omega
        · rcases Int.lt_or_eq_of_le q with q | q
          · exact .inl q
          · right
            refine ⟨q, ?_⟩
            rw [q] at le
            omega
end TL

namespace K09
open PySem PySem.Spec PyProof.Rows L2 TL
section
variable {P : Program} {w : World} {K : PySem.W.Frag} {mg : Str → Option Value} {base : Heap} {k : Nat} {f : Addr} {fd : FuncData}
abbrev nLw : List Str := ["script", "turn", "m", "whole", "some", "dyeing_so", "due", "told", "said"]
abbrev sLw : Stmt := topS 35
theorem scLw : FnScope nLw ["script"] (defScope sLw) := ⟨rfl, rfl, rfl, by decide +kernel, rfl, by decide +kernel, by decide +kernel⟩
def loopB : List Stmt → List Stmt
  | .For _ _ b _ _ :: _ => b
  | _ => []
def dyD (d : PyData) : Prop := ∃ (n : Nat) (t : Tb), d = tbT t ∧ Dye n t ∧ n ≤ 16
theorem lk2 {d e : PyData} {B D : Nat} (hd : isDisplay d = true) (h : NB B D d) (hB : B ≤ 16777216) (hD : D ≤ 50) (e1 : d = e) : preLkA [d, e] := by
  subst e1
  exact .inl ⟨_, _, _, rfl, hd, h, hB, hD⟩
def tT1 : Tb := [[0]]
def tT2 : Tb := [[0, 0], [0, 0]]
def tT3 : Tb := [[0, 1], [2, 0]]
def tT4 : Tb := [[0, 1, 1], [1, 0, 2], [1, 2, 0]]
theorem dyT0 : Dye 0 [] := gdyF_dye 0 fun _ _ => .none
theorem dyT1 : Dye 1 tT1 := dye_of (t := tT1) ⟨rfl, by decide⟩
theorem dyT2 : Dye 2 tT2 := dye_of (t := tT2) ⟨rfl, by decide⟩
theorem dyT3 : Dye 2 tT3 := dye_of (t := tT3) ⟨rfl, by decide⟩
theorem dyT4 : Dye 3 tT4 := dye_of (t := tT4) ⟨rfl, by decide⟩
theorem isbr {n : Nat} {t : Tb} (h : Dye n t) {d : PyData} (e : brQ n t = d) : IsBr n t d := e ▸ brQ_is h
set_option maxHeartbeats 4000000 in
theorem ok_lw (F : Fun K "law" "law" sLw f fd) (m1 : mg "range" = none) (m2 : mg "max" = none) (m3 : mg "min" = none) (m4 : mg "len" = none) (DB : Dc P w K mg base "_law_begun" 1 ["script", "k"] (spB K))
    (DCl : Dc P w K mg base "_law_closed" 6 ["m", "most"] (spM 1010 preEv postCl)) (DEv : Dc P w K mg base "_law_even" 5 ["m", "most"] (spM 40 preEv postEv)) (DR : Dc P w K mg base "_law_drawn" 2 ["m", "most"] (spM 1000 preDr postDr)) (DM : Dc P w K mg base "_law_many" 1 ["dyeing_here"] (spP preMy postMy))
    (DBn : Dc P w K mg base "_law_bent" 2 ["m", "dyeing_here"] (spM 4 preG postG)) (DLb : Dc P w K mg base "_law_breach" 2 ["dyeing_here"] (spP preT postBr)) (DBr : Dc P w K mg base "closed_breach" 4 ["dyeing"] (spP preT postBr)) (DIc : Dc P w K mg base "is_closed" 5 ["dyeing"] (spP preT postIc))
    (KBr : DcK P w K mg base "closed_breach" 4 ["dyeing"] 0 ["dyeing"] (fun a b => a ++ b) (spP preT postBr)) (KIc : DcK P w K mg base "is_closed" 5 ["dyeing"] 0 ["dyeing"] (fun a b => a ++ b) (spP preT postIc)) (DL : Dc P w K mg base "_law_like" 1 ["told", "due"] (spP preLkA postLk)) : FnG P w K mg base 7 f fd ["script"] (spL K) := by
  refine fnL F scLw fun A hg hr a ns hl => ?_
  obtain ⟨fB, fdB, CB⟩ := DB.callee (N := nLw) (st := sLw) hr hg (by decide : 1 ≤ 6)
  obtain ⟨fC, fdC, CC⟩ := DCl.callee (N := nLw) (st := sLw) hr hg (by decide : 6 ≤ 6)
  obtain ⟨fE, fdE, CE⟩ := DEv.callee (N := nLw) (st := sLw) hr hg (by decide : 5 ≤ 6)
  obtain ⟨fR, fdR, CR⟩ := DR.callee (N := nLw) (st := sLw) hr hg (by decide : 2 ≤ 6)
  obtain ⟨fM, fdM, CM⟩ := DM.callee (N := nLw) (st := sLw) hr hg (by decide : 1 ≤ 6)
  obtain ⟨fN, fdN, CN⟩ := DBn.callee (N := nLw) (st := sLw) hr hg (by decide : 2 ≤ 6)
  obtain ⟨fX, fdX, CX⟩ := DLb.callee (N := nLw) (st := sLw) hr hg (by decide : 2 ≤ 6)
  obtain ⟨fQ, fdQ, CQ⟩ := DBr.callee (N := nLw) (st := sLw) hr hg (by decide : 4 ≤ 6)
  obtain ⟨fI, fdI, CI⟩ := DIc.callee (N := nLw) (st := sLw) hr hg (by decide : 5 ≤ 6)
  obtain ⟨gQ, gdQ, HQ⟩ := KBr.callee (N := nLw) (st := sLw) shf_app hr hg (by decide : 4 ≤ 6)
  obtain ⟨gI, gdI, HI⟩ := KIc.callee (N := nLw) (st := sLw) shf_app hr hg (by decide : 5 ≤ 6)
  obtain ⟨fL, fdL, CL⟩ := DL.callee (N := nLw) (st := sLw) hr hg (by decide : 1 ≤ 6)
  have hL0 : (LIM : Nat) = 1000000000 := rfl
  have one : ∀ {n : Nat} {t : Tb} {d : PyData}, Dye n t → postBr [tbT t] d → IsBr n t d := fun ht pd => pd _ _ rfl ht
  refine r_for 1 scLw.nd (wi_rg m1 (w_max2 m2 (w_int (w_min2 m3 (w_int (w_rawLen 0 m4 rfl (fun _ h => h) ⟨_, _, rfl, ?_⟩))))))
  refine ⟨_, _, rfl, _, rfl, ?_, ?_, ?_⟩
  · split <;> split <;> omega
  · split <;> split <;> omega
  refine ⟨fun _ e => ∃ s1 s2 s3 s4 s5 s6 s7 : Sl, e = [.raw (.ref a) (scφ K a ns), s1, s2, s3, s4, s5, s6, s7, .no], ⟨.no, .no, .no, .no, .no, .no, .no, rfl⟩, fun i d e ed he => ?_, fun e he => ?_⟩
  · obtain ⟨s1, s2, s3, s4, s5, s6, s7, ee⟩ := he
    subst ee
    obtain ⟨h1, h2⟩ := rgD_get ed
    have hi : i < 5 := by
      refine Nat.lt_of_lt_of_le h1 ?_
      split <;> split <;> omega
    rw [Int.zero_add] at h2
    subst h2
    refine r_begun 0 2 CB rfl hl (w_name 1 ⟨rfl, ?_, i, rfl, Nat.le_trans (Nat.le_of_lt hi) (by decide), fun p => ?_⟩) scLw.nd
    · show 2 < 9
      decide
    -- the loop over the dyeings
    have walk : ∀ (N : DE) (n1 : Nat) (s3 s5 s6 s7 : Sl) (ds : List PyData), (∀ d ∈ ds, dyD d) → (∀ s3 s5 s6 s7, N.nx [.raw (.ref a) (scφ K a ns), .va (.int (i : Int)), .ms p n1, s3, .va (.list ds), s5, s6, s7, .no]) →
        Rs (GxOf P w K mg base nLw sLw A) ((loopB (defBody sLw)).drop 5) [.raw (.ref a) (scφ K a ns), .va (.int (i : Int)), .ms p n1, s3, .va (.list ds), s5, s6, s7, .no] N := fun N n1 s3 s5 s6 s7 ds hds hN => by
      refine r_for 5 scLw.nd (wi_seq (w_name 4 ⟨ds, rfl, fun _ e => ∃ s5 s6 s7 : Sl, e = [.raw (.ref a) (scφ K a ns), .va (.int (i : Int)), .ms p n1, s3, .va (.list ds), s5, s6, s7, .no], ⟨s5, s6, s7, rfl⟩, fun j d e ed he => ?_, fun e he => ?_⟩))
      · obtain ⟨s5, s6, s7, ee⟩ := he
        subst ee
        obtain ⟨n, t, e, ht, hn⟩ := hds d (List.mem_of_getElem? ed)
        subst e
        have pt : preT [tbT t] := ⟨n, t, rfl, ht, hn⟩
        refine r_asg 6 scLw.nd (w_callP CX (w_name 5 ⟨pt, fun due pd => ?_⟩))
        have hb := one ht pd
        refine r_asg 7 scLw.nd (w_lst (w_callP CQ (w_name 5 ⟨pt, fun d1 pd1 => w_callP CI (w_name 5 ⟨pt, fun d2 pd2 => w_callK0 (n := 0) HQ (w_name 5 ⟨rfl, pt, fun d3 pd3 => ⟨by show 3 ≤ sizeLine; decide, ?_⟩⟩)⟩)⟩)))
        have e1 := (one ht pd1).uniq hb
        have e3 := (one ht pd3).uniq hb
        obtain ⟨b, e2, hbn⟩ := pd2 n t rfl ht
        have bn : ∀ b : Bool, (b = true ↔ NoBr n t) → b = noneD due := fun b h => by
          have := h.trans hb.none_iff.symm
          cases b <;> cases z : noneD due <;> simp_all
        have e2' := bn b hbn
        subst e1 e2
        rw [e3, e2']
        have nd := nbBr ht hn hb
        refine r_if (wt_not (wt_val (w_callP CL (w_cat (w_name 7 ⟨[d1, .bool (noneD d1), d1], rfl, w_lst (w_callK0 (n := 0) HI (w_name 5 ⟨rfl, pt, fun d4 pd4 => ⟨by show 1 ≤ sizeLine; decide, _, rfl, by show 3 + 1 ≤ sizeLine; decide, ?_⟩⟩))⟩)))))
        obtain ⟨b4, e4, hb4⟩ := pd4 n t rfl ht
        have e4' := bn b4 hb4
        subst e4
        rw [e4']
        refine w_lst (w_name 6 (w_isN (w_name 6 (w_name 6 (w_isN (w_name 6 ⟨by show 4 ≤ sizeLine; decide, ?_, fun d pd => ⟨true, pd, ifF rfl (r_nil (r_nil ⟨_, _, _, rfl⟩))⟩⟩))))))
        refine lk2 (B := 4 * (300 + 2) + 3) (D := 3) rfl (nb_list (xs := [d1, .bool (noneD d1), d1, .bool (noneD d1)]) fun x hx => ?_) (by decide) (by decide) rfl
        rcases List.mem_cons.mp hx with z | hx
        · rw [z]; exact nd
        rcases List.mem_cons.mp hx with z | hx
        · rw [z]; exact nb_bool.mono (by decide) (by decide)
        rcases List.mem_cons.mp hx with z | hx
        · rw [z]; exact nd
        · rw [List.mem_singleton.mp hx]; exact nb_bool.mono (by decide) (by decide)
      · obtain ⟨s5, s6, s7, ee⟩ := he
        subst ee
        exact r_nil (hN _ _ _ _)
    -- with the closed one
    have main : ∀ (N : DE) (n1 n : Nat) (t : Tb) (s4 s5 s6 s7 : Sl), n1 ≤ 10000 → Dye n t → n ≤ 16 → (∀ n2 s3 s4 s5 s6 s7, N.nx [.raw (.ref a) (scφ K a ns), .va (.int (i : Int)), .ms p n2, s3, s4, s5, s6, s7, .no]) →
        Rs (GxOf P w K mg base nLw sLw A) ((loopB (defBody sLw)).drop 3) [.raw (.ref a) (scφ K a ns), .va (.int (i : Int)), .ms p n1, .va (tbT t), s4, s5, s6, s7, .no] N := fun N n1 n t s4 s5 s6 s7 h1 ht hn hN => by
      have lt : (t.map rowT).length = n := by rw [List.length_map, ht.sq.1]
      have hLt : lenD (tbT t) = some n := congrArg some lt
      refine r_asg 4 scLw.nd (w_lst (w_callM 2 CR rfl (w_int ⟨n1, rfl, by omega, ⟨5, rfl, by decide⟩, fun d2 n2 hn2 pd2 => ⟨by show 1 ≤ sizeLine; decide, ?_⟩⟩)))
      obtain ⟨q, v, e2, hv, hq⟩ := hDr (kk := 5) pd2
      have hd2 : dyD d2 := ⟨q, v, e2, hv, by omega⟩
      refine r_if (wt_and (wt_le (w_len m4 (w_name 3 ⟨n, hLt, (n : Int), rfl, w_int ⟨7, rfl, ifd (fun _ => ?_) fun _ => ifF rfl (r_nil (walk _ _ _ _ _ _ _ (fun d hd => by rw [List.mem_singleton.mp hd]; exact hd2) fun _ _ _ _ => hN _ _ _ _ _ _))⟩⟩))))
      refine wt_le (w_callP CM (w_name 3 ⟨dye_many ht hn, fun d pd => ?_⟩))
      obtain ⟨z, ez, hz⟩ := pd t rfl
      subst ez
      refine ⟨z, rfl, w_int ⟨16, rfl, ifd (fun _ => ?_) fun _ => r_nil (walk _ _ _ _ _ _ _ (fun d hd => by rw [List.mem_singleton.mp hd]; exact hd2) fun _ _ _ _ => hN _ _ _ _ _ _)⟩⟩
      have pg : ∀ {m : Nat} {u : Tb}, Dye m u → m ≤ 16 → preG [tbT u] := fun hu hm => ⟨_, _, rfl, hu, hm⟩
      refine r_asg 4 scLw.nd (w_cat (w_name 4 ⟨_, rfl, w_lst (w_name 3 (w_callM 2 CN rfl (w_name 3 ⟨n2, rfl, by omega, pg ht hn, fun d3 n3 hn3 pd3 => w_callM 2 CN rfl (w_callM 2 CN rfl (w_name 3 ⟨n3, rfl, by omega, pg ht hn, fun d4 n4 hn4 pd4 => ?_⟩))⟩)))⟩))
      obtain ⟨u3, e3, hu3⟩ := pd3 n t rfl ht
      obtain ⟨u4, e4, hu4⟩ := pd4 n t rfl ht
      subst e4
      refine ⟨n4, rfl, by omega, pg hu4 hn, fun d5 n5 hn5 pd5 => ⟨by show 3 ≤ sizeLine; decide, _, rfl, by show 1 + 3 ≤ sizeLine; decide, ?_⟩⟩
      obtain ⟨u5, e5, hu5⟩ := pd5 n u4 rfl hu4
      refine r_nil (walk _ _ _ _ _ _ _ (fun d hd => ?_) fun _ _ _ _ => hN _ _ _ _ _ _)
      rcases List.mem_append.mp hd with hd | hd
      · rw [List.mem_singleton.mp hd]; exact hd2
      rcases List.mem_cons.mp hd with z | hd
      · rw [z]; exact ⟨n, t, rfl, ht, hn⟩
      rcases List.mem_cons.mp hd with z | hd
      · rw [z]; exact ⟨n, u3, e3, hu3, hn⟩
      · rw [List.mem_singleton.mp hd]; exact ⟨n, u5, e5, hu5, hn⟩
    refine r_asg 3 scLw.nd (w_callM 2 CC rfl (w_int ⟨0, rfl, by omega, ⟨5, rfl, by decide, by decide⟩, fun d1 n1 hn1 pd1 => ?_⟩))
    obtain ⟨n, t, e1, ht, hn⟩ := pd1
    subst e1
    have lt : (t.map rowT).length = n := by rw [List.length_map, ht.sq.1]
    have hLt : lenD (tbT t) = some n := congrArg some lt
    have again : ∀ N : DE, (∀ n2 s3 s4 s5 s6 s7, N.nx [.raw (.ref a) (scφ K a ns), .va (.int (i : Int)), .ms p n2, s3, s4, s5, s6, s7, .no]) →
        Rs (GxOf P w K mg base nLw sLw A) (bOf ((loopB (defBody sLw)).drop 2)) [.raw (.ref a) (scφ K a ns), .va (.int (i : Int)), .ms p n1, .va (tbT t), s4, s5, s6, s7, .no] { N with nx := fun e2 => Rs (GxOf P w K mg base nLw sLw A) ((loopB (defBody sLw)).drop 3) e2 N } := fun N hN => by
      refine r_asg 3 scLw.nd (w_callM 2 CE rfl (w_int ⟨n1, rfl, by omega, ⟨4, rfl, by decide, by decide⟩, fun d2 n2 hn2 pd2 => ?_⟩))
      obtain ⟨n', t', e2, ht', _, hn'⟩ := pd2
      subst e2
      exact r_nil (main N n2 n' t' s4 s5 s6 s7 (by omega) ht' hn' hN)
    refine r_if (wt_or (wt_gt (w_len m4 (w_name 3 ⟨n, hLt, (n : Int), rfl, w_int ⟨7, rfl, ifd (fun _ => ?_) fun _ => ?_⟩⟩))))
    · refine ifT rfl (again _ fun _ _ _ _ _ _ => ⟨_, _, _, _, _, _, _, rfl⟩)
    · show WT _ _ _ _
      refine wt_gt (w_callP CM (w_name 3 ⟨dye_many ht hn, fun d pd => ?_⟩))
      obtain ⟨z, ez, hz⟩ := pd t rfl
      subst ez
      refine ⟨z, rfl, w_int ⟨16, rfl, ifd (fun _ => again _ fun _ _ _ _ _ _ => ⟨_, _, _, _, _, _, _, rfl⟩) fun _ => r_nil (main _ n1 n t s4 s5 s6 s7 (by omega) ht hn fun _ _ _ _ _ _ => ⟨_, _, _, _, _, _, _, rfl⟩)⟩⟩
  · obtain ⟨s1, s2, s3, s4, s5, s6, s7, ee⟩ := he
    subst ee
    have b0 := isbr dyT0 (d := .none) (by unfold brQ; rw [show lst (mny []) (mixQ 0 []) = none by decide +kernel, show lst (mny []) (trnQ 0 []) = none by decide +kernel, show lst (mny [] * mny [] * mny []) (fun z => cntQ 0 [] (z / (mny [] : Int)) (z % (mny [] : Int))) = none by decide +kernel])
    have b1 := isbr dyT1 (d := .none) (by unfold brQ; rw [show lst (mny tT1) (mixQ 1 tT1) = none by decide +kernel, show lst (mny tT1) (trnQ 1 tT1) = none by decide +kernel, show lst (mny tT1 * mny tT1 * mny tT1) (fun z => cntQ 1 tT1 (z / (mny tT1 : Int)) (z % (mny tT1 : Int))) = none by decide +kernel])
    have b2 := isbr dyT2 (d := .tuple [.str "middle", .int 0]) (by unfold brQ; rw [show lst (mny tT2) (mixQ 2 tT2) = some 0 by decide +kernel])
    have b3 := isbr dyT3 (d := .tuple [.str "count", .int 1, .int 2, .int 0]) (by unfold brQ; rw [show lst (mny tT3) (mixQ 2 tT3) = none by decide +kernel, show lst (mny tT3) (trnQ 2 tT3) = none by decide +kernel, show lst (mny tT3 * mny tT3 * mny tT3) (fun z => cntQ 2 tT3 (z / (mny tT3 : Int)) (z % (mny tT3 : Int))) = some 15 by decide +kernel, show mny tT3 = 3 by decide +kernel]; rfl)
    have b4 := isbr dyT4 (d := .tuple [.str "count", .int 1, .int 1, .int 0]) (by unfold brQ; rw [show lst (mny tT4) (mixQ 3 tT4) = none by decide +kernel, show lst (mny tT4) (trnQ 3 tT4) = none by decide +kernel, show lst (mny tT4 * mny tT4 * mny tT4) (fun z => cntQ 3 tT4 (z / (mny tT4 : Int)) (z % (mny tT4 : Int))) = some 12 by decide +kernel, show mny tT4 = 3 by decide +kernel]; rfl)
    refine r_lstOw 8 scLw.nd (w_callP CQ (w_const 6 _ (tbT []) _ rfl ⟨⟨0, [], rfl, dyT0, by decide⟩, fun d0 pd0 => w_callP CQ (w_const 6 _ (tbT tT1) _ rfl ⟨⟨1, tT1, rfl, dyT1, by decide⟩, fun d1 pd1 => w_callP CQ (w_const 6 _ (tbT tT2) _ rfl ⟨⟨2, tT2, rfl, dyT2, by decide⟩, fun d2 pd2 => w_callP CQ (w_const 6 _ (tbT tT3) _ rfl ⟨⟨2, tT3, rfl, dyT3, by decide⟩, fun d3 pd3 => ⟨by show 4 ≤ sizeLine; decide, by show 8 < 9; decide, ?_⟩⟩)⟩)⟩)⟩))
    refine r_append 8 rfl ?_
    refine w_callP CQ (w_const 6 _ (tbT tT4) _ rfl ⟨⟨3, tT4, rfl, dyT4, by decide⟩, fun d4 pd4 => ⟨_, rfl, by show 4 < 100000; decide, ?_⟩⟩)
    have e0 := (one dyT0 pd0).uniq b0
    have e1 := (one dyT1 pd1).uniq b1
    have e2 := (one dyT2 pd2).uniq b2
    have e3 := (one dyT3 pd3).uniq b3
    have e4 := (one dyT4 pd4).uniq b4
    rw [e0, e1, e2, e3, e4]
    have nd := nb_list (B := 300) (D := 2) (xs := [.none, .none, .tuple [.str "middle", .int 0], .tuple [.str "count", .int 1, .int 2, .int 0], .tuple [.str "count", .int 1, .int 1, .int 0]]) (fun x hx => by
      rcases List.mem_cons.mp hx with z | hx
      · rw [z]; exact nb_none.mono (by decide) (by decide)
      rcases List.mem_cons.mp hx with z | hx
      · rw [z]; exact nb_none.mono (by decide) (by decide)
      rcases List.mem_cons.mp hx with z | hx
      · rw [z]; exact nbBr dyT2 (by decide) b2
      rcases List.mem_cons.mp hx with z | hx
      · rw [z]; exact nbBr dyT3 (by decide) b3
      · rw [List.mem_singleton.mp hx]; exact nbBr dyT4 (by decide) b4)
    refine r_ret (w_callP CL (w_freeze 8 (w_const 6 _ (.list [.none, .none, .tuple [.str "middle", .int 0], .tuple [.str "count", .int 1, .int 2, .int 0], .tuple [.str "count", .int 1, .int 1, .int 0]]) _ rfl ⟨?_, fun d pd => pd⟩)))
    exact lk2 (B := 5 * (300 + 2) + 3) (D := 3) rfl nd (by decide) (by decide) rfl
end
end K09

namespace K09
open PySem PySem.Spec PyProof.Rows L2 TL
/-- a def as the top has left it -/
def Df (K : PySem.W.Frag) (x : Str) (st : Stmt) (ps : List Str) : Prop := ∃ (f : Addr) (fd : FuncData), Fun K x x st f fd ∧ PySem.W.nsIn K mainGlobals x = some (some (.ref f)) ∧ (∀ (s : Shared) (us : List Value), us.length = ps.length → BindsTo s fd ⟨us, []⟩ (ps.zip us)) ∧ Binds K fd ps []
theorem df_mk {K : PySem.W.Frag} {x : Str} {st : Stmt} {ps : List Str} {f : Addr} {oc : Value} {od an : Option Addr} {osl : Array (Option Value)} {kV doc pm cdv ct : Value}
    (b : ∀ (kV doc pm : Value) (an : Option Addr) (cdv ct : Value) (us : List Value), us.length = ps.length → bindArgs (PySem.W.fnOf x x (defArgs st) (defBody st) (defScope st) .none kV doc pm an cdv ct) ⟨us, []⟩ = pure (ps.zip us))
    (a : PySem.W.nsIn K mainGlobals x = some (some (.ref f))) (l : K.lookup f = some ⟨oc, od, .func (PySem.W.fnOf x x (defArgs st) (defBody st) (defScope st) .none kV doc pm an cdv ct), osl⟩)
    (c : PySem.W.codeIn K cdv x = true) (k : PySem.W.keepIn K (.ref f) = true) : Df K x st ps :=
  ⟨f, _, fun_mk l c k, a, fun s us h => .of_eq (b kV doc pm an cdv ct us h), (fun_mk l c k).binds b⟩
theorem Df.dc {P : Program} {w : World} {K : PySem.W.Frag} {h base : Heap} {mg : Str → Option Value} {x : Str} {st : Stmt} {ps : List Str} {k : Nat} {sp : Sp} (D : Df K x st ps) (X : K.In h) (G : h.Ns mainGlobals mg)
    (F : ∀ (f : Addr) (fd : FuncData), Fun K x x st f fd → FnG P w K mg base k f fd ps sp) : Dc P w K mg base x k ps sp := by
  obtain ⟨f, fd, h1, h2, _, h4⟩ := D
  exact ⟨f, fd, F f fd h1, PySem.W.mg_of X G h2, h1.kp, h4⟩
theorem all_mk {P : Program} {w : World} {K : PySem.W.Frag} {h : Heap} {mg : Str → Option Value} {fa : Addr} (X : K.In h) (G : h.Ns mainGlobals mg) (hfa : mg "law" = some (.ref fa))
    (d1 : Df K "dye_count" (topS 1) ["dyeing"])
    (d3 : Df K "between_table" (topS 3) ["dyeing"])
    (d4 : Df K "closed_breach" (topS 4) ["dyeing"])
    (d5 : Df K "middle_breach" (topS 5) ["dyeing"])
    (d6 : Df K "turned_breach" (topS 6) ["dyeing"])
    (d7 : Df K "count_breach" (topS 7) ["dyeing"])
    (d8 : Df K "least_uneven" (topS 8) ["one", "other"])
    (d9 : Df K "is_closed" (topS 9) ["dyeing"])
    (d11 : Df K "_law_begun" (topS 11) ["script", "k"])
    (d12 : Df K "_law_draw" (topS 12) ["m", "bound"])
    (d13 : Df K "_law_of" (topS 13) ["m", "some"])
    (d14 : Df K "_law_dyed" (topS 14) ["rows"])
    (d15 : Df K "_law_many" (topS 15) ["dyeing_here"])
    (d16 : Df K "_law_begun_dyeing" (topS 16) ["dyeing_here"])
    (d17 : Df K "_law_round" (topS 17) ["dyeing_here"])
    (d18 : Df K "_law_closing" (topS 18) ["dyeing_here"])
    (d19 : Df K "_law_drawn" (topS 19) ["m", "most"])
    (d20 : Df K "_law_complete" (topS 20) ["q"])
    (d21 : Df K "_law_woven" (topS 21) ["one", "other"])
    (d22 : Df K "_law_nested" (topS 22) ["one", "other"])
    (d23 : Df K "_law_power" (topS 23) ["one", "k"])
    (d24 : Df K "_law_beside" (topS 24) ["one", "other"])
    (d25 : Df K "_law_sums" (topS 25) ["spans"])
    (d26 : Df K "_law_group" (topS 26) ["spans"])
    (d27 : Df K "_law_steady" (topS 27) ["m"])
    (d28 : Df K "_law_even" (topS 28) ["m", "most"])
    (d29 : Df K "_law_closed" (topS 29) ["m", "most"])
    (d30 : Df K "_law_like" (topS 30) ["told", "due"])
    (d31 : Df K "_law_pairs" (topS 31) ["dyeing_here", "dye"])
    (d32 : Df K "_law_between" (topS 32) ["dyeing_here", "pair", "first", "second"])
    (d33 : Df K "_law_breach" (topS 33) ["dyeing_here"])
    (d34 : Df K "_law_bent" (topS 34) ["m", "dyeing_here"])
    (d35 : Df K "law" (topS 35) ["script"])
    (kK0 : DfK K "closed_breach" (topS 4) ["dyeing"] 0 ["dyeing"] (fun a b => a ++ b))
    (kK1 : DfK K "is_closed" (topS 9) ["dyeing"] 0 ["dyeing"] (fun a b => a ++ b))

    (z1 : PySem.W.nsIn K mainGlobals "range" = some none) (z2 : PySem.W.nsIn K mainGlobals "max" = some none) (z3 : PySem.W.nsIn K mainGlobals "min" = some none) (z4 : PySem.W.nsIn K mainGlobals "len" = some none) (z5 : PySem.W.nsIn K mainGlobals "int" = some none) (z6 : PySem.W.nsIn K mainGlobals "tuple" = some none) (z7 : PySem.W.nsIn K mainGlobals "sorted" = some none) (z8 : PySem.W.nsIn K mainGlobals "list" = some none) (z9 : PySem.W.nsIn K mainGlobals "set" = some none) (z10 : PySem.W.nsIn K mainGlobals "zip" = some none) (z11 : PySem.W.nsIn K mainGlobals "repr" = some none) :
    ∃ fd : FuncData, (∀ (s : Shared) (u : Value), BindsTo s fd ⟨[u], []⟩ [("script", u)]) ∧ ∀ base : Heap, K.In base → base.Ns mainGlobals mg → FnG P w K mg base 7 fa fd ["script"] (spL K) := by
  obtain ⟨f35, fd35, F35, a35, b35, _⟩ := d35
  have e := hfa.symm.trans (PySem.W.mg_of X G a35)
  cases e
  refine ⟨fd35, fun s u => b35 s [u] rfl, fun base _ _ => ?_⟩
  have mRange := PySem.W.mg_none_of X G z1
  have mMax := PySem.W.mg_none_of X G z2
  have mMin := PySem.W.mg_none_of X G z3
  have mLen := PySem.W.mg_none_of X G z4
  have mInt := PySem.W.mg_none_of X G z5
  have mTuple := PySem.W.mg_none_of X G z6
  have mSorted := PySem.W.mg_none_of X G z7
  have mList := PySem.W.mg_none_of X G z8
  have mSet := PySem.W.mg_none_of X G z9
  have mZip := PySem.W.mg_none_of X G z10
  have mRepr := PySem.W.mg_none_of X G z11
  have D0 : Dc P w K mg base "_law_begun" 1 ["script", "k"] (spB K) := d11.dc X G fun f fd F => ok_beg F mInt
  have D1 : Dc P w K mg base "_law_draw" 1 ["m", "bound"] (spM 1 preD postD) := d12.dc X G fun f fd F => ok_draw F mInt mLen
  have D2 : Dc P w K mg base "_law_dyed" 1 ["rows"] (spP preDy postDy) := d14.dc X G fun f fd F => ok_dyed F mLen mTuple
  have D3 : Dc P w K mg base "_law_drawn" 2 ["m", "most"] (spM 1000 preDr postDr) := d19.dc X G fun f fd F => ok_drawn F mRange mMin mMax mInt D1 D2
  have D4 : Dc P w K mg base "_law_of" 2 ["m", "some"] (spM 1 preOf postOf) := d13.dc X G fun f fd F => ok_of F mLen D1
  have D5 : Dc P w K mg base "_law_complete" 2 ["q"] (spP preQ postQ) := d20.dc X G fun f fd F => ok_co F mRange mInt D2
  have D6 : Dc P w K mg base "_law_dyed" 1 ["rows"] (spP preDyN postDyN) := d14.dc X G fun f fd F => ok_dyedN F mLen mTuple
  have D7 : Dc P w K mg base "_law_power" 2 ["one", "k"] (spP preP postP) := d23.dc X G fun f fd F => ok_pw F mLen mRange mSorted mTuple D6
  have D8 : Dc P w K mg base "_law_begun_dyeing" 2 ["dyeing_here"] (spP preG postG) := d16.dc X G fun f fd F => ok_bd F mLen mRange mInt D6
  have D9 : Dc P w K mg base "_law_round" 2 ["dyeing_here"] (spP preG postG) := d17.dc X G fun f fd F => ok_ro F mLen mRange mSorted mTuple D6
  have D10 : Dc P w K mg base "_law_many" 1 ["dyeing_here"] (spP preMy postMy) := d15.dc X G fun f fd F => ok_many F mMax
  have D11 : Dc P w K mg base "_law_closing" 3 ["dyeing_here"] (spP preG postG) := d18.dc X G fun f fd F => ok_cg F mRange D8 D9 D10
  have D12 : Dc P w K mg base "_law_sums" 1 ["spans"] (spP preS postS) := d25.dc X G fun f fd F => ok_su F mRange
  have D13 : Dc P w K mg base "_law_group" 2 ["spans"] (spP preS postGr) := d26.dc X G fun f fd F => ok_gr F mLen mRange mInt mTuple D12 D6
  have D14 : Dc P w K mg base "_law_beside" 2 ["one", "other"] (spP preB postB) := d24.dc X G fun f fd F => ok_be F mLen mRange D6
  have D15 : Dc P w K mg base "_law_woven" 2 ["one", "other"] (spP preW postW) := d21.dc X G fun f fd F => ok_wo F mLen mRange D6
  have D16 : Dc P w K mg base "_law_nested" 2 ["one", "other"] (spP preW postW) := d22.dc X G fun f fd F => ok_ne F mLen mRange D6
  have D17 : Dc P w K mg base "_law_steady" 4 ["m"] (spM 10 preSt postSt) := d27.dc X G fun f fd F => ok_st F mLen mRange mMin mInt D1 D5 D7 D11 D2 D13 D15 D16
  have D18 : Dc P w K mg base "_law_even" 5 ["m", "most"] (spM 40 preEv postEv) := d28.dc X G fun f fd F => ok_ev F mRange mInt D1 D4 D5 D11 D2 D13 D15 D16 D17
  have D19 : Dc P w K mg base "_law_closed" 6 ["m", "most"] (spM 1010 preEv postCl) := d29.dc X G fun f fd F => ok_cl F D1 D3 D4 D5 D7 D11 D13 D14 D18
  have D20 : Dc P w K mg base "_law_bent" 2 ["m", "dyeing_here"] (spM 4 preG postG) := d34.dc X G fun f fd F => ok_bn F mLen mList D10 D1 D2
  have D21 : Dc P w K mg base "_law_pairs" 1 ["dyeing_here", "dye"] (spP prePa postPa) := d31.dc X G fun f fd F => ok_pa F mRange mLen
  have D22 : Dc P w K mg base "_law_between" 1 ["dyeing_here", "pair", "first", "second"] (spP preBe postBe) := d32.dc X G fun f fd F => ok_btw F mRange mLen
  have D23 : Dc P w K mg base "_law_breach" 2 ["dyeing_here"] (spP preT postBr) := d33.dc X G fun f fd F => ok_lb F mRange mLen mSet mMax mMin D10 D21 D22
  have D24 : Dc P w K mg base "middle_breach" 1 ["dyeing"] (spP preT postMd) := d5.dc X G fun f fd F => ok_md F mRange mLen mMin
  have D25 : Dc P w K mg base "turned_breach" 1 ["dyeing"] (spP preT postTr) := d6.dc X G fun f fd F => ok_tr F mZip mList mMin
  have D26 : Dc P w K mg base "dye_count" 1 ["dyeing"] (spP preMy postMy) := d1.dc X G fun f fd F => ok_dc F mMax
  have D27 : Dc P w K mg base "between_table" 2 ["dyeing"] (spP preT postBt) := d3.dc X G fun f fd F => ok_bt F mList mZip mTuple mSorted D26
  have D28 : Dc P w K mg base "least_uneven" 1 ["one", "other"] (spP preLe postLe) := d8.dc X G fun f fd F => ok_le F mZip mMin
  have D29 : Dc P w K mg base "count_breach" 3 ["dyeing"] (spP preT postCb) := d7.dc X G fun f fd F => ok_cb F mZip mMin D26 D27 D28
  have D30 : Dc P w K mg base "closed_breach" 4 ["dyeing"] (spP preT postBr) := d4.dc X G fun f fd F => ok_br F D24 D25 D29
  have D31 : Dc P w K mg base "is_closed" 5 ["dyeing"] (spP preT postIc) := d9.dc X G fun f fd F => ok_ic F D30
  have D32 : DcK P w K mg base "closed_breach" 4 ["dyeing"] 0 ["dyeing"] (fun a b => a ++ b) (spP preT postBr) := kK0.dc X G fun f fd F => ok_br F D24 D25 D29
  have D33 : DcK P w K mg base "is_closed" 5 ["dyeing"] 0 ["dyeing"] (fun a b => a ++ b) (spP preT postIc) := kK1.dc X G fun f fd F => ok_ic F D30
  have D34 : Dc P w K mg base "_law_like" 1 ["told", "due"] (spP preLkA postLk) := d30.dc X G fun f fd F => ok_likeA F mRepr
  exact ok_lw F35 mRange mMax mMin mLen D0 D19 D18 D3 D10 D20 D23 D30 D31 D32 D33 D34
end K09

open PySem PySem.W PyProof.Rows
set_option maxHeartbeats 0 in
theorem PySem.Challenge.cw_pairdyes_k09_breaches_of_closed_dyeings_holds : PySem.Challenge.rw_pairdyes_k09_breaches_of_closed_dyeings.Holds := by
  w_on; o_law; k_head; (case hw => w_witness2)
  k_fill
  refine TL.walk_ofG (l := PySem.Challenge.rw_pairdyes_k09_breaches_of_closed_dyeings) (n := 63) (k := 7) (x := "script") (sp := fun K => TL.spL K) rfl (by decide) rfl ⟨rfl, by decide, by decide⟩ (fun w h Y => PySem.W.kIn_of Y) ?F (fun K H a ns hl _ hS => ⟨a, ns, rfl, hS, hl, fun _ => rfl⟩)
  case F =>
    intro w mg fa h KX G hmg
    refine' K09.all_mk KX G hmg ?d1 ?d3 ?d4 ?d5 ?d6 ?d7 ?d8 ?d9 ?d11 ?d12 ?d13 ?d14 ?d15 ?d16 ?d17 ?d18 ?d19 ?d20 ?d21 ?d22 ?d23 ?d24 ?d25 ?d26 ?d27 ?d28 ?d29 ?d30 ?d31 ?d32 ?d33 ?d34 ?d35 ?kK0 ?kK1 ?z1 ?z2 ?z3 ?z4 ?z5 ?z6 ?z7 ?z8 ?z9 ?z10 ?z11
    case d1 =>
      refine' K09.df_mk (st := K09.topS 1) (fun _ _ _ _ _ _ us hl => match us, hl with | [_], _ => rfl) ?a ?l ?c ?k
      (case a => k_is); (case l => k_is); (case c => k_is); (case k => k_is)
    case d3 =>
      refine' K09.df_mk (st := K09.topS 3) (fun _ _ _ _ _ _ us hl => match us, hl with | [_], _ => rfl) ?a ?l ?c ?k
      (case a => k_is); (case l => k_is); (case c => k_is); (case k => k_is)
    case d4 =>
      refine' K09.df_mk (st := K09.topS 4) (fun _ _ _ _ _ _ us hl => match us, hl with | [_], _ => rfl) ?a ?l ?c ?k
      (case a => k_is); (case l => k_is); (case c => k_is); (case k => k_is)
    case d5 =>
      refine' K09.df_mk (st := K09.topS 5) (fun _ _ _ _ _ _ us hl => match us, hl with | [_], _ => rfl) ?a ?l ?c ?k
      (case a => k_is); (case l => k_is); (case c => k_is); (case k => k_is)
    case d6 =>
      refine' K09.df_mk (st := K09.topS 6) (fun _ _ _ _ _ _ us hl => match us, hl with | [_], _ => rfl) ?a ?l ?c ?k
      (case a => k_is); (case l => k_is); (case c => k_is); (case k => k_is)
    case d7 =>
      refine' K09.df_mk (st := K09.topS 7) (fun _ _ _ _ _ _ us hl => match us, hl with | [_], _ => rfl) ?a ?l ?c ?k
      (case a => k_is); (case l => k_is); (case c => k_is); (case k => k_is)
    case d8 =>
      refine' K09.df_mk (st := K09.topS 8) (fun _ _ _ _ _ _ us hl => match us, hl with | [_, _], _ => rfl) ?a ?l ?c ?k
      (case a => k_is); (case l => k_is); (case c => k_is); (case k => k_is)
    case d9 =>
      refine' K09.df_mk (st := K09.topS 9) (fun _ _ _ _ _ _ us hl => match us, hl with | [_], _ => rfl) ?a ?l ?c ?k
      (case a => k_is); (case l => k_is); (case c => k_is); (case k => k_is)
    case d11 =>
      refine' K09.df_mk (st := K09.topS 11) (fun _ _ _ _ _ _ us hl => match us, hl with | [_, _], _ => rfl) ?a ?l ?c ?k
      (case a => k_is); (case l => k_is); (case c => k_is); (case k => k_is)
    case d12 =>
      refine' K09.df_mk (st := K09.topS 12) (fun _ _ _ _ _ _ us hl => match us, hl with | [_, _], _ => rfl) ?a ?l ?c ?k
      (case a => k_is); (case l => k_is); (case c => k_is); (case k => k_is)
    case d13 =>
      refine' K09.df_mk (st := K09.topS 13) (fun _ _ _ _ _ _ us hl => match us, hl with | [_, _], _ => rfl) ?a ?l ?c ?k
      (case a => k_is); (case l => k_is); (case c => k_is); (case k => k_is)
    case d14 =>
      refine' K09.df_mk (st := K09.topS 14) (fun _ _ _ _ _ _ us hl => match us, hl with | [_], _ => rfl) ?a ?l ?c ?k
      (case a => k_is); (case l => k_is); (case c => k_is); (case k => k_is)
    case d15 =>
      refine' K09.df_mk (st := K09.topS 15) (fun _ _ _ _ _ _ us hl => match us, hl with | [_], _ => rfl) ?a ?l ?c ?k
      (case a => k_is); (case l => k_is); (case c => k_is); (case k => k_is)
    case d16 =>
      refine' K09.df_mk (st := K09.topS 16) (fun _ _ _ _ _ _ us hl => match us, hl with | [_], _ => rfl) ?a ?l ?c ?k
      (case a => k_is); (case l => k_is); (case c => k_is); (case k => k_is)
    case d17 =>
      refine' K09.df_mk (st := K09.topS 17) (fun _ _ _ _ _ _ us hl => match us, hl with | [_], _ => rfl) ?a ?l ?c ?k
      (case a => k_is); (case l => k_is); (case c => k_is); (case k => k_is)
    case d18 =>
      refine' K09.df_mk (st := K09.topS 18) (fun _ _ _ _ _ _ us hl => match us, hl with | [_], _ => rfl) ?a ?l ?c ?k
      (case a => k_is); (case l => k_is); (case c => k_is); (case k => k_is)
    case d19 =>
      refine' K09.df_mk (st := K09.topS 19) (fun _ _ _ _ _ _ us hl => match us, hl with | [_, _], _ => rfl) ?a ?l ?c ?k
      (case a => k_is); (case l => k_is); (case c => k_is); (case k => k_is)
    case d20 =>
      refine' K09.df_mk (st := K09.topS 20) (fun _ _ _ _ _ _ us hl => match us, hl with | [_], _ => rfl) ?a ?l ?c ?k
      (case a => k_is); (case l => k_is); (case c => k_is); (case k => k_is)
    case d21 =>
      refine' K09.df_mk (st := K09.topS 21) (fun _ _ _ _ _ _ us hl => match us, hl with | [_, _], _ => rfl) ?a ?l ?c ?k
      (case a => k_is); (case l => k_is); (case c => k_is); (case k => k_is)
    case d22 =>
      refine' K09.df_mk (st := K09.topS 22) (fun _ _ _ _ _ _ us hl => match us, hl with | [_, _], _ => rfl) ?a ?l ?c ?k
      (case a => k_is); (case l => k_is); (case c => k_is); (case k => k_is)
    case d23 =>
      refine' K09.df_mk (st := K09.topS 23) (fun _ _ _ _ _ _ us hl => match us, hl with | [_, _], _ => rfl) ?a ?l ?c ?k
      (case a => k_is); (case l => k_is); (case c => k_is); (case k => k_is)
    case d24 =>
      refine' K09.df_mk (st := K09.topS 24) (fun _ _ _ _ _ _ us hl => match us, hl with | [_, _], _ => rfl) ?a ?l ?c ?k
      (case a => k_is); (case l => k_is); (case c => k_is); (case k => k_is)
    case d25 =>
      refine' K09.df_mk (st := K09.topS 25) (fun _ _ _ _ _ _ us hl => match us, hl with | [_], _ => rfl) ?a ?l ?c ?k
      (case a => k_is); (case l => k_is); (case c => k_is); (case k => k_is)
    case d26 =>
      refine' K09.df_mk (st := K09.topS 26) (fun _ _ _ _ _ _ us hl => match us, hl with | [_], _ => rfl) ?a ?l ?c ?k
      (case a => k_is); (case l => k_is); (case c => k_is); (case k => k_is)
    case d27 =>
      refine' K09.df_mk (st := K09.topS 27) (fun _ _ _ _ _ _ us hl => match us, hl with | [_], _ => rfl) ?a ?l ?c ?k
      (case a => k_is); (case l => k_is); (case c => k_is); (case k => k_is)
    case d28 =>
      refine' K09.df_mk (st := K09.topS 28) (fun _ _ _ _ _ _ us hl => match us, hl with | [_, _], _ => rfl) ?a ?l ?c ?k
      (case a => k_is); (case l => k_is); (case c => k_is); (case k => k_is)
    case d29 =>
      refine' K09.df_mk (st := K09.topS 29) (fun _ _ _ _ _ _ us hl => match us, hl with | [_, _], _ => rfl) ?a ?l ?c ?k
      (case a => k_is); (case l => k_is); (case c => k_is); (case k => k_is)
    case d30 =>
      refine' K09.df_mk (st := K09.topS 30) (fun _ _ _ _ _ _ us hl => match us, hl with | [_, _], _ => rfl) ?a ?l ?c ?k
      (case a => k_is); (case l => k_is); (case c => k_is); (case k => k_is)
    case d31 =>
      refine' K09.df_mk (st := K09.topS 31) (fun _ _ _ _ _ _ us hl => match us, hl with | [_, _], _ => rfl) ?a ?l ?c ?k
      (case a => k_is); (case l => k_is); (case c => k_is); (case k => k_is)
    case d32 =>
      refine' K09.df_mk (st := K09.topS 32) (fun _ _ _ _ _ _ us hl => match us, hl with | [_, _, _, _], _ => rfl) ?a ?l ?c ?k
      (case a => k_is); (case l => k_is); (case c => k_is); (case k => k_is)
    case d33 =>
      refine' K09.df_mk (st := K09.topS 33) (fun _ _ _ _ _ _ us hl => match us, hl with | [_], _ => rfl) ?a ?l ?c ?k
      (case a => k_is); (case l => k_is); (case c => k_is); (case k => k_is)
    case d34 =>
      refine' K09.df_mk (st := K09.topS 34) (fun _ _ _ _ _ _ us hl => match us, hl with | [_, _], _ => rfl) ?a ?l ?c ?k
      (case a => k_is); (case l => k_is); (case c => k_is); (case k => k_is)
    case d35 =>
      refine' K09.df_mk (st := K09.topS 35) (fun _ _ _ _ _ _ us hl => match us, hl with | [_], _ => rfl) ?a ?l ?c ?k
      (case a => k_is); (case l => k_is); (case c => k_is); (case k => k_is)
    case kK0 =>
      refine' TL.dfk_mk (st := K09.topS 4) (fun _ _ _ _ _ _ us ws hl hl2 => match us, ws, hl, hl2 with | [], [_], _, _ => rfl) ?a ?l ?c ?k
      (case a => k_is); (case l => k_is); (case c => k_is); (case k => k_is)
    case kK1 =>
      refine' TL.dfk_mk (st := K09.topS 9) (fun _ _ _ _ _ _ us ws hl hl2 => match us, ws, hl, hl2 with | [], [_], _, _ => rfl) ?a ?l ?c ?k
      (case a => k_is); (case l => k_is); (case c => k_is); (case k => k_is)
    (case z1 => k_is); (case z2 => k_is); (case z3 => k_is); (case z4 => k_is); (case z5 => k_is); (case z6 => k_is); (case z7 => k_is); (case z8 => k_is); (case z9 => k_is); (case z10 => k_is); (case z11 => k_is)
