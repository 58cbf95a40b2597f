import PyProof.Rows.All
import Wide.All
import OpenK.AllK
import Wide.FinOn
import HandS.ForMost
import HandS.Conv
import HandS.SetKeys
import HandS.Small
import HandS.StrMore
import HandS.RaiseMore
import HandS.Style
import KE.DataMinMax
import HandS.Text
import PySem.Challenge.RW_pairdyes_k03_whole_texts
set_option Elab.async false
set_option linter.all false
set_option maxRecDepth 100000
set_option autoImplicit false
namespace TL
open PySem PySem.Spec PyProof.Rows L2

/-! trees over the abstract heap -/
mutual
inductive Tr (H : Hp) : V → PyData → Prop
  | non : Tr H .non .none
  | bl (b : Bool) : Tr H (.bl b) (.bool b)
  | int (i : Int) : Tr H (.int i) (.int i)
  | str (x : Str) : Tr H (.str x) (.str x)
  | tup {a : Addr} {vs : List V} {ds : List PyData} : H a = some (.tup vs) → Trs H vs ds → Tr H (.ref a) (.tuple ds)
  | lst {a : Addr} {vs : List V} {ds : List PyData} : H a = some (.lst vs) → Trs H vs ds → Tr H (.ref a) (.list ds)
inductive Trs (H : Hp) : List V → List PyData → Prop
  | nil : Trs H [] []
  | cons {v : V} {d : PyData} {vs : List V} {ds : List PyData} : Tr H v d → Trs H vs ds → Trs H (v :: vs) (d :: ds)
end
mutual
theorem Tr.mono {H H' : Hp} (s : Same H H') : ∀ {v : V} {d : PyData}, Tr H v d → Tr H' v d
  | _, _, .non => .non
  | _, _, .bl b => .bl b
  | _, _, .int i => .int i
  | _, _, .str x => .str x
  | _, _, .tup e t => .tup (s _ _ e) (Trs.mono s t)
  | _, _, .lst e t => .lst (s _ _ e) (Trs.mono s t)
theorem Trs.mono {H H' : Hp} (s : Same H H') : ∀ {vs : List V} {ds : List PyData}, Trs H vs ds → Trs H' vs ds
  | _, _, .nil => .nil
  | _, _, .cons t u => .cons (Tr.mono s t) (Trs.mono s u)
end
theorem Trs.length {H : Hp} : ∀ {vs : List V} {ds : List PyData}, Trs H vs ds → vs.length = ds.length
  | _, _, .nil => rfl
  | _, _, .cons _ u => by simp [Trs.length u]
theorem Trs.get {H : Hp} : ∀ {vs : List V} {ds : List PyData} {i : Nat} {d : PyData}, Trs H vs ds → ds[i]? = some d → ∃ v, vs[i]? = some v ∧ Tr H v d
  | _, _, i, d, .nil, e => by simp at e
  | _, _, 0, d, .cons t u, e => by simp at e; subst e; exact ⟨_, rfl, t⟩
  | _, _, i + 1, d, .cons t u, e => by
    obtain ⟨v, h1, h2⟩ := Trs.get (i := i) (d := d) u (by simpa using e)
    exact ⟨v, by simpa using h1, h2⟩
theorem Trs.getV {H : Hp} : ∀ {vs : List V} {ds : List PyData} {i : Nat} {v : V}, Trs H vs ds → vs[i]? = some v → ∃ d, ds[i]? = some d ∧ Tr H v d
  | _, _, i, d, .nil, e => by simp at e
  | _, _, 0, d, .cons t u, e => by simp at e; subst e; exact ⟨_, rfl, t⟩
  | _, _, i + 1, d, .cons t u, e => by
    obtain ⟨v, h1, h2⟩ := Trs.getV (i := i) (v := d) u (by simpa using e)
    exact ⟨v, by simpa using h1, h2⟩
theorem Trs.append {H : Hp} : ∀ {vs ws : List V} {ds es : List PyData}, Trs H vs ds → Trs H ws es → Trs H (vs ++ ws) (ds ++ es)
  | _, _, _, _, .nil, s => s
  | _, _, _, _, .cons t u, s => .cons t (Trs.append u s)
theorem Trs.ints {H : Hp} : ∀ ns : List Int, Trs H (ns.map V.int) (ns.map PyData.int)
  | [] => .nil
  | n :: ns => .cons (.int n) (Trs.ints ns)
theorem Trs.of_ints {H : Hp} : ∀ {ns : List Int} {vs : List V}, Trs H vs (ns.map PyData.int) → vs = ns.map V.int
  | [], _, .nil => rfl
  | n :: ns, _, .cons t u => by cases t; rw [Trs.of_ints u]; rfl
theorem Trs.set {H : Hp} {x : V} {d : PyData} (t : Tr H x d) : ∀ {vs : List V} {ds : List PyData} (i : Nat), Trs H vs ds → Trs H (vs.set i x) (ds.set i d)
  | _, _, _, .nil => .nil
  | _, _, 0, .cons _ u => .cons t u
  | _, _, i + 1, .cons q u => .cons q (Trs.set t i u)

/-! the draws' dict -/
def msKv (l s : Int) (c : Addr) (p : Int) : List (Key × V) :=
  [(.inr "left", .int l), (.inr "seed", .int s), (.inr "cells", .ref c), (.inr "spot", .int p)]
structure MS (Hc H : Hp) (a : Addr) (n : Nat) : Prop where
  out : Hc a = none
  ex : ∃ (l s p : Int) (c : Addr) (ns : List Int), H a = some (.dK (msKv l s c p)) ∧ Hc c = some (.lst (ns.map V.int)) ∧
    ns ≠ [] ∧ ns.length ≤ 200 ∧ 0 ≤ s ∧ s < 2147483647 ∧ 0 ≤ p ∧ p ≤ n

/-! what a slot holds -/
inductive Sl where
  | no
  | va (d : PyData)
  | raw (v : V) (φ : Hp → Prop)
  | ow (ds : List PyData)
  | dk (a : Addr) (kvs : List (Key × PyData))
  | ms (a : Addr) (n : Nat)
def Sl.own : Sl → Bool
  | .ow _ | .dk _ _ | .ms _ _ => true
  | _ => false
abbrev En := List Sl
def KTr (H : Hp) : List (Key × V) → List (Key × PyData) → Prop
  | [], [] => True
  | (k, v) :: r, (j, d) :: q => k = j ∧ Tr H v d ∧ KTr H r q
  | _, _ => False
theorem KTr.mono {H H' : Hp} (s : Same H H') : ∀ {a : List (Key × V)} {b : List (Key × PyData)}, KTr H a b → KTr H' a b
  | [], [], _ => trivial
  | (_, _) :: _, (_, _) :: _, ⟨e, t, r⟩ => ⟨e, t.mono s, KTr.mono s r⟩
  | [], _ :: _, h => h.elim
  | _ :: _, [], h => h.elim
def SlotOk (Hc H : Hp) (s : Sl) (o : Option (Option V)) : Prop := match s with
  | .no => True
  | .va d => ∃ v, o = some (some v) ∧ Tr Hc v d
  | .raw v φ => o = some (some v) ∧ φ Hc ∧ ∀ H1 H2 : Hp, Same H1 H2 → φ H1 → φ H2
  | .ow ds => ∃ a vs, o = some (some (.ref a)) ∧ Hc a = none ∧ H a = some (.lst vs) ∧ Trs Hc vs ds
  | .dk a kvs => ∃ ks, o = some (some (.ref a)) ∧ Hc a = none ∧ H a = some (.dK ks) ∧ KTr Hc ks kvs
  | .ms a n => o = some (some (.ref a)) ∧ MS Hc H a n
def Own (σ : L2.St) (env : En) (a : Addr) : Prop := ∃ (i : Nat) (s : Sl), env[i]? = some s ∧ s.own = true ∧ σ[i]? = some (some (.ref a))
structure Rp (Hc H : Hp) (σ : L2.St) (env : En) : Prop where
  same : Same Hc H
  ok : ∀ (i : Nat) (s : Sl), env[i]? = some s → SlotOk Hc H s σ[i]?
  inj : ∀ (i j : Nat) (s t : Sl) (a : Addr), env[i]? = some s → env[j]? = some t → s.own = true → t.own = true → σ[i]? = some (some (.ref a)) → σ[j]? = some (some (.ref a)) → i = j
  len : σ.length = env.length
structure Go (Hc H : Hp) (σ : L2.St) (env : En) (Hc' H' : Hp) (σ' : L2.St) (env' : En) : Prop where
  rep : Rp Hc' H' σ' env'
  core : Same Hc Hc'
  kp : ∀ a o, H a = some o → ¬ Own σ env a → H' a = some o
  out : ∀ a, H a ≠ none → Hc a = none → ¬ Own σ env a → Hc' a = none
  own : ∀ a, Own σ' env' a → Own σ env a ∨ H a = none
  ex : ∀ a, H a ≠ none → H' a ≠ none
theorem Go.refl {Hc H : Hp} {σ : L2.St} {env : En} (r : Rp Hc H σ env) : Go Hc H σ env Hc H σ env :=
  ⟨r, Same.refl _, fun _ _ e _ => e, fun _ _ e _ => e, fun _ o => .inl o, fun _ e => e⟩
theorem Go.trans {Hc H Hc1 H1 Hc2 H2 : Hp} {σ σ1 σ2 : L2.St} {env env1 env2 : En} (g : Go Hc H σ env Hc1 H1 σ1 env1) (k : Go Hc1 H1 σ1 env1 Hc2 H2 σ2 env2) : Go Hc H σ env Hc2 H2 σ2 env2 where
  rep := k.rep
  core := g.core.trans k.core
  kp := fun a o e n => k.kp a o (g.kp a o e n) fun q => (g.own a q).elim n fun z => by rw [z] at e; cases e
  out := fun a e c n => k.out a (g.ex a e) (g.out a e c n) fun q => (g.own a q).elim n fun z => e z
  own := fun a q => (k.own a q).elim (g.own a) fun z => .inr (by
    by_cases e : H a = none
    · exact e
    · exact absurd z (g.ex a e))
  ex := fun a e => k.ex a (g.ex a e)
/-- nothing but growth -/
structure Ext (Hc H Hc' H' : Hp) : Prop where
  all : Same H H'
  core : Same Hc Hc'
  sub : Same Hc' H'
  out : ∀ a, H a ≠ none → Hc a = none → Hc' a = none
theorem Ext.refl {Hc H : Hp} (s : Same Hc H) : Ext Hc H Hc H := ⟨Same.refl _, Same.refl _, s, fun _ _ e => e⟩
theorem Ext.trans {Hc H Hc1 H1 Hc2 H2 : Hp} (a : Ext Hc H Hc1 H1) (b : Ext Hc1 H1 Hc2 H2) : Ext Hc H Hc2 H2 :=
  ⟨a.all.trans b.all, a.core.trans b.core, b.sub, fun x e c => b.out x (by
    cases q : H x with
    | none => exact absurd q e
    | some o => rw [a.all x o q]; simp) (a.out x e c)⟩
theorem Ext.new {Hc H : Hp} {p : Addr} {o : HO} (s : Same Hc H) (h : H p = none) : Ext Hc H (upd Hc p o) (upd H p o) := by
  have hc : Hc p = none := Same.free s h
  refine ⟨?_, ?_, ?_, ?_⟩
  · intro b u e
    rw [upd_ne (ne_of_none e h)]
    exact e
  · intro b u e
    rw [upd_ne (ne_of_none e hc)]
    exact e
  · intro b u e
    by_cases hb : b = p
    · subst hb
      rw [upd_same] at e ⊢
      exact e
    · rw [upd_ne hb] at e ⊢
      exact s b u e
  · intro b e c
    have hb : b ≠ p := fun z => e (z ▸ h)
    rw [upd_ne hb]
    exact c
theorem slot_ext {Hc H Hc' H' : Hp} (x : Ext Hc H Hc' H') {s : Sl} {o : Option (Option V)} (h : SlotOk Hc H s o) : SlotOk Hc' H' s o := by
  have nn : ∀ {a : Addr} {u : HO}, H a = some u → H a ≠ none := fun e z => by rw [e] at z; cases z
  cases s with
  | no => trivial
  | va d => obtain ⟨v, e, t⟩ := h; exact ⟨v, e, t.mono x.core⟩
  | raw v φ => exact ⟨h.1, h.2.2 _ _ x.core h.2.1, h.2.2⟩
  | ow ds => obtain ⟨a, vs, e, c, u, t⟩ := h; exact ⟨a, vs, e, x.out a (nn u) c, x.all _ _ u, t.mono x.core⟩
  | dk a kvs => obtain ⟨vs, e, c, u, t⟩ := h; exact ⟨vs, e, x.out a (nn u) c, x.all _ _ u, t.mono x.core⟩
  | ms a n =>
    obtain ⟨e, ⟨c, l, s, p, b, ns, h1, h2, h3⟩⟩ := h
    exact ⟨e, x.out a (nn h1) c, l, s, p, b, ns, x.all _ _ h1, x.core _ _ h2, h3⟩
theorem Ext.go {Hc H Hc' H' : Hp} (x : Ext Hc H Hc' H') {σ : L2.St} {env : En} (r : Rp Hc H σ env) : Go Hc H σ env Hc' H' σ env where
  rep := ⟨x.sub, fun i s e => slot_ext x (r.ok i s e), r.inj, r.len⟩
  core := x.core
  kp := fun a o e _ => x.all a o e
  out := fun a e c _ => x.out a e c
  own := fun _ q => .inl q
  ex := fun a e => by
    cases q : H a with
    | none => exact absurd q e
    | some o => rw [x.all a o q]; simp
end TL

namespace TL
open PySem PySem.Spec PyProof.Rows L2

structure Gx where
  N : List Str
  sc : Scope
  K : PySem.W.Frag
  mg : Str → Option Value
  P : Program
  w : World
  base : Heap
  A : Around
structure InG (G : Gx) (X : Cx) : Prop where
  N : X.N = G.N
  sc : X.env.scope = G.sc
  K : X.K = G.K
  mg : X.mg = G.mg
  P : X.prog = G.P
  w : X.w = G.w
  base : X.base = G.base
  A : X.A = G.A
  calm : X.calm = true
abbrev Pins := List (Addr × Obj)
/-- what is known behind an expression -/
abbrev Fin (Hc H : Hp) (σ : L2.St) (env : En) (P : PyData → En → Prop) (Q : VK) : Prop :=
  ∀ (v : V) (d : PyData) (env' : En) (Hc' H' : Hp), P d env' → Go Hc H σ env Hc' H' σ env' → Tr Hc' v d → Q v H'
def W (G : Gx) (e : Expr) (env : En) (P : PyData → En → Prop) : Prop :=
  ∀ X, InG G X → ∀ (pins : Pins) (s : Shared) (σ : L2.St) (Hc H : Hp) (Q : VK), Inv X pins σ H s → Rp Hc H σ env → Fin Hc H σ env P Q →
    wpAny (model X.prog X.w) X.A (eval e X.env) (EP X pins σ Q) X.xe s
def tW (G : Gx) (e : Expr) : TE := fun σ H Q => ∃ Hc env P, Rp Hc H σ env ∧ W G e env P ∧ Fin Hc H σ env P Q
theorem peW {G : Gx} {X : Cx} (hX : InG G X) (e : Expr) : PE X e (tW G e) :=
  ⟨fun pins s σ H Q I ⟨Hc, env, P, R, w, q⟩ => w X hX pins s σ Hc H Q I R q⟩
theorem W.of {G : Gx} {e : Expr} {env : En} {P : PyData → En → Prop} (te : Cx → TE) (h : ∀ X, InG G X → PE X e (te X))
    (r : ∀ X, InG G X → ∀ (σ : L2.St) (Hc H : Hp) (Q : VK), Rp Hc H σ env → Fin Hc H σ env P Q → te X σ H Q) : W G e env P :=
  fun X hX pins s σ Hc H Q I R q => (h X hX).run pins s σ H Q I (r X hX σ Hc H Q R q)
theorem W.imp {G : Gx} {e : Expr} {env : En} {P P' : PyData → En → Prop} (h : W G e env P) (k : ∀ d env', P d env' → P' d env') : W G e env P' :=
  fun X hX pins s σ Hc H Q I R q => h X hX pins s σ Hc H Q I R fun v d env' Hc' H' p => q v d env' Hc' H' (k _ _ p)
/-- reading a part: its end is taken from where it stands -/
theorem tW.use {G : Gx} {e : Expr} {env : En} {P : PyData → En → Prop} {σ : L2.St} {Hc H : Hp} {Q : VK} (R : Rp Hc H σ env) (h : W G e env P) (q : Fin Hc H σ env P Q) : tW G e σ H Q := ⟨Hc, env, P, R, h, q⟩
/-- tests -/
abbrev FinT (Hc H : Hp) (σ : L2.St) (env : En) (P : Bool → En → Prop) (Q : Bool → Hp → Prop) : Prop :=
  ∀ (b : Bool) (env' : En) (Hc' H' : Hp), P b env' → Go Hc H σ env Hc' H' σ env' → Q b H'
def WT (G : Gx) (e : Expr) (env : En) (P : Bool → En → Prop) : Prop :=
  ∀ X, InG G X → ∀ (pins : Pins) (s : Shared) (σ : L2.St) (Hc H : Hp) (Q : Bool → Hp → Prop), Inv X pins σ H s → Rp Hc H σ env → FinT Hc H σ env P Q →
    wpAny (model X.prog X.w) X.A (isTrue e X.env (eval e X.env)) (TP X pins σ Q) X.xe s
def tWT (G : Gx) (e : Expr) : TT := fun σ H Q => ∃ Hc env P, Rp Hc H σ env ∧ WT G e env P ∧ FinT Hc H σ env P Q
theorem ptW {G : Gx} {X : Cx} (hX : InG G X) (e : Expr) : PT X e (tWT G e) :=
  ⟨fun pins s σ H Q I ⟨Hc, env, P, R, w, q⟩ => w X hX pins s σ Hc H Q I R q⟩
theorem WT.of {G : Gx} {e : Expr} {env : En} {P : Bool → En → Prop} (te : Cx → TT) (h : ∀ X, InG G X → PT X e (te X))
    (r : ∀ X, InG G X → ∀ (σ : L2.St) (Hc H : Hp) (Q : Bool → Hp → Prop), Rp Hc H σ env → FinT Hc H σ env P Q → te X σ H Q) : WT G e env P :=
  fun X hX pins s σ Hc H Q I R q => (h X hX).run pins s σ H Q I (r X hX σ Hc H Q R q)
theorem WT.imp {G : Gx} {e : Expr} {env : En} {P P' : Bool → En → Prop} (h : WT G e env P) (k : ∀ b env', P b env' → P' b env') : WT G e env P' :=
  fun X hX pins s σ Hc H Q I R q => h X hX pins s σ Hc H Q I R fun b env' Hc' H' p => q b env' Hc' H' (k _ _ p)

/-! ### leaves -/
section
variable {G : Gx} {env : En} {P : PyData → En → Prop}
theorem w_int {i : Int} {j : Nat} {pos : Pos} (h : P (.int i) env) : W G (.Constant (.int i) j pos) env P :=
  W.of (fun _ => tC (.int i)) (fun _ _ => pe_int) fun _ _ σ Hc H Q R q => q _ _ env Hc H h (.refl R) (.int i)
theorem w_bl {b : Bool} {j : Nat} {pos : Pos} (h : P (.bool b) env) : W G (.Constant (.bool b) j pos) env P :=
  W.of (fun _ => tC (.bl b)) (fun _ _ => pe_bl) fun _ _ σ Hc H Q R q => q _ _ env Hc H h (.refl R) (.bl b)
theorem w_str {x : Str} {j : Nat} {pos : Pos} (h : P (.str x) env) : W G (.Constant (.str x) j pos) env P :=
  W.of (fun _ => tC (.str x)) (fun _ _ => pe_str) fun _ _ σ Hc H Q R q => q _ _ env Hc H h (.refl R) (.str x)
theorem w_non {j : Nat} {pos : Pos} (h : P .none env) : W G (.Constant .none j pos) env P :=
  W.of (fun _ => tC .non) (fun _ _ => pe_non) fun _ _ σ Hc H Q R q => q _ _ env Hc H h (.refl R) .non
theorem pvG {X : Cx} (hX : InG G X) (i : Nat) {x : Str} {pos : Pos} (hN : G.N[i]? = some x) (hv : Vis G.sc x)
    (hd : (x == ("__debug__" : Str)) = false) (hcd : (x == ("__classdict__" : Str)) = false) : PE X (.Name x pos) (tVar i) :=
  pe_var (by rw [hX.N]; exact hN) (by rw [hX.sc]; exact hv) hd hcd
theorem w_name (i : Nat) {d : PyData} {x : Str} {pos : Pos} (h : P d env) (he : env[i]? = some (.va d) := by rfl) (hN : G.N[i]? = some x := by rfl) (hv : Vis G.sc x := by first | exact Or.inl rfl | exact Or.inr (Or.inl rfl) | exact Or.inr (Or.inr rfl))
    (hd : (x == ("__debug__" : Str)) = false := by decide) (hcd : (x == ("__classdict__" : Str)) = false := by decide) : W G (.Name x pos) env P :=
  W.of (fun _ => tVar i) (fun X hX => pvG hX i hN hv hd hcd) fun _ _ σ Hc H Q R q => by
    obtain ⟨v, e, t⟩ := R.ok i _ he
    exact ⟨v, e, q _ _ env Hc H h (.refl R) t⟩
/-- an owned list becomes a value -/
theorem set_own {env : En} {i : Nat} {s t : Sl} {j : Nat} (h : (env.set i t)[j]? = some s) (ht : t.own = false) (hs : s.own = true) : j ≠ i ∧ env[j]? = some s := by
  by_cases e : j = i
  · subst e
    by_cases l : j < env.length
    · rw [List.getElem?_set_self l] at h
      cases h
      rw [ht] at hs
      cases hs
    · rw [List.getElem?_eq_none (by simpa using l)] at h
      cases h
  · exact ⟨e, by rw [List.getElem?_set_ne (Ne.symm e)] at h; exact h⟩
theorem own_set {σ : L2.St} {env : En} {i : Nat} {t : Sl} (ht : t.own = false) {a : Addr} (h : Own σ (env.set i t) a) : Own σ env a := by
  obtain ⟨j, s, e1, e2, e3⟩ := h
  exact ⟨j, s, (set_own e1 ht e2).2, e2, e3⟩
theorem freeze {Hc H : Hp} {σ : L2.St} {env : En} {i : Nat} {ds : List PyData} (R : Rp Hc H σ env) (he : env[i]? = some (.ow ds)) :
    ∃ a vs, σ[i]? = some (some (.ref a)) ∧ H a = some (.lst vs) ∧ Trs Hc vs ds ∧ Go Hc H σ env (upd Hc a (.lst vs)) H σ (env.set i (.va (.list ds))) := by
  obtain ⟨a, vs, e1, e2, e3, t⟩ := R.ok i _ he
  refine ⟨a, vs, e1, e3, t, ?_⟩
  have core : Same Hc (upd Hc a (.lst vs)) := fun b o e => by
    rw [upd_ne (ne_of_none e e2)]
    exact e
  have oa : Own σ env a := ⟨i, _, he, rfl, e1⟩
  have li : i < env.length := by
    by_cases l : i < env.length
    · exact l
    · rw [List.getElem?_eq_none (by simpa using l)] at he
      cases he
  refine ⟨⟨?_, ?_, ?_, by rw [List.length_set]; exact R.len⟩, core, fun b o e _ => e, ?_, fun b o => .inl (own_set rfl o), fun b e => e⟩
  · intro b o e
    by_cases hb : b = a
    · subst hb
      rw [upd_same] at e
      cases e
      exact e3
    · rw [upd_ne hb] at e
      exact R.same b o e
  · intro j s e
    by_cases hj : j = i
    · subst hj
      rw [List.getElem?_set_self li] at e
      cases e
      exact ⟨_, e1, .lst upd_same (t.mono core)⟩
    · rw [List.getElem?_set_ne (Ne.symm hj)] at e
      have k := R.ok j s e
      have away : ∀ b, σ[j]? = some (some (.ref b)) → s.own = true → b ≠ a := fun b q1 q2 z => by
        subst z
        exact hj (R.inj j i s _ b e he q2 rfl q1 e1)
      cases s with
      | no => trivial
      | va d => obtain ⟨v, u, t'⟩ := k; exact ⟨v, u, t'.mono core⟩
      | raw v φ => exact ⟨k.1, k.2.2 _ _ core k.2.1, k.2.2⟩
      | ow ds' => obtain ⟨b, ws, u, c, u', t'⟩ := k; exact ⟨b, ws, u, by rw [upd_ne (away b u rfl)]; exact c, u', t'.mono core⟩
      | dk b kvs => obtain ⟨ws, u, c, u', t'⟩ := k; exact ⟨ws, u, by rw [upd_ne (away b u rfl)]; exact c, u', t'.mono core⟩
      | ms b n =>
        obtain ⟨u, ⟨c, l, s, p, b', ns, h1, h2, h3⟩⟩ := k
        exact ⟨u, by rw [upd_ne (away b u rfl)]; exact c, l, s, p, b', ns, h1, core _ _ h2, h3⟩
  · intro j k s t' b h1 h2 h3 h4
    have q1 := set_own h1 rfl h3
    have q2 := set_own h2 rfl h4
    exact R.inj j k s t' b q1.2 q2.2 h3 h4
  · intro b e c n
    have hb : b ≠ a := fun z => n (z ▸ oa)
    rw [upd_ne hb]
    exact c
theorem w_freeze (i : Nat) {ds : List PyData} {x : Str} {pos : Pos} (h : P (.list ds) (env.set i (.va (.list ds)))) (he : env[i]? = some (.ow ds) := by rfl) (hN : G.N[i]? = some x := by rfl) (hv : Vis G.sc x := by first | exact Or.inl rfl | exact Or.inr (Or.inl rfl) | exact Or.inr (Or.inr rfl))
    (hd : (x == ("__debug__" : Str)) = false := by decide) (hcd : (x == ("__classdict__" : Str)) = false := by decide) : W G (.Name x pos) env P :=
  W.of (fun _ => tVar i) (fun X hX => pvG hX i hN hv hd hcd) fun _ _ σ Hc H Q R q => by
    obtain ⟨a, vs, e1, e3, t, go⟩ := freeze R he
    exact ⟨_, e1, q _ _ _ _ _ h go (.lst upd_same (t.mono go.core))⟩
end

/-! ### two operands -/
section
variable {G : Gx} {env : En} {P : PyData → En → Prop} {a b : Expr} {pos : Pos}
/-- what a rule by values gives of trees -/
def BR (r : R2) (x y : PyData) (R : PyData → Prop) : Prop :=
  ∀ (Hc H : Hp) (u v : V) (Q : VK), Same Hc H → Tr Hc u x → Tr Hc v y → (∀ z d Hc' H', R d → Ext Hc H Hc' H' → Tr Hc' z d → Q z H') → r u v H Q
theorem tOp_read {r : R2} {σ : L2.St} {Hc H : Hp} {Q : VK} (R : Rp Hc H σ env) (q : Fin Hc H σ env P Q)
    (h : W G a env fun x e1 => W G b e1 fun y e2 => BR r x y fun d => P d e2) : tOp r (tW G a) (tW G b) σ H Q := by
  refine tW.use R h fun u x e1 Hc1 H1 w go1 t1 => ?_
  refine tW.use go1.rep w fun v y e2 Hc2 H2 br go2 t2 => ?_
  exact br Hc2 H2 u v Q go2.rep.same (t1.mono go2.core) t2 fun z d Hc' H' p x t => q z d e2 Hc' H' p ((go1.trans go2).trans (x.go go2.rep)) t
theorem w_bin {op : Operator} {r : Cx → R2} (ho : ∀ X, InG G X → OpR X (binaryOp op) (r X)) (h : ∀ X, InG G X → W G a env fun x e1 => W G b e1 fun y e2 => BR (r X) x y fun d => P d e2) : W G (.BinOp a op b pos) env P :=
  W.of (fun X => tOp (r X) (tW G a) (tW G b)) (fun X hX => pe_op (ho X hX) (peW hX a) (peW hX b)) fun X hX σ Hc H Q R q => tOp_read R q (h X hX)
theorem w_cmp {op : CmpOp} {r : Cx → R2} (ho : ∀ X, InG G X → OpR X (compareOp op) (r X)) (hm : behindInMarks op b = false) (h : ∀ X, InG G X → W G a env fun x e1 => W G b e1 fun y e2 => BR (r X) x y fun d => P d e2) : W G (.Compare a [op] [b] pos) env P :=
  W.of (fun X => tOp (r X) (tW G a) (tW G b)) (fun X hX => pe_cmpR (ho X hX) (peW hX a) (peW hX b) hm) fun X hX σ Hc H Q R q => tOp_read R q (h X hX)
theorem br_int {C : Int → Int → Prop} {g : Int → Int → V} {d : Int → Int → PyData} (hg : ∀ i j H, Tr H (g i j) (d i j)) {R : PyData → Prop} {i j : Int} (hc : C i j) (h : R (d i j)) : BR (rI C g) (.int i) (.int j) R := by
  intro Hc H u v Q s t1 t2 q
  cases t1
  cases t2
  exact ⟨i, j, rfl, rfl, hc, q _ _ Hc H h (.refl s) (hg i j Hc)⟩
theorem br_int0 {g : Int → Int → V} {d : Int → Int → PyData} (hg : ∀ i j H, Tr H (g i j) (d i j)) {R : PyData → Prop} {i j : Int} (h : R (d i j)) : BR (rI0 g) (.int i) (.int j) R := by
  intro Hc H u v Q s t1 t2 q
  cases t1
  cases t2
  exact ⟨i, j, rfl, rfl, q _ _ Hc H h (.refl s) (hg i j Hc)⟩
def I2 (G : Gx) (a b : Expr) (env : En) (K : Int → Int → En → Prop) : Prop := W G a env fun x e1 => ∃ i, x = .int i ∧ W G b e1 fun y e2 => ∃ j, y = .int j ∧ K i j e2
theorem I2.w {K : Int → Int → En → Prop} (h : I2 G a b env K) {B : PyData → PyData → En → Prop} (k : ∀ i j e, K i j e → B (.int i) (.int j) e) : W G a env fun x e1 => W G b e1 fun y e2 => B x y e2 :=
  W.imp h fun x e1 ⟨i, ex, h2⟩ => W.imp h2 fun y e2 ⟨j, ey, h3⟩ => by
    subst ex
    subst ey
    exact k i j e2 h3
theorem w_add (h : I2 G a b env fun i j e => P (.int (i + j)) e) : W G (.BinOp a .Add b pos) env P :=
  w_bin (fun _ _ => op_add) fun X hX => h.w fun i j e p => br_int0 (d := fun i j => .int (i + j)) (fun _ _ _ => .int _) p
theorem w_minus (h : I2 G a b env fun i j e => P (.int (i - j)) e) : W G (.BinOp a .Sub b pos) env P :=
  w_bin (fun _ _ => op_sub) fun X hX => h.w fun i j e p => br_int0 (d := fun i j => .int (i - j)) (fun _ _ _ => .int _) p
theorem w_mul (h : I2 G a b env fun i j e => CMul i j ∧ P (.int (i * j)) e) : W G (.BinOp a .Mult b pos) env P :=
  w_bin (fun _ _ => op_mul) fun X hX => h.w fun i j e p => br_int (d := fun i j => .int (i * j)) (fun _ _ _ => .int _) p.1 p.2
theorem w_mod (h : I2 G a b env fun i j e => 0 < j ∧ P (.int (i % j)) e) : W G (.BinOp a .Mod b pos) env P :=
  w_bin (fun _ _ => op_mod) fun X hX => h.w fun i j e p => br_int (d := fun i j => .int (i % j)) (fun _ _ _ => .int _) p.1 p.2
theorem w_fdiv (h : I2 G a b env fun i j e => CDiv i j ∧ P (.int (i / j)) e) : W G (.BinOp a .FloorDiv b pos) env P :=
  w_bin (fun _ _ => op_fdiv) fun X hX => h.w fun i j e p => br_int (d := fun i j => .int (i / j)) (fun _ _ _ => .int _) p.1 p.2
theorem w_pow (h : I2 G a b env fun i j e => CPow i j ∧ P (.int (i ^ j.toNat)) e) : W G (.BinOp a .Pow b pos) env P :=
  w_bin (fun _ _ => op_pow) fun X hX => h.w fun i j e p => br_int (d := fun i j => .int (i ^ j.toNat)) (fun _ _ _ => .int _) p.1 p.2
theorem w_lt (h : I2 G a b env fun i j e => P (.bool (decide (i < j))) e) : W G (.Compare a [.Lt] [b] pos) env P :=
  w_cmp (fun _ _ => op_lt) (nomark _) fun X hX => h.w fun i j e p => br_int0 (d := fun i j => .bool (decide (i < j))) (fun _ _ _ => .bl _) p
theorem w_le (h : I2 G a b env fun i j e => P (.bool (decide (i ≤ j))) e) : W G (.Compare a [.LtE] [b] pos) env P :=
  w_cmp (fun _ _ => op_le) (nomark _) fun X hX => h.w fun i j e p => br_int0 (d := fun i j => .bool (decide (i ≤ j))) (fun _ _ _ => .bl _) p
theorem w_gt (h : I2 G a b env fun i j e => P (.bool (decide (j < i))) e) : W G (.Compare a [.Gt] [b] pos) env P :=
  w_cmp (fun _ _ => op_gt) (nomark _) fun X hX => h.w fun i j e p => br_int0 (d := fun i j => .bool (decide (j < i))) (fun _ _ _ => .bl _) p
theorem w_ge (h : I2 G a b env fun i j e => P (.bool (decide (j ≤ i))) e) : W G (.Compare a [.GtE] [b] pos) env P :=
  w_cmp (fun _ _ => op_ge) (nomark _) fun X hX => h.w fun i j e p => br_int0 (d := fun i j => .bool (decide (j ≤ i))) (fun _ _ _ => .bl _) p
/-- == and != of none, bools, ints, texts -/
def flatD : PyData → Option V
  | .none => some .non
  | .bool b => some (.bl b)
  | .int i => some (.int i)
  | .str x => some (.str x)
  | _ => none
theorem flatD_tr {H : Hp} {v : V} {d : PyData} {x : V} (t : Tr H v d) (e : flatD d = some x) : v = x := by
  cases t <;> first | (cases e; rfl) | cases e
theorem w_eqF (h : W G a env fun x e1 => W G b e1 fun y e2 => ∃ u v, flatD x = some u ∧ flatD y = some v ∧ scal u v = true ∧ P (.bool (decide (u = v))) e2) : W G (.Compare a [.Eq] [b] pos) env P :=
  w_cmp (fun _ _ => op_eq) (nomark _) fun X hX => W.imp h fun x e1 h2 => W.imp h2 fun y e2 ⟨u, v, e3, e4, e5, p⟩ => by
    intro Hc H u' v' Q s t1 t2 q
    rw [flatD_tr t1 e3, flatD_tr t2 e4]
    exact ⟨e5, q _ _ Hc H p (.refl s) (.bl _)⟩
theorem w_neF (h : W G a env fun x e1 => W G b e1 fun y e2 => ∃ u v, flatD x = some u ∧ flatD y = some v ∧ scal u v = true ∧ P (.bool (!decide (u = v))) e2) : W G (.Compare a [.NotEq] [b] pos) env P :=
  w_cmp (fun _ _ => op_ne) (nomark _) fun X hX => W.imp h fun x e1 h2 => W.imp h2 fun y e2 ⟨u, v, e3, e4, e5, p⟩ => by
    intro Hc H u' v' Q s t1 t2 q
    rw [flatD_tr t1 e3, flatD_tr t2 e4]
    exact ⟨e5, q _ _ Hc H p (.refl s) (.bl _)⟩
theorem dec_vi {i j : Int} : decide (V.int i = V.int j) = decide (i = j) := by
  by_cases e : i = j
  · subst e; simp
  · rw [decide_eq_false e, decide_eq_false fun q => e (V.int.inj q)]
theorem w_eqI (h : I2 G a b env fun i j e => P (.bool (decide (i = j))) e) : W G (.Compare a [.Eq] [b] pos) env P :=
  w_eqF (h.w fun i j e p => ⟨_, _, rfl, rfl, rfl, by rw [dec_vi]; exact p⟩)
theorem w_neI (h : I2 G a b env fun i j e => P (.bool (!decide (i = j))) e) : W G (.Compare a [.NotEq] [b] pos) env P :=
  w_neF (h.w fun i j e p => ⟨_, _, rfl, rfl, rfl, by rw [dec_vi]; exact p⟩)
/-! data of any depth -/
mutual
theorem dp_of {K : PySem.W.Frag} {H : Hp} : ∀ {v : V} {d : PyData}, Tr H v d → Dp K H v d
  | _, _, .non => .non
  | _, _, .bl b => .bl b
  | _, _, .int i => .int i
  | _, _, .str x => .str x
  | _, _, .tup e t => .tup (SqT.of e) (dps_of t)
  | _, _, .lst e t => .lst (SqL.of e) (dps_of t)
theorem dps_of {K : PySem.W.Frag} {H : Hp} : ∀ {vs : List V} {ds : List PyData}, Trs H vs ds → DpAll K H vs ds
  | _, _, .nil => .nil
  | _, _, .cons t u => .cons (dp_of t) (dps_of u)
end
theorem w_eqD (hu : G.A.units + 64 < cLine) (h : W G a env fun x e1 => W G b e1 fun y e2 => SeqAt.shaped x = true ∧ SeqAt.shaped y = true ∧ P (.bool (PyData.eqv x y)) e2) : W G (.Compare a [.Eq] [b] pos) env P :=
  w_cmp (r := fun X => rEqD X.K) (fun X hX => op_eqD (by rw [hX.A]; exact hu)) (nomark _) fun X hX => W.imp h fun x e1 h2 => W.imp h2 fun y e2 ⟨s1, s2, p⟩ => by
    intro Hc H u' v' Q s t1 t2 q
    exact ⟨x, y, dp_of (t1.mono s), dp_of (t2.mono s), s1, s2, q _ _ Hc H p (.refl s) (.bl _)⟩
theorem w_neD (hu : G.A.units + 64 < cLine) (h : W G a env fun x e1 => W G b e1 fun y e2 => SeqAt.shaped x = true ∧ SeqAt.shaped y = true ∧ P (.bool (!PyData.eqv x y)) e2) : W G (.Compare a [.NotEq] [b] pos) env P :=
  w_cmp (r := fun X => rNeD X.K) (fun X hX => op_neD (by rw [hX.A]; exact hu)) (nomark _) fun X hX => W.imp h fun x e1 h2 => W.imp h2 fun y e2 ⟨s1, s2, p⟩ => by
    intro Hc H u' v' Q s t1 t2 q
    exact ⟨x, y, dp_of (t1.mono s), dp_of (t2.mono s), s1, s2, q _ _ Hc H p (.refl s) (.bl _)⟩
/-- list + list -/
theorem w_cat (h : W G a env fun x e1 => ∃ xs, x = .list xs ∧ W G b e1 fun y e2 => ∃ ys, y = .list ys ∧ xs.length + ys.length ≤ sizeLine ∧ P (.list (xs ++ ys)) e2) : W G (.BinOp a .Add b pos) env P :=
  w_bin (fun _ _ => op_cat) fun X hX => W.imp h fun x e1 ⟨xs, ex, h2⟩ => W.imp h2 fun y e2 ⟨ys, ey, hl, p⟩ => by
    subst ex
    subst ey
    intro Hc H u' v' Q s t1 t2 q
    cases t1 with
    | @lst a1 vs1 _ m1 k1 =>
      cases t2 with
      | @lst a2 vs2 _ m2 k2 =>
        refine ⟨_, _, _, _, rfl, rfl, s _ _ m1, s _ _ m2, by rw [k1.length, k2.length]; exact hl, fun p' hp => ?_⟩
        have x := Ext.new (o := .lst (vs1 ++ vs2)) s hp
        exact q _ _ _ _ p x (.lst upd_same (Trs.append (k1.mono x.core) (k2.mono x.core)))
/-- subscripts of lists and tuples -/
def itemD : PyData → Option (List PyData)
  | .list xs => some xs
  | .tuple xs => some xs
  | _ => none
def atD (xs : List PyData) (i : Int) : Option PyData := atI xs i
theorem IxR.or {X : Cx} {r r' : R2} (h : IxR X r) (h' : IxR X r') : IxR X fun x y H Q => r x y H Q ∨ r' x y H Q := by
  intro value slice pins s σ H x y v u Q I rx ry q hs
  rcases q with q | q
  · exact h value slice pins s σ H x y v u Q I rx ry q hs
  · exact h' value slice pins s σ H x y v u Q I rx ry q hs
theorem at_tr {H : Hp} {vs : List V} {ds : List PyData} (t : Trs H vs ds) {i : Int} {d : PyData} (e : atI ds i = some d) : ∃ v, atI vs i = some v ∧ Tr H v d := by
  have l := t.length
  unfold atI at e ⊢
  rw [l]
  cases h : ixN ds.length i with
  | none =>
    rw [h] at e
    cases e
  | some j =>
    rw [h] at e
    obtain ⟨v, e1, e2⟩ := t.get (show ds[j]? = some d from e)
    exact ⟨v, e1, e2⟩
end
end TL

namespace TL
open PySem PySem.Spec PyProof.Rows L2
section
variable {G : Gx} {env : En} {P : PyData → En → Prop} {a b : Expr} {pos : Pos}
/-- a[b], a list or a tuple -/
theorem w_sub (h : W G a env fun x e1 => W G b e1 fun y e2 => ∃ xs i d, itemD x = some xs ∧ y = .int i ∧ atI xs i = some d ∧ P d e2) (hs : PlainIx b := by exact fun _ _ => rfl) : W G (.Subscript a b pos) env P :=
  W.of (fun X => tOp (fun x y H Q => rIxL X.K x y H Q ∨ rIxT X.K x y H Q) (tW G a) (tW G b)) (fun X hX => pe_ix (IxR.or ix_list ix_tup) (peW hX a) (peW hX b) hs) fun X hX σ Hc H Q R q =>
    tOp_read R q (W.imp h fun x e1 h2 => W.imp h2 fun y e2 ⟨xs, i, d, ex, ey, ei, p⟩ => by
      subst ey
      intro Hc H u v Q s t1 t2 q
      cases t2
      cases t1 with
      | lst m k =>
        cases ex
        obtain ⟨z, e1, e2⟩ := at_tr k ei
        exact .inl ⟨_, _, _, z, rfl, rfl, SqL.of (s _ _ m), e1, q _ _ Hc H p (.refl s) e2⟩
      | tup m k =>
        cases ex
        obtain ⟨z, e1, e2⟩ := at_tr k ei
        exact .inr ⟨_, _, _, z, rfl, rfl, SqT.of (s _ _ m), e1, q _ _ Hc H p (.refl s) e2⟩
      | non => cases ex
      | bl b => cases ex
      | int b => cases ex
      | str b => cases ex)
/-- x[b], x an owned list -/
theorem w_subOwn (i : Nat) {ds : List PyData} {x : Str} {px : Pos} (he : env[i]? = some (.ow ds)) (h : W G b env fun y e2 => ∃ j d, e2[i]? = some (.ow ds) ∧ y = .int j ∧ atI ds j = some d ∧ P d e2) (hN : G.N[i]? = some x := by rfl) (hv : Vis G.sc x := by first | exact Or.inl rfl | exact Or.inr (Or.inl rfl) | exact Or.inr (Or.inr rfl))
    (hd : (x == ("__debug__" : Str)) = false := by decide) (hcd : (x == ("__classdict__" : Str)) = false := by decide) (hs : PlainIx b := by exact fun _ _ => rfl) : W G (.Subscript (.Name x px) b pos) env P :=
  W.of (fun X => tOp (rIxL X.K) (tVar i) (tW G b)) (fun X hX => pe_ix ix_list (pvG hX i hN hv hd hcd) (peW hX b) hs) fun X hX σ Hc H Q R q => by
    obtain ⟨a, vs, e1, _⟩ := R.ok i _ he
    refine ⟨_, e1, tW.use R h fun v y e2 Hc2 H2 ⟨j, d, k, ey, ei, p⟩ go t => ?_⟩
    subst ey
    cases t
    obtain ⟨a2, vs2, e12, c2, m2, t2⟩ := go.rep.ok i _ k
    rw [e1] at e12
    cases e12
    obtain ⟨z, f1, f2⟩ := at_tr t2 ei
    exact ⟨a, vs2, j, z, rfl, rfl, SqL.of m2, f1, q _ _ _ _ _ p go f2⟩
/-! ### argument lists -/
def WA (G : Gx) : List Expr → En → (List PyData → En → Prop) → Prop
  | [], env, P => P [] env
  | e :: es, env, P => W G e env fun d e1 => WA G es e1 fun ds e2 => P (d :: ds) e2
def tWA (G : Gx) : List Expr → TA
  | [] => tNil
  | e :: es => tCons (tW G e) (tWA G es)
def isStar : Expr → Bool
  | .Starred _ _ => true
  | _ => false
def noStar : List Expr → Bool
  | [] => true
  | e :: es => !isStar e && noStar es
theorem star_cons {e : Expr} {es : List Expr} {v : Env} (h : isStar e = false) : starEach (e :: es) v = (false, eval e v) :: starEach es v := by
  cases e <;> first | rfl | cases h
theorem noStar_cons {e : Expr} {es : List Expr} (h : noStar (e :: es) = true) : isStar e = false ∧ noStar es = true := by
  have h' : (!isStar e && noStar es) = true := h
  simpa using h'
theorem star_any {v : Env} {ps : Pos} : ∀ {es : List Expr}, noStar es = true → (backTo ps (starEach es v)).any (·.1) = false
  | [], _ => rfl
  | e :: es, h => by
    obtain ⟨h1, h2⟩ := noStar_cons h
    rw [star_cons h1]
    show (false || (backTo ps (starEach es v)).any (·.1)) = false
    rw [star_any h2]
    rfl
theorem paW {X : Cx} (hX : InG G X) : ∀ es, noStar es = true → PA X es (tWA G es)
  | [], _ => pa_nil
  | e :: es, h => pa_cons (peW hX e) (paW hX es (noStar_cons h).2) (star_cons (noStar_cons h).1)
theorem tWA.use {σ : L2.St} : ∀ {es : List Expr} {env : En} {P : List PyData → En → Prop} {Hc H : Hp} {Q : List V → Hp → Prop}, Rp Hc H σ env → WA G es env P →
    (∀ vs ds env' Hc' H', P ds env' → Go Hc H σ env Hc' H' σ env' → Trs Hc' vs ds → Q vs H') → tWA G es σ H Q
  | [], env, P, Hc, H, Q, R, h, q => q _ _ _ _ _ h (.refl R) .nil
  | e :: es, env, P, Hc, H, Q, R, h, q => by
    refine tW.use R h fun v d e1 Hc1 H1 h1 go t => ?_
    exact tWA.use (es := es) go.rep h1 fun vs ds e2 Hc2 H2 p go2 ts => q _ _ _ _ _ p (go.trans go2) (.cons (t.mono go2.core) ts)
theorem WA.imp : ∀ {es : List Expr} {env : En} {P P' : List PyData → En → Prop}, WA G es env P → (∀ ds e, P ds e → P' ds e) → WA G es env P'
  | [], _, _, _, h, k => k _ _ h
  | _ :: _, _, _, _, h, k => W.imp h fun _ _ h2 => WA.imp h2 fun _ _ p => k _ _ p
theorem w_tup {es : List Expr} {c} (h : WA G es env fun ds e => ds.length ≤ sizeLine ∧ P (.tuple ds) e) (ns : noStar es = true := by rfl) : W G (.Tuple es c pos) env P :=
  W.of (fun X => tTup (tWA G es)) (fun X hX => pe_tup (paW hX es ns)) fun X hX σ Hc H Q R q =>
    tWA.use R h fun vs ds e1 Hc1 H1 ⟨l, p⟩ go t => ⟨by rw [t.length]; exact l, fun p' hp => by
      have x := Ext.new (o := .tup vs) go.rep.same hp
      exact q _ _ _ _ _ p (go.trans (x.go go.rep)) (.tup upd_same (t.mono x.core))⟩
theorem w_lst {es : List Expr} (h : WA G es env fun ds e => ds.length ≤ sizeLine ∧ P (.list ds) e) (ns : noStar es = true := by rfl) : W G (.List es pos) env P :=
  W.of (fun X => tLst (tWA G es)) (fun X hX => pe_lst (paW hX es ns)) fun X hX σ Hc H Q R q =>
    tWA.use R h fun vs ds e1 Hc1 H1 ⟨l, p⟩ go t => ⟨by rw [t.length]; exact l, fun p' hp => by
      have x := Ext.new (o := .lst vs) go.rep.same hp
      exact q _ _ _ _ _ p (go.trans (x.go go.rep)) (.lst upd_same (t.mono x.core))⟩
/-! ### calls of built-ins -/
def CBR (r : List V → Hp → VK → Prop) (ds : List PyData) (R : PyData → Prop) : Prop :=
  ∀ (Hc H : Hp) (vs : List V) (Q : VK), Same Hc H → Trs Hc vs ds → (∀ z d Hc' H', R d → Ext Hc H Hc' H' → Tr Hc' z d → Q z H') → r vs H Q
abbrev GlG (G : Gx) (x : Str) : Prop := G.sc.names.lookup x = some .globalImplicit
theorem glX {X : Cx} (hX : InG G X) {x : Str} (h : GlG G x) : Gl X x := by
  show X.env.scope.names.lookup x = _
  rw [hX.sc]
  exact h
variable {x : Str} {p : Pos} {e : Expr} {es : List Expr}
theorem tCB_read {r : List V → Hp → VK → Prop} {σ : L2.St} {Hc H : Hp} {Q : VK} (R : Rp Hc H σ env) (q : Fin Hc H σ env P Q) (h : WA G es env fun ds e1 => CBR r ds fun d => P d e1) : tCB r (tWA G es) σ H Q :=
  tWA.use R h fun vs ds e1 Hc1 H1 c go t => c Hc1 H1 vs Q go.rep.same t fun z d Hc' H' pd x t' => q z d e1 Hc' H' pd (go.trans (x.go go.rep)) t'
theorem w_callB {id : String} {r : Cx → List V → Hp → VK → Prop} (hr : ∀ X, InG G X → CallR X (.builtin id) (r X)) (hv : bootBuiltins x = some (.builtin id)) (hm : G.mg x = none) (hg : GlG G x)
    (h : ∀ X, InG G X → WA G (e :: es) env fun ds e1 => CBR (r X) ds fun d => P d e1) (ns : noStar (e :: es) = true) (hn : x ≠ "__name__") (hdb : (x == ("__debug__" : Str)) = false) : W G (.Call (.Name x p) (e :: es) [] pos) env P :=
  W.of (fun X => tCB (r X) (tWA G (e :: es))) (fun X hX => pe_callB (hr X hX) (glX hX hg) (by rw [hX.mg]; exact hm) hv (paW hX _ ns) hn hdb (star_cons (noStar_cons ns).1) (star_any (noStar_cons ns).2)) fun X hX σ Hc H Q R q => tCB_read R q (h X hX)
theorem w_callTy {T : String} {r : Cx → List V → Hp → VK → Prop} (hr : ∀ X, InG G X → CallR X (.type T) (r X)) (hv : bootBuiltins x = some (.type T)) (hm : G.mg x = none) (hg : GlG G x)
    (h : ∀ X, InG G X → WA G (e :: es) env fun ds e1 => CBR (r X) ds fun d => P d e1) (ns : noStar (e :: es) = true) (hn : x ≠ "__name__") (hdb : (x == ("__debug__" : Str)) = false) : W G (.Call (.Name x p) (e :: es) [] pos) env P :=
  W.of (fun X => tCB (r X) (tWA G (e :: es))) (fun X hX => pe_callTy (hr X hX) (glX hX hg) (by rw [hX.mg]; exact hm) hv (paW hX _ ns) hn hdb (star_cons (noStar_cons ns).1) (star_any (noStar_cons ns).2)) fun X hX σ Hc H Q R q => tCB_read R q (h X hX)
/-- len -/
def lenD : PyData → Option Nat
  | .str x => if x.length ≤ sizeLine then some x.length else none
  | .list xs => some xs.length
  | .tuple xs => some xs.length
  | _ => none
theorem w_len (hm : G.mg "len" = none) (h : W G e env fun d e1 => ∃ n, lenD d = some n ∧ P (.int n) e1) (hg : GlG G "len" := by rfl) (ns : noStar [e] = true := by rfl) : W G (.Call (.Name "len" p) [e] [] pos) env P :=
  w_callB (r := fun X xs H Q => ∃ x n, xs = [x] ∧ LenV X.K x H n ∧ Q (.int n) H) (fun X _ => call_len) boot_len hm hg (fun X hX => W.imp h fun d e1 ⟨n, en, pn⟩ Hc H vs Q s t q => by
    cases t with
    | cons t u =>
      cases u
      refine ⟨_, n, rfl, ?_, q _ _ Hc H pn (.refl s) (.int _)⟩
      cases t with
      | str z =>
        by_cases hz : z.length ≤ sizeLine
        · have e' : lenD (.str z) = some z.length := if_pos hz
          rw [e'] at en
          cases en
          exact ⟨hz, rfl⟩
        · have e' : lenD (.str z) = none := if_neg hz
          rw [e'] at en
          cases en
      | lst m k =>
        cases en
        exact .inl ⟨_, SqL.of (s _ _ m), k.length.symm⟩
      | tup m k =>
        cases en
        exact .inr ⟨_, SqT.of (s _ _ m), k.length.symm⟩
      | non => cases en
      | bl b => cases en
      | int b => cases en) ns (by decide) (by decide)
/-- int of an int, of a bool -/
def intD : PyData → Option Int
  | .int i => some i
  | .bool b => some (if b then 1 else 0)
  | _ => none
theorem w_intC (hm : G.mg "int" = none) (h : W G e env fun d e1 => ∃ n, intD d = some n ∧ P (.int n) e1) (hg : GlG G "int" := by rfl) (ns : noStar [e] = true := by rfl) : W G (.Call (.Name "int" p) [e] [] pos) env P :=
  w_callTy (r := fun X xs H Q => (∃ i, xs = [.int i] ∧ Q (.int i) H) ∨ ∃ k, xs = [.bl k] ∧ Q (.int (if k then 1 else 0)) H) (fun X _ => call_int1) boot_int hm hg (fun X hX => W.imp h fun d e1 ⟨n, en, pn⟩ Hc H vs Q s t q => by
    cases t with
    | cons t u =>
      cases u
      cases t with
      | int i => cases en; exact .inl ⟨_, rfl, q _ _ Hc H pn (.refl s) (.int _)⟩
      | bl b => cases en; exact .inr ⟨b, rfl, q _ _ Hc H pn (.refl s) (.int _)⟩
      | str z => cases en
      | lst m k => cases en
      | tup m k => cases en
      | non => cases en) ns (by decide) (by decide)
theorem w_min2 (hm : G.mg "min" = none) (h : WA G [a, b] env fun ds e1 => ∃ i j, ds = [.int i, .int j] ∧ P (.int (if j < i then j else i)) e1) (hg : GlG G "min" := by rfl) (ns : noStar [a, b] = true := by rfl) : W G (.Call (.Name "min" p) [a, b] [] pos) env P :=
  w_callB (r := fun X xs H Q => ∃ i j, xs = [.int i, .int j] ∧ Q (.int (if j < i then j else i)) H) (fun X hX => call_min2 hX.calm) boot_min hm hg (fun X hX => WA.imp h fun ds e1 ⟨i, j, en, pn⟩ Hc H vs Q s t q => by
    subst en
    rw [Trs.of_ints (ns := [i, j]) t]
    exact ⟨i, j, rfl, q _ _ Hc H pn (.refl s) (.int _)⟩) ns (by decide) (by decide)
theorem w_max2 (hm : G.mg "max" = none) (h : WA G [a, b] env fun ds e1 => ∃ i j, ds = [.int i, .int j] ∧ P (.int (if j > i then j else i)) e1) (hg : GlG G "max" := by rfl) (ns : noStar [a, b] = true := by rfl) : W G (.Call (.Name "max" p) [a, b] [] pos) env P :=
  w_callB (r := fun X xs H Q => ∃ i j, xs = [.int i, .int j] ∧ Q (.int (if j > i then j else i)) H) (fun X hX => call_max2 hX.calm) boot_max hm hg (fun X hX => WA.imp h fun ds e1 ⟨i, j, en, pn⟩ Hc H vs Q s t q => by
    subst en
    rw [Trs.of_ints (ns := [i, j]) t]
    exact ⟨i, j, rfl, q _ _ Hc H pn (.refl s) (.int _)⟩) ns (by decide) (by decide)
/-- max of a list of ints -/
theorem w_maxL (hm : G.mg "max" = none) (h : W G e env fun d e1 => ∃ zs : List Int, itemD d = some (zs.map PyData.int) ∧ (∃ ys, d = .list ys) ∧ zs ≠ [] ∧ ∀ m, m ∈ zs → (∀ y, y ∈ zs → y ≤ m) → P (.int m) e1) (hg : GlG G "max" := by rfl) (ns : noStar [e] = true := by rfl) : W G (.Call (.Name "max" p) [e] [] pos) env P :=
  w_callB (r := fun X => rMax X.K) (fun X hX => cr_max hX.calm) boot_max hm hg (fun X hX => W.imp h fun d e1 ⟨zs, en, ⟨ys, ed⟩, ne, pn⟩ Hc H vs Q s t q => by
    subst ed
    cases en
    cases t with
    | cons t u =>
      cases u
      cases t with
      | lst m k =>
        have ek := Trs.of_ints k
        subst ek
        exact ⟨_, zs, rfl, SqL.of (s _ _ m), by cases zs with | nil => exact absurd rfl ne | cons _ _ => exact Nat.succ_pos _, fun m hm hy => q _ _ Hc H (pn m hm hy) (.refl s) (.int _)⟩) ns (by decide) (by decide)
/-- tuple(x) -/
theorem w_tupC (hm : G.mg "tuple" = none) (h : W G e env fun d e1 => ∃ xs, itemD d = some xs ∧ P (.tuple xs) e1) (hg : GlG G "tuple" := by rfl) (ns : noStar [e] = true := by rfl) : W G (.Call (.Name "tuple" p) [e] [] pos) env P :=
  W.of (fun X => tThen (tW G e) (kTup X.K)) (fun X hX => pe_tupleOf (glX hX hg) (by rw [hX.mg]; exact hm) (peW hX e) (star_cons (noStar_cons ns).1)) fun X hX σ Hc H Q R q =>
    tW.use R h fun v d e1 Hc1 H1 ⟨xs, ex, px⟩ go t => by
      cases t with
      | @lst a vs _ m k =>
        cases ex
        refine .inl ⟨_, _, rfl, SqL.of (go.rep.same _ _ m), fun p' hp => ?_⟩
        have x := Ext.new (o := .tup vs) go.rep.same hp
        exact q _ _ _ _ _ px (go.trans (x.go go.rep)) (.tup upd_same (k.mono x.core))
      | tup m k =>
        cases ex
        exact .inr ⟨_, _, rfl, SqT.of (go.rep.same _ _ m), q _ _ _ _ _ px go (.tup m k)⟩
      | non => cases ex
      | bl b => cases ex
      | int b => cases ex
      | str b => cases ex
/-- list(range(n)) -/
theorem w_listRg {p2 pos2 : Pos} (hl : G.mg "list" = none) (hr : G.mg "range" = none) (h : W G e env fun d e1 => ∃ n : Nat, d = .int n ∧ n ≤ 16777216 ∧ P (.list ((List.range n).map fun (i : Nat) => PyData.int (i : Int))) e1) (hg : GlG G "list" := by rfl) (hg2 : GlG G "range" := by rfl) (ns : noStar [e] = true := by rfl) :
    W G (.Call (.Name "list" p) [.Call (.Name "range" p2) [e] [] pos2] [] pos) env P :=
  W.of (fun X => tLstRg (tRg1 (tW G e))) (fun X hX => pe_listRg hX.calm (glX hX hg) (by rw [hX.mg]; exact hl) (prg_1 (glX hX hg2) (by rw [hX.mg]; exact hr) (peW hX e) (star_cons (noStar_cons ns).1)) rfl) fun X hX σ Hc H Q R q =>
    tW.use R h fun v d e1 Hc1 H1 ⟨n, ed, hn, px⟩ go t => by
      subst ed
      cases t
      refine ⟨_, rfl, .of_le (by omega) (by omega) (by omega) (by omega), fun p' hp => ?_⟩
      have x := Ext.new (o := .lst (rgV 0 n)) go.rep.same hp
      refine q _ _ _ _ _ px (go.trans (x.go go.rep)) (.lst upd_same ?_)
      have ee : rgV 0 (n : Int) = ((List.range n).map fun (i : Nat) => (i : Int)).map V.int := by
        unfold rgV
        rw [List.map_map]
        have : ((n : Int) - 0).toNat = n := by omega
        rw [this]
        apply List.map_congr_left
        intro i _
        show V.int (0 + (i : Int)) = V.int (i : Int)
        rw [Int.zero_add]
      rw [ee]
      have : ((List.range n).map fun (i : Nat) => PyData.int (i : Int)) = ((List.range n).map fun (i : Nat) => (i : Int)).map PyData.int := by
        rw [List.map_map]
        rfl
      rw [this]
      exact Trs.ints _
/-- repr of data -/
def rRepr (K : PySem.W.Frag) (A : Around) : List V → Hp → VK → Prop := fun xs H Q => ∃ v d, xs = [v] ∧ Dp K H v d ∧ isDisplay d = true ∧ d.showable = true ∧ d.hasDict = false ∧ d.shown.length ≤ sizeLine ∧ A.guards = some [] ∧ A.units + (d.depth + 1) < cLine ∧ Q (.str d.shown) H
theorem call_repr {X : Cx} : CallR X (.builtin "repr") (rRepr X.K X.A) := by
  intro pins s σ H xs us Q I r h
  obtain ⟨v, d, e, dp, h1, h2, h3, h4, h5, h6, q⟩ := h
  subst e
  obtain ⟨u, e, ru⟩ := vals1 r
  subst e
  obtain ⟨as, rd⟩ := Dp.reads I d v u dp ru
  obtain ⟨b, e⟩ := isRef_of_reads rd h1
  subst e
  exact repr_of_reads' rd h2 (PyData.noDict_hsm h3) h5 h6 (fun _ _ e => e) (fun h' u tk hk => ⟨.str d.shown, H, I.kept hk, ⟨_, rfl⟩, q⟩) h4
/-- ints below 2^1000, short texts -/
theorem w_repr (hm : G.mg "repr" = none) (gd : G.A.guards = some []) (h : W G e env fun d e1 => isDisplay d = true ∧ d.showable = true ∧ d.hasDict = false ∧ d.shown.length ≤ sizeLine ∧ G.A.units + (d.depth + 1) < cLine ∧ P (.str d.shown) e1) (hg : GlG G "repr" := by rfl) (ns : noStar [e] = true := by rfl) : W G (.Call (.Name "repr" p) [e] [] pos) env P :=
  w_callB (r := fun X => rRepr X.K X.A) (fun X hX => call_repr) boot_repr hm hg (fun X hX => W.imp h fun d e1 ⟨h1, h2, h3, h4, h5, pn⟩ Hc H vs Q s t q => by
    cases t with
    | cons t u =>
      cases u
      exact ⟨_, d, rfl, dp_of (t.mono s), h1, h2, h3, h4, by rw [hX.A]; exact gd, by rw [hX.A]; exact h5, q _ _ Hc H pn (.refl s) (.str _)⟩) ns (by decide) (by decide)
/-- str of an int -/
theorem w_strI (hm : G.mg "str" = none) (h : W G e env fun d e1 => ∃ n : Int, d = .int n ∧ n.natAbs.log2 < 1920 ∧ P (.str (toString n)) e1) (hg : GlG G "str" := by rfl) (ns : noStar [e] = true := by rfl) : W G (.Call (.Name "str" p) [e] [] pos) env P :=
  w_callTy (r := fun X xs H Q => ∃ i, xs = [.int i] ∧ i.natAbs.log2 < 1920 ∧ Q (.str (toString i)) H) (fun X _ => call_str_int) boot_str hm hg (fun X hX => W.imp h fun d e1 ⟨n, en, hl, pn⟩ Hc H vs Q s t q => by
    subst en
    cases t with
    | cons t u =>
      cases u
      cases t
      exact ⟨n, rfl, hl, q _ _ Hc H pn (.refl s) (.str _)⟩) ns (by decide) (by decide)
/-- -a -/
theorem w_neg (h : W G a env fun d e1 => ∃ i, d = .int i ∧ P (.int (-i)) e1) : W G (.UnaryOp .USub a pos) env P :=
  W.of (fun X => tUn (rU fun i => .int (-i)) (tW G a)) (fun X hX => pe_un un_neg (peW hX a)) fun X hX σ Hc H Q R q =>
    tW.use R h fun v d e1 Hc1 H1 ⟨i, ed, pd⟩ go t => by
      subst ed
      cases t
      exact ⟨i, rfl, q _ _ _ _ _ pd go (.int _)⟩
/-! ### tests -/
variable {PB : Bool → En → Prop} {c : Expr}
theorem wt_val (h : W G c env fun d e1 => ∃ b, d = .bool b ∧ PB b e1) (he : ∀ v whole, isTrue c v whole = (do let x ← whole; standAt c.pos; holding [x] (truthy x)) := by intro _ _; rfl) : WT G c env PB :=
  WT.of (fun X => tB (tW G c)) (fun X hX => pt_val (peW hX c) (he X.env)) fun X hX σ Hc H Q R q =>
    tW.use R h fun v d e1 Hc1 H1 ⟨b, ed, pd⟩ go t => by
      subst ed
      cases t
      exact ⟨b, rfl, q _ _ _ _ pd go⟩
theorem wt_not (h : WT G a env fun b e1 => PB (!b) e1) : WT G (.UnaryOp .Not a pos) env PB :=
  WT.of (fun X => tNot (tWT G a)) (fun X hX => pt_not (ptW hX a)) fun X hX σ Hc H Q R q => ⟨Hc, env, _, R, h, fun b e1 Hc1 H1 pb go => q _ _ _ _ pb go⟩
theorem wt_and (h : WT G a env fun k e1 => if k = true then WT G b e1 PB else PB false e1) : WT G (.BoolOp .And [a, b] pos) env PB :=
  WT.of (fun X => tAnd (tWT G a) (tWT G b)) (fun X hX => (pw_and (ptW hX a) (pw_and1 (ptW hX b))).pt) fun X hX σ Hc H Q R q => by
    refine ⟨Hc, env, _, R, h, fun k e1 Hc1 H1 pk go => ?_⟩
    cases k with
    | true => exact ⟨Hc1, e1, _, go.rep, pk, fun b e2 Hc2 H2 pb go2 => q _ _ _ _ pb (go.trans go2)⟩
    | false => exact q _ _ _ _ pk go
theorem wt_or (h : WT G a env fun k e1 => if k = true then PB true e1 else WT G b e1 PB) : WT G (.BoolOp .Or [a, b] pos) env PB :=
  WT.of (fun X => tOr (tWT G a) (tWT G b)) (fun X hX => (pw_or (ptW hX a) (pw_or1 (ptW hX b))).pt) fun X hX σ Hc H Q R q => by
    refine ⟨Hc, env, _, R, h, fun k e1 Hc1 H1 pk go => ?_⟩
    cases k with
    | false => exact ⟨Hc1, e1, _, go.rep, pk, fun b e2 Hc2 H2 pb go2 => q _ _ _ _ pb (go.trans go2)⟩
    | true => exact q _ _ _ _ pk go
theorem w_if (h : WT G c env fun k e1 => if k = true then W G a e1 P else W G b e1 P) : W G (.IfExp c a b pos) env P :=
  W.of (fun X => tIf (tWT G c) (tW G a) (tW G b)) (fun X hX => pe_ifExp (ptW hX c) (peW hX a) (peW hX b)) fun X hX σ Hc H Q R q => by
    refine ⟨Hc, env, _, R, h, fun k e1 Hc1 H1 pk go => ?_⟩
    cases k with
    | false => exact ⟨Hc1, e1, _, go.rep, pk, fun v d e2 Hc2 H2 pb go2 t => q _ _ _ _ _ pb (go.trans go2) t⟩
    | true => exact ⟨Hc1, e1, _, go.rep, pk, fun v d e2 Hc2 H2 pb go2 t => q _ _ _ _ _ pb (go.trans go2) t⟩
/-- a and b as values (bools) -/
theorem w_and (h : W G a env fun d e1 => ∃ k, d = .bool k ∧ if k = true then W G b e1 P else P (.bool false) e1) : W G (.BoolOp .And [a, b] pos) env P :=
  W.of (fun X => tAndV (tW G a) (tW G b)) (fun X hX => pe_and (peW hX a) (pe_one (peW hX b))) fun X hX σ Hc H Q R q =>
    tW.use R h fun v d e1 Hc1 H1 ⟨k, ed, pk⟩ go t => by
      subst ed
      cases t
      refine ⟨k, rfl, ?_⟩
      cases k with
      | true => exact ⟨Hc1, e1, _, go.rep, pk, fun v d e2 Hc2 H2 pb go2 t => q _ _ _ _ _ pb (go.trans go2) t⟩
      | false => exact q _ _ _ _ _ pk go (.bl _)
end
end TL

namespace TL
open PySem PySem.Spec PyProof.Rows L2
/-! ### defs, where no repr is under way -/
structure FnG (P : Program) (w : World) (K : PySem.W.Frag) (mg : Str → Option Value) (base : Heap) (k : Nat) (f : Addr) (fd : FuncData) (ps : List Str) (sp : Sp) : Prop where
  len : ∀ vs H Q E, sp vs H Q E → vs.length = ps.length
  run : ∀ (A : Around) (outer : List Env) (s : Shared) (H : Hp) (args : Args) (us : List Value) (vs : List V) (Q : VK) (E : XK), A.guards = some [] → Room k A →
    Env0 P w K mg base A outer s H → BindsTo s fd args (ps.zip us) → Vals vs us → sp vs H Q E → codeAny (model P w) A (.call (.ref f) args) (CR CX0 outer P w H s Q E) s
theorem FnG.mono {P : Program} {w : World} {K : PySem.W.Frag} {mg : Str → Option Value} {base : Heap} {j k : Nat} {f : Addr} {fd : FuncData} {ps : List Str} {sp : Sp} (F : FnG P w K mg base j f fd ps sp) (h : j ≤ k) : FnG P w K mg base k f fd ps sp :=
  ⟨F.len, fun A outer s H args us vs Q E hg hr => F.run A outer s H args us vs Q E hg (hr.mono h)⟩
section
variable {P : Program} {w : World} {K : PySem.W.Frag} {mg : Str → Option Value} {base : Heap} {k : Nat} {f : Addr} {fd : FuncData} {N ps : List Str} {sp : Sp} {x qual : Str} {st : Stmt}
theorem fnG_of (F : Fun K x qual st f fd) (S : FnScope N ps (defScope st)) (len : ∀ vs H Q E, sp vs H Q E → vs.length = ps.length)
    (hbody : ∀ (cdv : Value) (A : Around) (outer : List Env) (s : Shared) (H : Hp) (vs : List V) (Q : VK) (E : XK), A.guards = some [] → Room k (A.deeper (envOfC qual (defScope st) s.heap.objs.size f cdv)) → sp vs H Q E →
      ∃ t, PSs (cxOf CX0 P w K mg base N qual (defScope st) f cdv A outer s H E).nox (defBody st) t ∧ t { nx := fun _ H' => Q .non H', rt := Q } (start N vs) H) : FnG P w K mg base (k + 1) f fd ps sp := by
  obtain ⟨oc, od, kV, doc, pm, an, cdv, ct, osl, efd, lk, hcd⟩ := F.ex
  subst efd
  constructor
  · exact len
  intro A outer s H args us vs Q E hg hr e0 hb r hsp
  have KX : K.In s.heap := e0.mod.kin.keeps fun b o e => (e0.bs b o e).1
  have lim : s.heap.NoLimit := e0.mod.nolimit.keeps fun b o e => (e0.bs b o e).1
  have hkind : ∀ y ∈ ps.zip us, (defScope st).names.lookup y.1 = some .local ∨
      ((defScope st).names.lookup y.1 = some .cell ∧ ((cellsFrom (s.heap.objs.size + 1) (defScope st).names []).lookup y.1).isSome = true) := by
    rintro ⟨n, v⟩ hy
    cases S.par n (List.of_mem_zip hy).1 with
    | inl q => exact .inl q
    | inr q => exact .inr ⟨q, PySem.W.cellsFrom_some _ _ _ (.inl q)⟩
  apply codeAny_call_function hr.depth (KX _ _ lk) rfl S.co S.gen rfl (PySem.W.codeRec_of KX hcd) (hb _ _ _ _ ?_)
  apply wpAny_newFunctionEnv_cells S.kind hkind
  intro env he s1 x1
  subst he
  refine ⟨lim.keeps x1.toInCall.keep, codeAny_func ?_⟩
  obtain ⟨t, ht0, hq⟩ := hbody cdv A outer s H vs Q E hg (hr.deeper _) hsp
  have ht := ht0.nox
  have I := inv_start (CX := CX0) (E := E) S hr.hd e0 (len _ _ _ _ hsp) r x1
  apply wpAny_mono (ht.run [] s1 (start N vs) H _ I hq)
  · intro fl s' hs
    cases fl with
    | ret u =>
      obtain ⟨v, σ', H', J, rv, q⟩ := hs
      exact ⟨v, H', J.os, J.bare, J.base, J.hok, rv, q⟩
    | next =>
      obtain ⟨σ', H', J, q⟩ := hs
      exact ⟨V.non, H', J.os, J.bare, J.base, J.hok, rfl, q⟩
    | brk =>
      obtain ⟨_, _, _, q⟩ := hs
      exact q.elim
    | cont =>
      obtain ⟨_, _, _, q⟩ := hs
      exact q.elim
  · intro e s' hs
    exact hs
end
section
variable {X : Cx} {k : Nat} {f : Addr} {fd : FuncData} {ps : List Str} {sp : Sp} {x : Str} {p pos : Pos} {e : Expr} {es : List Expr} {t : TA}
theorem run_fnG {pins : Pins} {σ : L2.St} {H : Hp} {s : Shared} {Q : VK} {us : List Value} {vs : List V} (F : FnG X.prog X.w X.K X.mg X.base k f fd ps sp) (hr : Room k X.A) (gd : X.A.guards = some []) (hb : Binds X.K fd ps [])
    (I : Inv X pins σ H s) (r : Vals vs us) (h : sp vs H Q E0) : wpAny (model X.prog X.w) X.A (call (.ref f) us) (EP X pins σ Q) X.xe s := by
  have hl : (us ++ []).length = ps.length := by
    rw [List.append_nil, ← r.length]
    exact F.len _ _ _ _ h
  have hbind := hb s us I.kIn hl
  rw [List.append_nil] at hbind
  refine wpAny_call (codeAny_mono (F.run X.A X.stack s H ⟨us, []⟩ us vs Q E0 gd hr I.env0 hbind r h) ?_)
  intro r s' hq
  cases r with
  | error e => exact hq.elim
  | ok fl =>
    cases fl with
    | ret u => exact I.after hq
    | next => exact hq.elim
    | brk => exact hq.elim
    | cont => exact hq.elim
theorem pe_callG (F : FnG X.prog X.w X.K X.mg X.base k f fd ps sp) (hr : Room k X.A) (gd : X.A.guards = some []) (hg : Gl X x) (hm : X.mg x = some (.ref f)) (hk : PySem.W.keepIn X.K (.ref f) = true) (hb : Binds X.K fd ps [])
    (ha : PA X (e :: es) t) (hdb : (x == ("__debug__" : Str)) = false) (he : starEach (e :: es) X.env = (false, eval e X.env) :: starEach es X.env) (hpl : (backTo pos (starEach es X.env)).any (·.1) = false) :
    PE X (.Call (.Name x p) (e :: es) [] pos) fun σ H Q => t σ H fun vs H1 => sp vs H1 Q E0 := by
  constructor
  intro pins s σ H Q I h
  apply wpAny_Call_Name_kw (ld_glob I hg hm ?_ hdb)
  refine PySem.W.callWith_K (h₀ := X.base) I.ok.mod.kin hk (thn (ha.run pos pins s σ H _ I h) ?_) he hpl
  rintro us s1 ⟨vs, H1, I1, r, q⟩
  exact ⟨I1.kIn, run_fnG F hr gd hb I1 r q⟩
theorem pe_callG0 (F : FnG X.prog X.w X.K X.mg X.base k f fd ps sp) (hr : Room k X.A) (gd : X.A.guards = some []) (hg : Gl X x) (hm : X.mg x = some (.ref f)) (hk : PySem.W.keepIn X.K (.ref f) = true) (hb : Binds X.K fd ps [])
    (hdb : (x == ("__debug__" : Str)) = false) : PE X (.Call (.Name x p) [] [] pos) fun σ H Q => sp [] H Q E0 := by
  constructor
  intro pins s σ H Q I h
  apply wpAny_Call_Name_kw (ld_glob I hg hm ?_ hdb)
  exact PySem.W.callWith_K0 I.kIn hk (run_fnG (us := []) F hr gd hb I .nil h)
end
/-! ### promises over trees -/
def spP (pre : List PyData → Prop) (post : List PyData → PyData → Prop) : Sp := fun vs H Q _ => ∃ ds Hc, Trs Hc vs ds ∧ Same Hc H ∧ pre ds ∧ ∀ v d Hc' H', post ds d → Ext Hc H Hc' H' → Tr Hc' v d → Q v H'
def LIM : Nat := 1000000000
/-- all but one object is as it was -/
structure ExtB (a : Addr) (Hc H Hc' H' : Hp) : Prop where
  all : ∀ b o, b ≠ a → H b = some o → H' b = some o
  core : Same Hc Hc'
  sub : Same Hc' H'
  out : ∀ b, H b ≠ none → Hc b = none → Hc' b = none
def spM (c : Nat) (pre : List PyData → Prop) (post : List PyData → PyData → Prop) : Sp := fun vs H Q _ => ∃ a ws ds Hc n, vs = .ref a :: ws ∧ Trs Hc ws ds ∧ Same Hc H ∧ MS Hc H a n ∧ n + c ≤ LIM ∧ pre ds ∧
  ∀ v d Hc' H' n', post ds d → ExtB a Hc H Hc' H' → MS Hc' H' a n' → n' ≤ n + c → Tr Hc' v d → Q v H'
section
variable {G : Gx} {env : En} {P : PyData → En → Prop} {e : Expr} {es : List Expr} {pos p : Pos} {x : Str} {k : Nat} {f : Addr} {fd : FuncData} {ps : List Str} {pre : List PyData → Prop} {post : List PyData → PyData → Prop}
structure Callee (G : Gx) (x : Str) (k : Nat) (f : Addr) (fd : FuncData) (ps : List Str) (sp : Sp) : Prop where
  fn : FnG G.P G.w G.K G.mg G.base k f fd ps sp
  room : Room k G.A
  gd : G.A.guards = some []
  mg : G.mg x = some (.ref f)
  kp : PySem.W.keepIn G.K (.ref f) = true
  bd : Binds G.K fd ps []
theorem peC {X : Cx} {sp : Sp} (hX : InG G X) (C : Callee G x k f fd ps sp) (hg : GlG G x) (ns : noStar (e :: es) = true) (hdb : (x == ("__debug__" : Str)) = false) :
    PE X (.Call (.Name x p) (e :: es) [] pos) fun σ H Q => tWA G (e :: es) σ H fun vs H1 => sp vs H1 Q E0 := by
  have c1 := C.fn
  rw [← hX.P, ← hX.w, ← hX.K, ← hX.mg, ← hX.base] at c1
  exact pe_callG c1 (by rw [hX.A]; exact C.room) (by rw [hX.A]; exact C.gd) (glX hX hg) (by rw [hX.mg]; exact C.mg) (by rw [hX.K]; exact C.kp) (by rw [hX.K]; exact C.bd) (paW hX _ ns) hdb (star_cons (noStar_cons ns).1) (star_any (noStar_cons ns).2)
theorem w_callP (C : Callee G x k f fd ps (spP pre post)) (h : WA G (e :: es) env fun ds e1 => pre ds ∧ ∀ d, post ds d → P d e1) (hg : GlG G x := by rfl) (ns : noStar (e :: es) = true := by rfl) (hdb : (x == ("__debug__" : Str)) = false := by decide) :
    W G (.Call (.Name x p) (e :: es) [] pos) env P :=
  W.of _ (fun X hX => peC hX C hg ns hdb) fun X hX σ Hc H Q R q => tWA.use R h fun vs ds e1 Hc1 H1 ⟨hp, hq⟩ go t =>
    ⟨ds, Hc1, t, go.rep.same, hp, fun v d Hc' H' pd x t' => q _ _ _ _ _ (hq d pd) (go.trans (x.go go.rep)) t'⟩
theorem w_call0 (C : Callee G x k f fd ps (spP pre post)) (h : pre [] ∧ ∀ d, post [] d → P d env) (hg : GlG G x := by rfl) (hdb : (x == ("__debug__" : Str)) = false := by decide) :
    W G (.Call (.Name x p) [] [] pos) env P :=
  W.of (fun X => fun σ H Q => spP pre post [] H Q E0) (fun X hX => by
    have c1 := C.fn
    rw [← hX.P, ← hX.w, ← hX.K, ← hX.mg, ← hX.base] at c1
    exact pe_callG0 c1 (by rw [hX.A]; exact C.room) (by rw [hX.A]; exact C.gd) (glX hX hg) (by rw [hX.mg]; exact C.mg) (by rw [hX.K]; exact C.kp) (by rw [hX.K]; exact C.bd) hdb) fun X hX σ Hc H Q R q =>
    ⟨[], Hc, .nil, R.same, h.1, fun v d Hc' H' pd x t' => q _ _ _ _ _ (h.2 d pd) (x.go R) t'⟩
theorem sl_lt {env : En} {i : Nat} {s : Sl} (h : env[i]? = some s) : i < env.length := (List.getElem?_eq_some_iff.mp h).1
/-- the draws' dict has turned -/
theorem extB_go {Hc H Hc' H' : Hp} {σ : L2.St} {i : Nat} {a : Addr} {n n' : Nat} (R : Rp Hc H σ env) (he : env[i]? = some (.ms a n)) (x : ExtB a Hc H Hc' H') (m : MS Hc' H' a n') :
    Go Hc H σ env Hc' H' σ (env.set i (.ms a n')) := by
  obtain ⟨ea, ma⟩ := R.ok i _ he
  have oa : Own σ env a := ⟨i, _, he, rfl, ea⟩
  have hs : ∀ {j : Nat} {s : Sl}, (env.set i (.ms a n'))[j]? = some s → (j = i ∧ s = .ms a n') ∨ (j ≠ i ∧ env[j]? = some s) := by
    intro j s e
    by_cases hj : j = i
    · subst hj
      rw [List.getElem?_set_self (sl_lt he)] at e
      cases e
      exact .inl ⟨rfl, rfl⟩
    · rw [List.getElem?_set_ne (Ne.symm hj)] at e
      exact .inr ⟨hj, e⟩
  have nn : ∀ {a : Addr} {u : HO}, H a = some u → H a ≠ none := fun e z => by rw [e] at z; cases z
  have es : ∀ {j : Nat} {s : Sl}, (env.set i (.ms a n'))[j]? = some s → s.own = true → ∃ s', env[j]? = some s' ∧ s'.own = true := by
    intro j s e o
    rcases hs e with ⟨e1, e2⟩ | ⟨e1, e2⟩
    · rw [e1]
      exact ⟨_, he, rfl⟩
    · exact ⟨s, e2, o⟩
  refine ⟨⟨x.sub, fun j s e => ?_, fun j l s t b h1 h2 h3 h4 h5 h6 => ?_, by rw [List.length_set]; exact R.len⟩, x.core, fun b o e n => x.all b o (fun z => n (z ▸ oa)) e, fun b e c _ => x.out b e c, fun b o => ?_, fun b e => ?_⟩
  · rcases hs e with ⟨e1, e2⟩ | ⟨e1, e2⟩
    · subst e1 e2
      exact ⟨ea, m⟩
    · have q := R.ok j s e2
      have away : ∀ b, σ[j]? = some (some (.ref b)) → s.own = true → b ≠ a := fun b q1 q2 z => by
        subst z
        exact e1 (R.inj j i s _ b e2 he q2 rfl q1 ea)
      cases s with
      | no => trivial
      | va d => obtain ⟨v, u, t'⟩ := q; exact ⟨v, u, t'.mono x.core⟩
      | raw v φ => exact ⟨q.1, q.2.2 _ _ x.core q.2.1, q.2.2⟩
      | ow ds' => obtain ⟨b, ws, u, c, u', t'⟩ := q; exact ⟨b, ws, u, x.out b (nn u') c, x.all _ _ (away b u rfl) u', t'.mono x.core⟩
      | dk b kvs => obtain ⟨ws, u, c, u', t'⟩ := q; exact ⟨ws, u, x.out b (nn u') c, x.all _ _ (away b u rfl) u', t'.mono x.core⟩
      | ms b n =>
        obtain ⟨u, ⟨c, l, s, p, b', ns, h1, h2, h3⟩⟩ := q
        exact ⟨u, x.out b (nn h1) c, l, s, p, b', ns, x.all _ _ (away b u rfl) h1, x.core _ _ h2, h3⟩
  · obtain ⟨s1, f1, g1⟩ := es h1 h3
    obtain ⟨s2, f2, g2⟩ := es h2 h4
    exact R.inj j l s1 s2 b f1 f2 g1 g2 h5 h6
  · obtain ⟨j, s, h1, h2, h3⟩ := o
    obtain ⟨s1, f1, g1⟩ := es h1 h2
    exact .inl ⟨j, s1, f1, g1, h3⟩
  · by_cases hb : b = a
    · obtain ⟨_, l, s, p, b', ns, h1, _⟩ := m
      rw [hb, h1]
      simp
    · cases q : H b with
      | none => exact absurd q e
      | some o => rw [x.all b o hb q]; simp
theorem w_callM {c : Nat} {a : Addr} {n0 : Nat} {m : Str} {pm : Pos} (i : Nat) (C : Callee G x k f fd ps (spM c pre post)) (he : env[i]? = some (.ms a n0))
    (h : WA G es env fun ds e1 => ∃ n, e1[i]? = some (.ms a n) ∧ n + c ≤ LIM ∧ pre ds ∧ ∀ d n', n' ≤ n + c → post ds d → P d (e1.set i (.ms a n')))
    (hN : G.N[i]? = some m := by rfl) (hv : Vis G.sc m := by first | exact Or.inl rfl | exact Or.inr (Or.inl rfl) | exact Or.inr (Or.inr rfl)) (hg : GlG G x := by rfl) (ns : noStar (Expr.Name m pm :: es) = true := by rfl) (hdb : (x == ("__debug__" : Str)) = false := by decide)
    (hd : (m == ("__debug__" : Str)) = false := by decide) (hcd : (m == ("__classdict__" : Str)) = false := by decide) :
    W G (.Call (.Name x p) (.Name m pm :: es) [] pos) env P :=
  W.of (fun X => fun σ H Q => tCons (tVar i) (tWA G es) σ H fun vs H1 => spM c pre post vs H1 Q E0) (fun X hX => by
    have c1 := C.fn
    rw [← hX.P, ← hX.w, ← hX.K, ← hX.mg, ← hX.base] at c1
    exact pe_callG c1 (by rw [hX.A]; exact C.room) (by rw [hX.A]; exact C.gd) (glX hX hg) (by rw [hX.mg]; exact C.mg) (by rw [hX.K]; exact C.kp) (by rw [hX.K]; exact C.bd)
      (pa_cons (pvG hX i hN hv hd hcd) (paW hX _ (noStar_cons ns).2) (star_cons (noStar_cons ns).1)) hdb (star_cons (noStar_cons ns).1) (star_any (noStar_cons ns).2)) fun X hX σ Hc H Q R q => by
    obtain ⟨ea, _⟩ := R.ok i _ he
    refine ⟨_, ea, tWA.use R h fun vs ds e1 Hc1 H1 ⟨n, e2, hl, hp, hq⟩ go t => ?_⟩
    obtain ⟨_, m1⟩ := go.rep.ok i _ e2
    exact ⟨a, vs, ds, Hc1, n, rfl, t, go.rep.same, m1, hl, hp, fun v d Hc' H' n' pd xb mm ln t' => q _ _ _ _ _ (hq d n' ln pd) (go.trans (extB_go go.rep e2 xb mm)) t'⟩
end
end TL

namespace TL
open PySem PySem.Spec PyProof.Rows L2
/-! ### a slot changes its word -/
def nown (env : En) (j : Nat) : Prop := ∀ s, env[j]? = some s → s.own = false
theorem nown_set {env : En} {j : Nat} {t : Sl} (h : t.own = false) : nown (env.set j t) j := by
  intro s e
  by_cases l : j < env.length
  · rw [List.getElem?_set_self l] at e
    cases e
    exact h
  · rw [List.getElem?_eq_none (by simpa using l)] at e
    cases e
theorem own_swap {σ : L2.St} {env : En} {j : Nat} {t : Sl} {o : Option V} {a : Addr} (ht : t.own = false) (h : Own (σ.set j o) (env.set j t) a) : Own σ env a := by
  obtain ⟨i, s, e1, e2, e3⟩ := h
  obtain ⟨ne, e4⟩ := set_own e1 ht e2
  rw [List.getElem?_set_ne (Ne.symm ne)] at e3
  exact ⟨i, s, e4, e2, e3⟩
theorem own_swap' {σ : L2.St} {env : En} {j : Nat} {t : Sl} {o : Option V} {a : Addr} (hn : nown env j) (h : Own σ env a) : Own (σ.set j o) (env.set j t) a := by
  obtain ⟨i, s, e1, e2, e3⟩ := h
  have ne : i ≠ j := fun z => by
    subst z
    rw [hn s e1] at e2
    cases e2
  exact ⟨i, s, by rw [List.getElem?_set_ne (Ne.symm ne)]; exact e1, e2, by rw [List.getElem?_set_ne (Ne.symm ne)]; exact e3⟩
theorem rp_swap {Hc H : Hp} {σ : L2.St} {env : En} {j : Nat} {t : Sl} {o : Option V} (R : Rp Hc H σ env) (ht : t.own = false) (hk : j < σ.length → SlotOk Hc H t (some o)) : Rp Hc H (σ.set j o) (env.set j t) := by
  refine ⟨R.same, fun i s e => ?_, fun i l s u a h1 h2 h3 h4 h5 h6 => ?_, by rw [List.length_set, List.length_set]; exact R.len⟩
  · by_cases hi : i = j
    · subst hi
      have l : i < env.length := by
        have := sl_lt e
        simpa using this
      rw [List.getElem?_set_self l] at e
      cases e
      have l2 : i < σ.length := by
        rw [R.len]
        exact l
      rw [List.getElem?_set_self l2]
      exact hk l2
    · rw [List.getElem?_set_ne (Ne.symm hi)] at e ⊢
      exact R.ok i s e
  · obtain ⟨n1, q1⟩ := set_own h1 ht h3
    obtain ⟨n2, q2⟩ := set_own h2 ht h4
    rw [List.getElem?_set_ne (Ne.symm n1)] at h5
    rw [List.getElem?_set_ne (Ne.symm n2)] at h6
    exact R.inj i l s u a q1 q2 h3 h4 h5 h6
/-- a name is stored: a value -/
theorem go_asg {Hc H : Hp} {σ : L2.St} {env : En} {j : Nat} {t : Sl} {o : Option V} (R : Rp Hc H σ env) (ht : t.own = false) (hk : SlotOk Hc H t (some o)) : Go Hc H σ env Hc H (σ.set j o) (env.set j t) :=
  ⟨rp_swap R ht fun _ => hk, .refl _, fun _ _ e _ => e, fun _ _ e _ => e, fun _ h => .inl (own_swap ht h), fun _ e => e⟩
/-- a slot is forgotten -/
theorem rp_drop {Hc H : Hp} {σ : L2.St} {env : En} (j : Nat) (R : Rp Hc H σ env) : Rp Hc H σ (env.set j .no) := by
  refine ⟨R.same, fun i s e => ?_, fun i l s u a h1 h2 h3 h4 h5 h6 => ?_, by rw [List.length_set]; exact R.len⟩
  · by_cases hi : i = j
    · subst hi
      have l : i < env.length := by
        have := sl_lt e
        simpa using this
      rw [List.getElem?_set_self l] at e
      cases e
      trivial
    · rw [List.getElem?_set_ne (Ne.symm hi)] at e
      exact R.ok i s e
  · obtain ⟨n1, q1⟩ := set_own h1 rfl h3
    obtain ⟨n2, q2⟩ := set_own h2 rfl h4
    exact R.inj i l s u a q1 q2 h3 h4 h5 h6
theorem go_drop {Hc H Hc' H' : Hp} {σ σ' : L2.St} {env env' : En} (j : Nat) (g : Go Hc H σ env Hc' H' σ' env') : Go Hc H σ env Hc' H' σ' (env'.set j .no) :=
  ⟨rp_drop j g.rep, g.core, g.kp, g.out, fun a h => g.own a (own_set rfl h), g.ex⟩
/-- what a block did, seen from outside -/
theorem go_swap {Hc H Hc' H' : Hp} {σ : L2.St} {env env' : En} {j : Nat} {t : Sl} {o : Option V} (hn : nown env j) (ht : t.own = false) (g : Go Hc H (σ.set j o) (env.set j t) Hc' H' (σ.set j o) env') : Go Hc H σ env Hc' H' σ (env'.set j .no) where
  rep := by
    have r := rp_swap (j := j) (t := .no) (o := σ[j]?.getD none) g.rep rfl fun _ => trivial
    have e : (σ.set j o).set j (σ[j]?.getD none) = σ := by
      rw [List.set_set]
      apply List.ext_getElem?
      intro i
      by_cases hi : i = j
      · subst hi
        by_cases l : i < σ.length
        · rw [List.getElem?_set_self l, List.getElem?_eq_getElem l]
          rfl
        · rw [List.getElem?_eq_none (by simpa using l), List.getElem?_eq_none (by simpa using l)]
      · rw [List.getElem?_set_ne (Ne.symm hi)]
    rw [e] at r
    exact r
  core := g.core
  kp := fun a u e n => g.kp a u e fun q => n (own_swap ht q)
  out := fun a e c n => g.out a e c fun q => n (own_swap ht q)
  own := fun a h => by
    have h2 : Own (σ.set j o) env' a := by
      obtain ⟨i, s, e1, e2, e3⟩ := h
      obtain ⟨ne, e4⟩ := set_own e1 rfl e2
      exact ⟨i, s, e4, e2, by rw [List.getElem?_set_ne (Ne.symm ne)]; exact e3⟩
    exact (g.own a h2).elim (fun q => .inl (own_swap ht q)) .inr
  ex := g.ex
/-! ### what is walked -/
def Walks (J : It) (Hc : Hp) (ds : List PyData) : Prop := ∃ vs, Trs Hc vs ds ∧ (∀ H', Same Hc H' → ∀ i, i < vs.length → J.go i H') ∧
  (∀ i H' x H'', Same Hc H' → J.yld i H' x H'' → i < vs.length → H'' = H' ∧ vs[i]? = some x) ∧ ∀ H', Same Hc H' → J.stop vs.length H'
def WI (G : Gx) (tg iter : Expr) (env : En) (P : List PyData → En → Prop) : Prop :=
  ∀ X, InG G X → ∃ wi : TI, PI X tg iter wi ∧ ∀ (σ : L2.St) (Hc H : Hp) (R : It → Hp → Prop), Rp Hc H σ env → (∀ ds J env' Hc' H', P ds env' → Go Hc H σ env Hc' H' σ env' → Walks J Hc' ds → R J H') → wi σ H R
theorem pi_seq {X : Cx} {tg l : Expr} {tl : TE} (hl : PE X l tl) : PI X tg l fun σ H R => tl σ H fun x H1 =>
    (∃ a, x = .ref a ∧ (∃ xs, SqL X.K H1 a xs) ∧ R (Itl X.K a) H1) ∨ (∃ a, x = .ref a ∧ (∃ xs, SqT X.K H1 a xs) ∧ R (Itt X.K a) H1) := by
  constructor
  intro pins s σ H R I h
  apply thn (hl.run pins s σ H _ I h)
  rintro v s1 ⟨x, H1, I1, r1, q1⟩
  have fin : ∀ b ∈ [s1.heap.objs.size], FpOk X pins H1 b := by
    intro b hb
    have e : b = s1.heap.objs.size := by simpa using hb
    subst e
    exact I1.fpOk (Nat.le_refl _) (I1.hok.fresh (Nat.le_refl _))
  rcases q1 with ⟨a, e, ⟨xs, hq⟩, q⟩ | ⟨a, e, ⟨xs, hq⟩, q⟩
  · subst e
    cases r1
    obtain ⟨its, rv, pl, hz⟩ := I1.list hq
    apply wpAny_pyIter_list pl.isList
    exact ⟨s1.heap.objs.size, [s1.heap.objs.size], _, _, H1, rfl, I1.kept (t' := s1.toks) (fun b o e => Heap.get?_push_of_some _ e), turn_list a _, ⟨_, Heap.get?_push_size _ rfl, rfl, rfl⟩, fin, q⟩
  · subst e
    cases r1
    obtain ⟨its, rv, pl, hz⟩ := I1.tuple hq
    apply wpAny_pyIter_tuple (show s1.heap.IsTuple a its.toArray from pl)
    exact ⟨s1.heap.objs.size, [s1.heap.objs.size], _, _, H1, rfl, I1.kept (t' := s1.toks) (fun b o e => Heap.get?_push_of_some _ e), turn_tuple a _, ⟨_, Heap.get?_push_size _ rfl, rfl, rfl⟩, fin, q⟩
section
variable {G : Gx} {env : En} {tg iter e a b : Expr} {P : List PyData → En → Prop} {p pos : Pos}
theorem wi_seq (h : W G iter env fun d e1 => ∃ ds, itemD d = some ds ∧ P ds e1) : WI G tg iter env P := fun X hX =>
  ⟨_, pi_seq (peW hX iter), fun σ Hc H R r q => tW.use r h fun v d e1 Hc1 H1 ⟨ds, ed, pd⟩ go t => by
    cases t with
    | @lst a vs _ m k =>
      cases ed
      have sq : ∀ {H'}, Same Hc1 H' → SqL X.K H' a vs := fun s => SqL.of (s _ _ m)
      refine .inl ⟨a, rfl, ⟨_, sq go.rep.same⟩, q _ _ e1 Hc1 H1 pd go ⟨vs, k, fun H' s i hi => ⟨vs, vs[i], sq s, by simp [hi]⟩, fun i H' x H'' s y hi => ⟨y.1, y.2 vs (sq s)⟩, fun H' s => ⟨vs, sq s, Nat.le_refl _⟩⟩⟩
    | @tup a vs _ m k =>
      cases ed
      have sq : ∀ {H'}, Same Hc1 H' → SqT X.K H' a vs := fun s => SqT.of (s _ _ m)
      refine .inr ⟨a, rfl, ⟨_, sq go.rep.same⟩, q _ _ e1 Hc1 H1 pd go ⟨vs, k, fun H' s i hi => ⟨vs, vs[i], sq s, by simp [hi]⟩, fun i H' x H'' s y hi => ⟨y.1, y.2 vs (sq s)⟩, fun H' s => ⟨vs, sq s, Nat.le_refl _⟩⟩⟩
    | non => cases ed
    | bl b => cases ed
    | int b => cases ed
    | str b => cases ed⟩
def rgD (lo : Int) (n : Nat) : List PyData := (List.range n).map fun (i : Nat) => PyData.int (lo + (i : Int))
theorem rgD_len (lo : Int) (n : Nat) : (rgD lo n).length = n := by
  unfold rgD
  rw [List.length_map, List.length_range]
theorem rgD_get {lo : Int} {n i : Nat} {d : PyData} (h : (rgD lo n)[i]? = some d) : i < n ∧ d = .int (lo + (i : Int)) := by
  have l := (List.getElem?_eq_some_iff.mp h).1
  rw [rgD_len] at l
  refine ⟨l, ?_⟩
  unfold rgD at h
  rw [List.getElem?_map, List.getElem?_range l] at h
  exact (Option.some.inj h).symm
theorem walks_rg (Hc : Hp) (lo : Int) (n : Nat) : Walks (Itr lo n) Hc (rgD lo n) := by
  refine ⟨((List.range n).map fun (i : Nat) => lo + (i : Int)).map V.int, ?_, fun H' s i hi => ?_, fun i H' x H'' s y hi => ?_, fun H' s => ?_⟩
  · have e : rgD lo n = ((List.range n).map fun (i : Nat) => lo + (i : Int)).map PyData.int := by
      unfold rgD
      rw [List.map_map]
      rfl
    rw [e]
    exact Trs.ints _
  · rw [List.length_map, List.length_map, List.length_range] at hi
    exact hi
  · rw [List.length_map, List.length_map, List.length_range] at hi
    refine ⟨y.1, ?_⟩
    rw [y.2, List.getElem?_map, List.getElem?_map, List.getElem?_range hi]
    rfl
  · show n ≤ _
    rw [List.length_map, List.length_map, List.length_range]
    exact Nat.le_refl _
theorem wi_rg (hm : G.mg "range" = none) (h : W G e env fun d e1 => ∃ n : Int, d = .int n ∧ n ≤ 1000000 ∧ -1000000 ≤ n ∧ P (rgD 0 n.toNat) e1) (hg : GlG G "range" := by rfl) (ns : noStar [e] = true := by rfl) : WI G tg (.Call (.Name "range" p) [e] [] pos) env P := fun X hX =>
  ⟨_, pi_range1 (glX hX hg) (by rw [hX.mg]; exact hm) (paW hX [e] ns) (star_cons (noStar_cons ns).1), fun σ Hc H R r q => by
    refine tWA.use (P := fun ds e1 => ∃ n : Int, ds = [.int n] ∧ n ≤ 1000000 ∧ -1000000 ≤ n ∧ P (rgD 0 n.toNat) e1) r (W.imp h fun d e1 ⟨n, ed, hn, hk, pd⟩ => ⟨n, by rw [ed], hn, hk, pd⟩) fun vs ds e1 Hc1 H1 ⟨n, ed, hn, hk, pd⟩ go t => ?_
    subst ed
    rw [Trs.of_ints (ns := [n]) t]
    exact ⟨n, rfl, by omega, by omega, q _ _ e1 Hc1 H1 pd go (walks_rg _ _ _)⟩⟩
theorem wi_rg2 (hm : G.mg "range" = none) (h : WA G [a, b] env fun ds e1 => ∃ i n : Int, ds = [.int i, .int n] ∧ n ≤ 1000000 ∧ -1000000 ≤ n ∧ i ≤ 1000000 ∧ -1000000 ≤ i ∧ P (rgD i (n - i).toNat) e1) (hg : GlG G "range" := by rfl) (ns : noStar [a, b] = true := by rfl) : WI G tg (.Call (.Name "range" p) [a, b] [] pos) env P := fun X hX =>
  ⟨_, pi_range2 (glX hX hg) (by rw [hX.mg]; exact hm) (paW hX [a, b] ns) (by rw [star_cons (noStar_cons ns).1, star_cons (noStar_cons (noStar_cons ns).2).1]; rfl) (by rw [star_cons (noStar_cons (noStar_cons ns).2).1]; rfl), fun σ Hc H R r q => by
    refine tWA.use r h fun vs ds e1 Hc1 H1 ⟨i, n, ed, hn, hk, hi, hj, pd⟩ go t => ?_
    subst ed
    rw [Trs.of_ints (ns := [i, n]) t]
    exact ⟨i, n, rfl, ⟨by omega, by omega, by omega, by omega⟩, q _ _ e1 Hc1 H1 pd go (walks_rg _ _ _)⟩⟩
end
/-! ### comprehensions -/
def Gx.blk (G : Gx) (scope : Scope) : Gx := { G with sc := relS scope G.sc }
theorem inG_blk {G : Gx} {X : Cx} (hX : InG G X) (scope : Scope) (s : Shared) (H : Hp) (C : Addr) (cl : List (Str × Addr)) (fp : List Addr) : InG (G.blk scope) (X.blk s H scope (compEnvC scope cl C X.env) fp) :=
  ⟨hX.N, by show relS scope X.env.scope = relS scope G.sc; rw [hX.sc], hX.K, hX.mg, hX.P, hX.w, hX.base, hX.A, hX.calm⟩
/-- a new list that nobody else knows -/
structure Nw (Hc H : Hp) (σ : L2.St) (env : En) (D : Addr) (vs : List V) (ds : List PyData) (Hc' H' : Hp) (env' : En) : Prop where
  go : Go Hc H σ env Hc' H' σ env'
  old : H D = none
  at' : H' D = some (.lst vs)
  tr : Trs Hc' vs ds
  out : Hc' D = none
  no : ¬ Own σ env' D
theorem Nw.freeze {Hc H : Hp} {σ : L2.St} {env : En} {D : Addr} {vs : List V} {ds : List PyData} {Hc' H' : Hp} {env' : En} (n : Nw Hc H σ env D vs ds Hc' H' env') :
    Go Hc H σ env (upd Hc' D (.lst vs)) H' σ env' ∧ Tr (upd Hc' D (.lst vs)) (.ref D) (.list ds) := by
  have core : Same Hc' (upd Hc' D (.lst vs)) := fun b o e => by
    rw [upd_ne (ne_of_none e n.out)]
    exact e
  refine ⟨⟨⟨?_, ?_, n.go.rep.inj, n.go.rep.len⟩, n.go.core.trans core, n.go.kp, ?_, n.go.own, n.go.ex⟩, .lst upd_same (n.tr.mono core)⟩
  · intro b o e
    by_cases hb : b = D
    · subst hb
      rw [upd_same] at e
      cases e
      exact n.at'
    · rw [upd_ne hb] at e
      exact n.go.rep.same b o e
  · intro j s e
    have q := n.go.rep.ok j s e
    have away : ∀ b, σ[j]? = some (some (.ref b)) → s.own = true → b ≠ D := fun b q1 q2 z => by
      subst z
      exact n.no ⟨j, s, e, q2, q1⟩
    cases s with
    | no => trivial
    | va d => obtain ⟨v, u, t'⟩ := q; exact ⟨v, u, t'.mono core⟩
    | raw v φ => exact ⟨q.1, q.2.2 _ _ core q.2.1, q.2.2⟩
    | ow ds' => obtain ⟨b, ws, u, c, u', t'⟩ := q; exact ⟨b, ws, u, by rw [upd_ne (away b u rfl)]; exact c, u', t'.mono core⟩
    | dk b kvs => obtain ⟨ws, u, c, u', t'⟩ := q; exact ⟨ws, u, by rw [upd_ne (away b u rfl)]; exact c, u', t'.mono core⟩
    | ms b n =>
      obtain ⟨u, ⟨c, l, s, p, b', ns, h1, h2, h3⟩⟩ := q
      exact ⟨u, by rw [upd_ne (away b u rfl)]; exact c, l, s, p, b', ns, h1, core _ _ h2, h3⟩
  · intro a e c k
    have ha : a ≠ D := fun z => e (z ▸ n.old)
    rw [upd_ne ha]
    exact n.go.out a e c k
theorem go_new {Hc H : Hp} {σ : L2.St} {env : En} {D : Addr} {o : HO} (R : Rp Hc H σ env) (h : H D = none) : Go Hc H σ env Hc (upd H D o) σ env := by
  have al : Same H (upd H D o) := fun b u e => by
    rw [upd_ne (ne_of_none e h)]
    exact e
  exact Ext.go ⟨al, .refl _, fun b u e => al b u (R.same b u e), fun _ _ e => e⟩ R
theorem own_ne_new {Hc H : Hp} {σ : L2.St} {env : En} {D : Addr} (R : Rp Hc H σ env) (h : H D = none) : ¬ Own σ env D := by
  rintro ⟨i, s, e1, e2, e3⟩
  have q := R.ok i s e1
  cases s with
  | no => cases e2
  | va d => cases e2
  | raw v φ => cases e2
  | ow ds => obtain ⟨b, ws, u, c, u', t'⟩ := q; rw [e3] at u; cases u; rw [h] at u'; cases u'
  | dk b kvs => obtain ⟨ws, u, c, u', t'⟩ := q; rw [e3] at u; cases u; rw [h] at u'; cases u'
  | ms b n =>
    obtain ⟨u, ⟨c, l, s, p, b', ns, h1, h2, h3⟩⟩ := q
    rw [e3] at u
    cases u
    rw [h] at h1
    cases h1
/-- the object at D, nobody's, is written -/
theorem go_write {Hc H Hc' H' : Hp} {σ : L2.St} {env env' : En} {D : Addr} {o : HO} (g : Go Hc H σ env Hc' H' σ env') (old : H D = none) (out : Hc' D = none) (no : ¬ Own σ env' D) : Go Hc H σ env Hc' (upd H' D o) σ env' := by
  refine ⟨⟨?_, ?_, g.rep.inj, g.rep.len⟩, g.core, ?_, g.out, g.own, ?_⟩
  · intro b u e
    rw [upd_ne (ne_of_none e out)]
    exact g.rep.same b u e
  · intro j s e
    have q := g.rep.ok j s e
    have away : ∀ b, σ[j]? = some (some (.ref b)) → s.own = true → b ≠ D := fun b q1 q2 z => by
      subst z
      exact no ⟨j, s, e, q2, q1⟩
    cases s with
    | no => trivial
    | va d => exact q
    | raw v φ => exact q
    | ow ds' => obtain ⟨b, ws, u, c, u', t'⟩ := q; exact ⟨b, ws, u, c, by rw [upd_ne (away b u rfl)]; exact u', t'⟩
    | dk b kvs => obtain ⟨ws, u, c, u', t'⟩ := q; exact ⟨ws, u, c, by rw [upd_ne (away b u rfl)]; exact u', t'⟩
    | ms b n =>
      obtain ⟨u, ⟨c, l, s, p, b', ns, h1, h2, h3⟩⟩ := q
      exact ⟨u, c, l, s, p, b', ns, by rw [upd_ne (away b u rfl)]; exact h1, h2, h3⟩
  · intro a u e n
    rw [upd_ne (ne_of_none e old)]
    exact g.kp a u e n
  · intro a e
    by_cases ha : a = D
    · subst ha
      exact absurd old e
    · rw [upd_ne ha]
      exact g.ex a e
/-- the word of a comprehension: JJ by the turn, what is made so far and the slots -/
structure CJ (G' : Gx) (j : Nat) (t : Option Expr) (elt : Expr) (ds : List PyData) (e0 : En) (PF : List PyData → En → Prop) : Prop where
  ex : ∃ JJ : Nat → List PyData → En → Prop, JJ 0 [] (e0.set j .no) ∧ (∀ acc e, JJ ds.length acc e → PF acc e) ∧
    ∀ i d acc e, ds[i]? = some d → acc.length ≤ i → JJ i acc e → match t with
      | none => W G' elt (e.set j (.va d)) fun y e2 => JJ (i + 1) (acc ++ [y]) (e2.set j .no)
      | some c => WT G' c (e.set j (.va d)) fun k e1 => if k = true then W G' elt e1 fun y e2 => JJ (i + 1) (acc ++ [y]) (e2.set j .no) else JJ (i + 1) acc (e1.set j .no)
def ifsOf : Option Expr → List Expr
  | none => []
  | some c => [c]
def tIfs (G' : Gx) : Option Expr → TT
  | none => tYes
  | some c => tWT G' c
theorem ptsW {G : Gx} {X : Cx} (hX : InG G X) : ∀ t, PTs X (ifsOf t) (tIfs G t)
  | none => pts_nil
  | some c => pts_one (ptW hX c)
theorem lc_read {G : Gx} {scope : Scope} {j : Nat} {t : Option Expr} {elt : Expr} {wi : TI} {env : En} {PF : List PyData → En → Prop} {σ : L2.St} {Hc H : Hp} {Q : VK} (R : Rp Hc H σ env)
    (hwi : ∀ R' : It → Hp → Prop, (∀ ds J env' Hc' H', (ds.length < 100000 ∧ CJ (G.blk scope) j t elt ds env' PF) → Go Hc H σ env Hc' H' σ env' → Walks J Hc' ds → R' J H') → wi σ H R')
    (hQ : ∀ D vs acc e2 Hc2 H2, PF acc e2 → Nw Hc H σ env D vs acc Hc2 H2 e2 → Q (.ref D) H2) : tLc wi (gName j) (tIfs (G.blk scope) t) (tW (G.blk scope) elt) [j] σ H Q := by
  refine hwi _ fun ds J e0 Hc1 H1 ⟨hsz, cj⟩ go0 wk D hD => ?_
  obtain ⟨JJ, j0, jF, js⟩ := cj.ex
  obtain ⟨vs0, tv, wgo, wyld, wstop⟩ := wk
  have lv := tv.length
  -- the word
  let Pv : Nat → Hp → Prop := fun i H' => ∃ Hc' e acc vs, JJ i acc e ∧ nown e j ∧ vs.length ≤ i ∧ Nw Hc H σ env D vs acc Hc' H' e ∧ Same Hc1 Hc'
  have old : H D = none := by
    cases q : H D with
    | none => rfl
    | some o => exact absurd hD (go0.ex D (by rw [q]; simp))
  have out1 : Hc1 D = none := Same.free go0.rep.same hD
  have g1 : Go Hc H σ env Hc1 (upd H1 D (.lst [])) σ (e0.set j .no) := go_drop j (go0.trans (go_new go0.rep hD))
  refine ⟨fun i m H' => m = vs0.length - i ∧ i ≤ vs0.length ∧ Pv i H', ⟨vs0.length, by omega, Nat.zero_le _, Hc1, e0.set j .no, [], [], j0, nown_set rfl, Nat.le_refl _, ⟨g1, old, upd_same, .nil, out1, fun o => own_ne_new go0.rep hD (own_set rfl o)⟩, .refl _⟩, ?_⟩
  rintro i m H2 ⟨em, hi, Hc2, e2, acc, vs, hJ, hn, hl, nw, sm⟩
  subst em
  have s12 : Same Hc1 H2 := sm.trans nw.go.rep.same
  by_cases hlt : i < vs0.length
  · refine .inr ⟨wgo H2 s12 i hlt, Pv (i + 1), fun H' p' => ⟨vs0.length - (i + 1), by omega, rfl, hlt, p'⟩, fun x H' y => ?_⟩
    obtain ⟨eH, ex⟩ := wyld i H2 x H' s12 y hlt
    subst eH
    obtain ⟨d, ed, td⟩ := tv.getV ex
    have eσ : (wipe σ [j]).set j (some x) = σ.set j (some x) := by
      show (σ.set j none).set j (some x) = _
      rw [List.set_set]
    show wipe ((wipe σ [j]).set j (some x)) [j] = wipe σ [j] ∧ tIfs (G.blk scope) t ((wipe σ [j]).set j (some x)) H' _
    rw [eσ]
    refine ⟨by show (σ.set j (some x)).set j none = σ.set j none; rw [List.set_set], ?_⟩
    have stp := js i d acc e2 ed (by rw [← nw.tr.length]; exact hl) hJ
    have R2 : Rp Hc2 H' (σ.set j (some x)) (e2.set j (.va d)) := rp_swap nw.go.rep rfl fun _ => ⟨x, rfl, td.mono sm⟩
    -- the item is made
    have made : ∀ {e3 : En} {Hc3 H3 : Hp}, Go Hc2 H' (σ.set j (some x)) (e2.set j (.va d)) Hc3 H3 (σ.set j (some x)) e3 → W (G.blk scope) elt e3 (fun y e4 => JJ (i + 1) (acc ++ [y]) (e4.set j .no)) →
        tW (G.blk scope) elt (σ.set j (some x)) H3 fun y H4 => ∃ ac, H4 D = some (.lst ac) ∧ ac.length < sizeLine ∧ Pv (i + 1) (upd H4 D (.lst (ac ++ [y]))) := by
      intro e3 Hc3 H3 go3 hw
      refine tW.use go3.rep hw fun y dy e4 Hc4 H4 j4 go4 ty => ?_
      have g34 := go_swap hn rfl (go3.trans go4)
      have keep : H4 D = some (.lst vs) := g34.kp D _ nw.at' nw.no
      have out4 : Hc4 D = none := g34.out D (by rw [nw.at']; simp) nw.out nw.no
      have no4 : ¬ Own σ (e4.set j .no) D := fun q => (g34.own D q).elim nw.no fun z => by rw [nw.at'] at z; cases z
      refine ⟨vs, keep, Nat.lt_of_lt_of_le (show vs.length < 100000 by omega) (by decide), Hc4, e4.set j .no, acc ++ [dy], vs ++ [y], j4, nown_set rfl, by rw [List.length_append]; show vs.length + 1 ≤ i + 1; omega, ⟨?_, old, upd_same, ?_, out4, no4⟩, sm.trans g34.core⟩
      · exact go_write (nw.go.trans g34) old out4 no4
      · exact Trs.append (nw.tr.mono g34.core) (.cons ty .nil)
    cases t with
    | none =>
      have z := made (e3 := e2.set j (.va d)) (Go.refl R2) stp
      exact iteT (B := Pv (i + 1) H') z
    | some c =>
      refine ⟨Hc2, e2.set j (.va d), _, R2, stp, fun k e3 Hc3 H3 pk go3 => ?_⟩
      cases k with
      | true =>
        rw [if_pos rfl] at pk ⊢
        exact made go3 pk
      | false =>
        rw [if_neg Bool.false_ne_true] at pk ⊢
        have g3 := go_swap hn rfl go3
        exact ⟨Hc3, e3.set j .no, acc, vs, pk, nown_set rfl, by omega, ⟨nw.go.trans g3, old, g3.kp D _ nw.at' nw.no, nw.tr.mono g3.core, g3.out D (by rw [nw.at']; simp) nw.out nw.no, fun q => (g3.own D q).elim nw.no fun z => by rw [nw.at'] at z; cases z⟩, sm.trans g3.core⟩
  · have e : i = vs0.length := by omega
    subst e
    exact .inl ⟨wstop H2 s12, hQ D vs acc e2 Hc2 H2 (jF acc e2 (by rw [← lv]; exact hJ)) nw⟩
section
variable {G : Gx} {env : En} {P : PyData → En → Prop} {elt iter : Expr} {scope : Scope} {pos pt : Pos} {x : Str}
/-- what a comprehension asks -/
def LC (G : Gx) (scope : Scope) (j : Nat) (tg iter : Expr) (t : Option Expr) (elt : Expr) (env : En) (PF : List PyData → En → Prop) : Prop :=
  WI G tg iter env fun ds e1 => ds.length < 100000 ∧ CJ (G.blk scope) j t elt ds e1 PF
theorem pe_lcG {X : Cx} (hX : InG G X) {j : Nat} {t : Option Expr} {wi : TI} (hi : PI X (.Name x pt) iter wi) (hnd : G.N.Nodup) (hb : blkC G.N G.sc scope [(x, j)] = true) (hj : G.N[j]? = some x)
    (hl : (relS scope G.sc).names.lookup x = some .local ∨ (relS scope G.sc).names.lookup x = some .cell) (hf : scope.names.lookup x = some .cell ∨ (relS scope G.sc).names.lookup x = some .local) (hs : ∀ (v : Env) y, foldedSetIterable iter v y = pure y) :
    PE X (.ListComp elt [⟨.Name x pt, iter, ifsOf t, 0⟩] scope pos) (tLc wi (gName j) (tIfs (G.blk scope) t) (tW (G.blk scope) elt) [j]) := by
  refine pe_lc (own := [(x, j)]) hX.calm (by rw [hX.N]; exact hnd) hi (blkOk_by (by rw [hX.N, hX.sc]; exact hb)) (fun s H C cl fp => ?_) (fun s H C cl fp => ptsW (inG_blk hX scope s H C cl fp) t) (fun s H C cl fp => peW (inG_blk hX scope s H C cl fp) elt) (hs X.env)
  have i2 := inG_blk hX scope s H C cl fp
  refine pg_name (i := j) (by rw [i2.N]; exact hnd) (by rw [i2.N]; exact hj) ?_ ?_
  · show _ ∨ _
    rw [i2.sc]
    exact hl
  · rcases hf with hf | hf
    · exact .inl (by show (scope.names.lookup x == some .cell) = true; rw [hf]; rfl)
    · exact .inr (by rw [i2.sc]; exact hf)
theorem w_lc (j : Nat) {t : Option Expr} (h : LC G scope j (.Name x pt) iter t elt env fun ds e => P (.list ds) e) (hnd : G.N.Nodup) (hb : blkC G.N G.sc scope [(x, j)] = true := by first | decide +kernel | (dsimp only [Gx.blk]; decide +kernel) | rfl) (hj : G.N[j]? = some x := by rfl)
    (hl : (relS scope G.sc).names.lookup x = some .local ∨ (relS scope G.sc).names.lookup x = some .cell := by first | exact .inl rfl | exact .inr rfl)
    (hf : scope.names.lookup x = some .cell ∨ (relS scope G.sc).names.lookup x = some .local := by first | exact .inl rfl | exact .inr rfl) (hs : ∀ (v : Env) y, foldedSetIterable iter v y = pure y := by exact fun _ _ => rfl) :
    W G (.ListComp elt [⟨.Name x pt, iter, ifsOf t, 0⟩] scope pos) env P := fun X hX => by
  obtain ⟨wi, hi, rd⟩ := h X hX
  intro pins s σ Hc H Q I R q
  refine (pe_lcG hX hi hnd hb hj hl hf hs).run pins s σ H Q I (lc_read R (rd σ Hc H · R) fun D vs acc e2 Hc2 H2 pf nw => ?_)
  have z := nw.freeze
  exact q _ _ _ _ _ pf z.1 z.2
end
end TL

namespace TL
open PySem PySem.Spec PyProof.Rows L2
/-! ### statements -/
structure InS (G : Gx) (X : Cx) : Prop where
  g : InG G X
  fn : ∀ x, X.fn x = true
  xe : X.xe = fun _ _ => False
structure DE where
  nx : En → Prop
  rt : PyData → En → Prop
  bk : En → Prop := fun _ => False
  ct : En → Prop := fun _ => False
  rv : List (Key × PyData) → En → Prop := fun _ _ => False
structure FinS (Hc H : Hp) (σ : L2.St) (env : En) (N : DE) (D : Ends) : Prop where
  nx : ∀ e σ' Hc' H', N.nx e → Go Hc H σ env Hc' H' σ' e → D.nx σ' H'
  rt : ∀ v d e σ' Hc' H', N.rt d e → Go Hc H σ env Hc' H' σ' e → Tr Hc' v d → D.rt v H'
  bk : ∀ e σ' Hc' H', N.bk e → Go Hc H σ env Hc' H' σ' e → D.bk σ' H'
  ct : ∀ e σ' Hc' H', N.ct e → Go Hc H σ env Hc' H' σ' e → D.ct σ' H'
  rv : ∀ p kvs ks e σ' Hc' H', N.rv kvs e → Go Hc H σ env Hc' H' σ' e → H p = none → H' p = some (.dK ks) → KTr Hc' ks kvs → Hc' p = none → D.rt (.ref p) H'
theorem FinS.from {Hc H Hc1 H1 : Hp} {σ σ1 : L2.St} {env e1 : En} {N : DE} {D : Ends} (f : FinS Hc H σ env N D) (g : Go Hc H σ env Hc1 H1 σ1 e1) : FinS Hc1 H1 σ1 e1 N D :=
  ⟨fun e σ' Hc' H' p q => f.nx e σ' Hc' H' p (g.trans q), fun v d e σ' Hc' H' p q => f.rt v d e σ' Hc' H' p (g.trans q), fun e σ' Hc' H' p q => f.bk e σ' Hc' H' p (g.trans q), fun e σ' Hc' H' p q => f.ct e σ' Hc' H' p (g.trans q), fun p kvs ks e σ' Hc' H' a b c => f.rv p kvs ks e σ' Hc' H' a (g.trans b) (by
    cases z : H p with
    | none => rfl
    | some o => exact absurd c (g.ex p (by rw [z]; simp)))⟩
def Rs (G : Gx) (ss : List Stmt) (env : En) (N : DE) : Prop :=
  ∀ X, InS G X → ∀ (pins : Pins) (s : Shared) (σ : L2.St) (Hc H : Hp) (D : Ends), Inv X pins σ H s → Rp Hc H σ env → FinS Hc H σ env N D → wpAny (model X.prog X.w) X.A (execs ss X.env) (SP X pins D) X.xe s
def tRs (G : Gx) (ss : List Stmt) : TS := fun D σ H => ∃ Hc env N, Rp Hc H σ env ∧ Rs G ss env N ∧ FinS Hc H σ env N D
theorem pssR {G : Gx} {X : Cx} (hX : InS G X) (ss : List Stmt) : PSs X ss (tRs G ss) := ⟨fun pins s σ H D I ⟨Hc, env, N, R, w, q⟩ => w X hX pins s σ Hc H D I R q⟩
theorem Rs.of {G : Gx} {ss : List Stmt} {env : En} {N : DE} (te : Cx → TS) (h : ∀ X, InS G X → PSs X ss (te X))
    (r : ∀ X, InS G X → ∀ (σ : L2.St) (Hc H : Hp) (D : Ends), Rp Hc H σ env → FinS Hc H σ env N D → te X D σ H) : Rs G ss env N :=
  fun X hX pins s σ Hc H D I R q => (h X hX).run pins s σ H D I (r X hX σ Hc H D R q)
theorem tRs.use {G : Gx} {ss : List Stmt} {env : En} {N : DE} {σ : L2.St} {Hc H : Hp} {D : Ends} (R : Rp Hc H σ env) (h : Rs G ss env N) (q : FinS Hc H σ env N D) : tRs G ss D σ H := ⟨Hc, env, N, R, h, q⟩
theorem Rs.imp {G : Gx} {ss : List Stmt} {env : En} {N N' : DE} (h : Rs G ss env N) (k1 : ∀ e, N.nx e → N'.nx e) (k2 : ∀ d e, N.rt d e → N'.rt d e) (k3 : ∀ e, N.bk e → N'.bk e) (k4 : ∀ e, N.ct e → N'.ct e) (k5 : ∀ kvs e, N.rv kvs e → N'.rv kvs e) : Rs G ss env N' :=
  fun X hX pins s σ Hc H D I R q => h X hX pins s σ Hc H D I R ⟨fun e σ' Hc' H' p => q.nx e σ' Hc' H' (k1 _ p), fun v d e σ' Hc' H' p => q.rt v d e σ' Hc' H' (k2 _ _ p), fun e σ' Hc' H' p => q.bk e σ' Hc' H' (k3 _ p), fun e σ' Hc' H' p => q.ct e σ' Hc' H' (k4 _ p), fun p kvs ks e σ' Hc' H' a => q.rv p kvs ks e σ' Hc' H' (k5 _ _ a)⟩
section
variable {G : Gx} {env : En} {N : DE} {rest ss : List Stmt} {e a b : Expr} {pos px : Pos} {x : Str}
theorem r_nil (h : N.nx env) : Rs G [] env N := Rs.of (fun _ => tNext) (fun _ _ => pss_nil) fun _ _ σ Hc H D R q => q.nx env σ Hc H h (.refl R)
theorem InS.nodup {X : Cx} (hX : InS G X) (hnd : G.N.Nodup) : X.N.Nodup := by rw [hX.g.N]; exact hnd
theorem InS.at' {X : Cx} (hX : InS G X) {i : Nat} {x : Str} (h : G.N[i]? = some x) : X.N[i]? = some x := by rw [hX.g.N]; exact h
theorem InS.loc {X : Cx} (hX : InS G X) {x : Str} (h : Loc G.sc x) : Loc X.env.scope x := by rw [hX.g.sc]; exact h
/-- x = e -/
theorem r_asg (i : Nat) (hnd : G.N.Nodup) (h : W G e env fun d e1 => Rs G rest (e1.set i (.va d)) N) (hi : G.N[i]? = some x := by rfl) (hx : Loc G.sc x := by first | exact Or.inl rfl | exact Or.inr rfl)
    (hs : ∀ (v : Env) y, v.scope = G.sc → swapsWith e (some (.Name x px)) y v = pure false := by exact fun _ _ _ => rfl) : Rs G (.Assign [.Name x px] e pos :: rest) env N :=
  Rs.of (fun X => tSeq (tAsg (tW G e) (gName i)) (tRs G rest)) (fun X hX => pss_cons (ps_set (i := i) (hX.nodup hnd) (hX.at' hi) (hX.loc hx) (peW hX.g e) (hs _ _ hX.g.sc) (.inl (hX.fn x))) (pssR hX rest)) fun X hX σ Hc H D R q =>
    tW.use R h fun v d e1 Hc1 H1 hr go t => by
      have g2 := go_asg (j := i) (t := .va d) (o := some v) go.rep rfl ⟨v, rfl, t⟩
      exact tRs.use g2.rep hr (q.from (go.trans g2))
/-- x = [..], a comprehension on one line, x a plain local -/
theorem go_asgOw {Hc H Hc' H' : Hp} {σ : L2.St} {env e2 : En} {D : Addr} {vs : List V} {ds : List PyData} {i : Nat} (n : Nw Hc H σ env D vs ds Hc' H' e2) (hi : i < σ.length) : Go Hc H σ env Hc' H' (σ.set i (some (.ref D))) (e2.set i (.ow ds)) := by
  have hs : ∀ {j : Nat} {s : Sl}, (e2.set i (.ow ds))[j]? = some s → (j = i ∧ s = .ow ds) ∨ (j ≠ i ∧ e2[j]? = some s) := by
    intro j s e
    by_cases hj : j = i
    · subst hj
      have l := sl_lt e
      rw [List.length_set] at l
      rw [List.getElem?_set_self l] at e
      cases e
      exact .inl ⟨rfl, rfl⟩
    · rw [List.getElem?_set_ne (Ne.symm hj)] at e
      exact .inr ⟨hj, e⟩
  have noD : ∀ {j : Nat} {s : Sl}, e2[j]? = some s → s.own = true → σ[j]? = some (some (.ref D)) → False := fun e o z => n.no ⟨_, _, e, o, z⟩
  refine ⟨⟨n.go.rep.same, fun j s e => ?_, fun j l s t a h1 h2 h3 h4 h5 h6 => ?_, by rw [List.length_set, List.length_set]; exact n.go.rep.len⟩, n.go.core, n.go.kp, n.go.out, fun a o => ?_, n.go.ex⟩
  · rcases hs e with ⟨e1, e2'⟩ | ⟨e1, e2'⟩
    · subst e1 e2'
      rw [List.getElem?_set_self hi]
      exact ⟨D, vs, rfl, n.out, n.at', n.tr⟩
    · rw [List.getElem?_set_ne (Ne.symm e1)]
      exact n.go.rep.ok j s e2'
  · rcases hs h1 with ⟨e1, e3⟩ | ⟨e1, e3⟩
    · subst e1
      rcases hs h2 with ⟨f1, f3⟩ | ⟨f1, f3⟩
      · exact f1.symm
      · rw [List.getElem?_set_self hi] at h5
        cases h5
        rw [List.getElem?_set_ne (Ne.symm f1)] at h6
        exact (noD f3 h4 h6).elim
    · rw [List.getElem?_set_ne (Ne.symm e1)] at h5
      rcases hs h2 with ⟨f1, f3⟩ | ⟨f1, f3⟩
      · subst f1
        rw [List.getElem?_set_self hi] at h6
        cases h6
        exact (noD e3 h3 h5).elim
      · rw [List.getElem?_set_ne (Ne.symm f1)] at h6
        exact n.go.rep.inj j l s t a e3 f3 h3 h4 h5 h6
  · obtain ⟨j, s, e1, e2', e3⟩ := o
    rcases hs e1 with ⟨f1, f3⟩ | ⟨f1, f3⟩
    · subst f1
      rw [List.getElem?_set_self hi] at e3
      cases e3
      exact .inr n.old
    · rw [List.getElem?_set_ne (Ne.symm f1)] at e3
      exact n.go.own a ⟨j, s, f3, e2', e3⟩
theorem lt_of_N {Hc H : Hp} {σ : L2.St} {env : En} (R : Rp Hc H σ env) {i : Nat} (h : i < env.length) : i < σ.length := by rw [R.len]; exact h
section
variable {elt iter : Expr} {scope : Scope} {y : Str} {pt py spos : Pos} {t : Option Expr}
theorem r_lcAny (i j : Nat) (sw : Bool) {X : Cx} (hX : InS G X) {wi : TI} (hw : PI X (.Name x pt) iter wi) (hnd : G.N.Nodup) (hb : blkC G.N G.sc scope [(x, j)] = true) (hj : G.N[j]? = some x) (hi : G.N[i]? = some y) (hy : Loc G.sc y)
    (hsw : (G.sc.names.lookup y = some .local ∧ sw = true ∧ ∀ v : Env, v.scope = G.sc → swapsWith (.ListComp elt [⟨.Name x pt, iter, ifsOf t, 0⟩] scope pos) (some (.Name y py)) spos.line v = pure true) ∨ (sw = false ∧ ∀ v : Env, v.scope = G.sc → swapsWith (.ListComp elt [⟨.Name x pt, iter, ifsOf t, 0⟩] scope pos) (some (.Name y py)) spos.line v = pure false))
    (hl : (relS scope G.sc).names.lookup x = some .local ∨ (relS scope G.sc).names.lookup x = some .cell) (hf : scope.names.lookup x = some .cell ∨ (relS scope G.sc).names.lookup x = some .local) (hs : ∀ (v : Env) y, foldedSetIterable iter v y = pure y) :
    PS X (.Assign [.Name y py] (.ListComp elt [⟨.Name x pt, iter, ifsOf t, 0⟩] scope pos) spos) (tAsg (tLc wi (gName j) (tIfs (G.blk scope) t) (tW (G.blk scope) elt) [j]) (gName i)) := by
  rcases hsw with ⟨h1, _, h2⟩ | ⟨_, h2⟩
  · refine ps_setLc (own := [(x, j)]) hX.g.calm (hX.nodup hnd) (hX.at' hi) (by rw [hX.g.sc]; exact h1) (h2 _ hX.g.sc) hw (blkOk_by (by rw [hX.g.N, hX.g.sc]; exact hb)) (fun s H C cl fp => ?_) (fun s H C cl fp => ptsW (inG_blk hX.g scope s H C cl fp) t) (fun s H C cl fp => peW (inG_blk hX.g scope s H C cl fp) elt) (hs X.env)
    have i2 := inG_blk hX.g scope s H C cl fp
    refine pg_name (i := j) (by rw [i2.N]; exact hnd) (by rw [i2.N]; exact hj) ?_ ?_
    · show _ ∨ _
      rw [i2.sc]
      exact hl
    · rcases hf with hf | hf
      · exact .inl (by show (scope.names.lookup x == some .cell) = true; rw [hf]; rfl)
      · exact .inr (by rw [i2.sc]; exact hf)
  · exact ps_set (i := i) (hX.nodup hnd) (hX.at' hi) (hX.loc hy) (pe_lcG hX.g hw hnd hb hj hl hf hs) (h2 _ hX.g.sc) (.inl (hX.fn y))
/-- y = [..]: own tells whether y is to be changed later -/
theorem r_lc (i j : Nat) (own sw : Bool) (h : LC G scope j (.Name x pt) iter t elt env fun ds e => i < e.length ∧ Rs G rest (e.set i (if own = true then .ow ds else .va (.list ds))) N) (hnd : G.N.Nodup) (hb : blkC G.N G.sc scope [(x, j)] = true := by first | decide +kernel | (dsimp only [Gx.blk]; decide +kernel) | rfl) (hj : G.N[j]? = some x := by rfl) (hi : G.N[i]? = some y := by rfl)
    (hy : Loc G.sc y := by first | exact Or.inl rfl | exact Or.inr rfl)
    (hsw : (G.sc.names.lookup y = some .local ∧ sw = true ∧ ∀ v : Env, v.scope = G.sc → swapsWith (.ListComp elt [⟨.Name x pt, iter, ifsOf t, 0⟩] scope pos) (some (.Name y py)) spos.line v = pure true) ∨ (sw = false ∧ ∀ v : Env, v.scope = G.sc → swapsWith (.ListComp elt [⟨.Name x pt, iter, ifsOf t, 0⟩] scope pos) (some (.Name y py)) spos.line v = pure false))
    (hl : (relS scope G.sc).names.lookup x = some .local ∨ (relS scope G.sc).names.lookup x = some .cell := by first | exact .inl rfl | exact .inr rfl)
    (hf : scope.names.lookup x = some .cell ∨ (relS scope G.sc).names.lookup x = some .local := by first | exact .inl rfl | exact .inr rfl) (hs : ∀ (v : Env) y, foldedSetIterable iter v y = pure y := by exact fun _ _ => rfl) :
    Rs G (.Assign [.Name y py] (.ListComp elt [⟨.Name x pt, iter, ifsOf t, 0⟩] scope pos) spos :: rest) env N := fun X hX => by
  obtain ⟨wi, hw, rd⟩ := h X hX.g
  intro pins s σ Hc H D I R q
  refine (pss_cons (r_lcAny i j sw hX hw hnd hb hj hi hy hsw hl hf hs) (pssR hX rest)).run pins s σ H D I ?_
  show tLc wi (gName j) (tIfs (G.blk scope) t) (tW (G.blk scope) elt) [j] σ H fun v H1 => tRs G rest D (σ.set i (some v)) H1
  refine lc_read R (rd σ Hc H · R) fun A vs acc e2 Hc2 H2 ⟨il, pf⟩ nw => ?_
  show tRs G rest D (σ.set i (some (.ref A))) H2
  cases own with
  | true =>
    have g := go_asgOw nw (lt_of_N nw.go.rep il)
    exact tRs.use g.rep pf (q.from g)
  | false =>
    have z := nw.freeze
    have g2 := go_asg (j := i) (t := .va (.list acc)) (o := some (V.ref A)) z.1.rep rfl ⟨_, rfl, z.2⟩
    exact tRs.use g2.rep pf (q.from (z.1.trans g2))
end
/-- x = [], to be changed later -/
theorem r_new (i : Nat) (hnd : G.N.Nodup) (hil : i < env.length) (h : Rs G rest (env.set i (.ow [])) N) {p2 : Pos} (hi : G.N[i]? = some x := by rfl) (hx : Loc G.sc x := by first | exact Or.inl rfl | exact Or.inr rfl) : Rs G (.Assign [.Name x px] (.List [] p2) pos :: rest) env N :=
  Rs.of (fun X => tSeq (tAsg (tLst tNil) (gName i)) (tRs G rest)) (fun X hX => pss_cons (ps_set (i := i) (hX.nodup hnd) (hX.at' hi) (hX.loc hx) (pe_lst pa_nil) rfl (.inl (hX.fn x))) (pssR hX rest)) fun X hX σ Hc H D R q =>
    ⟨Nat.zero_le _, fun p hp => by
      have nw : Nw Hc H σ env p [] [] Hc (upd H p (.lst [])) env := ⟨go_new R hp, hp, upd_same, .nil, Same.free R.same hp, own_ne_new R hp⟩
      have g := go_asgOw nw (lt_of_N R hil)
      exact tRs.use g.rep h (q.from g)⟩
/-- e; -/
theorem r_expr (h : W G e env fun _ e1 => Rs G rest e1 N) (hs : ∀ (v : Env) y, swapsWith e none y v = pure false := by exact fun _ _ => rfl) : Rs G (.Expr e pos :: rest) env N :=
  Rs.of (fun X => tSeq (tDrop (tW G e)) (tRs G rest)) (fun X hX => pss_cons (ps_expr (peW hX.g e) (hs _ _)) (pssR hX rest)) fun X hX σ Hc H D R q =>
    tW.use R h fun v d e1 Hc1 H1 hr go t => tRs.use go.rep hr (q.from go)
/-- return -/
theorem r_ret (h : W G e env N.rt) : Rs G (.Return (some e) pos :: rest) env N :=
  Rs.of (fun X => tSeq (tRet (tW G e)) tNever) (fun X hX => pss_cons (ps_ret (peW hX.g e)) pss_never) fun X hX σ Hc H D R q =>
    tW.use R h fun v d e1 Hc1 H1 p go t => q.rt v d e1 σ Hc1 H1 p go t
/-- if -/
theorem r_if {c : Expr} {A B : List Stmt} (h : WT G c env fun k e1 => if k = true then Rs G A e1 { N with nx := fun e2 => Rs G rest e2 N } else Rs G B e1 { N with nx := fun e2 => Rs G rest e2 N }) : Rs G (.If c A B pos :: rest) env N :=
  Rs.of (fun X => tSeq (tIfS (tWT G c) (tRs G A) (tRs G B)) (tRs G rest)) (fun X hX => pss_cons (ps_if (ptW hX.g c) (pssR hX A) (pssR hX B)) (pssR hX rest)) fun X hX σ Hc H D R q => by
    refine ⟨Hc, env, _, R, h, fun k e1 Hc1 H1 pk go => ?_⟩
    have f : FinS Hc1 H1 σ e1 { N with nx := fun e2 => Rs G rest e2 N } { D with nx := tRs G rest D } := by
      have f0 := q.from go
      exact ⟨fun e σ' Hc' H' p g => tRs.use g.rep p (f0.from g), f0.rt, f0.bk, f0.ct, f0.rv⟩
    cases k with
    | true => exact tRs.use go.rep pk f
    | false => exact tRs.use go.rep pk f
/-- for x in .. -/
theorem r_for (j : Nat) {iter : Expr} {body : List Stmt} (hnd : G.N.Nodup)
    (h : WI G (.Name x px) iter env fun ds e1 => ∃ J : Nat → En → Prop, J 0 e1 ∧ (∀ i d e, ds[i]? = some d → J i e → Rs G body (e.set j (.va d)) { nx := J (i + 1), ct := J (i + 1), rt := N.rt, rv := N.rv, bk := fun e2 => Rs G rest e2 N }) ∧ ∀ e, J ds.length e → Rs G rest e N)
    (hj : G.N[j]? = some x := by rfl) (hx : Loc G.sc x := by first | exact Or.inl rfl | exact Or.inr rfl) (hs : ∀ (v : Env) y, foldedSetIterable iter v y = pure y := by exact fun _ _ => rfl) : Rs G (.For (.Name x px) iter body [] pos :: rest) env N := fun X hX => by
  obtain ⟨wi, hw, rd⟩ := h X hX.g
  intro pins s σ Hc H D I R q
  refine (pss_cons (ps_for (by rw [hX.xe]; exact PassesOwn.never) hX.g.calm hw (pg_name (i := j) (hX.nodup hnd) (hX.at' hj) (hX.loc hx) (.inl (hX.fn x))) (pssR hX body) (hs X.env)) (pssR hX rest)).run pins s σ H D I ?_
  refine rd σ Hc H _ R fun ds J e1 Hc1 H1 ⟨JJ, j0, js, jF⟩ go wk => ?_
  obtain ⟨vs0, tv, wgo, wyld, wstop⟩ := wk
  have lv := tv.length
  refine ⟨fun i m σ' H' => m = vs0.length - i ∧ i ≤ vs0.length ∧ ∃ Hc' e, JJ i e ∧ Go Hc H σ env Hc' H' σ' e ∧ Same Hc1 Hc', ⟨vs0.length, by omega, Nat.zero_le _, Hc1, e1, j0, go, .refl _⟩, ?_⟩
  rintro i m σ2 H2 ⟨em, hi, Hc2, e2, hJ, g2, sm⟩
  subst em
  have s12 : Same Hc1 H2 := sm.trans g2.rep.same
  by_cases hlt : i < vs0.length
  · refine .inr ⟨wgo H2 s12 i hlt, fun σ' H' => ∃ Hc' e, JJ (i + 1) e ∧ Go Hc H σ env Hc' H' σ' e ∧ Same Hc1 Hc', fun σ' H' ⟨Hc', e, p1, p2, p3⟩ => ⟨vs0.length - (i + 1), by omega, rfl, hlt, Hc', e, p1, p2, p3⟩, fun v H' y => ?_⟩
    obtain ⟨eH, ex⟩ := wyld i H2 v H' s12 y hlt
    subst eH
    obtain ⟨d, ed, td⟩ := tv.getV ex
    have ga := go_asg (j := j) (t := .va d) (o := some v) g2.rep rfl ⟨v, rfl, td.mono sm⟩
    have gb := g2.trans ga
    refine tRs.use ga.rep (js i d e2 ed hJ) ⟨fun e σ' Hc' H' p g => ⟨Hc', e, p, gb.trans g, sm.trans g.core⟩, fun v d e σ' Hc' H' p g => q.rt v d e σ' Hc' H' p (gb.trans g), fun e σ' Hc' H' p g => ?_, fun e σ' Hc' H' p g => ⟨Hc', e, p, gb.trans g, sm.trans g.core⟩, (q.from gb).rv⟩
    exact tRs.use g.rep p (q.from (gb.trans g))
  · have e : i = vs0.length := by omega
    subst e
    exact .inl ⟨wstop H2 s12, tRs.use g2.rep (jF e2 (by rw [← lv]; exact hJ)) (q.from g2)⟩
end
end TL

namespace TL
open PySem PySem.Spec PyProof.Rows L2
section
variable {G : Gx} {env : En} {N : DE} {rest ss : List Stmt} {e a b c : Expr} {pos px py pz pt : Pos} {x y z : Str} {P : PyData → En → Prop}
theorem set_len {env : En} {i j : Nat} {s : Sl} : (j < (env.set i s).length) = (j < env.length) := by rw [List.length_set]
/-- x, y = a, b, plain locals -/
theorem r_par2 (i j : Nat) {k1 k2} (h : WA G [a, b] env fun ds e1 => ∃ d d', ds = [d, d'] ∧ Rs G rest ((e1.set i (.va d)).set j (.va d')) N) (hnd : G.N.Nodup)
    (hw : ∀ v : Env, v.scope = G.sc → swappedStores [.Tuple [.Name x px, .Name y py] k1 pt] (.Tuple [a, b] k2 pz) v = pure (some [x, y]))
    (hij : i ≠ j := by decide) (hi : G.N[i]? = some x := by rfl) (hj : G.N[j]? = some y := by rfl) (hx : G.sc.names.lookup x = some .local := by rfl) (hy : G.sc.names.lookup y = some .local := by rfl) (ns : noStar [a, b] = true := by rfl)
     : Rs G (.Assign [.Tuple [.Name x px, .Name y py] k1 pt] (.Tuple [a, b] k2 pz) pos :: rest) env N :=
  Rs.of (fun X => tSeq (tPar i j (tWA G [a, b])) (tRs G rest)) (fun X hX => pss_cons (ps_par hX.g.calm (hX.nodup hnd) (hX.at' hi) (hX.at' hj) hij (by rw [hX.g.sc]; exact hx) (by rw [hX.g.sc]; exact hy) (paW hX.g _ ns) (hw _ hX.g.sc) rfl) (pssR hX rest)) fun X hX σ Hc H D R q =>
    tWA.use R h fun vs ds e1 Hc1 H1 ⟨d, d', ed, hr⟩ go t => by
      subst ed
      cases t with
      | @cons v _ vs' _ t1 t =>
        cases t with
        | @cons v' _ _ _ t2 t3 =>
          cases t3
          have g1 := go_asg (j := i) (t := .va d) (o := some v) go.rep rfl ⟨v, rfl, t1⟩
          have g2 := go_asg (j := j) (t := .va d') (o := some v') g1.rep rfl ⟨v', rfl, t2⟩
          exact ⟨v, v', rfl, tRs.use g2.rep hr (q.from ((go.trans g1).trans g2))⟩
theorem r_par3 (i j l : Nat) {k1 k2} (h : WA G [a, b, c] env fun ds e1 => ∃ d d' d2, ds = [d, d', d2] ∧ Rs G rest (((e1.set i (.va d)).set j (.va d')).set l (.va d2)) N) (hnd : G.N.Nodup) {pw : Pos}
    (hw : ∀ v : Env, v.scope = G.sc → swappedStores [.Tuple [.Name x px, .Name y py, .Name z pw] k1 pt] (.Tuple [a, b, c] k2 pz) v = pure (some [x, y, z]))
    (hij : i ≠ j := by decide) (hil : i ≠ l := by decide) (hjl : j ≠ l := by decide) (hi : G.N[i]? = some x := by rfl) (hj : G.N[j]? = some y := by rfl) (hl : G.N[l]? = some z := by rfl) (hx : G.sc.names.lookup x = some .local := by rfl) (hy : G.sc.names.lookup y = some .local := by rfl) (hz : G.sc.names.lookup z = some .local := by rfl) (ns : noStar [a, b, c] = true := by rfl)
     : Rs G (.Assign [.Tuple [.Name x px, .Name y py, .Name z pw] k1 pt] (.Tuple [a, b, c] k2 pz) pos :: rest) env N :=
  Rs.of (fun X => tSeq (tPar3 i j l (tWA G [a, b, c])) (tRs G rest)) (fun X hX => pss_cons (ps_par3 hX.g.calm (hX.nodup hnd) (hX.at' hi) (hX.at' hj) (hX.at' hl) hij hil hjl (by rw [hX.g.sc]; exact hx) (by rw [hX.g.sc]; exact hy) (by rw [hX.g.sc]; exact hz) (paW hX.g _ ns) (hw _ hX.g.sc) rfl) (pssR hX rest)) fun X hX σ Hc H D R q =>
    tWA.use R h fun vs ds e1 Hc1 H1 ⟨d, d', d2, ed, hr⟩ go t => by
      subst ed
      cases t with
      | @cons v _ vs' _ t1 t =>
        cases t with
        | @cons v' _ _ _ t2 t3 =>
          cases t3 with
          | @cons v2 _ _ _ t3 t4 =>
            cases t4
            have g1 := go_asg (j := i) (t := .va d) (o := some v) go.rep rfl ⟨v, rfl, t1⟩
            have g2 := go_asg (j := j) (t := .va d') (o := some v') g1.rep rfl ⟨v', rfl, t2⟩
            have g3 := go_asg (j := l) (t := .va d2) (o := some v2) g2.rep rfl ⟨v2, rfl, t3⟩
            exact ⟨v, v', v2, rfl, tRs.use g3.rep hr (q.from (((go.trans g1).trans g2).trans g3))⟩
/-- x, y = e (a tuple of two); three below -/
theorem r_un2 (i j : Nat) {k1} (h : W G e env fun d e1 => ∃ d1 d2, d = .tuple [d1, d2] ∧ Rs G rest ((e1.set i (.va d1)).set j (.va d2)) N) (hnd : G.N.Nodup)
    (hw : ∀ v : Env, v.scope = G.sc → swappedStores [.Tuple [.Name x px, .Name y py] k1 pt] e v = pure none)
    (hi : G.N[i]? = some x := by rfl) (hj : G.N[j]? = some y := by rfl) (hx : Loc G.sc x := by first | exact Or.inl rfl | exact Or.inr rfl) (hy : Loc G.sc y := by first | exact Or.inl rfl | exact Or.inr rfl)
    (hs : ∀ (v : Env) l, v.scope = G.sc → swapsWithSole [.Tuple [.Name x px, .Name y py] k1 pt] e l v = pure false := by exact fun _ _ _ => rfl) :
    Rs G (.Assign [.Tuple [.Name x px, .Name y py] k1 pt] e pos :: rest) env N :=
  Rs.of (fun X => tSeq (tAsg (tW G e) (gTup X.K 2 (gCons (gName i) (gCons (gName j) gNil)))) (tRs G rest)) (fun X hX => pss_cons (ps_asg (peW hX.g e)
      (pg_tup hX.g.calm (pgs_cons (pg_name (i := i) (hX.nodup hnd) (hX.at' hi) (hX.loc hx) (.inl (hX.fn x))) (pgs_cons (pg_name (i := j) (hX.nodup hnd) (hX.at' hj) (hX.loc hy) (.inl (hX.fn y))) pgs_nil)) rfl rfl) (hs _ _ hX.g.sc) (hw _ hX.g.sc) rfl) (pssR hX rest)) fun X hX σ Hc H D R q =>
    tW.use R h fun v d e1 Hc1 H1 ⟨d1, d2, ed, hr⟩ go t => by
      subst ed
      cases t with
      | tup m t =>
        cases t with
        | @cons v1 _ _ _ t1 t =>
          cases t with
          | @cons v2 _ _ _ t2 t =>
            cases t
            have g1 := go_asg (j := i) (t := .va d1) (o := some v1) go.rep rfl ⟨v1, rfl, t1⟩
            have g2 := go_asg (j := j) (t := .va d2) (o := some v2) g1.rep rfl ⟨v2, rfl, t2⟩
            exact ⟨_, _, rfl, SqT.of (go.rep.same _ _ m), rfl, v1, [v2], rfl, v2, [], rfl, rfl, tRs.use g2.rep hr (q.from ((go.trans g1).trans g2))⟩
theorem r_un3 (i j l : Nat) {k1} {pw : Pos} (h : W G e env fun d e1 => ∃ d1 d2 d3, d = .tuple [d1, d2, d3] ∧ Rs G rest (((e1.set i (.va d1)).set j (.va d2)).set l (.va d3)) N) (hnd : G.N.Nodup)
    (hw : ∀ v : Env, v.scope = G.sc → swappedStores [.Tuple [.Name x px, .Name y py, .Name z pw] k1 pt] e v = pure none)
    (hi : G.N[i]? = some x := by rfl) (hj : G.N[j]? = some y := by rfl) (hl : G.N[l]? = some z := by rfl) (hx : Loc G.sc x := by first | exact Or.inl rfl | exact Or.inr rfl) (hy : Loc G.sc y := by first | exact Or.inl rfl | exact Or.inr rfl) (hz : Loc G.sc z := by first | exact Or.inl rfl | exact Or.inr rfl)
    (hs : ∀ (v : Env) l, v.scope = G.sc → swapsWithSole [.Tuple [.Name x px, .Name y py, .Name z pw] k1 pt] e l v = pure false := by exact fun _ _ _ => rfl) :
    Rs G (.Assign [.Tuple [.Name x px, .Name y py, .Name z pw] k1 pt] e pos :: rest) env N :=
  Rs.of (fun X => tSeq (tAsg (tW G e) (gTup X.K 3 (gCons (gName i) (gCons (gName j) (gCons (gName l) gNil))))) (tRs G rest)) (fun X hX => pss_cons (ps_asg (peW hX.g e)
      (pg_tup hX.g.calm (pgs_cons (pg_name (i := i) (hX.nodup hnd) (hX.at' hi) (hX.loc hx) (.inl (hX.fn x))) (pgs_cons (pg_name (i := j) (hX.nodup hnd) (hX.at' hj) (hX.loc hy) (.inl (hX.fn y))) (pgs_cons (pg_name (i := l) (hX.nodup hnd) (hX.at' hl) (hX.loc hz) (.inl (hX.fn z))) pgs_nil))) rfl rfl) (hs _ _ hX.g.sc) (hw _ hX.g.sc) rfl) (pssR hX rest)) fun X hX σ Hc H D R q =>
    tW.use R h fun v d e1 Hc1 H1 ⟨d1, d2, d3, ed, hr⟩ go t => by
      subst ed
      cases t with
      | tup m t =>
        cases t with
        | @cons v1 _ _ _ t1 t =>
          cases t with
          | @cons v2 _ _ _ t2 t =>
            cases t with
            | @cons v3 _ _ _ t3 t =>
              cases t
              have g1 := go_asg (j := i) (t := .va d1) (o := some v1) go.rep rfl ⟨v1, rfl, t1⟩
              have g2 := go_asg (j := j) (t := .va d2) (o := some v2) g1.rep rfl ⟨v2, rfl, t2⟩
              have g3 := go_asg (j := l) (t := .va d3) (o := some v3) g2.rep rfl ⟨v3, rfl, t3⟩
              exact ⟨_, _, rfl, SqT.of (go.rep.same _ _ m), rfl, v1, [v2, v3], rfl, v2, [v3], rfl, v3, [], rfl, rfl, tRs.use g3.rep hr (q.from (((go.trans g1).trans g2).trans g3))⟩
/-- the object of an owned slot is changed -/
theorem go_own {Hc H : Hp} {σ : L2.St} {i : Nat} {s t : Sl} {p : Addr} {o : HO} (R : Rp Hc H σ env) (he : env[i]? = some s) (so : s.own = true) (ep : σ[i]? = some (some (.ref p))) (hc : Hc p = none) (ot : t.own = true) (hk : SlotOk Hc (upd H p o) t σ[i]?) :
    Go Hc H σ env Hc (upd H p o) σ (env.set i t) := by
  have hs : ∀ {j : Nat} {u : Sl}, (env.set i t)[j]? = some u → (j = i ∧ u = t) ∨ (j ≠ i ∧ env[j]? = some u) := by
    intro j u e
    by_cases hj : j = i
    · subst hj
      rw [List.getElem?_set_self (sl_lt he)] at e
      cases e
      exact .inl ⟨rfl, rfl⟩
    · rw [List.getElem?_set_ne (Ne.symm hj)] at e
      exact .inr ⟨hj, e⟩
  have op : Own σ env p := ⟨i, s, he, so, ep⟩
  have es : ∀ {j : Nat} {u : Sl}, (env.set i t)[j]? = some u → u.own = true → ∃ u', env[j]? = some u' ∧ u'.own = true := by
    intro j u e o
    rcases hs e with ⟨e1, e2⟩ | ⟨e1, e2⟩
    · rw [e1]
      exact ⟨_, he, so⟩
    · exact ⟨u, e2, o⟩
  refine ⟨⟨fun b u e => ?_, fun j u e => ?_, fun j l u v b h1 h2 h3 h4 h5 h6 => ?_, by rw [List.length_set]; exact R.len⟩, .refl _, fun b u e n => ?_, fun b e c _ => c, fun b o => ?_, fun b e => ?_⟩
  · rw [upd_ne (ne_of_none e hc)]
    exact R.same b u e
  · rcases hs e with ⟨e1, e2⟩ | ⟨e1, e2⟩
    · subst e1 e2
      exact hk
    · have q := R.ok j u e2
      have away : ∀ b, σ[j]? = some (some (.ref b)) → u.own = true → b ≠ p := fun b q1 q2 z => by
        subst z
        exact e1 (R.inj j i u s b e2 he q2 so q1 ep)
      cases u with
      | no => trivial
      | va d => exact q
      | raw v φ => exact q
      | ow ds' => obtain ⟨b, ws, u, c, u', t'⟩ := q; exact ⟨b, ws, u, c, by rw [upd_ne (away b u rfl)]; exact u', t'⟩
      | dk b kvs => obtain ⟨ws, u, c, u', t'⟩ := q; exact ⟨ws, u, c, by rw [upd_ne (away b u rfl)]; exact u', t'⟩
      | ms b n =>
        obtain ⟨u, ⟨c, l, s, p, b', ns, h1, h2, h3⟩⟩ := q
        exact ⟨u, c, l, s, p, b', ns, by rw [upd_ne (away b u rfl)]; exact h1, h2, h3⟩
  · obtain ⟨s1, f1, g1⟩ := es h1 h3
    obtain ⟨s2, f2, g2⟩ := es h2 h4
    exact R.inj j l s1 s2 b f1 f2 g1 g2 h5 h6
  · have hb : b ≠ p := fun z => n (z ▸ op)
    rw [upd_ne hb]
    exact e
  · obtain ⟨j, u, h1, h2, h3⟩ := o
    obtain ⟨s1, f1, g1⟩ := es h1 h2
    exact .inl ⟨j, s1, f1, g1, h3⟩
  · by_cases hb : b = p
    · rw [hb, upd_same]
      simp
    · rw [upd_ne hb]
      exact e
/-- x.append(e) -/
theorem r_append (i : Nat) {ds0 : List PyData} (he : env[i]? = some (.ow ds0)) (h : W G e env fun d e1 => ∃ ds, e1[i]? = some (.ow ds) ∧ ds.length < 100000 ∧ Rs G rest (e1.set i (.ow (ds ++ [d]))) N)
    {pa pc ps2 : Pos} (hi : G.N[i]? = some x := by rfl) (hv : Vis G.sc x := by first | exact Or.inl rfl | exact Or.inr (Or.inl rfl) | exact Or.inr (Or.inr rfl)) (ns : noStar [e] = true := by rfl) (hline : (pa.endLine == pc.line) = true := by rfl)
    (hd : (x == ("__debug__" : Str)) = false := by decide) (hcd : (x == ("__classdict__" : Str)) = false := by decide) :
    Rs G (.Expr (.Call (.Attribute (.Name x px) "append" pa) [e] [] pc) ps2 :: rest) env N :=
  Rs.of (fun X => tSeq (tDrop (tBM X.K "list" rAppend (tVar i) (tCons (tW G e) tNil))) (tRs G rest)) (fun X hX => pss_cons (ps_expr (pe_bm PySem.F.plainAttrs_list PySem.F.slot_list_append PySem.F.type_list_append mt_append (pvG hX.g i hi hv hd hcd) (paW hX.g [e] ns) rfl (by rw [star_cons (noStar_cons ns).1]; rfl) hline (star_cons (noStar_cons ns).1) (star_any (noStar_cons ns).2)) rfl) (pssR hX rest)) fun X hX σ Hc H D R q => by
    obtain ⟨p0, vs0, ep, c0, m0, _⟩ := R.ok i _ he
    refine ⟨_, ep, .inl ⟨rfl, _, SqL.of m0⟩, tW.use R h fun v d e1 Hc1 H1 ⟨ds, ed, hl, hr⟩ go t => ?_⟩
    obtain ⟨p1, vs1, ep1, c1, m1, t1⟩ := go.rep.ok i _ ed
    rw [ep] at ep1
    cases ep1
    refine ⟨p0, vs1, v, rfl, rfl, m1, by rw [t1.length]; exact Nat.lt_of_lt_of_le hl (by decide), ?_⟩
    have g := go_own (o := .lst (vs1 ++ [v])) (t := .ow (ds ++ [d])) go.rep ed rfl ep c1 rfl (by rw [ep]; exact ⟨p0, _, rfl, c1, upd_same, Trs.append t1 (.cons t .nil)⟩)
    exact tRs.use g.rep hr (q.from (go.trans g))
/-- x[a] = e, x an owned list -/
theorem r_setL (i : Nat) (h : W G e env fun d e1 => ∃ ds1, e1[i]? = some (.ow ds1) ∧ W G a e1 fun k e2 => ∃ ds j l, e2[i]? = some (.ow ds) ∧ k = .int j ∧ ixN ds.length j = some l ∧ Rs G rest (e2.set i (.ow (ds.set l d))) N)
    {ps2 : Pos} (hi : G.N[i]? = some x := by rfl) (hv : Vis G.sc x := by first | exact Or.inl rfl | exact Or.inr (Or.inl rfl) | exact Or.inr (Or.inr rfl))
    (hs : ∀ (v : Env) l, v.scope = G.sc → swapsWithSole [.Subscript (.Name x px) a ps2] e l v = pure false := by exact fun _ _ _ => rfl)
    (hw : ∀ v : Env, swappedStores [.Subscript (.Name x px) a ps2] e v = pure none := by exact fun _ => rfl)
    (hsub : ∀ (v : Env) (u : Value), assign (.Subscript (.Name x px) a ps2) v u = (do
      let ov ← holding [u] (eval (.Name x px) v)
      let iv ← holding [u, ov] (eval a v)
      standAt ps2
      holding [u, ov, iv] (setItem ov iv u)
      release [u, ov, iv] []) := by exact fun _ _ => rfl)
    (hd : (x == ("__debug__" : Str)) = false := by decide) (hcd : (x == ("__classdict__" : Str)) = false := by decide) : Rs G (.Assign [.Subscript (.Name x px) a ps2] e pos :: rest) env N :=
  Rs.of (fun X => tSeq (tAsg (tW G e) (gSub (tVar i) (tW G a) rSetL)) (tRs G rest)) (fun X hX => pss_cons (ps_asg (peW hX.g e) (pg_sub (pvG hX.g i hi hv hd hcd) (peW hX.g a) set_list (hsub X.env)) (hs _ _ hX.g.sc) (hw _) rfl) (pssR hX rest)) fun X hX σ Hc H D R q =>
    tW.use R h fun v d e1 Hc1 H1 ⟨ds1, he, hr⟩ go t => by
      obtain ⟨p0, vs0, ep, c0, m0, _⟩ := go.rep.ok i _ he
      refine ⟨_, ep, tW.use go.rep hr fun k dk e2 Hc2 H2 ⟨ds, j, l, ed, ek, el, hr2⟩ go2 tk => ?_⟩
      subst ek
      cases tk
      obtain ⟨p1, vs1, ep1, c1, m1, t1⟩ := go2.rep.ok i _ ed
      rw [ep] at ep1
      cases ep1
      refine ⟨p0, vs1, j, l, rfl, rfl, m1, by rw [t1.length]; exact el, ?_⟩
      have g := go_own (o := .lst (vs1.set l v)) (t := .ow (ds.set l d)) go2.rep ed rfl ep c1 rfl (by rw [ep]; exact ⟨p0, _, rfl, c1, upd_same, Trs.set (t.mono go2.core) l t1⟩)
      exact tRs.use g.rep hr2 (q.from ((go.trans go2).trans g))
/-! ### dicts -/
def valD (kvs : List (Key × PyData)) (k : Key) : Option PyData := (kvs.find? fun kv => decide (kv.1 = k)).map (·.2)
def putD (kvs : List (Key × PyData)) (k : Key) (d : PyData) : List (Key × PyData) :=
  if (kvs.any fun kv => decide (kv.1 = k)) = true then kvs.map (fun kv => if kv.1 = k then (kv.1, d) else kv) else kvs ++ [(k, d)]
theorem KTr.len {H : Hp} : ∀ {ks : List (Key × V)} {kvs : List (Key × PyData)}, KTr H ks kvs → ks.length = kvs.length
  | [], [], _ => rfl
  | (_, _) :: _, (_, _) :: _, ⟨_, _, r⟩ => by rw [List.length_cons, List.length_cons, KTr.len r]
  | [], _ :: _, h => h.elim
  | _ :: _, [], h => h.elim
theorem KTr.val {H : Hp} : ∀ {ks : List (Key × V)} {kvs : List (Key × PyData)} (k : Key), KTr H ks kvs → (valV ks k = none ∧ valD kvs k = none) ∨ ∃ v d, valV ks k = some v ∧ valD kvs k = some d ∧ Tr H v d
  | [], [], k, _ => .inl ⟨rfl, rfl⟩
  | (k1, v) :: r, (k2, d) :: q, k, ⟨e, t, w⟩ => by
    subst e
    by_cases hk : k1 = k
    · exact .inr ⟨v, d, by rw [valV_pos (p := (k1, v)) hk], by unfold valD; rw [List.find?_cons_of_pos (by simpa using hk)]; rfl, t⟩
    · have e1 : valV ((k1, v) :: r) k = valV r k := valV_neg (p := (k1, v)) hk
      have e2 : valD ((k1, d) :: q) k = valD q k := by
        unfold valD
        rw [List.find?_cons_of_neg (by simpa using hk)]
      rw [e1, e2]
      exact KTr.val k w
  | [], _ :: _, _, h => h.elim
  | _ :: _, [], _, h => h.elim
theorem KTr.any {H : Hp} : ∀ {ks : List (Key × V)} {kvs : List (Key × PyData)} (k : Key), KTr H ks kvs → (ks.any fun kv => decide (kv.1 = k)) = (kvs.any fun kv => decide (kv.1 = k))
  | [], [], k, _ => rfl
  | (k1, v) :: r, (k2, d) :: q, k, ⟨e, t, w⟩ => by
    subst e
    rw [List.any_cons, List.any_cons, KTr.any k w]
  | [], _ :: _, _, h => h.elim
  | _ :: _, [], _, h => h.elim
theorem KTr.mapP {H : Hp} {v : V} {d : PyData} (t0 : Tr H v d) (k : Key) : ∀ {ks : List (Key × V)} {kvs : List (Key × PyData)}, KTr H ks kvs → KTr H (ks.map fun kv => if kv.1 = k then (kv.1, v) else kv) (kvs.map fun kv => if kv.1 = k then (kv.1, d) else kv)
  | [], [], _ => trivial
  | (k1, w) :: r, (k2, d2) :: q, ⟨e, t, z⟩ => by
    subst e
    have ih := KTr.mapP t0 k z
    rw [List.map_cons, List.map_cons]
    by_cases hk : k1 = k
    · rw [if_pos hk, if_pos hk]
      exact ⟨rfl, t0, ih⟩
    · rw [if_neg hk, if_neg hk]
      exact ⟨rfl, t, ih⟩
  | [], _ :: _, h => h.elim
  | _ :: _, [], h => h.elim
theorem KTr.snoc {H : Hp} {v : V} {d : PyData} {k : Key} (t0 : Tr H v d) : ∀ {ks : List (Key × V)} {kvs : List (Key × PyData)}, KTr H ks kvs → KTr H (ks ++ [(k, v)]) (kvs ++ [(k, d)])
  | [], [], _ => ⟨rfl, t0, trivial⟩
  | (_, _) :: _, (_, _) :: _, ⟨e, t, z⟩ => ⟨e, t, KTr.snoc t0 z⟩
  | [], _ :: _, h => h.elim
  | _ :: _, [], h => h.elim
theorem KTr.put {H : Hp} {v : V} {d : PyData} {k : Key} (t0 : Tr H v d) {ks : List (Key × V)} {kvs : List (Key × PyData)} (z : KTr H ks kvs) : KTr H (putK ks k v) (putD kvs k d) := by
  unfold putK putD
  rw [z.any k]
  split
  · exact KTr.mapP t0 k z
  · exact KTr.snoc t0 z
def keyD : PyData → Option Key
  | .int i => some (.inl i)
  | .str x => some (.inr x)
  | _ => none
theorem keyD_tr {H : Hp} {v : V} {d : PyData} {k : Key} (t : Tr H v d) (e : keyD d = some k) : v = kV k := by
  cases t <;> first | (cases e; rfl) | cases e
/-- x = {} -/
theorem r_dnew (i : Nat) (hnd : G.N.Nodup) (hil : i < env.length) (h : ∀ p, Rs G rest (env.set i (.dk p [])) N) {p2 : Pos} (hi : G.N[i]? = some x := by rfl) (hx : Loc G.sc x := by first | exact Or.inl rfl | exact Or.inr rfl) : Rs G (.Assign [.Name x px] (.Dict [] [] p2) pos :: rest) env N :=
  Rs.of (fun X => tSeq (tAsg tDNewK (gName i)) (tRs G rest)) (fun X hX => pss_cons (ps_set (i := i) (hX.nodup hnd) (hX.at' hi) (hX.loc hx) pe_dnewK rfl (.inl (hX.fn x))) (pssR hX rest)) fun X hX σ Hc H D R q =>
    fun p hp => by
      have nw : Nw Hc H σ env p [] [] Hc (upd H p (.dK [])) env → True := fun _ => trivial
      have g0 := go_new (o := .dK []) R hp
      have nd := own_ne_new R hp
      have hc := Same.free R.same hp
      have il := lt_of_N R hil
      have hs : ∀ {j : Nat} {s : Sl}, (env.set i (.dk p []))[j]? = some s → (j = i ∧ s = .dk p []) ∨ (j ≠ i ∧ env[j]? = some s) := by
        intro j s e
        by_cases hj : j = i
        · subst hj
          rw [List.getElem?_set_self hil] at e
          cases e
          exact .inl ⟨rfl, rfl⟩
        · rw [List.getElem?_set_ne (Ne.symm hj)] at e
          exact .inr ⟨hj, e⟩
      have g : Go Hc H σ env Hc (upd H p (.dK [])) (σ.set i (some (.ref p))) (env.set i (.dk p [])) := by
        refine ⟨⟨g0.rep.same, fun j s e => ?_, fun j l s t a h1 h2 h3 h4 h5 h6 => ?_, by rw [List.length_set, List.length_set]; exact R.len⟩, g0.core, g0.kp, g0.out, fun a o => ?_, g0.ex⟩
        · rcases hs e with ⟨e1, e2'⟩ | ⟨e1, e2'⟩
          · subst e1 e2'
            rw [List.getElem?_set_self il]
            exact ⟨[], rfl, hc, upd_same, trivial⟩
          · rw [List.getElem?_set_ne (Ne.symm e1)]
            exact g0.rep.ok j s e2'
        · rcases hs h1 with ⟨e1, e3⟩ | ⟨e1, e3⟩
          · subst e1
            rcases hs h2 with ⟨f1, f3⟩ | ⟨f1, f3⟩
            · exact f1.symm
            · rw [List.getElem?_set_self il] at h5
              cases h5
              rw [List.getElem?_set_ne (Ne.symm f1)] at h6
              exact (nd ⟨_, _, f3, h4, h6⟩).elim
          · rw [List.getElem?_set_ne (Ne.symm e1)] at h5
            rcases hs h2 with ⟨f1, f3⟩ | ⟨f1, f3⟩
            · subst f1
              rw [List.getElem?_set_self il] at h6
              cases h6
              exact (nd ⟨_, _, e3, h3, h5⟩).elim
            · rw [List.getElem?_set_ne (Ne.symm f1)] at h6
              exact R.inj j l s t a e3 f3 h3 h4 h5 h6
        · obtain ⟨j, s, e1, e2', e3⟩ := o
          rcases hs e1 with ⟨f1, f3⟩ | ⟨f1, f3⟩
          · subst f1
            rw [List.getElem?_set_self il] at e3
            cases e3
            exact .inr hp
          · rw [List.getElem?_set_ne (Ne.symm f1)] at e3
            exact .inl ⟨j, s, f3, e2', e3⟩
      exact tRs.use g.rep (h p) (q.from g)
/-- x[a] of an owned dict -/
theorem w_dget (i : Nat) {p : Addr} {kvs : List (Key × PyData)} (hu : G.A.units + 1 < cLine) (he : env[i]? = some (.dk p kvs)) (h : W G a env fun k e2 => ∃ kvs2 k' d, e2[i]? = some (.dk p kvs2) ∧ keyD k = some k' ∧ valD kvs2 k' = some d ∧ P d e2)
    (hi : G.N[i]? = some x := by rfl) (hv : Vis G.sc x := by first | exact Or.inl rfl | exact Or.inr (Or.inl rfl) | exact Or.inr (Or.inr rfl)) (hs : NoSl a := by exact fun _ _ => rfl)
    (hd : (x == ("__debug__" : Str)) = false := by decide) (hcd : (x == ("__classdict__" : Str)) = false := by decide) : W G (.Subscript (.Name x px) a pos) env P :=
  W.of (fun X => tDGet (tVar i) (tW G a)) (fun X hX => pe_dget (by rw [hX.A]; exact hu) (pvG hX i hi hv hd hcd) (peW hX a) hs) fun X hX σ Hc H Q R q => by
    obtain ⟨ks, ep, c0, m0, t0⟩ := R.ok i _ he
    refine ⟨_, ep, tW.use R h fun v dk e2 Hc2 H2 ⟨kvs2, k', d, e3, ek, ev, pd⟩ go t => ?_⟩
    obtain ⟨ks2, ep2, c2, m2, t2⟩ := go.rep.ok i _ e3
    rw [keyD_tr t ek]
    rcases t2.val k' with ⟨_, z⟩ | ⟨w, d', z1, z2, z3⟩
    · rw [ev] at z
      cases z
    · rw [ev] at z2
      cases z2
      have g := DGet.k (k := k') m2
      rw [z1] at g
      exact ⟨p, w, rfl, g, q _ _ _ _ _ pd go z3⟩
/-- k in x, k not in x -/
theorem w_dnin (i : Nat) (hu : G.A.units + 1 < cLine) (h : W G a env fun k e2 => ∃ p kvs k', e2[i]? = some (.dk p kvs) ∧ keyD k = some k' ∧ P (.bool (!(valD kvs k').isSome)) e2)
    (hi : G.N[i]? = some x := by rfl) (hv : Vis G.sc x := by first | exact Or.inl rfl | exact Or.inr (Or.inl rfl) | exact Or.inr (Or.inr rfl))
    (hd : (x == ("__debug__" : Str)) = false := by decide) (hcd : (x == ("__classdict__" : Str)) = false := by decide) : W G (.Compare a [.NotIn] [.Name x px] pos) env P :=
  W.of (fun X => tDNotIn (tW G a) (tVar i)) (fun X hX => pe_cmp (pc_dnotin (by rw [hX.A]; exact hu) (peW hX a) (pvG hX i hi hv hd hcd)) rfl) fun X hX σ Hc H Q R q =>
    tW.use R h fun v dk e2 Hc2 H2 ⟨p, kvs, k', e3, ek, pd⟩ go t => by
      obtain ⟨ks, ep, c0, m0, t0⟩ := go.rep.ok i _ e3
      have g := DGet.k (k := k') m0
      refine ⟨_, ep, p, valV ks k', rfl, by rw [keyD_tr t ek]; exact g, ?_⟩
      have es : (valV ks k').isSome = (valD kvs k').isSome := by
        rcases t0.val k' with ⟨z1, z2⟩ | ⟨w, d', z1, z2, z3⟩
        · rw [z1, z2]
          rfl
        · rw [z1, z2]
          rfl
      rw [es]
      exact q _ _ _ _ _ pd go (.bl _)
/-- len(x) of an owned dict -/
theorem w_lenD (i : Nat) {p0 : Addr} {kvs : List (Key × PyData)} (hm : G.mg "len" = none) (he : env[i]? = some (.dk p0 kvs)) (h : P (.int kvs.length) env) {p : Pos}
    (hi : G.N[i]? = some x := by rfl) (hv : Vis G.sc x := by first | exact Or.inl rfl | exact Or.inr (Or.inl rfl) | exact Or.inr (Or.inr rfl)) (hg : GlG G "len" := by rfl)
    (hd : (x == ("__debug__" : Str)) = false := by decide) (hcd : (x == ("__classdict__" : Str)) = false := by decide) : W G (.Call (.Name "len" p) [.Name x px] [] pos) env P :=
  W.of (fun X => tCB (fun xs H Q => ∃ a kvs, xs = [V.ref a] ∧ H a = some (.dK kvs) ∧ Q (.int kvs.length) H) (tCons (tVar i) tNil)) (fun X hX => pe_callB call_lenD (glX hX hg) (by rw [hX.mg]; exact hm) boot_len (pa_cons (pvG hX i hi hv hd hcd) pa_nil)) fun X hX σ Hc H Q R q => by
    obtain ⟨ks, ep, c0, m0, t0⟩ := R.ok i _ he
    refine ⟨_, ep, _, ks, rfl, m0, ?_⟩
    rw [t0.len]
    exact q _ _ _ _ _ h (.refl R) (.int _)
/-- len(x) of an owned list -/
theorem w_lenO (i : Nat) {ds : List PyData} (hm : G.mg "len" = none) (he : env[i]? = some (.ow ds)) (h : P (.int ds.length) env) {p : Pos}
    (hi : G.N[i]? = some x := by rfl) (hv : Vis G.sc x := by first | exact Or.inl rfl | exact Or.inr (Or.inl rfl) | exact Or.inr (Or.inr rfl)) (hg : GlG G "len" := by rfl)
    (hd : (x == ("__debug__" : Str)) = false := by decide) (hcd : (x == ("__classdict__" : Str)) = false := by decide) : W G (.Call (.Name "len" p) [.Name x px] [] pos) env P :=
  W.of (fun X => tCB (fun xs H Q => ∃ p ys, xs = [.ref p] ∧ (SqL X.K H p ys ∨ SqT X.K H p ys) ∧ Q (.int ys.length) H) (tCons (tVar i) tNil)) (fun X hX => pe_callB call_len_seq (glX hX hg) (by rw [hX.mg]; exact hm) boot_len (pa_cons (pvG hX i hi hv hd hcd) pa_nil)) fun X hX σ Hc H Q R q => by
    obtain ⟨a, vs, ep, c0, m0, t0⟩ := R.ok i _ he
    refine ⟨_, ep, _, vs, rfl, .inl (SqL.of m0), ?_⟩
    rw [t0.length]
    exact q _ _ _ _ _ h (.refl R) (.int _)
/-- x[a] = e of an owned dict -/
theorem r_dput (i : Nat) (hu : G.A.units + 1 < cLine) (h : W G e env fun d e1 => ∃ p kvs1, e1[i]? = some (.dk p kvs1) ∧ W G a e1 fun k e2 => ∃ kvs k', e2[i]? = some (.dk p kvs) ∧ keyD k = some k' ∧ kvs.length < 100000 ∧ Rs G rest (e2.set i (.dk p (putD kvs k' d))) N)
    {ps2 : Pos} (hi : G.N[i]? = some x := by rfl) (hv : Vis G.sc x := by first | exact Or.inl rfl | exact Or.inr (Or.inl rfl) | exact Or.inr (Or.inr rfl))
    (hs : ∀ (v : Env) l, v.scope = G.sc → swapsWith e (some (.Subscript (.Name x px) a ps2)) l v = pure false := by exact fun _ _ _ => rfl)
    (hd : (x == ("__debug__" : Str)) = false := by decide) (hcd : (x == ("__classdict__" : Str)) = false := by decide) : Rs G (.Assign [.Subscript (.Name x px) a ps2] e pos :: rest) env N :=
  Rs.of (fun X => tSeq (sDPut (tVar i) (tW G a) (tW G e)) (tRs G rest)) (fun X hX => pss_cons (ps_dput (by rw [hX.g.A]; exact hu) (pvG hX.g i hi hv hd hcd) (peW hX.g a) (peW hX.g e) (hs _ _ hX.g.sc)) (pssR hX rest)) fun X hX σ Hc H D R q =>
    tW.use R h fun v d e1 Hc1 H1 ⟨p, kvs1, he, hr⟩ go t => by
      obtain ⟨ks0, ep, c0, m0, _⟩ := go.rep.ok i _ he
      refine ⟨_, ep, tW.use go.rep hr fun k dk e2 Hc2 H2 ⟨kvs, k', ed, ek, hl, hr2⟩ go2 tk => ?_⟩
      obtain ⟨ks, ep1, c1, m1, t1⟩ := go2.rep.ok i _ ed
      rw [keyD_tr tk ek]
      refine ⟨p, _, rfl, DPut.k m1 (by rw [t1.len]; exact Nat.lt_of_lt_of_le hl (by decide)), ?_⟩
      have g := go_own (o := .dK (putK ks k' v)) (t := .dk p (putD kvs k' d)) go2.rep ed rfl ep1 c1 rfl (by rw [ep1]; exact ⟨_, rfl, c1, upd_same, KTr.put (t.mono go2.core) t1⟩)
      exact tRs.use g.rep hr2 (q.from ((go.trans go2).trans g))
/-- x.setdefault(a, b) -/
theorem w_dset (i : Nat) {p : Addr} {kvs0 : List (Key × PyData)} (he : env[i]? = some (.dk p kvs0)) (h : W G a env fun k e1 => W G b e1 fun d e2 => ∃ kvs k', e2[i]? = some (.dk p kvs) ∧ keyD k = some k' ∧ kvs.length < 100000 ∧
      (∀ d', valD kvs k' = some d' → P d' e2) ∧ (valD kvs k' = none → P d (e2.set i (.dk p (putD kvs k' d)))))
    {pa pc : Pos} (hi : G.N[i]? = some x := by rfl) (hv : Vis G.sc x := by first | exact Or.inl rfl | exact Or.inr (Or.inl rfl) | exact Or.inr (Or.inr rfl)) (ns : noStar [a, b] = true := by rfl) (hline : (pa.endLine == pc.line) = true := by rfl)
    (hd : (x == ("__debug__" : Str)) = false := by decide) (hcd : (x == ("__classdict__" : Str)) = false := by decide) : W G (.Call (.Attribute (.Name x px) "setdefault" pa) [a, b] [] pc) env P :=
  W.of (fun X => tDSetd (tVar i) (tW G a) (tW G b)) (fun X hX => pe_dsetd (pvG hX i hi hv hd hcd) (peW hX a) (peW hX b) ⟨rfl, by rw [star_cons (noStar_cons ns).1, star_cons (noStar_cons (noStar_cons ns).2).1]; rfl, hline, by rw [star_cons (noStar_cons ns).1, star_cons (noStar_cons (noStar_cons ns).2).1]; rfl⟩) fun X hX σ Hc H Q R q => by
    obtain ⟨ks0, ep, c0, m0, _⟩ := R.ok i _ he
    refine ⟨_, ep, p, rfl, .inl ⟨ks0, .inl m0⟩, tW.use R h fun v dk e1 Hc1 H1 h2 go t => tW.use go.rep h2 fun w d e2 Hc2 H2 ⟨kvs, k', ed, ek, hl, h3, h4⟩ go2 tw => ?_⟩
    obtain ⟨ks, ep1, c1, m1, t1⟩ := go2.rep.ok i _ ed
    refine ⟨ks, k', m1, keyD_tr t ek, by rw [t1.len]; exact Nat.lt_of_lt_of_le hl (by decide), fun v' ev => ?_, fun ev => ?_⟩
    · rcases t1.val k' with ⟨z, _⟩ | ⟨w', d', z1, z2, z3⟩
      · rw [ev] at z
        cases z
      · rw [ev] at z1
        cases z1
        exact q _ _ _ _ _ (h3 d' z2) (go.trans go2) z3
    · rcases t1.val k' with ⟨_, z⟩ | ⟨w', d', z1, z2, z3⟩
      · have g := go_own (o := .dK (putK ks k' w)) (t := .dk p (putD kvs k' d)) go2.rep ed rfl ep1 c1 rfl (by rw [ep1]; exact ⟨_, rfl, c1, upd_same, KTr.put tw t1⟩)
        exact q _ _ _ _ _ (h4 z) ((go.trans go2).trans g) tw
      · rw [ev] at z1
        cases z1
end
end TL

namespace TL
open PySem PySem.Spec PyProof.Rows L2
section
variable {G : Gx} {env : En} {N : DE} {rest ss : List Stmt} {e a b c : Expr} {pos px py pz pt : Pos} {x y z : Str} {P : PyData → En → Prop} {PB : Bool → En → Prop}
/-! ### comparisons as tests -/
theorem wt_cmp {op : CmpOp} {r : Cx → R2} (ho : ∀ X, InG G X → OpR X (compareOp op) (r X)) (hm : behindInMarks op b = false) (h : ∀ X, InG G X → W G a env fun x e1 => W G b e1 fun y e2 => BR (r X) x y fun d => ∃ k, d = .bool k ∧ PB k e2) : WT G (.Compare a [op] [b] pos) env PB :=
  WT.of (fun X => tTest (tOp (r X) (tW G a) (tW G b))) (fun X hX => pt_cmpR (ho X hX) (peW hX a) (peW hX b) hm) fun X hX σ Hc H Q R q => by
    show tOp (r X) (tW G a) (tW G b) σ H fun x H' => ∃ k, x = .bl k ∧ Q k H'
    refine tOp_read R (P := fun d e2 => ∃ k, d = .bool k ∧ PB k e2) (fun v d e2 Hc' H' ⟨k, ed, pk⟩ go t => ?_) (h X hX)
    subst ed
    cases t
    exact ⟨k, rfl, q _ _ _ _ pk go⟩
theorem wt_lt (h : I2 G a b env fun i j e => PB (decide (i < j)) e) : WT G (.Compare a [.Lt] [b] pos) env PB :=
  wt_cmp (fun _ _ => op_lt) (nomark _) fun X hX => h.w fun i j e p => br_int0 (d := fun i j => .bool (decide (i < j))) (fun _ _ _ => .bl _) ⟨_, rfl, p⟩
theorem wt_le (h : I2 G a b env fun i j e => PB (decide (i ≤ j)) e) : WT G (.Compare a [.LtE] [b] pos) env PB :=
  wt_cmp (fun _ _ => op_le) (nomark _) fun X hX => h.w fun i j e p => br_int0 (d := fun i j => .bool (decide (i ≤ j))) (fun _ _ _ => .bl _) ⟨_, rfl, p⟩
theorem wt_gt (h : I2 G a b env fun i j e => PB (decide (j < i)) e) : WT G (.Compare a [.Gt] [b] pos) env PB :=
  wt_cmp (fun _ _ => op_gt) (nomark _) fun X hX => h.w fun i j e p => br_int0 (d := fun i j => .bool (decide (j < i))) (fun _ _ _ => .bl _) ⟨_, rfl, p⟩
theorem wt_ge (h : I2 G a b env fun i j e => PB (decide (j ≤ i)) e) : WT G (.Compare a [.GtE] [b] pos) env PB :=
  wt_cmp (fun _ _ => op_ge) (nomark _) fun X hX => h.w fun i j e p => br_int0 (d := fun i j => .bool (decide (j ≤ i))) (fun _ _ _ => .bl _) ⟨_, rfl, p⟩
theorem wt_eqF (h : W G a env fun x e1 => W G b e1 fun y e2 => ∃ u v, flatD x = some u ∧ flatD y = some v ∧ scal u v = true ∧ PB (decide (u = v)) e2) : WT G (.Compare a [.Eq] [b] pos) env PB :=
  wt_cmp (fun _ _ => op_eq) (nomark _) fun X hX => W.imp h fun x e1 h2 => W.imp h2 fun y e2 ⟨u, v, e3, e4, e5, p⟩ => by
    intro Hc H u' v' Q s t1 t2 q
    rw [flatD_tr t1 e3, flatD_tr t2 e4]
    exact ⟨e5, q _ _ Hc H ⟨_, rfl, p⟩ (.refl s) (.bl _)⟩
theorem wt_neF (h : W G a env fun x e1 => W G b e1 fun y e2 => ∃ u v, flatD x = some u ∧ flatD y = some v ∧ scal u v = true ∧ PB (!decide (u = v)) e2) : WT G (.Compare a [.NotEq] [b] pos) env PB :=
  wt_cmp (fun _ _ => op_ne) (nomark _) fun X hX => W.imp h fun x e1 h2 => W.imp h2 fun y e2 ⟨u, v, e3, e4, e5, p⟩ => by
    intro Hc H u' v' Q s t1 t2 q
    rw [flatD_tr t1 e3, flatD_tr t2 e4]
    exact ⟨e5, q _ _ Hc H ⟨_, rfl, p⟩ (.refl s) (.bl _)⟩
theorem wt_eqI (h : I2 G a b env fun i j e => PB (decide (i = j)) e) : WT G (.Compare a [.Eq] [b] pos) env PB :=
  wt_eqF (h.w fun i j e p => ⟨_, _, rfl, rfl, rfl, by rw [dec_vi]; exact p⟩)
theorem wt_neI (h : I2 G a b env fun i j e => PB (!decide (i = j)) e) : WT G (.Compare a [.NotEq] [b] pos) env PB :=
  wt_neF (h.w fun i j e p => ⟨_, _, rfl, rfl, rfl, by rw [dec_vi]; exact p⟩)
theorem wt_neD (hu : G.A.units + 64 < cLine) (h : W G a env fun x e1 => W G b e1 fun y e2 => SeqAt.shaped x = true ∧ SeqAt.shaped y = true ∧ PB (!PyData.eqv x y) e2) : WT G (.Compare a [.NotEq] [b] pos) env PB :=
  wt_cmp (r := fun X => rNeD X.K) (fun X hX => op_neD (by rw [hX.A]; exact hu)) (nomark _) fun X hX => W.imp h fun x e1 h2 => W.imp h2 fun y e2 ⟨s1, s2, p⟩ => by
    intro Hc H u' v' Q s t1 t2 q
    exact ⟨x, y, dp_of (t1.mono s), dp_of (t2.mono s), s1, s2, q _ _ Hc H ⟨_, rfl, p⟩ (.refl s) (.bl _)⟩
theorem wt_dnin (i : Nat) (hu : G.A.units + 1 < cLine) (h : W G a env fun k e2 => ∃ p kvs k', e2[i]? = some (.dk p kvs) ∧ keyD k = some k' ∧ PB (!(valD kvs k').isSome) e2)
    (hi : G.N[i]? = some x := by rfl) (hv : Vis G.sc x := by first | exact Or.inl rfl | exact Or.inr (Or.inl rfl) | exact Or.inr (Or.inr rfl))
    (hd : (x == ("__debug__" : Str)) = false := by decide) (hcd : (x == ("__classdict__" : Str)) = false := by decide) : WT G (.Compare a [.NotIn] [.Name x px] pos) env PB :=
  WT.of (fun X => tB (tDNotIn (tW G a) (tVar i))) (fun X hX => pt_cmp (pc_dnotin (by rw [hX.A]; exact hu) (peW hX a) (pvG hX i hi hv hd hcd)) rfl) fun X hX σ Hc H Q R q =>
    tW.use R h fun v dk e2 Hc2 H2 ⟨p, kvs, k', e3, ek, pd⟩ go t => by
      obtain ⟨ks, ep, c0, m0, t0⟩ := go.rep.ok i _ e3
      have g := DGet.k (k := k') m0
      refine ⟨_, ep, p, valV ks k', rfl, by rw [keyD_tr t ek]; exact g, ?_⟩
      have es : (valV ks k').isSome = (valD kvs k').isSome := by
        rcases t0.val k' with ⟨z1, z2⟩ | ⟨w, d', z1, z2, z3⟩
        · rw [z1, z2]
          rfl
        · rw [z1, z2]
          rfl
      rw [es]
      exact ⟨_, rfl, q _ _ _ _ pd go⟩
/-- a constant of the module -/
theorem w_glob {v : V} {u : Value} {d : PyData} (hm : G.mg x = some u) (r : RelV v u) (ed : flatD d = some v) (h : P d env) (hg : GlG G x := by rfl) (hd : (x == ("__debug__" : Str)) = false := by decide) : W G (.Name x pos) env P :=
  W.of (fun _ => tC v) (fun X hX => pe_glob (glX hX hg) (by rw [hX.mg]; exact hm) r hd) fun _ _ σ Hc H Q R q => q _ _ env Hc H h (.refl R) (by
    cases d <;> first | (cases ed; constructor) | cases ed)
/-! ### texts -/
theorem w_join {pa pc : Pos} (h : W G a env fun s e1 => ∃ sep, s = .str sep ∧ W G b e1 fun d e2 => ∃ ys : List Str, itemD d = some (ys.map PyData.str) ∧ (ys.map (·.length)).sum + ys.length * sep.length ≤ 16777216 ∧ P (.str (Str.join sep ys)) e2)
    (ns : noStar [b] = true := by rfl) (hbase : ∀ v : Env, attributeBase a "join" v (eval a v) = eval a v := by exact fun _ => rfl) (hline : (pa.endLine == pc.line) = true := by rfl) : W G (.Call (.Attribute a "join" pa) [b] [] pc) env P :=
  W.of (fun X => _) (fun X hX => pe_join (peW hX a) (peW hX b) (star_cons (noStar_cons ns).1) (hbase _) hline) fun X hX σ Hc H Q R q => by
    refine tW.use R h fun v s e1 Hc1 H1 ⟨sep, es, h2⟩ go t => ?_
    subst es
    cases t
    refine ⟨⟨sep, rfl⟩, tW.use go.rep h2 fun w d e2 Hc2 H2 ⟨ys, ed, hl, pd⟩ go2 t2 => ?_⟩
    have stv : ∀ {ys : List Str} {vs : List V}, Trs Hc2 vs (ys.map PyData.str) → vs = ys.map V.str := by
      intro ys
      induction ys with
      | nil => intro vs t; cases t; rfl
      | cons y r ih => intro vs t; cases t with | cons t u => cases t; rw [ih u]; rfl
    cases t2 with
    | @lst a vs _ m k =>
      cases ed
      have ev := stv k
      subst ev
      refine ⟨sep, a, ys, rfl, rfl, .inl (SqL.of (go2.rep.same _ _ m)), hl, ?_⟩
      rw [join_eq]
      exact q _ _ _ _ _ pd (go.trans go2) (.str _)
    | @tup a vs _ m k =>
      cases ed
      have ev := stv k
      subst ev
      refine ⟨sep, a, ys, rfl, rfl, .inr (SqT.of (go2.rep.same _ _ m)), hl, ?_⟩
      rw [join_eq]
      exact q _ _ _ _ _ pd (go.trans go2) (.str _)
    | non => cases ed
    | bl b => cases ed
    | int b => cases ed
    | str b => cases ed
end
end TL

namespace TL
open PySem PySem.Spec PyProof.Rows L2
/-! ### loops -/
section
variable {G : Gx} {env : En} {N : DE} {rest ss : List Stmt} {e a b c : Expr} {pos px py pz pt : Pos} {x y z : Str} {P : PyData → En → Prop} {PB : Bool → En → Prop}
theorem r_while {body : List Stmt} (J : Nat → En → Prop) (m0 : Nat) (h0 : J m0 env)
    (h : ∀ m e, J m e → WT G c e fun k e1 => if k = true then Rs G body e1 { nx := fun e2 => ∃ m', m' < m ∧ J m' e2, ct := fun e2 => ∃ m', m' < m ∧ J m' e2, bk := fun e2 => Rs G rest e2 N, rt := N.rt, rv := N.rv } else Rs G rest e1 N) : Rs G (.While c body [] pos :: rest) env N :=
  Rs.of (fun X => tSeq (tWhile (tWT G c) (tRs G body)) (tRs G rest)) (fun X hX => pss_cons (ps_while (by rw [hX.xe]; exact PassesOwn.never) (ptW hX.g c) (pssR hX body)) (pssR hX rest)) fun X hX σ Hc H D R q => by
    refine ⟨fun m σ' H' => ∃ Hc' e, J m e ∧ Go Hc H σ env Hc' H' σ' e, ⟨m0, Hc, env, h0, .refl R⟩, ?_⟩
    rintro m σ2 H2 ⟨Hc2, e2, hJ, g2⟩
    refine ⟨Hc2, e2, _, g2.rep, h m e2 hJ, fun k e3 Hc3 H3 pk go => ?_⟩
    cases k with
    | true =>
      rw [if_pos rfl] at pk ⊢
      have gb := g2.trans go
      refine ⟨fun σ' H' => ∃ m', m' < m ∧ ∃ Hc' e, J m' e ∧ Go Hc H σ env Hc' H' σ' e, fun _ _ n => n, ?_⟩
      exact tRs.use go.rep pk ⟨fun e σ' Hc' H' ⟨m', l, p⟩ g => ⟨m', l, Hc', e, p, gb.trans g⟩, (q.from gb).rt, fun e σ' Hc' H' p g => tRs.use g.rep p (q.from (gb.trans g)), fun e σ' Hc' H' ⟨m', l, p⟩ g => ⟨m', l, Hc', e, p, gb.trans g⟩, (q.from gb).rv⟩
    | false =>
      rw [if_neg Bool.false_ne_true] at pk ⊢
      exact tRs.use go.rep pk (q.from (g2.trans go))
/-- the text True as a test -/
theorem wt_true {j : Nat} (h : PB true env) : WT G (.Constant (.bool true) j pos) env PB := wt_val (w_bl ⟨true, rfl, h⟩)
/-- x += e, ints -/
theorem r_augAdd (i : Nat) {n : Int} (hnd : G.N.Nodup) (he : env[i]? = some (.va (.int n))) (h : W G e env fun d e1 => ∃ k, d = .int k ∧ Rs G rest (e1.set i (.va (.int (n + k)))) N) (hi : G.N[i]? = some x := by rfl) (hx : Loc G.sc x := by first | exact Or.inl rfl | exact Or.inr rfl) : Rs G (.AugAssign (.Name x px) .Add e pos :: rest) env N :=
  Rs.of (fun X => tSeq (tAug i (tW G e) (ipI fun i j => i + j)) (tRs G rest)) (fun X hX => pss_cons (ps_aug (i := i) (hX.nodup hnd) (hX.at' hi) (hX.loc hx) (peW hX.g e) ip_add (.inl (hX.fn x))) (pssR hX rest)) fun X hX σ Hc H D R q => by
    obtain ⟨v, ev, tv⟩ := R.ok i _ he
    cases tv
    refine ⟨_, ev, tW.use R h fun v d e1 Hc1 H1 ⟨k, ed, hr⟩ go t => ?_⟩
    subst ed
    cases t
    refine ⟨n, k, rfl, rfl, ?_⟩
    have g2 := go_asg (j := i) (t := .va (.int (n + k))) (o := some (V.int (n + k))) go.rep rfl ⟨_, rfl, .int _⟩
    exact tRs.use g2.rep hr (q.from (go.trans g2))
/-! ### texts -/
theorem w_starts3 {pa pc : Pos} (h : W G a env fun s e1 => ∃ t, s = .str t ∧ WA G [b, c] e1 fun ds e2 => ∃ (u : Str) (i : Int), ds = [.str u, .int i] ∧ P (.bool (Txt.startswith3 t u i)) e2)
    (ns : noStar [b, c] = true := by rfl) (hbase : ∀ v : Env, attributeBase a "startswith" v (eval a v) = eval a v := by exact fun _ => rfl) (hline : (pa.endLine == pc.line) = true := by rfl) : W G (.Call (.Attribute a "startswith" pa) [b, c] [] pc) env P :=
  W.of (fun X => tBM X.K "str" (fun x xs H Q => ∃ (a b : Str) (i : Int), x = .str a ∧ xs = [.str b, .int i] ∧ Q (.bl (Txt.startswith3 a b i)) H) (tW G a) (tWA G [b, c])) (fun X hX => pe_bm PySem.F.plainAttrs_str PySem.F.slot_str_startswith PySem.F.type_str_startswith mt_startswith3 (peW hX a) (paW hX _ ns) (hbase _)
      (by rw [star_cons (noStar_cons ns).1, star_cons (noStar_cons (noStar_cons ns).2).1]; rfl) hline (star_cons (noStar_cons ns).1) (star_any (noStar_cons ns).2)) fun X hX σ Hc H Q R q =>
    tW.use R h fun v d e1 Hc1 H1 ⟨t, ed, h2⟩ go tv => by
      subst ed
      cases tv
      refine ⟨rfl, tWA.use go.rep h2 fun vs ds e2 Hc2 H2 ⟨u, i, eds, pd⟩ go2 ts => ?_⟩
      subst eds
      cases ts with
      | cons t1 ts =>
        cases ts with
        | cons t2 ts =>
          cases ts
          cases t1
          cases t2
          exact ⟨t, u, i, rfl, rfl, q _ _ _ _ _ pd (go.trans go2) (.bl _)⟩
/-- a[b:c] of a text -/
theorem w_sliceS {p2 : Pos} (h : W G a env fun s e1 => ∃ t : Str, s = .str t ∧ t.length ≤ sizeLine ∧ I2 G b c e1 fun i j e2 => P (.str (cutS t (some i) (some j))) e2) : W G (.Subscript a (.Slice (some b) (some c) none p2) pos) env P :=
  W.of (fun X => tSl rSlS (tW G a) (tPart (tW G b)) (tPart (tW G c))) (fun X hX => pe_slice sl_str (peW hX a) (po_some (peW hX b)) (po_some (peW hX c))) fun X hX σ Hc H Q R q =>
    tW.use R h fun v d e1 Hc1 H1 ⟨t, ed, hl, h2⟩ go tv => by
      subst ed
      cases tv
      refine tW.use go.rep h2 fun w d2 e2 Hc2 H2 ⟨i, ei, h3⟩ go2 t2 => ?_
      subst ei
      cases t2
      refine ⟨i, rfl, tW.use go2.rep h3 fun w d3 e3 Hc3 H3 ⟨j, ej, pd⟩ go3 t3 => ?_⟩
      subst ej
      cases t3
      exact ⟨j, rfl, t, rfl, hl, q _ _ _ _ _ pd ((go.trans go2).trans go3) (.str _)⟩
/-- int(text) -/
theorem w_intS (hm : G.mg "int" = none) {p : Pos} (h : W G e env fun d e1 => ∃ (t : Str) (n : Int), d = .str t ∧ PySem.intText? t = some n ∧ t.length ≤ 640 ∧ P (.int n) e1) (hg : GlG G "int" := by rfl) (ns : noStar [e] = true := by rfl) : W G (.Call (.Name "int" p) [e] [] pos) env P :=
  w_callTy (r := fun X xs H Q => ∃ a n, xs = [.str a] ∧ PySem.intText? a = some n ∧ a.length ≤ 640 ∧ Q (.int n) H) (fun X _ => call_int_str) boot_int hm hg (fun X hX => W.imp h fun d e1 ⟨t, n, ed, hn, hl, pn⟩ Hc H vs Q s ts q => by
    subst ed
    cases ts with
    | cons t1 u =>
      cases u
      cases t1
      exact ⟨t, n, rfl, hn, hl, q _ _ Hc H pn (.refl s) (.int _)⟩) ns (by decide) (by decide)
/-- a[b], a text's sign -/
theorem w_subS (h : W G a env fun x e1 => W G b e1 fun y e2 => ∃ (t : Str) (i : Int) (k : Nat), x = .str t ∧ y = .int i ∧ t.length ≤ sizeLine ∧ atI t.cps.toList i = some k ∧ P (.str ⟨#[k]⟩) e2) (hs : PlainIx b := by exact fun _ _ => rfl) : W G (.Subscript a b pos) env P :=
  W.of (fun X => tOp rIxS (tW G a) (tW G b)) (fun X hX => pe_ix ix_str (peW hX a) (peW hX b) hs) fun X hX σ Hc H Q R q =>
    tOp_read R q (W.imp h fun x e1 h2 => W.imp h2 fun y e2 ⟨t, i, k, ex, ey, hl, ei, p⟩ => by
      subst ex
      subst ey
      intro Hc H u v Q s t1 t2 q
      cases t1
      cases t2
      exact ⟨t, i, k, rfl, rfl, hl, ei, q _ _ Hc H p (.refl s) (.str _)⟩)
theorem wt_inS (h : W G a env fun x e1 => W G b e1 fun y e2 => ∃ (k : Nat) (t : Str), x = .str ⟨#[k]⟩ ∧ y = .str t ∧ PB (decide (k ∈ t.cps.toList)) e2) (hm : behindInMarks .In b = false := by rfl) : WT G (.Compare a [.In] [b] pos) env PB :=
  wt_cmp (r := fun X => fun x y H Q => ∃ (c : Nat) (z : Str), x = .str ⟨#[c]⟩ ∧ y = .str z ∧ Q (.bl (decide (c ∈ z.cps.toList))) H) (fun _ _ => op_in_sign) hm fun X hX => W.imp h fun x e1 h2 => W.imp h2 fun y e2 ⟨k, t, ex, ey, p⟩ => by
    subst ex
    subst ey
    intro Hc H u' v' Q s t1 t2 q
    cases t1
    cases t2
    exact ⟨k, t, rfl, rfl, q _ _ Hc H ⟨_, rfl, p⟩ (.refl s) (.bl _)⟩
/-- three tests -/
theorem wt_and3 (h : WT G a env fun k e1 => if k = true then WT G b e1 (fun k2 e2 => if k2 = true then WT G c e2 PB else PB false e2) else PB false e1) : WT G (.BoolOp .And [a, b, c] pos) env PB :=
  WT.of (fun X => tAnd (tWT G a) (tAnd (tWT G b) (tWT G c))) (fun X hX => (pw_and (ptW hX a) (pw_and (ptW hX b) (pw_and1 (ptW hX c)))).pt) fun X hX σ Hc H Q R q => by
    refine ⟨Hc, env, _, R, h, fun k e1 Hc1 H1 pk go => ?_⟩
    cases k with
    | true =>
      refine ⟨Hc1, e1, _, go.rep, pk, fun b e2 Hc2 H2 pb go2 => ?_⟩
      cases b with
      | true => exact ⟨Hc2, e2, _, go2.rep, pb, fun b e3 Hc3 H3 p3 go3 => q _ _ _ _ p3 ((go.trans go2).trans go3)⟩
      | false => exact q _ _ _ _ pb (go.trans go2)
    | false => exact q _ _ _ _ pk go
end
/-! ### a def's promise from its body -/
section
variable {P : Program} {w : World} {K : PySem.W.Frag} {mg : Str → Option Value} {base : Heap} {k : Nat} {f : Addr} {fd : FuncData} {N ps : List Str} {sp : Sp} {x qual : Str} {st : Stmt} {pre : List PyData → Prop} {post : List PyData → PyData → Prop}
abbrev GxOf (P : Program) (w : World) (K : PySem.W.Frag) (mg : Str → Option Value) (base : Heap) (N : List Str) (st : Stmt) (A : Around) : Gx := ⟨N, defScope st, K, mg, P, w, base, A⟩
theorem inS_def {cdv : Value} {A : Around} {outer : List Env} {s : Shared} {H : Hp} {E : XK} : InS (GxOf P w K mg base N st (A.deeper (envOfC qual (defScope st) s.heap.objs.size f cdv))) (cxOf CX0 P w K mg base N qual (defScope st) f cdv A outer s H E).nox :=
  ⟨⟨rfl, rfl, rfl, rfl, rfl, rfl, rfl, rfl, rfl⟩, fun _ => rfl, rfl⟩
def vaEnv (N : List Str) (ds : List PyData) : En := ds.map Sl.va ++ List.replicate (N.length - ds.length) .no
theorem start_get {N : List Str} {vs : List V} {i : Nat} {v : V} (h : vs[i]? = some v) : (L2.start N vs)[i]? = some (some v) := by
  have l := (List.getElem?_eq_some_iff.mp h).1
  unfold L2.start
  rw [List.getElem?_append_left (by simpa using l), List.getElem?_map, h]
  rfl
theorem va_get {N : List Str} {ds : List PyData} {i : Nat} {s : Sl} (h : (vaEnv N ds)[i]? = some s) : (∃ d, ds[i]? = some d ∧ s = .va d) ∨ s = .no := by
  unfold vaEnv at h
  by_cases l : i < ds.length
  · rw [List.getElem?_append_left (by simpa using l), List.getElem?_map] at h
    cases e : ds[i]? with
    | none => rw [e] at h; cases h
    | some d => rw [e] at h; cases h; exact .inl ⟨d, rfl, rfl⟩
  · rw [List.getElem?_append_right (by simpa using l), List.getElem?_replicate] at h
    split at h <;> cases h
    exact .inr rfl
theorem rp_start {Hc H : Hp} {N : List Str} {vs : List V} {ds : List PyData} (t : Trs Hc vs ds) (s : Same Hc H) : Rp Hc H (L2.start N vs) (vaEnv N ds) := by
  refine ⟨s, fun i u e => ?_, fun i j u v a h1 h2 h3 => ?_, ?_⟩
  · rcases va_get e with ⟨d, ed, es⟩ | es
    · subst es
      obtain ⟨v, ev, tv⟩ := t.get ed
      exact ⟨v, start_get ev, tv⟩
    · subst es
      trivial
  · rcases va_get h1 with ⟨d, _, es⟩ | es <;> (subst es; cases h3)
  · unfold L2.start vaEnv
    simp [t.length]
theorem nown_va {σ : L2.St} {N : List Str} {ds : List PyData} {a : Addr} : ¬ Own σ (vaEnv N ds) a := by
  rintro ⟨i, s, e1, e2, _⟩
  rcases va_get e1 with ⟨d, _, es⟩ | es <;> (subst es; cases e2)
theorem fnP (F : Fun K x qual st f fd) (S : FnScope N ps (defScope st)) (hl : ∀ ds, pre ds → ds.length = ps.length)
    (h : ∀ A, A.guards = some [] → Room k A → ∀ ds, pre ds → Rs (GxOf P w K mg base N st A) (defBody st) (vaEnv N ds) { nx := fun _ => post ds .none, rt := fun d _ => post ds d }) : FnG P w K mg base (k + 1) f fd ps (spP pre post) := by
  refine fnG_of F S (fun vs H Q E ⟨ds, Hc, t, _, p, _⟩ => by rw [t.length, hl ds p]) fun cdv A outer s H vs Q E hg hr ⟨ds, Hc, t, sm, p, q⟩ => ?_
  refine ⟨_, pssR inS_def _, tRs.use (rp_start t sm) (h (A.deeper (envOfC qual (defScope st) s.heap.objs.size f cdv)) hg hr ds p) ⟨fun e σ' Hc' H' pd g => ?_, fun v d e σ' Hc' H' pd g tv => ?_, fun _ _ _ _ z => z.elim, fun _ _ _ _ z => z.elim, fun _ _ _ _ _ _ _ z => z.elim⟩⟩
  all_goals
    have ex : Ext Hc H Hc' H' := ⟨fun a o e => g.kp a o e nown_va, g.core, g.rep.same, fun a e c => g.out a e c nown_va⟩
  · exact q _ _ Hc' H' pd ex .non
  · exact q _ _ Hc' H' pd ex tv
/-- with the draws' dict ahead -/
def msEnv (N : List Str) (a : Addr) (n : Nat) (ds : List PyData) : En := .ms a n :: (ds.map Sl.va ++ List.replicate (N.length - (ds.length + 1)) .no)
theorem fnM {c : Nat} (F : Fun K x qual st f fd) (S : FnScope N ps (defScope st)) (hl : ∀ ds, pre ds → ds.length + 1 = ps.length)
    (h : ∀ A, A.guards = some [] → Room k A → ∀ a n ds, pre ds → n + c ≤ LIM → Rs (GxOf P w K mg base N st A) (defBody st) (msEnv N a n ds)
      { nx := fun e => ∃ n', e[0]? = some (.ms a n') ∧ n' ≤ n + c ∧ post ds .none, rt := fun d e => ∃ n', e[0]? = some (.ms a n') ∧ n' ≤ n + c ∧ post ds d }) : FnG P w K mg base (k + 1) f fd ps (spM c pre post) := by
  refine fnG_of F S (fun vs H Q E ⟨a, ws, ds, Hc, n, ev, t, _, _, _, p, _⟩ => by rw [ev, List.length_cons, t.length, hl ds p]) fun cdv A outer s H vs Q E hg hr ⟨a, ws, ds, Hc, n, ev, t, sm, m, hn, p, q⟩ => ?_
  subst ev
  have eStart : L2.start N (V.ref a :: ws) = some (.ref a) :: (ws.map some ++ List.replicate (N.length - (ws.length + 1)) none) := rfl
  have get1 : ∀ {i : Nat} {u : Sl}, (msEnv N a n ds)[i]? = some u → (i = 0 ∧ u = .ms a n) ∨ (∃ j d, i = j + 1 ∧ ds[j]? = some d ∧ u = .va d) ∨ u = .no := by
    intro i u e
    cases i with
    | zero =>
      cases e
      exact .inl ⟨rfl, rfl⟩
    | succ j =>
      have e' : (ds.map Sl.va ++ List.replicate (N.length - (ds.length + 1)) .no)[j]? = some u := e
      by_cases l : j < ds.length
      · rw [List.getElem?_append_left (by simpa using l), List.getElem?_map] at e'
        cases ed : ds[j]? with
        | none => rw [ed] at e'; cases e'
        | some d => rw [ed] at e'; cases e'; exact .inr (.inl ⟨j, d, rfl, ed, rfl⟩)
      · rw [List.getElem?_append_right (by simpa using l), List.getElem?_replicate] at e'
        split at e' <;> cases e'
        exact .inr (.inr rfl)
  have R : Rp Hc H (L2.start N (V.ref a :: ws)) (msEnv N a n ds) := by
    refine ⟨sm, fun i u e => ?_, fun i j u v b h1 h2 h3 h4 _ _ => ?_, ?_⟩
    · rcases get1 e with ⟨ei, eu⟩ | ⟨j, d, ei, ed, eu⟩ | eu
      · subst ei eu
        exact ⟨rfl, m⟩
      · subst ei eu
        obtain ⟨v, ev, tv⟩ := t.get ed
        exact ⟨v, start_get (vs := V.ref a :: ws) (i := j + 1) (by simpa using ev), tv⟩
      · subst eu
        trivial
    · have z : ∀ {i : Nat} {u : Sl}, (msEnv N a n ds)[i]? = some u → u.own = true → i = 0 := by
        intro i u e o
        rcases get1 e with ⟨ei, eu⟩ | ⟨j, d, ei, ed, eu⟩ | eu
        · exact ei
        · rw [eu] at o
          cases o
        · rw [eu] at o
          cases o
      rw [z h1 h3, z h2 h4]
    · rw [eStart]
      unfold msEnv
      simp [t.length]
  have own1 : ∀ {b : Addr}, Own (L2.start N (V.ref a :: ws)) (msEnv N a n ds) b → b = a := by
    rintro b ⟨i, u, e1, e2, e3⟩
    rcases get1 e1 with ⟨ei, eu⟩ | ⟨j, d, ei, ed, eu⟩ | eu
    · subst ei
      cases e3
      rfl
    · rw [eu] at e2
      cases e2
    · rw [eu] at e2
      cases e2
  have fin : ∀ {d : PyData} {v : V} {e : En} {σ' : L2.St} {Hc' H' : Hp}, (∃ n', e[0]? = some (.ms a n') ∧ n' ≤ n + c ∧ post ds d) → Go Hc H (L2.start N (V.ref a :: ws)) (msEnv N a n ds) Hc' H' σ' e → Tr Hc' v d → Q v H' := by
    rintro d v e σ' Hc' H' ⟨n', e0, ln, pd⟩ g tv
    obtain ⟨_, m'⟩ := g.rep.ok 0 _ e0
    refine q v d Hc' H' n' pd ⟨fun b o hb e => g.kp b o e fun z => hb (own1 z), g.core, g.rep.same, fun b e c0 => ?_⟩ m' ln tv
    by_cases hb : b = a
    · rw [hb]
      exact m'.out
    · exact g.out b e c0 fun z => hb (own1 z)
  exact ⟨_, pssR inS_def _, tRs.use R (h (A.deeper (envOfC qual (defScope st) s.heap.objs.size f cdv)) hg hr a n ds p hn) ⟨fun e σ' Hc' H' pd g => fin pd g .non, fun v d e σ' Hc' H' pd g tv => fin pd g tv, fun _ _ _ _ z => z.elim, fun _ _ _ _ z => z.elim, fun _ _ _ _ _ _ _ z => z.elim⟩⟩
end
end TL

/-! tables as trees -/
namespace TL
open PySem PySem.Spec PyProof.Rows L2
abbrev Tb := List (List Int)
def rowT (r : List Int) : PyData := .tuple (r.map .int)
def rowL (r : List Int) : PyData := .list (r.map .int)
def tbT (t : Tb) : PyData := .tuple (t.map rowT)
def tbL (t : Tb) : PyData := .list (t.map rowL)
theorem canAll {α : Type} (f : α → PyData) (h : ∀ x, (f x).canLay0 = true) : ∀ l : List α, PyData.canLayAll0 (l.map f) = true
  | [] => by simp [PyData.canLayAll0]
  | x :: r => by simp [PyData.canLayAll0, h x, canAll f h r]
theorem depAll {α : Type} (f : α → PyData) (k : Nat) (h : ∀ x, (f x).depth ≤ k) : ∀ l : List α, PyData.depthAll (l.map f) ≤ k
  | [] => by simp [PyData.depthAll]
  | x :: r => by
    simp only [List.map_cons, PyData.depthAll]
    have h1 := h x
    have h2 := depAll f k h r
    omega
theorem shaped_tb (t : Tb) : SeqAt.shaped (tbT t) = true := by
  unfold SeqAt.shaped
  have h1 : (tbT t).canLay0 = true := by
    unfold tbT
    simp only [PyData.canLay0]
    exact canAll _ (fun r => by unfold rowT; simp only [PyData.canLay0]; exact canAll _ (fun i => by simp [PyData.canLay0]) r) t
  have h2 : (tbT t).depth ≤ 64 := by
    unfold tbT
    simp only [PyData.depth]
    have := depAll rowT 2 (fun r => by
      unfold rowT
      simp only [PyData.depth]
      have := depAll PyData.int 1 (fun i => by simp [PyData.depth]) r
      omega) t
    omega
  rw [h1, decide_eq_true h2]
  rfl
theorem eqv_nil (t : Tb) : PyData.eqv (tbT t) (.tuple []) = t.isEmpty := by
  cases t with
  | nil => simp [tbT, PyData.eqv, PyData.eqvAll]
  | cons r t => simp [tbT, PyData.eqv, PyData.eqvAll]
end TL

namespace TL
open PySem PySem.Spec PyProof.Rows L2
def All2 {α β : Type} (R : α → β → Prop) : List α → List β → Prop
  | [], [] => True
  | a :: as, b :: bs => R a b ∧ All2 R as bs
  | _, _ => False
section
variable {α β : Type} {R : α → β → Prop}
theorem All2.snoc : ∀ {as : List α} {bs : List β} {a : α} {b : β}, All2 R as bs → R a b → All2 R (as ++ [a]) (bs ++ [b])
  | [], [], _, _, _, h => ⟨h, trivial⟩
  | _ :: _, _ :: _, _, _, ⟨h1, h2⟩, h => ⟨h1, All2.snoc h2 h⟩
  | [], _ :: _, _, _, h, _ => h.elim
  | _ :: _, [], _, _, h, _ => h.elim
theorem All2.length : ∀ {as : List α} {bs : List β}, All2 R as bs → as.length = bs.length
  | [], [], _ => rfl
  | _ :: _, _ :: _, ⟨_, h⟩ => by rw [List.length_cons, List.length_cons, All2.length h]
  | [], _ :: _, h => h.elim
  | _ :: _, [], h => h.elim
theorem All2.eq_map {g : α → β} : ∀ {as : List α} {bs : List β}, All2 (fun a b => b = g a) as bs → bs = as.map g
  | [], [], _ => rfl
  | _ :: _, _ :: _, ⟨h, k⟩ => by rw [h, All2.eq_map k]; rfl
  | [], _ :: _, h => h.elim
  | _ :: _, [], h => h.elim
theorem All2.get : ∀ {as : List α} {bs : List β} {i : Nat} {b : β}, All2 R as bs → bs[i]? = some b → ∃ a, as[i]? = some a ∧ R a b
  | _ :: _, _ :: _, 0, _, ⟨h, _⟩, e => by
    cases e
    exact ⟨_, rfl, h⟩
  | _ :: _, _ :: _, i + 1, b, ⟨_, h⟩, e => All2.get (i := i) (b := b) h e
  | [], [], _, _, _, e => by simp at e
  | [], _ :: _, _, _, h, _ => h.elim
  | _ :: _, [], _, _, h, _ => h.elim
/-- what each is, chosen -/
theorem All2.split {p : β → Prop} : ∀ {as : List α} {bs : List β}, All2 (fun _ b => p b) as bs → ∀ b ∈ bs, p b
  | [], [], _, b, hb => by cases hb
  | _ :: _, _ :: _, ⟨h, k⟩, b, hb => by
    rcases List.mem_cons.mp hb with e | hb
    · rw [e]; exact h
    · exact All2.split k b hb
  | [], _ :: _, h, _, _ => h.elim
  | _ :: _, [], h, _, _ => h.elim
theorem All2.imp {S : α → β → Prop} (f : ∀ a b, R a b → S a b) : ∀ {as : List α} {bs : List β}, All2 R as bs → All2 S as bs
  | [], [], _ => trivial
  | _ :: _, _ :: _, ⟨h, k⟩ => ⟨f _ _ h, All2.imp f k⟩
  | [], _ :: _, h => h.elim
  | _ :: _, [], h => h.elim
end
theorem take_snoc {α : Type} {l : List α} {i : Nat} {d : α} (h : l[i]? = some d) : l.take (i + 1) = l.take i ++ [d] := by
  rw [List.take_add_one, h]
  rfl
section
variable {G' : Gx} {j : Nat} {elt c : Expr} {ds : List PyData} {e0 : En} {PF : List PyData → En → Prop}
theorem cj_all (R : PyData → PyData → Prop) (Ei : Nat → En → Prop) (h0 : Ei 0 (e0.set j .no)) (h : ∀ i d e, ds[i]? = some d → Ei i e → W G' elt (e.set j (.va d)) fun y e2 => R d y ∧ Ei (i + 1) (e2.set j .no))
    (hF : ∀ acc e, All2 R ds acc → Ei ds.length e → PF acc e) : CJ G' j none elt ds e0 PF :=
  ⟨fun i acc e => All2 R (ds.take i) acc ∧ Ei i e, ⟨trivial, h0⟩, fun acc e ⟨h1, h2⟩ => hF acc e (by rw [List.take_length] at h1; exact h1) h2,
    fun i d acc e ed _ ⟨h1, h2⟩ => W.imp (h i d e ed h2) fun y e2 ⟨r, p⟩ => ⟨by rw [take_snoc ed]; exact h1.snoc r, p⟩⟩
theorem set_no {e0 : En} {j : Nat} {s : Sl} : ((e0.set j .no).set j s).set j .no = e0.set j .no := by rw [List.set_set, List.set_set]
/-- nothing changes -/
theorem cj_rel (R : PyData → PyData → Prop) (h : ∀ d ∈ ds, W G' elt (e0.set j (.va d)) fun y e2 => R d y ∧ e2 = e0.set j (.va d)) (hF : ∀ acc, All2 R ds acc → PF acc (e0.set j .no)) : CJ G' j none elt ds e0 PF :=
  cj_all R (fun _ e => e = e0.set j .no) rfl (fun i d e ed ee => by
    subst ee
    rw [List.set_set]
    exact W.imp (h d (List.mem_of_getElem? ed)) fun y e2 ⟨r, ee⟩ => ⟨r, by rw [ee, List.set_set]⟩) fun acc e a ee => by
    rw [ee]
    exact hF acc a
theorem cj_map (g : PyData → PyData) (h : ∀ d ∈ ds, W G' elt (e0.set j (.va d)) fun y e2 => y = g d ∧ e2 = e0.set j (.va d)) (hF : PF (ds.map g) (e0.set j .no)) : CJ G' j none elt ds e0 PF :=
  cj_rel (fun d y => y = g d) h fun acc a => by
    rw [a.eq_map]
    exact hF
theorem cj_filter (p : PyData → Bool) (h : ∀ d ∈ ds, WT G' c (e0.set j (.va d)) fun k e1 => k = p d ∧ e1 = e0.set j (.va d)) (h2 : ∀ d ∈ ds, W G' elt (e0.set j (.va d)) fun y e2 => y = d ∧ e2 = e0.set j (.va d)) (hF : PF (ds.filter p) (e0.set j .no)) : CJ G' j (some c) elt ds e0 PF :=
  ⟨fun i acc e => acc = (ds.take i).filter p ∧ e = e0.set j .no, ⟨rfl, rfl⟩, fun acc e ⟨h1, h2⟩ => by
      rw [List.take_length] at h1
      rw [h1, h2]
      exact hF, fun i d acc e ed _ ⟨h1, ee⟩ => by
    subst ee
    show WT G' c ((e0.set j .no).set j (.va d)) _
    rw [List.set_set]
    have hm := List.mem_of_getElem? ed
    refine WT.imp (h d hm) fun k e1 ⟨ek, ee⟩ => ?_
    have es : (ds.take (i + 1)).filter p = (ds.take i).filter p ++ (if p d = true then [d] else []) := by
      rw [take_snoc ed, List.filter_append]
      congr 1
      simp [List.filter_cons]
    cases k with
    | true =>
      rw [if_pos rfl, ee]
      rw [← ek, if_pos rfl] at es
      exact W.imp (h2 d hm) fun y e2 ⟨r, e3⟩ => ⟨by rw [es, h1, r], by rw [e3, List.set_set]⟩
    | false =>
      rw [if_neg Bool.false_ne_true, ee]
      rw [← ek, if_neg Bool.false_ne_true, List.append_nil] at es
      exact ⟨by rw [es, h1], by rw [List.set_set]⟩⟩
end
theorem ifb {b : Bool} {A B : Prop} (h1 : b = true → A) (h2 : b = false → B) : if b = true then A else B := by
  cases b with
  | true => exact iteT (h1 rfl)
  | false => exact iteF (h2 rfl)
theorem ifT {b : Bool} {A B : Prop} (e : b = true) (h : A) : if b = true then A else B := by rw [if_pos e]; exact h
theorem ifF {b : Bool} {A B : Prop} (e : b = false) (h : B) : if b = true then A else B := by rw [if_neg (by rw [e]; exact Bool.false_ne_true)]; exact h
theorem ifd {p : Prop} [Decidable p] {A B : Prop} (h1 : p → A) (h2 : ¬ p → B) : if decide p = true then A else B := ifb (fun e => h1 (of_decide_eq_true e)) fun e => h2 (of_decide_eq_false e)
theorem ifn {p : Prop} [Decidable p] {A B : Prop} (h1 : ¬ p → A) (h2 : p → B) : if (!decide p) = true then A else B := ifb (fun e => h1 (of_decide_eq_false (by simpa using e))) fun e => h2 (of_decide_eq_true (by simpa using e))
theorem small_mul {i j : Int} (h1 : -1000000000000 ≤ i) (h2 : i ≤ 1000000000000) : CMul i j := .inl ⟨by omega, by omega⟩
theorem small_mulR {i j : Int} (h1 : -1000000000000 ≤ j) (h2 : j ≤ 1000000000000) : CMul i j := .inr ⟨by omega, by omega⟩
/-- a comprehension over a value -/
theorem lc_seq {G : Gx} {scope : Scope} {j : Nat} {tg iter elt : Expr} {t : Option Expr} {env : En} {PF : List PyData → En → Prop} (h : W G iter env fun d e1 => ∃ ds, itemD d = some ds ∧ ds.length < 100000 ∧ CJ (G.blk scope) j t elt ds e1 PF) : LC G scope j tg iter t elt env PF := wi_seq h
end TL

namespace TL
open PySem PySem.Spec PyProof.Rows L2
/-! the draws' dict, field by field -/
def kL : Key := .inr "left"
def kS : Key := .inr "seed"
def kC : Key := .inr "cells"
def kP : Key := .inr "spot"
def msD (l s : Int) (ns : List Int) (p : Int) : List (Key × PyData) := [(kL, .int l), (kS, .int s), (kC, .list (ns.map .int)), (kP, .int p)]
theorem kne : (kL ≠ kS ∧ kL ≠ kC ∧ kL ≠ kP) ∧ (kS ≠ kL ∧ kS ≠ kC ∧ kS ≠ kP) ∧ (kC ≠ kL ∧ kC ≠ kS ∧ kC ≠ kP) ∧ (kP ≠ kL ∧ kP ≠ kS ∧ kP ≠ kC) := by decide +kernel
section
variable {l s p l' p' : Int} {ns : List Int}
theorem val_L : valD (msD l s ns p) kL = some (.int l) := by simp [valD, msD]
theorem val_S : valD (msD l s ns p) kS = some (.int s) := by simp [valD, msD, kne]
theorem val_C : valD (msD l s ns p) kC = some (.list (ns.map .int)) := by simp [valD, msD, kne]
theorem val_P : valD (msD l s ns p) kP = some (.int p) := by simp [valD, msD, kne]
theorem put_L : putD (msD l s ns p) kL (.int l') = msD l' s ns p := by simp [putD, msD, kne]
theorem put_P : putD (msD l s ns p) kP (.int p') = msD l s ns p' := by simp [putD, msD, kne]
end
theorem ms_in {Hc H : Hp} {a : Addr} {n : Nat} (m : MS Hc H a n) : ∃ l s p ns, SlotOk Hc H (.dk a (msD l s ns p)) (some (some (.ref a))) ∧ ns ≠ [] ∧ ns.length ≤ 200 ∧ 0 ≤ s ∧ s < 2147483647 ∧ 0 ≤ p ∧ p ≤ n := by
  obtain ⟨o, l, s, p, c, ns, h1, h2, h3⟩ := m
  exact ⟨l, s, p, ns, ⟨_, rfl, o, h1, ⟨rfl, .int _, ⟨rfl, .int _, ⟨rfl, .lst h2 (Trs.ints ns), ⟨rfl, .int _, trivial⟩⟩⟩⟩⟩, h3⟩
theorem ms_out {Hc H : Hp} {a : Addr} {n : Nat} {l s p : Int} {ns : List Int} {o : Option (Option V)} (h : SlotOk Hc H (.dk a (msD l s ns p)) o) (h2 : ns ≠ [] ∧ ns.length ≤ 200 ∧ 0 ≤ s ∧ s < 2147483647 ∧ 0 ≤ p ∧ p ≤ n) : o = some (some (.ref a)) ∧ MS Hc H a n := by
  obtain ⟨ks, e, c, m, t⟩ := h
  refine ⟨e, c, ?_⟩
  cases ks with
  | nil => exact t.elim
  | cons q1 ks =>
    obtain ⟨k1, v1⟩ := q1
    obtain ⟨e1, t1, t⟩ := t
    cases ks with
    | nil => exact t.elim
    | cons q2 ks =>
      obtain ⟨k2, v2⟩ := q2
      obtain ⟨e2, t2, t⟩ := t
      cases ks with
      | nil => exact t.elim
      | cons q3 ks =>
        obtain ⟨k3, v3⟩ := q3
        obtain ⟨e3, t3, t⟩ := t
        cases ks with
        | nil => exact t.elim
        | cons q4 ks =>
          obtain ⟨k4, v4⟩ := q4
          obtain ⟨e4, t4, t⟩ := t
          cases ks with
          | cons _ _ => exact t.elim
          | nil =>
            subst e1 e2 e3 e4
            cases t1
            cases t2
            cases t4
            cases t3 with
            | lst h5 h6 =>
              rw [Trs.of_ints h6] at h5
              exact ⟨l, s, p, _, ns, m, h5, h2⟩
section
variable {P : Program} {w : World} {K : PySem.W.Frag} {mg : Str → Option Value} {base : Heap} {k : Nat} {f : Addr} {fd : FuncData} {N : List Str} {x qual : Str} {st : Stmt} {bd : Str} {md : Str}
def preD (ds : List PyData) : Prop := ∃ b : Int, ds = [.int b] ∧ 1 ≤ b ∧ b < 1073741824
def postD (ds : List PyData) (d : PyData) : Prop := ∃ b i : Int, ds = [.int b] ∧ d = .int i ∧ 0 ≤ i ∧ i < b
/-- a draw's body over the dict itself -/
theorem fnDraw (F : Fun K x qual st f fd) (S : FnScope N [md, bd] (defScope st)) (hN : 2 ≤ N.length)
    (h : ∀ A, A.guards = some [] → Room k A → ∀ (a : Addr) (l s p : Int) (ns : List Int) (b : Int), 1 ≤ b → b < 1073741824 → ns ≠ [] → ns.length ≤ 200 → 0 ≤ s → s < 2147483647 → 0 ≤ p → p ≤ 1000000000 →
      Rs (GxOf P w K mg base N st A) (defBody st) (.dk a (msD l s ns p) :: .va (.int b) :: List.replicate (N.length - 2) .no)
        { nx := fun _ => False, rt := fun d e => ∃ l' p', e[0]? = some (.dk a (msD l' s ns p')) ∧ 0 ≤ p' ∧ p' ≤ p + 1 ∧ ∃ i, d = .int i ∧ 0 ≤ i ∧ i < b }) : FnG P w K mg base (k + 1) f fd [md, bd] (spM 1 preD postD) := by
  refine fnG_of F S (fun vs H Q E ⟨a, ws, ds, Hc, n, ev, t, _, _, _, ⟨b, e, _⟩, _⟩ => by rw [ev, List.length_cons, t.length, e]; rfl) fun cdv A outer s0 H vs Q E hg hr ⟨a, ws, ds, Hc, n, ev, t, sm, m, hn, ⟨b, eb, hb1, hb2⟩, q⟩ => ?_
  subst ev
  subst eb
  have ew := Trs.of_ints (ns := [b]) t
  subst ew
  obtain ⟨l, s, p, ns, sl, h1, h2, h3, h4, h5, h6⟩ := ms_in m
  have eStart : L2.start N [V.ref a, V.int b] = some (.ref a) :: some (.int b) :: List.replicate (N.length - 2) none := rfl
  have get1 : ∀ {i : Nat} {u : Sl}, ((.dk a (msD l s ns p) :: .va (.int b) :: List.replicate (N.length - 2) .no : En))[i]? = some u → (i = 0 ∧ u = .dk a (msD l s ns p)) ∨ (i = 1 ∧ u = .va (.int b)) ∨ u = .no := by
    intro i u e
    match i, e with
    | 0, e => cases e; exact .inl ⟨rfl, rfl⟩
    | 1, e => cases e; exact .inr (.inl ⟨rfl, rfl⟩)
    | j + 2, e =>
      have e' : (List.replicate (N.length - 2) Sl.no)[j]? = some u := e
      rw [List.getElem?_replicate] at e'
      split at e' <;> cases e'
      exact .inr (.inr rfl)
  have R : Rp Hc H (L2.start N [V.ref a, V.int b]) (.dk a (msD l s ns p) :: .va (.int b) :: List.replicate (N.length - 2) .no) := by
    rw [eStart]
    refine ⟨sm, fun i u e => ?_, fun i j u v c e1 e2 e3 e4 _ _ => ?_, by simp⟩
    · rcases get1 e with ⟨ei, eu⟩ | ⟨ei, eu⟩ | eu
      · subst ei eu
        exact sl
      · subst ei eu
        exact ⟨_, rfl, .int b⟩
      · subst eu
        trivial
    · have z : ∀ {i : Nat} {u : Sl}, ((.dk a (msD l s ns p) :: .va (.int b) :: List.replicate (N.length - 2) .no : En))[i]? = some u → u.own = true → i = 0 := by
        intro i u e o
        rcases get1 e with ⟨ei, eu⟩ | ⟨ei, eu⟩ | eu
        · exact ei
        · rw [eu] at o
          cases o
        · rw [eu] at o
          cases o
      rw [z e1 e3, z e2 e4]
  have own1 : ∀ {c : Addr}, Own (L2.start N [V.ref a, V.int b]) (.dk a (msD l s ns p) :: .va (.int b) :: List.replicate (N.length - 2) .no) c → c = a := by
    rintro c ⟨i, u, e1, e2, e3⟩
    rcases get1 e1 with ⟨ei, eu⟩ | ⟨ei, eu⟩ | eu
    · subst ei
      rw [eStart] at e3
      cases e3
      rfl
    · rw [eu] at e2
      cases e2
    · rw [eu] at e2
      cases e2
  have hl : (LIM : Nat) = 1000000000 := rfl
  refine ⟨_, pssR inS_def _, tRs.use R (h (A.deeper (envOfC qual (defScope st) s0.heap.objs.size f cdv)) hg hr a l s p ns b hb1 hb2 h1 h2 h3 h4 h5 (by omega)) ⟨fun _ _ _ _ z => z.elim, fun v d e σ' Hc' H' ⟨l', p', e0, g1, g2, i, ed, i1, i2⟩ g tv => ?_, fun _ _ _ _ z => z.elim, fun _ _ _ _ z => z.elim, fun _ _ _ _ _ _ _ z => z.elim⟩⟩
  have m' := (ms_out (n := n + 1) (g.rep.ok 0 _ e0) ⟨h1, h2, h3, h4, g1, by omega⟩).2
  refine q v d Hc' H' (n + 1) ⟨b, i, rfl, ed, i1, i2⟩ ⟨fun c o hc e => g.kp c o e fun z => hc (own1 z), g.core, g.rep.same, fun c e c0 => ?_⟩ m' (Nat.le_refl _) tv
  by_cases hc : c = a
  · rw [hc]
    exact m'.out
  · exact g.out c e c0 fun z => hc (own1 z)
end
end TL

namespace TL
open PySem PySem.Spec PyProof.Rows L2
/-! numbering as met -/
def nk (ks : List Int) (x : Int) : List Int := if x ∈ ks then ks else ks ++ [x]
def dyLine : List Int → List Int → List Int × List Int
  | ks, [] => ([], ks)
  | ks, x :: r => ((ks.idxOf x : Int) :: (dyLine (nk ks x) r).1, (dyLine (nk ks x) r).2)
def dyTab : List Int → Tb → Tb × List Int
  | ks, [] => ([], ks)
  | ks, r :: t => ((dyLine ks r).1 :: (dyTab (dyLine ks r).2 t).1, (dyTab (dyLine ks r).2 t).2)
def dy (t : Tb) : Tb := (dyTab [] t).1
theorem dyLine_snoc : ∀ (r : List Int) (ks : List Int) (x : Int), dyLine ks (r ++ [x]) = ((dyLine ks r).1 ++ [((dyLine ks r).2.idxOf x : Int)], nk (dyLine ks r).2 x)
  | [], ks, x => rfl
  | y :: r, ks, x => by
    show ((ks.idxOf y : Int) :: (dyLine (nk ks y) (r ++ [x])).1, (dyLine (nk ks y) (r ++ [x])).2) = _
    rw [dyLine_snoc r (nk ks y) x]
    rfl
theorem dyTab_snoc : ∀ (t : Tb) (ks : List Int) (r : List Int), dyTab ks (t ++ [r]) = ((dyTab ks t).1 ++ [(dyLine (dyTab ks t).2 r).1], (dyLine (dyTab ks t).2 r).2)
  | [], ks, r => rfl
  | y :: t, ks, r => by
    show ((dyLine ks y).1 :: (dyTab (dyLine ks y).2 (t ++ [r])).1, (dyTab (dyLine ks y).2 (t ++ [r])).2) = _
    rw [dyTab_snoc t (dyLine ks y).2 r]
    rfl
theorem nk_len (ks : List Int) (x : Int) : (nk ks x).length ≤ ks.length + 1 := by
  unfold nk
  split
  · omega
  · simp
theorem dyLine_len : ∀ (r : List Int) (ks : List Int), (dyLine ks r).1.length = r.length ∧ (dyLine ks r).2.length ≤ ks.length + r.length
  | [], ks => ⟨rfl, Nat.le_refl _⟩
  | x :: r, ks => by
    have ih := dyLine_len r (nk ks x)
    have := nk_len ks x
    refine ⟨by show (dyLine (nk ks x) r).1.length + 1 = r.length + 1; rw [ih.1], ?_⟩
    show (dyLine (nk ks x) r).2.length ≤ ks.length + (r.length + 1)
    omega
theorem dyTab_len : ∀ (t : Tb) (ks : List Int), (dyTab ks t).1.length = t.length
  | [], ks => rfl
  | r :: t, ks => by
    show (dyTab (dyLine ks r).2 t).1.length + 1 = t.length + 1
    rw [dyTab_len t]
def kvF (s : Nat) (ks : List Int) : List (Key × PyData) := (ks.zipIdx s).map fun p => (Sum.inl p.1, PyData.int (p.2 : Int))
def kvK (ks : List Int) : List (Key × PyData) := kvF 0 ks
theorem kv_len (s : Nat) (ks : List Int) : (kvF s ks).length = ks.length := by unfold kvF; rw [List.length_map, List.length_zipIdx]
theorem kv_val : ∀ (ks : List Int) (s : Nat) (x : Int), valD (kvF s ks) (.inl x) = if x ∈ ks then some (.int ((s + ks.idxOf x : Nat) : Int)) else none
  | [], s, x => rfl
  | k :: ks, s, x => by
    have ih := kv_val ks (s + 1) x
    have e : kvF s (k :: ks) = (.inl k, .int (s : Int)) :: kvF (s + 1) ks := rfl
    rw [e]
    by_cases h : k = x
    · subst h
      unfold valD
      rw [List.find?_cons_of_pos (by simp)]
      simp [List.idxOf_cons]
    · have h1 : valD ((.inl k, .int (s : Int)) :: kvF (s + 1) ks) (.inl x) = valD (kvF (s + 1) ks) (.inl x) := by
        unfold valD
        rw [List.find?_cons_of_neg (by simpa using h)]
      rw [h1, ih]
      have h2 : x ≠ k := fun z => h z.symm
      by_cases hm : x ∈ ks
      · rw [if_pos hm, if_pos (List.mem_cons_of_mem _ hm)]
        have h3 : (k :: ks).idxOf x = ks.idxOf x + 1 := by
          rw [List.idxOf_cons]
          have hb : (k == x) = false := by simpa using h
          rw [hb]
          rfl
        rw [h3]
        congr 3
        omega
      · rw [if_neg hm, if_neg (by simp [hm, h2])]
theorem kv_any : ∀ (ks : List Int) (s : Nat) (x : Int), x ∉ ks → ((kvF s ks).any fun kv => decide (kv.1 = Sum.inl x)) = false
  | [], s, x, _ => rfl
  | k :: ks, s, x, h => by
    have e : kvF s (k :: ks) = (.inl k, .int (s : Int)) :: kvF (s + 1) ks := rfl
    have h1 : k ≠ x := fun z => h (by rw [z]; exact List.mem_cons_self)
    rw [e, List.any_cons, kv_any ks (s + 1) x fun z => h (List.mem_cons_of_mem _ z)]
    simpa using h1
theorem kv_put {ks : List Int} {x : Int} (h : x ∉ ks) : putD (kvK ks) (.inl x) (.int (ks.length : Int)) = kvK (ks ++ [x]) := by
  unfold putD
  rw [show kvK ks = kvF 0 ks from rfl, kv_any ks 0 x h]
  rw [if_neg Bool.false_ne_true]
  unfold kvK kvF
  rw [List.zipIdx_append, List.map_append]
  simp
theorem idx_not {ks : List Int} {x : Int} (h : x ∉ ks) : ks.idxOf x = ks.length := List.idxOf_eq_length h
theorem idx_snoc {ks : List Int} {x : Int} (h : x ∉ ks) : (ks ++ [x]).idxOf x = ks.length := by
  rw [List.idxOf_append, if_neg h]
  simp
/-- a table of ints, of any kinds of rows -/
def IsTb (d : PyData) (t : Tb) : Prop := ∃ rs, itemD d = some rs ∧ All2 (fun r d => itemD d = some (r.map PyData.int)) t rs
def preDy (ds : List PyData) : Prop := ∃ d t, ds = [d] ∧ IsTb d t ∧ t.length ≤ 16 ∧ ∀ r ∈ t, r.length ≤ 16
def postDy (ds : List PyData) (d : PyData) : Prop := ∀ d0 t, ds = [d0] → IsTb d0 t → d = tbT (dy t)
theorem isTb_inj {d : PyData} {t u : Tb} (h : IsTb d t) (k : IsTb d u) : t = u := by
  obtain ⟨rs, e, a⟩ := h
  obtain ⟨rs', e', b⟩ := k
  rw [e] at e'
  cases e'
  clear e
  induction t generalizing u rs with
  | nil =>
    cases rs with
    | nil => cases u with | nil => rfl | cons _ _ => exact b.elim
    | cons _ _ => exact a.elim
  | cons r t ih =>
    cases rs with
    | nil => exact a.elim
    | cons d rs =>
      cases u with
      | nil => exact b.elim
      | cons s u =>
        obtain ⟨a1, a2⟩ := a
        obtain ⟨b1, b2⟩ := b
        rw [a1] at b1
        have : r = s := by
          have e := Option.some.inj b1
          have inj : ∀ {x y : List Int}, x.map PyData.int = y.map PyData.int → x = y := by
            intro x
            induction x with
            | nil => intro y h; cases y with | nil => rfl | cons _ _ => cases h
            | cons p x ih =>
              intro y h
              cases y with
              | nil => cases h
              | cons q y =>
                rw [List.map_cons, List.map_cons] at h
                injection h with h1 h2
                injection h1 with h1
                rw [h1, ih h2]
          exact inj e
        rw [this, ih rs a2 b2]
theorem isTb_T (t : Tb) : IsTb (tbT t) t := by
  refine ⟨_, rfl, ?_⟩
  induction t with
  | nil => trivial
  | cons r t ih => exact ⟨rfl, ih⟩
theorem isTb_L (t : Tb) : IsTb (tbL t) t := by
  refine ⟨_, rfl, ?_⟩
  induction t with
  | nil => trivial
  | cons r t ih => exact ⟨rfl, ih⟩
theorem All2.getL {α β : Type} {R : α → β → Prop} : ∀ {as : List α} {bs : List β} {i : Nat} {b : β}, All2 R as bs → bs[i]? = some b → ∃ a, as[i]? = some a ∧ R a b := fun a e => a.get e
/-- x, y = {}, [] -/
theorem r_parNew {G : Gx} {env : En} {N : DE} {rest : List Stmt} {px py pz pt pos p1 p2 : Pos} {x y : Str} (i j : Nat) {k1 k2} (h : ∀ p, Rs G rest ((env.set i (.dk p [])).set j (.ow [])) N) (hnd : G.N.Nodup) (hil : i < env.length) (hjl : j < env.length)
    (hw : ∀ v : Env, v.scope = G.sc → swappedStores [.Tuple [.Name x px, .Name y py] k1 pt] (.Tuple [.Dict [] [] p1, .List [] p2] k2 pz) v = pure (some [x, y]))
    (hij : i ≠ j := by decide) (hi : G.N[i]? = some x := by rfl) (hj : G.N[j]? = some y := by rfl) (hx : G.sc.names.lookup x = some .local := by rfl) (hy : G.sc.names.lookup y = some .local := by rfl) :
    Rs G (.Assign [.Tuple [.Name x px, .Name y py] k1 pt] (.Tuple [.Dict [] [] p1, .List [] p2] k2 pz) pos :: rest) env N :=
  Rs.of (fun X => tSeq (tPar i j (tCons tDNewK (tCons (tLst tNil) tNil))) (tRs G rest)) (fun X hX => pss_cons (ps_par hX.g.calm (hX.nodup hnd) (hX.at' hi) (hX.at' hj) hij (by rw [hX.g.sc]; exact hx) (by rw [hX.g.sc]; exact hy) (pa_cons pe_dnewK (pa_cons (pe_lst pa_nil) pa_nil)) (hw _ hX.g.sc) rfl) (pssR hX rest)) fun X hX σ Hc H D R q =>
    fun p hp => ⟨Nat.zero_le _, fun l hl => ⟨_, _, rfl, by
      have g0 := go_new (o := .dK []) R hp
      have nd := own_ne_new R hp
      have hc := Same.free R.same hp
      have il := lt_of_N R hil
      have hs : ∀ {a : Nat} {s : Sl}, (env.set i (.dk p []))[a]? = some s → (a = i ∧ s = .dk p []) ∨ (a ≠ i ∧ env[a]? = some s) := by
        intro a s e
        by_cases hj : a = i
        · subst hj
          rw [List.getElem?_set_self hil] at e
          cases e
          exact .inl ⟨rfl, rfl⟩
        · rw [List.getElem?_set_ne (Ne.symm hj)] at e
          exact .inr ⟨hj, e⟩
      have g : Go Hc H σ env Hc (upd H p (.dK [])) (σ.set i (some (.ref p))) (env.set i (.dk p [])) := by
        refine ⟨⟨g0.rep.same, fun j s e => ?_, fun j l s t a h1 h2 h3 h4 h5 h6 => ?_, by rw [List.length_set, List.length_set]; exact R.len⟩, g0.core, g0.kp, g0.out, fun a o => ?_, g0.ex⟩
        · rcases hs e with ⟨e1, e2'⟩ | ⟨e1, e2'⟩
          · subst e1 e2'
            rw [List.getElem?_set_self il]
            exact ⟨[], rfl, hc, upd_same, trivial⟩
          · rw [List.getElem?_set_ne (Ne.symm e1)]
            exact g0.rep.ok j s e2'
        · rcases hs h1 with ⟨e1, e3⟩ | ⟨e1, e3⟩
          · subst e1
            rcases hs h2 with ⟨f1, f3⟩ | ⟨f1, f3⟩
            · exact f1.symm
            · rw [List.getElem?_set_self il] at h5
              cases h5
              rw [List.getElem?_set_ne (Ne.symm f1)] at h6
              exact (nd ⟨_, _, f3, h4, h6⟩).elim
          · rw [List.getElem?_set_ne (Ne.symm e1)] at h5
            rcases hs h2 with ⟨f1, f3⟩ | ⟨f1, f3⟩
            · subst f1
              rw [List.getElem?_set_self il] at h6
              cases h6
              exact (nd ⟨_, _, e3, h3, h5⟩).elim
            · rw [List.getElem?_set_ne (Ne.symm f1)] at h6
              exact R.inj j l s t a e3 f3 h3 h4 h5 h6
        · obtain ⟨j, s, e1, e2', e3⟩ := o
          rcases hs e1 with ⟨f1, f3⟩ | ⟨f1, f3⟩
          · subst f1
            rw [List.getElem?_set_self il] at e3
            cases e3
            exact .inr hp
          · rw [List.getElem?_set_ne (Ne.symm f1)] at e3
            exact .inl ⟨j, s, f3, e2', e3⟩
      have nw : Nw Hc (upd H p (.dK [])) (σ.set i (some (.ref p))) (env.set i (.dk p [])) l [] [] Hc (upd (upd H p (.dK [])) l (.lst [])) (env.set i (.dk p [])) := ⟨go_new g.rep hl, hl, upd_same, .nil, Same.free g.rep.same hl, own_ne_new g.rep hl⟩
      have g2 := go_asgOw (i := j) nw (lt_of_N g.rep (by rw [List.length_set]; exact hjl))
      exact tRs.use g2.rep (h p) (q.from (g.trans g2))⟩⟩
end TL

namespace TL
open PySem PySem.Spec PyProof.Rows L2
/-- a def that may be called -/
def Dc (P : Program) (w : World) (K : PySem.W.Frag) (mg : Str → Option Value) (base : Heap) (x : Str) (k : Nat) (ps : List Str) (sp : Sp) : Prop :=
  ∃ f fd, FnG P w K mg base k f fd ps sp ∧ mg x = some (.ref f) ∧ PySem.W.keepIn K (.ref f) = true ∧ Binds K fd ps []
theorem Dc.callee {P : Program} {w : World} {K : PySem.W.Frag} {mg : Str → Option Value} {base : Heap} {x : Str} {k j : Nat} {ps N : List Str} {sp : Sp} {st : Stmt} {A : Around} (D : Dc P w K mg base x j ps sp) (hr : Room k A) (hg : A.guards = some []) (h : j ≤ k) :
    ∃ f fd, Callee (GxOf P w K mg base N st A) x j f fd ps sp := by
  obtain ⟨f, fd, h1, h2, h3, h4⟩ := D
  exact ⟨f, fd, h1, hr.mono h, hg, h2, h3, h4⟩
theorem Callee.blk {G : Gx} {x : Str} {k : Nat} {f : Addr} {fd : FuncData} {ps : List Str} {sp : Sp} (C : Callee G x k f fd ps sp) (scope : Scope) : Callee (G.blk scope) x k f fd ps sp := ⟨C.fn, C.room, C.gd, C.mg, C.kp, C.bd⟩
theorem mem_ints {xs : List Int} {d : PyData} (h : d ∈ xs.map PyData.int) : ∃ z ∈ xs, d = .int z := by
  obtain ⟨z, hz, e⟩ := List.mem_map.mp h
  exact ⟨z, hz, e.symm⟩
theorem atI_int {α : Type} {l : List α} {i : Int} (h0 : 0 ≤ i) (h1 : i < l.length) : ∃ x ∈ l, atI l i = some x := by
  obtain ⟨j, ej⟩ := Int.eq_ofNat_of_zero_le h0
  have hj : j < l.length := by omega
  exact ⟨l[j], List.getElem_mem hj, by rw [ej]; exact atI_nat (List.getElem?_eq_getElem hj)⟩
def preOf (ds : List PyData) : Prop := ∃ xs, ds = [.list xs] ∧ xs ≠ [] ∧ xs.length < 100000
def postOf (ds : List PyData) (d : PyData) : Prop := ∃ xs, ds = [.list xs] ∧ d ∈ xs
/-- x, y = e, [], where the pair is made and taken apart -/
theorem r_unNew2 {G : Gx} {env : En} {N : DE} {rest : List Stmt} {e : Expr} {px py pz pt pos p2 : Pos} {x y : Str} (i j : Nat) {k1 k2} (h : W G e env fun d e1 => j < e1.length ∧ Rs G rest ((e1.set i (.va d)).set j (.ow [])) N) (hnd : G.N.Nodup)
    (hw : ∀ v : Env, v.scope = G.sc → swappedStores [.Tuple [.Name x px, .Name y py] k1 pt] (.Tuple [e, .List [] p2] k2 pz) v = pure none) (ns : noStar [e] = true := by rfl)
    (hi : G.N[i]? = some x := by rfl) (hj : G.N[j]? = some y := by rfl) (hx : Loc G.sc x := by first | exact Or.inl rfl | exact Or.inr rfl) (hy : Loc G.sc y := by first | exact Or.inl rfl | exact Or.inr rfl) :
    Rs G (.Assign [.Tuple [.Name x px, .Name y py] k1 pt] (.Tuple [e, .List [] p2] k2 pz) pos :: rest) env N :=
  Rs.of (fun X => tSeq (tAsg (tTup (tCons (tW G e) (tCons (tLst tNil) tNil))) (gTup X.K 2 (gCons (gName i) (gCons (gName j) gNil)))) (tRs G rest)) (fun X hX => pss_cons (ps_asg (pe_tup (pa_cons (peW hX.g e) (pa_cons (pe_lst pa_nil) pa_nil) (star_cons (noStar_cons ns).1)))
      (pg_tup hX.g.calm (pgs_cons (pg_name (i := i) (hX.nodup hnd) (hX.at' hi) (hX.loc hx) (.inl (hX.fn x))) (pgs_cons (pg_name (i := j) (hX.nodup hnd) (hX.at' hj) (hX.loc hy) (.inl (hX.fn y))) pgs_nil)) rfl rfl) rfl (hw _ hX.g.sc) rfl) (pssR hX rest)) fun X hX σ Hc H D R q =>
    tW.use R h fun v d e1 Hc1 H1 ⟨hjl, hr⟩ go t => ⟨Nat.zero_le _, fun l hl => ⟨by show 2 ≤ sizeLine; decide, fun T hT => by
      have hlT : l ≠ T := fun z => by
        subst z
        rw [upd_same] at hT
        cases hT
      have g1 := go_asg (j := i) (t := .va d) (o := some v) go.rep rfl ⟨v, rfl, t⟩
      have n1 := go_new (o := .lst []) g1.rep hl
      have n2 := go_new (o := .tup [v, .ref l]) n1.rep hT
      have nw : Nw Hc1 H1 (σ.set i (some v)) (e1.set i (.va d)) l [] [] Hc1 (upd (upd H1 l (.lst [])) T (.tup [v, .ref l])) (e1.set i (.va d)) :=
        ⟨n1.trans n2, hl, by rw [upd_ne hlT, upd_same], .nil, Same.free go.rep.same hl, own_ne_new g1.rep hl⟩
      have g2 := go_asgOw (i := j) nw (lt_of_N g1.rep (by rw [List.length_set]; exact hjl))
      exact ⟨T, _, rfl, SqT.of upd_same, rfl, v, [.ref l], rfl, .ref l, [], rfl, rfl, tRs.use g2.rep hr (q.from ((go.trans g1).trans g2))⟩⟩⟩
/-- the same, both plain locals -/
theorem r_parNew2 {G : Gx} {env : En} {N : DE} {rest : List Stmt} {e : Expr} {px py pz pt pos p2 : Pos} {x y : Str} (i j : Nat) {k1 k2} (h : W G e env fun d e1 => j < e1.length ∧ Rs G rest ((e1.set i (.va d)).set j (.ow [])) N) (hnd : G.N.Nodup)
    (hw : ∀ v : Env, v.scope = G.sc → swappedStores [.Tuple [.Name x px, .Name y py] k1 pt] (.Tuple [e, .List [] p2] k2 pz) v = pure (some [x, y])) (ns : noStar [e] = true := by rfl)
    (hij : i ≠ j := by decide) (hi : G.N[i]? = some x := by rfl) (hj : G.N[j]? = some y := by rfl) (hx : G.sc.names.lookup x = some .local := by rfl) (hy : G.sc.names.lookup y = some .local := by rfl) :
    Rs G (.Assign [.Tuple [.Name x px, .Name y py] k1 pt] (.Tuple [e, .List [] p2] k2 pz) pos :: rest) env N :=
  Rs.of (fun X => tSeq (tPar i j (tCons (tW G e) (tCons (tLst tNil) tNil))) (tRs G rest)) (fun X hX => pss_cons (ps_par hX.g.calm (hX.nodup hnd) (hX.at' hi) (hX.at' hj) hij (by rw [hX.g.sc]; exact hx) (by rw [hX.g.sc]; exact hy) (pa_cons (peW hX.g e) (pa_cons (pe_lst pa_nil) pa_nil) (star_cons (noStar_cons ns).1)) (hw _ hX.g.sc) rfl) (pssR hX rest)) fun X hX σ Hc H D R q =>
    tW.use R h fun v d e1 Hc1 H1 ⟨hjl, hr⟩ go t => ⟨Nat.zero_le _, fun l hl => ⟨v, .ref l, rfl, by
      have g1 := go_asg (j := i) (t := .va d) (o := some v) go.rep rfl ⟨v, rfl, t⟩
      have nw : Nw Hc1 H1 (σ.set i (some v)) (e1.set i (.va d)) l [] [] Hc1 (upd H1 l (.lst [])) (e1.set i (.va d)) := ⟨go_new g1.rep hl, hl, upd_same, .nil, Same.free go.rep.same hl, own_ne_new g1.rep hl⟩
      have g2 := go_asgOw (i := j) nw (lt_of_N g1.rep (by rw [List.length_set]; exact hjl))
      exact tRs.use g2.rep hr (q.from ((go.trans g1).trans g2))⟩⟩
end TL

namespace TL
open PySem PySem.Spec PyProof.Rows L2
def Sq (n : Nat) (t : Tb) : Prop := t.length = n ∧ ∀ r ∈ t, r.length = n
theorem rows_of {n : Nat} : ∀ {ds acc : List PyData}, All2 (fun _ y => ∃ r : List Int, y = rowL r ∧ r.length = n) ds acc → ∃ t : Tb, acc = t.map rowL ∧ t.length = ds.length ∧ ∀ r ∈ t, r.length = n
  | [], [], _ => ⟨[], rfl, rfl, fun _ h => by cases h⟩
  | _ :: _, _ :: _, ⟨⟨r, e, l⟩, h⟩ => by
    obtain ⟨t, e2, l2, h2⟩ := rows_of h
    exact ⟨r :: t, by rw [e, e2]; rfl, by rw [List.length_cons, List.length_cons, l2], fun s hs => by
      rcases List.mem_cons.mp hs with z | z
      · rw [z]; exact l
      · exact h2 s z⟩
  | [], _ :: _, h => h.elim
  | _ :: _, [], h => h.elim
theorem ints_of : ∀ {ds acc : List PyData}, All2 (fun _ y => ∃ z : Int, y = PyData.int z) ds acc → ∃ r : List Int, acc = r.map PyData.int ∧ r.length = ds.length
  | [], [], _ => ⟨[], rfl, rfl⟩
  | _ :: _, _ :: _, ⟨⟨r, e⟩, h⟩ => by
    obtain ⟨t, e2, l2⟩ := ints_of h
    exact ⟨r :: t, by rw [e, e2]; rfl, by rw [List.length_cons, List.length_cons, l2]⟩
  | [], _ :: _, h => h.elim
  | _ :: _, [], h => h.elim
theorem cj_grid {G' : Gx} {jx jy n : Nat} {sc2 : Scope} {y : Str} {py pos pr1 pr2 : Pos} {e1 elt : Expr} {e0 : En} {PF : List PyData → En → Prop} (Ec : Nat → En → Prop) (hn : n ≤ 100) (hm : G'.mg "range" = none) (hnd : G'.N.Nodup)
    (h0 : Ec 0 (e0.set jx .no)) (hx : ∀ c e, Ec c e → e.set jx .no = e) (hy : ∀ c e (i : Nat), Ec c e → (e.set jx (.va (.int (i : Int)))).set jy .no = e.set jx (.va (.int (i : Int))))
    (hr : ∀ c e (i : Nat), Ec c e → W G' e1 (e.set jx (.va (.int (i : Int)))) fun d e2 => d = .int (n : Int) ∧ e2 = e.set jx (.va (.int (i : Int))))
    (hel : ∀ c e (i j : Nat), i < n → j < n → c < n * n → Ec c e → W (G'.blk sc2) elt ((e.set jx (.va (.int (i : Int)))).set jy (.va (.int (j : Int)))) fun d e2 => (∃ z : Int, d = .int z) ∧ ∃ e3, Ec (c + 1) e3 ∧ e2.set jy .no = e3.set jx (.va (.int (i : Int))))
    (hF : ∀ (t : Tb) e, Sq n t → Ec (n * n) e → PF (t.map rowL) e)
    (hb : blkC G'.N G'.sc sc2 [(y, jy)] = true := by first | decide +kernel | (dsimp only [Gx.blk]; decide +kernel) | rfl) (hj : G'.N[jy]? = some y := by rfl)
    (hl : (relS sc2 G'.sc).names.lookup y = some .local ∨ (relS sc2 G'.sc).names.lookup y = some .cell := by first | exact .inl rfl | exact .inr rfl)
    (hf : sc2.names.lookup y = some .cell ∨ (relS sc2 G'.sc).names.lookup y = some .local := by first | exact .inl rfl | exact .inr rfl)
    (hg : GlG G' "range" := by rfl) (ns : noStar [e1] = true := by rfl) :
    CJ G' jx none (.ListComp elt [⟨.Name y py, .Call (.Name "range" pr1) [e1] [] pr2, [], 0⟩] sc2 pos) (rgD 0 n) e0 PF := by
  refine cj_all (fun _ d => ∃ r : List Int, d = rowL r ∧ r.length = n) (fun i e => Ec (i * n) e) (by rw [Nat.zero_mul]; exact h0) (fun i d e ed he => ?_) (fun acc e a he => ?_)
  · obtain ⟨hi, ed⟩ := rgD_get ed
    rw [Int.zero_add] at ed
    subst ed
    refine w_lc jy (t := none) (wi_rg hm (W.imp (hr _ e i he) fun d e2 ⟨q1, q2⟩ => ⟨n, q1, by omega, by omega, ?_⟩) hg ns) hnd hb hj hl hf
    subst q2
    rw [Int.toNat_natCast]
    refine ⟨by rw [rgD_len]; omega, cj_all (fun _ d => ∃ z : Int, d = .int z) (fun j e4 => ∃ e3, Ec (i * n + j) e3 ∧ e4 = e3.set jx (.va (.int (i : Int)))) ⟨e, he, hy _ e i he⟩ (fun j d e4 ed2 he4 => ?_) (fun acc e4 a he4 => ?_)⟩
    · obtain ⟨hj2, ed2⟩ := rgD_get ed2
      rw [Int.zero_add] at ed2
      subst ed2
      obtain ⟨e3, h3, ee⟩ := he4
      subst ee
      have hc : i * n + j < n * n := by
        have : i * n + n ≤ n * n := by
          have h2 : (i + 1) * n ≤ n * n := Nat.mul_le_mul_right n hi
          rw [Nat.add_mul, Nat.one_mul] at h2
          exact h2
        omega
      exact hel (i * n + j) e3 i j hi hj2 hc h3
    · obtain ⟨e3, h3, ee⟩ := he4
      subst ee
      obtain ⟨r, er, lr⟩ := ints_of a
      subst er
      rw [rgD_len] at lr h3
      refine ⟨⟨r, rfl, lr⟩, ?_⟩
      rw [List.set_set, hx _ e3 h3, Nat.add_mul, Nat.one_mul]
      exact h3
  · obtain ⟨t, et, lt, ht⟩ := rows_of a
    subst et
    rw [rgD_len] at lt he
    exact hF t e ⟨lt, ht⟩ he
end TL

namespace TL
open PySem PySem.Spec PyProof.Rows L2
theorem foldMax : ∀ (r : List Int) (x : Int), (r.foldl max x = x ∨ r.foldl max x ∈ r) ∧ x ≤ r.foldl max x ∧ ∀ y ∈ r, y ≤ r.foldl max x
  | [], x => ⟨.inl rfl, Int.le_refl _, fun _ h => by cases h⟩
  | z :: r, x => by
    obtain ⟨h1, h2, h3⟩ := foldMax r (max x z)
    rw [List.foldl_cons]
    refine ⟨?_, by omega, fun y hy => ?_⟩
    · rcases h1 with e | e
      · rw [e]
        by_cases h : x ≤ z
        · exact .inr (by rw [Int.max_eq_right h]; exact List.mem_cons_self)
        · exact .inl (Int.max_eq_left (by omega))
      · exact .inr (List.mem_cons_of_mem _ e)
    · rcases List.mem_cons.mp hy with e | e
      · rw [e]
        omega
      · exact h3 y e
def rMaxT (K : PySem.W.Frag) (A : Around) : List V → Hp → VK → Prop := fun vs H Q => ∃ (a : Addr) (ns : List Int), vs = [V.ref a] ∧ SqT K H a (ns.map V.int) ∧ ns ≠ [] ∧ A.units + 64 < cLine ∧ ∀ m, m ∈ ns → (∀ y, y ∈ ns → y ≤ m) → Q (.int m) H
theorem dps_ints {K : PySem.W.Frag} {H : Hp} : ∀ ns : List Int, DpAll K H (ns.map V.int) (ns.map PyData.int)
  | [] => .nil
  | n :: ns => .cons (.int n) (dps_ints ns)
theorem dep_ints : ∀ ns : List Int, PyData.depthAll (ns.map PyData.int) ≤ 1
  | [] => by simp [PyData.depthAll]
  | n :: ns => by
    have := dep_ints ns
    simp only [List.map_cons, PyData.depthAll, PyData.depth]
    omega
theorem cr_maxT {X : Cx} (hc : X.calm = true) : CallR X (.builtin "max") (rMaxT X.K X.A) := by
  intro pins s σ H vs us Q I r h
  obtain ⟨a, ns, e, hs, hne, hu, q⟩ := h
  subst e
  obtain ⟨its, rv, ⟨o, ho, hcl, n, hd⟩, _⟩ := I.tuple hs
  rw [Vals.ref1 r]
  obtain ⟨as, rd⟩ := Dp.readsAll I (ns.map PyData.int) _ its (dps_ints ns) rv
  cases ns with
  | nil => exact absurd rfl hne
  | cons x xs =>
    rw [List.map_cons] at rd
    refine PySem.W.max_tuple_data (I.ok.hd hc) (vs := its.toArray) ⟨o, ho, hcl, n, hd⟩ (by simpa using rd) ⟨fun p hp q hq => ?_, fun p hp => ?_⟩ ?_ fun i v h' tk bs hv hr hk => ?_
    · have hp' : p ∈ (x :: xs).map PyData.int := hp
      have hq' : q ∈ (x :: xs).map PyData.int := hq
      obtain ⟨y, _, e1⟩ := List.mem_map.mp hp'
      obtain ⟨z, _, e2⟩ := List.mem_map.mp hq'
      rw [← e1, ← e2]
      first | rfl | simp [PySem.W.alike] | decide
    · have hp' : p ∈ (x :: xs).map PyData.int := hp
      obtain ⟨y, _, e1⟩ := List.mem_map.mp hp'
      rw [← e1]
      exact fun z => by cases z
    · have := dep_ints (x :: xs)
      rw [List.map_cons] at this
      omega
    · rw [PySem.W.maxD_ints] at hr
      cases hr
      obtain ⟨h1, h2, h3⟩ := foldMax xs x
      refine ⟨.int (xs.foldl max x), H, I.kept hk, ⟨_, rfl⟩, q _ ?_ fun y hy => ?_⟩
      · rcases h1 with e | e
        · rw [e]
          exact List.mem_cons_self
        · exact List.mem_cons_of_mem _ e
      · rcases List.mem_cons.mp hy with e | e
        · rw [e]
          exact h2
        · exact h3 y e
/-- max of a tuple of ints -/
theorem w_maxT {G : Gx} {env : En} {P : PyData → En → Prop} {e : Expr} {p pos : Pos} (hu : G.A.units + 64 < cLine) (hm : G.mg "max" = none) (h : W G e env fun d e1 => ∃ zs : List Int, d = .tuple (zs.map PyData.int) ∧ zs ≠ [] ∧ ∀ m, m ∈ zs → (∀ y, y ∈ zs → y ≤ m) → P (.int m) e1) (hg : GlG G "max" := by rfl) (ns : noStar [e] = true := by rfl) : W G (.Call (.Name "max" p) [e] [] pos) env P :=
  w_callB (r := fun X => rMaxT X.K X.A) (fun X hX => cr_maxT hX.calm) boot_max hm hg (fun X hX => W.imp h fun d e1 ⟨zs, ed, ne, pn⟩ Hc H vs Q s t q => by
    subst ed
    cases t with
    | cons t u =>
      cases u
      cases t with
      | tup m k =>
        have ek := Trs.of_ints k
        subst ek
        exact ⟨_, zs, rfl, SqT.of (s _ _ m), ne, by rw [hX.A]; exact hu, fun m hm hy => q _ _ Hc H (pn m hm hy) (.refl s) (.int _)⟩) ns (by decide) (by decide)
end TL

namespace TL
open PySem PySem.Spec PyProof.Rows L2
/-! what may be shown -/
structure NB (B D : Nat) (d : PyData) : Prop where
  sh : d.showable = true
  nd : d.hasDict = false
  ln : d.shown.length ≤ B
  dp : d.depth ≤ D
theorem NB.mono {B D B' D' : Nat} {d : PyData} (h : NB B D d) (h1 : B ≤ B') (h2 : D ≤ D') : NB B' D' d := ⟨h.sh, h.nd, Nat.le_trans h.ln h1, Nat.le_trans h.dp h2⟩
def tS (i : Int) : Str := Str.ofString (toString i)
theorem tS_len {i : Int} (h : i.natAbs < 10 ^ 12) : (tS i).length ≤ 13 := by
  have e := int_text_length_le10 (k := 12) (by decide) h
  unfold tS
  rw [PySem.ofString_length]
  simpa using e
theorem log_small {n : Nat} (h : n < 10 ^ 12) : n.log2 < 1920 := by
  by_cases h0 : n = 0
  · subst h0
    decide
  · exact (Nat.log2_lt h0).mpr (Nat.lt_trans h (by
      have e : (10 : Nat) ^ 12 ≤ 2 ^ 40 := by decide
      exact Nat.lt_of_le_of_lt e (Nat.pow_lt_pow_right (by decide) (by decide))))
theorem nb_int {i : Int} (h : i.natAbs < 10 ^ 12) : NB 13 1 (.int i) :=
  ⟨by simp only [PyData.showable]; exact decide_eq_true (log_small h), by simp only [PyData.hasDict], by simp only [PyData.shown]; exact tS_len h, by simp [PyData.depth]⟩
theorem nb_str {x : Str} (h : x.cps.toList.all (fun c => decide (c < 1114112)) = true) : NB (10 * x.length + 2) 1 (.str x) :=
  ⟨by simp only [PyData.showable], by simp only [PyData.hasDict], by
    simp only [PyData.shown]
    exact StrLaws.reprText_len x fun c hc => Nat.lt_trans (of_decide_eq_true (List.all_eq_true.mp h c hc)) (by decide), by simp [PyData.depth]⟩
theorem nb_bool {b : Bool} : NB 5 1 (.bool b) := ⟨by simp only [PyData.showable], by simp only [PyData.hasDict], by cases b <;> (simp only [PyData.shown]; decide), by simp [PyData.depth]⟩
theorem nb_none : NB 5 1 .none := ⟨by simp only [PyData.showable], by simp only [PyData.hasDict], by simp only [PyData.shown]; decide, by simp [PyData.depth]⟩
theorem nb_all {B D : Nat} : ∀ {xs : List PyData}, (∀ x ∈ xs, NB B D x) → PyData.showableAll xs = true ∧ PyData.hasDictAll xs = false ∧ ((PyData.shownAll xs).map (·.length)).sum ≤ xs.length * B ∧ (PyData.shownAll xs).length = xs.length ∧ PyData.depthAll xs ≤ D
  | [], _ => ⟨by simp [PyData.showableAll], by simp [PyData.hasDictAll], by simp [PyData.shownAll], by simp [PyData.shownAll], by simp [PyData.depthAll]⟩
  | x :: xs, h => by
    obtain ⟨h1, h2, h3, h4, h5⟩ := nb_all fun y hy => h y (List.mem_cons_of_mem _ hy)
    have k := h x List.mem_cons_self
    refine ⟨by simp [PyData.showableAll, k.sh, h1], by simp [PyData.hasDictAll, k.nd, h2], ?_, by simp [PyData.shownAll, h4], ?_⟩
    · simp only [PyData.shownAll, List.map_cons, List.sum_cons, List.length_cons, Nat.add_mul, Nat.one_mul]
      have := k.ln
      omega
    · simp only [PyData.depthAll]
      have := k.dp
      omega
theorem nb_list {B D : Nat} {xs : List PyData} (h : ∀ x ∈ xs, NB B D x) : NB (xs.length * (B + 2) + 3) (D + 1) (.list xs) := by
  obtain ⟨h1, h2, h3, h4, h5⟩ := nb_all h
  refine ⟨by simp only [PyData.showable, h1], by simp only [PyData.hasDict, h2], ?_, by simp only [PyData.depth]; omega⟩
  simp only [PyData.shown]
  have := listText_len_le (PyData.shownAll xs)
  rw [h4] at this
  rw [Nat.mul_add]
  omega
theorem nb_tuple {B D : Nat} {xs : List PyData} (h : ∀ x ∈ xs, NB B D x) : NB (xs.length * (B + 2) + 3) (D + 1) (.tuple xs) := by
  obtain ⟨h1, h2, h3, h4, h5⟩ := nb_all h
  refine ⟨by simp only [PyData.showable, h1], by simp only [PyData.hasDict, h2], ?_, by simp only [PyData.depth]; omega⟩
  simp only [PyData.shown]
  have := tupleText_len_le (PyData.shownAll xs)
  rw [h4] at this
  rw [Nat.mul_add]
  omega
def Small (t : Tb) : Prop := t.length ≤ 16 ∧ ∀ r ∈ t, r.length ≤ 16 ∧ ∀ x ∈ r, x.natAbs < 10 ^ 12
theorem nb_row {r : List Int} (h : r.length ≤ 16 ∧ ∀ x ∈ r, x.natAbs < 10 ^ 12) : NB 243 2 (rowT r) :=
  (nb_tuple (B := 13) (D := 1) (xs := r.map PyData.int) fun x hx => by
    obtain ⟨z, hz, e⟩ := mem_ints hx
    rw [e]
    exact nb_int (h.2 z hz)).mono (by rw [List.length_map]; have := h.1; omega) (Nat.le_refl _)
theorem nb_tb {t : Tb} (h : Small t) : NB 3923 3 (tbT t) :=
  (nb_tuple (B := 243) (D := 2) (xs := t.map rowT) fun x hx => by
    obtain ⟨r, hr, e⟩ := List.mem_map.mp hx
    rw [← e]
    exact nb_row (h.2 r hr)).mono (by rw [List.length_map]; have := h.1; omega) (Nat.le_refl _)
/-! texts of tables -/
def rowS (r : List Int) : Str := Str.join " " (r.map tS)
def textOf (t : Tb) : Str := Str.join "/" (t.map rowS)
theorem All2.comp {α β γ : Type} {R : α → β → Prop} {S : β → γ → Prop} : ∀ {as : List α} {bs : List β} {cs : List γ}, All2 R as bs → All2 S bs cs → All2 (fun a c => ∃ b, R a b ∧ S b c) as cs
  | [], [], [], _, _ => trivial
  | _ :: _, _ :: _, _ :: _, ⟨h1, h2⟩, ⟨k1, k2⟩ => ⟨⟨_, h1, k1⟩, All2.comp h2 k2⟩
  | [], _ :: _, _, h, _ => h.elim
  | _ :: _, [], _, h, _ => h.elim
  | _, [], _ :: _, _, k => k.elim
  | _, _ :: _, [], _, k => k.elim
theorem All2.eq_mapM {α β : Type} {R : α → β → Prop} {g : α → β} : ∀ {as : List α} {bs : List β}, (∀ a ∈ as, ∀ b, R a b → b = g a) → All2 R as bs → bs = as.map g
  | [], [], _, _ => rfl
  | a :: as, b :: bs, f, ⟨h, k⟩ => by
    rw [f a List.mem_cons_self b h, All2.eq_mapM (fun a ha => f a (List.mem_cons_of_mem _ ha)) k]
    rfl
  | [], _ :: _, _, h => h.elim
  | _ :: _, [], _, h => h.elim
theorem sum_le {α : Type} {f : α → Nat} {B : Nat} : ∀ {l : List α}, (∀ x ∈ l, f x ≤ B) → (l.map f).sum ≤ l.length * B
  | [], _ => by simp
  | x :: l, h => by
    have h1 := h x List.mem_cons_self
    have h2 := sum_le fun y hy => h y (List.mem_cons_of_mem _ hy)
    simp only [List.map_cons, List.sum_cons, List.length_cons, Nat.add_mul, Nat.one_mul]
    omega
theorem rowS_len {r : List Int} (h : r.length ≤ 16 ∧ ∀ x ∈ r, x.natAbs < 10 ^ 12) : (rowS r).length ≤ 224 := by
  have h1 := StrLaws.join_length_le " " (r.map tS)
  have h2 : ((r.map tS).map (·.length)).sum ≤ (r.map tS).length * 13 := sum_le fun x hx => by
    obtain ⟨z, hz, e⟩ := List.mem_map.mp hx
    rw [← e]
    exact tS_len (h.2 z hz)
  have e : (Str.ofString " ").length = 1 := by decide
  rw [List.length_map] at h2
  simp only [List.length_map, e] at h1
  have := h.1
  unfold rowS
  omega
theorem textOf_len {t : Tb} (h : Small t) : (textOf t).length ≤ 3600 := by
  have h1 := StrLaws.join_length_le "/" (t.map rowS)
  have h2 : ((t.map rowS).map (·.length)).sum ≤ (t.map rowS).length * 224 := sum_le fun x hx => by
    obtain ⟨z, hz, e⟩ := List.mem_map.mp hx
    rw [← e]
    exact rowS_len (h.2 z hz)
  have e : (Str.ofString "/").length = 1 := by decide
  rw [List.length_map] at h2
  simp only [List.length_map, e] at h1
  have := h.1
  unfold textOf
  omega
def preTx (ds : List PyData) : Prop := ∃ d t, ds = [d] ∧ IsTb d t ∧ Small t
def postTx (ds : List PyData) (d : PyData) : Prop := ∀ d0 t, ds = [d0] → IsTb d0 t → d = .str (textOf t)
def preLk (ds : List PyData) : Prop := ∃ a B D, ds = [a, a] ∧ isDisplay a = true ∧ NB B D a ∧ B ≤ 16777216 ∧ D ≤ 50
def postLk (_ : List PyData) (d : PyData) : Prop := d = .bool true
end TL

namespace TL
open PySem PySem.Spec PyProof.Rows L2
/-- 1 + the greatest, if there is one -/
def IsMany (t : Tb) (n : Int) : Prop := (t = [] ∧ n = 0) ∨ ((∃ r ∈ t, n - 1 ∈ r) ∧ ∀ r ∈ t, ∀ x ∈ r, x ≤ n - 1)
def isMaxRow (d y : PyData) : Prop := ∀ r : List Int, d = rowT r → ∃ m ∈ r, y = .int m ∧ ∀ z ∈ r, z ≤ m
theorem maxRows : ∀ {t : Tb} {acc : List PyData}, All2 isMaxRow (t.map rowT) acc → ∃ zs : List Int, acc = zs.map PyData.int ∧ All2 (fun r m => m ∈ r ∧ ∀ z ∈ r, z ≤ m) t zs
  | [], [], _ => ⟨[], rfl, trivial⟩
  | r :: t, _ :: _, ⟨h1, h2⟩ => by
    obtain ⟨m, hm, e, hz⟩ := h1 r rfl
    obtain ⟨zs, e2, a⟩ := maxRows h2
    exact ⟨m :: zs, by rw [e, e2]; rfl, ⟨hm, hz⟩, a⟩
  | [], _ :: _, h => h.elim
  | _ :: _, [], h => h.elim
theorem rowT_inj {r s : List Int} (h : rowT r = rowT s) : r = s := by
  have := isTb_inj (t := [r]) (u := [s]) (isTb_T [r]) (by
    have e : tbT [r] = tbT [s] := by unfold tbT; rw [List.map_cons, List.map_cons, h]
    rw [e]
    exact isTb_T [s])
  injection this
theorem tbT_inj {r s : Tb} (h : tbT r = tbT s) : r = s := isTb_inj (isTb_T r) (by rw [h]; exact isTb_T s)
theorem All2.memR {α β : Type} {R : α → β → Prop} : ∀ {as : List α} {bs : List β}, All2 R as bs → (∀ b ∈ bs, ∃ a ∈ as, R a b) ∧ ∀ a ∈ as, ∃ b ∈ bs, R a b
  | [], [], _ => ⟨(fun _ h => by cases h), (fun _ h => by cases h)⟩
  | a :: as, b :: bs, ⟨h, k⟩ => by
    obtain ⟨k1, k2⟩ := All2.memR k
    refine ⟨fun c hc => ?_, fun c hc => ?_⟩
    · rcases List.mem_cons.mp hc with e | e
      · rw [e]; exact ⟨a, List.mem_cons_self, h⟩
      · obtain ⟨d, hd, hr⟩ := k1 c e
        exact ⟨d, List.mem_cons_of_mem _ hd, hr⟩
    · rcases List.mem_cons.mp hc with e | e
      · rw [e]; exact ⟨b, List.mem_cons_self, h⟩
      · obtain ⟨d, hd, hr⟩ := k2 c e
        exact ⟨d, List.mem_cons_of_mem _ hd, hr⟩
  | [], _ :: _, h => h.elim
  | _ :: _, [], h => h.elim
def preMy (ds : List PyData) : Prop := ∃ t : Tb, ds = [tbT t] ∧ (∀ r ∈ t, r ≠ []) ∧ t.length < 1000
def postMy (ds : List PyData) (d : PyData) : Prop := ∀ t, ds = [tbT t] → ∃ n, d = .int n ∧ IsMany t n
end TL

namespace TL
open PySem PySem.Spec PyProof.Rows L2
theorem str_of_tl {x : Str} : x = ⟨(tl x).toArray⟩ := by cases x; rfl
theorem len_of_tl (x : Str) : x.length = (tl x).length := by cases x; simp [Str.length]
theorem tl_app (a b : Str) : tl (a ++ b) = tl a ++ tl b := by
  show (a.cps ++ b.cps).toList = _
  rw [Array.toList_append]
theorem tS_tl (n : Nat) : tl (tS (n : Int)) = numL n := tl_num n
def swH (c : Nat) : List Nat → Bool
  | [] => false
  | b :: _ => b == c
theorem sw1 {T y : Str} {A B : List Nat} {c : Nat} (hT : tl T = A ++ B) (hy : y.cps = #[c]) : Txt.startswith3 T y (A.length : Int) = swH c B := by
  have hl := len_of_tl T
  rw [hT, List.length_append] at hl
  have hf : fromIndex T.length (A.length : Int) = A.length := by
    unfold fromIndex
    rw [if_neg (by omega)]
    omega
  have hyl : y.length = 1 := by
    show y.cps.size = 1
    rw [hy]
    rfl
  unfold Txt.startswith3
  rw [hf, hyl]
  cases B with
  | nil =>
    have : ¬ A.length + 1 ≤ T.length := by simp at hl; omega
    simp [this, swH]
  | cons b B =>
    have h1 : A.length + 1 ≤ T.length := by simp at hl; omega
    simp only [h1, decide_true, Bool.true_and]
    show (T.cps.extract A.length (A.length + y.length) == y.cps) = (b == c)
    rw [hyl, hy]
    have e : T.cps.extract A.length (A.length + 1) = #[b] := by
      apply Array.toList_inj.mp
      rw [Array.toList_extract]
      show ((tl T).extract A.length (A.length + 1)) = [b]
      rw [hT, List.extract_eq_take_drop]
      simp
    rw [e]
    by_cases hb : b = c
    · subst hb
      simp
    · have : (b == c) = false := by simpa using hb
      rw [this]
      simp [hb]
theorem cut1 {T : Str} {A D B : List Nat} (hT : tl T = A ++ (D ++ B)) : cutS T (some (A.length : Int)) (some ((A.length : Int) + (D.length : Int))) = ⟨D.toArray⟩ := by
  have hl := len_of_tl T
  rw [hT, List.length_append, List.length_append] at hl
  have e : ((A.length : Int) + (D.length : Int)) = ((A.length + D.length : Nat) : Int) := by push_cast; rfl
  unfold cutS
  rw [e, HT.sIx_nat, HT.sIx_nat, Nat.min_eq_left (by omega), Nat.min_eq_left (by omega)]
  congr 2
  show ((tl T).drop A.length).take _ = D
  rw [hT, List.drop_left]
  have : A.length + D.length - A.length = D.length := by omega
  rw [this, List.take_left]
/-! the signs of a row, of a table -/
def rowC : List Nat → List Nat
  | [] => []
  | [x] => numL x
  | x :: y :: r => numL x ++ 32 :: rowC (y :: r)
def tabC : List (List Nat) → List Nat
  | [] => []
  | [r] => rowC r
  | r :: s :: t => rowC r ++ 47 :: tabC (s :: t)
abbrev up (r : List Nat) : List Int := r.map fun (n : Nat) => (n : Int)
theorem rowS_tl : ∀ r : List Nat, tl (rowS (up r)) = rowC r
  | [] => rfl
  | [x] => tS_tl x
  | x :: y :: r => by
    have ih := rowS_tl (y :: r)
    show tl (tS (x : Int) ++ (" " : Str) ++ rowS (up (y :: r))) = _
    rw [tl_app, tl_app, ih, tS_tl]
    show numL x ++ [32] ++ _ = _
    rw [List.append_assoc]
    rfl
theorem textOf_tl : ∀ t : List (List Nat), tl (textOf (t.map up)) = tabC t
  | [] => rfl
  | [r] => rowS_tl r
  | r :: s :: t => by
    have ih := textOf_tl (s :: t)
    show tl (rowS (up r) ++ ("/" : Str) ++ textOf ((s :: t).map up)) = _
    rw [tl_app, tl_app, ih, rowS_tl]
    show rowC r ++ [47] ++ _ = _
    rw [List.append_assoc]
    rfl
theorem lenS {T : Str} (h : T.length ≤ sizeLine) : lenD (.str T) = some T.length := if_pos h
theorem num_head : ∀ (n : Nat), 1 ≤ n → ∀ c l, numL n = c :: l → c ≠ 48 := by
  intro n
  induction n using Nat.strongRecOn with
  | _ n ih =>
    intro h1 c l e
    by_cases h : n < 10
    · rw [numL_lt h] at e
      cases e
      omega
    · rw [numL_step (by omega)] at e
      cases hq : numL (n / 10) with
      | nil => exact absurd hq (numL_ne _)
      | cons c' l' =>
        rw [hq] at e
        cases e
        exact ih (n / 10) (by omega) (by omega) _ _ hq
theorem num_len {n : Nat} (h : n < 1000) : 1 ≤ (numL n).length ∧ (numL n).length ≤ 3 := by
  refine ⟨?_, numL_len (k := 3) (by decide) h⟩
  cases hq : numL n with
  | nil => exact absurd hq (numL_ne _)
  | cons _ _ => simp
/-- what stands behind an entry is no digit -/
def noDig : List Nat → Prop
  | [] => True
  | b :: _ => b < 48 ∨ 57 < b
def preEe (ds : List PyData) : Prop := ∃ (T : Str) (A B : List Nat) (n : Nat), ds = [.str T, .int (A.length : Int)] ∧ tl T = A ++ (numL n ++ B) ∧ n < 1000 ∧ T.length ≤ 100000 ∧ noDig B
def postEe (ds : List PyData) (d : PyData) : Prop := ∀ (T : Str) (A B : List Nat) (n : Nat), ds = [.str T, .int (A.length : Int)] → tl T = A ++ (numL n ++ B) → n < 1000 → noDig B → d = .int ((A.length : Int) + ((numL n).length : Int))
def rowEnd : List Nat → Prop
  | [] => True
  | b :: _ => b = 47
def preRr (ds : List PyData) : Prop := ∃ (T : Str) (A B : List Nat) (r : List Nat) (m : Nat), ds = [.str T, .int (A.length : Int), .int (m : Int)] ∧ tl T = A ++ (rowC r ++ B) ∧ r ≠ [] ∧ (∀ x ∈ r, x < 1000) ∧ r.length ≤ m ∧ m ≤ 16 ∧ T.length ≤ 100000 ∧ rowEnd B
def postRr (ds : List PyData) (d : PyData) : Prop := ∀ (T : Str) (A B : List Nat) (r : List Nat) (m : Nat), ds = [.str T, .int (A.length : Int), .int (m : Int)] → tl T = A ++ (rowC r ++ B) → r ≠ [] → (∀ x ∈ r, x < 1000) → r.length ≤ m → rowEnd B →
  d = .tuple [.list ((up r).map .int), .int ((A.length : Int) + ((rowC r).length : Int))]
def preRd (ds : List PyData) : Prop := ∃ (t : List (List Nat)) (n : Nat), ds = [.str (textOf (t.map up))] ∧ t.length = n ∧ (∀ r ∈ t, r.length = n ∧ ∀ x ∈ r, x < 1000) ∧ n ≤ 16
def postRd (ds : List PyData) (d : PyData) : Prop := ∀ (t : List (List Nat)) (n : Nat), ds = [.str (textOf (t.map up))] → t.length = n → (∀ r ∈ t, r.length = n ∧ ∀ x ∈ r, x < 1000) → n ≤ 16 → d = tbT (dy (t.map up))
structure RrG where
  T : Str
  A : List Nat
  B : List Nat
  r : List Nat
  m : Nat
def preRg (g : RrG) (ds : List PyData) : Prop := ds = [.str g.T, .int (g.A.length : Int), .int (g.m : Int)] ∧ tl g.T = g.A ++ (rowC g.r ++ g.B) ∧ g.r ≠ [] ∧ (∀ x ∈ g.r, x < 1000) ∧ g.r.length ≤ g.m ∧ g.m ≤ 16 ∧ g.T.length ≤ 100000 ∧ rowEnd g.B
def postRg (g : RrG) (_ : List PyData) (d : PyData) : Prop := d = .tuple [.list ((up g.r).map .int), .int ((g.A.length : Int) + ((rowC g.r).length : Int))]
def rowTl : List Nat → List Nat
  | [] => []
  | y :: r => 32 :: rowC (y :: r)
theorem rowC_cons (x : Nat) (r : List Nat) : rowC (x :: r) = numL x ++ rowTl r := by
  cases r with
  | nil =>
    show numL x = numL x ++ []
    rw [List.append_nil]
  | cons y r => rfl
def tabTl : List (List Nat) → List Nat
  | [] => []
  | s :: t => 47 :: tabC (s :: t)
theorem tabC_cons (r : List Nat) (t : List (List Nat)) : tabC (r :: t) = rowC r ++ tabTl t := by
  cases t with
  | nil =>
    show rowC r = rowC r ++ []
    rw [List.append_nil]
  | cons y r => rfl
theorem tabTl_end (t : List (List Nat)) : rowEnd (tabTl t) := by cases t <;> first | trivial | rfl
theorem small_up {t : List (List Nat)} {n : Nat} (h1 : t.length = n) (h2 : ∀ r ∈ t, r.length = n ∧ ∀ x ∈ r, x < 1000) (h3 : n ≤ 16) : Small (t.map up) := by
  refine ⟨by rw [List.length_map]; omega, fun r hr => ?_⟩
  obtain ⟨s, hs, e⟩ := List.mem_map.mp hr
  subst e
  refine ⟨by rw [List.length_map]; have := (h2 s hs).1; omega, fun x hx => ?_⟩
  obtain ⟨y, hy, e⟩ := List.mem_map.mp hx
  subst e
  have := (h2 s hs).2 y hy
  show y < 10 ^ 12
  exact Nat.lt_trans this (by decide)
def preRe (t : List (List Nat)) (ds : List PyData) : Prop := ds = [.str (textOf (t.map up))] ∧ t.length ≤ 16 ∧ ∀ r ∈ t, r.length = t.length ∧ ∀ x ∈ r, x < 1000
def postRe (t : List (List Nat)) (_ : List PyData) (d : PyData) : Prop := d = tbT (dy (t.map up))
/-- x = [..], to be changed later -/
theorem r_lstOw {G : Gx} {env : En} {N : DE} {rest : List Stmt} {es : List Expr} {px pos p2 : Pos} {x : Str} (i : Nat) (hnd : G.N.Nodup) (h : WA G es env fun ds e1 => ds.length ≤ sizeLine ∧ i < e1.length ∧ Rs G rest (e1.set i (.ow ds)) N) (ns : noStar es = true := by rfl) (hi : G.N[i]? = some x := by rfl) (hx : Loc G.sc x := by first | exact Or.inl rfl | exact Or.inr rfl) : Rs G (.Assign [.Name x px] (.List es p2) pos :: rest) env N :=
  Rs.of (fun X => tSeq (tAsg (tLst (tWA G es)) (gName i)) (tRs G rest)) (fun X hX => pss_cons (ps_set (i := i) (hX.nodup hnd) (hX.at' hi) (hX.loc hx) (pe_lst (paW hX.g es ns)) rfl (.inl (hX.fn x))) (pssR hX rest)) fun X hX σ Hc H D R q =>
    tWA.use R h fun vs ds e1 Hc1 H1 ⟨hl, hil, hr⟩ go t => ⟨by rw [t.length]; exact hl, fun p hp => by
      have old : H p = none := by
        cases z : H p with
        | none => rfl
        | some o => exact absurd hp (go.ex p (by rw [z]; simp))
      have nw : Nw Hc H σ env p vs ds Hc1 (upd H1 p (.lst vs)) e1 := ⟨go.trans (go_new go.rep hp), old, upd_same, t, Same.free go.rep.same hp, own_ne_new go.rep hp⟩
      have g := go_asgOw nw (lt_of_N go.rep hil)
      exact tRs.use g.rep hr (q.from g)⟩
end TL

namespace TL
open PySem PySem.Spec PyProof.Rows L2
/-! the script, the start of the draws -/
section
variable {G : Gx} {env : En} {N : DE} {P : PyData → En → Prop} {a b : Expr} {pos px p2 : Pos} {x : Str}
theorem cut_ints (ns : List Int) (lo hi : Option Int) : ∃ ms : List Int, cutV (ns.map V.int) lo hi = ms.map V.int ∧ ms.length ≤ ns.length := by
  refine ⟨(ns.drop (HT.sIx ns.length 0 lo)).take (HT.sIx ns.length ns.length hi - HT.sIx ns.length 0 lo), ?_, ?_⟩
  · unfold cutV
    rw [List.length_map, List.map_take, List.map_drop]
  · rw [List.length_take, List.length_drop]
    omega
/-- x[b:] of the script -/
theorem w_rawFrom (i : Nat) {r : Addr} {ns : List Int} {φ : Hp → Prop} (he : env[i]? = some (.raw (.ref r) φ)) (hφ : ∀ Hc, φ Hc → SqL G.K Hc r (ns.map V.int)) (h : W G b env fun d e1 => ∃ j, d = .int j ∧ e1 = env ∧ ∀ ms : List Int, ms.length ≤ ns.length → P (.list (ms.map .int)) env)
    (hN : G.N[i]? = some x := by rfl) (hv : Vis G.sc x := by first | exact Or.inl rfl | exact Or.inr (Or.inl rfl) | exact Or.inr (Or.inr rfl)) (hd : (x == ("__debug__" : Str)) = false := by decide) (hcd : (x == ("__classdict__" : Str)) = false := by decide) :
    W G (.Subscript (.Name x px) (.Slice (some b) none none p2) pos) env P :=
  W.of (fun X => tSl (rSlL X.K) (tVar i) (tPart (tW G b)) tNoPart) (fun X hX => pe_slice sl_list (pvG hX i hN hv hd hcd) (po_some (peW hX b)) po_none) fun X hX σ Hc H Q R q => by
    obtain ⟨ev, _, _⟩ := R.ok i _ he
    refine ⟨_, ev, tW.use R h fun v d e1 Hc1 H1 ⟨j, ed, ee, pd⟩ go t => ?_⟩
    subst ed ee
    cases t
    obtain ⟨_, fx, _⟩ := go.rep.ok i _ he
    have sq := hφ _ fx
    rw [← hX.K] at sq
    obtain ⟨ms, em, lm⟩ := cut_ints ns (some j) none
    refine ⟨j, rfl, r, _, rfl, go.rep.same.seq sq, fun p hp => ?_⟩
    have x := Ext.new (o := .lst (cutV (ns.map V.int) (some j) none)) go.rep.same hp
    exact q _ _ _ _ _ (pd ms lm) (go.trans (x.go go.rep)) (.lst upd_same (by rw [em]; exact Trs.ints ms))
theorem w_rawTo (i : Nat) {r : Addr} {ns : List Int} {φ : Hp → Prop} (he : env[i]? = some (.raw (.ref r) φ)) (hφ : ∀ Hc, φ Hc → SqL G.K Hc r (ns.map V.int)) (h : W G b env fun d e1 => ∃ j, d = .int j ∧ e1 = env ∧ ∀ ms : List Int, ms.length ≤ ns.length → P (.list (ms.map .int)) env)
    (hN : G.N[i]? = some x := by rfl) (hv : Vis G.sc x := by first | exact Or.inl rfl | exact Or.inr (Or.inl rfl) | exact Or.inr (Or.inr rfl)) (hd : (x == ("__debug__" : Str)) = false := by decide) (hcd : (x == ("__classdict__" : Str)) = false := by decide) :
    W G (.Subscript (.Name x px) (.Slice none (some b) none p2) pos) env P :=
  W.of (fun X => tSl (rSlL X.K) (tVar i) tNoPart (tPart (tW G b))) (fun X hX => pe_slice sl_list (pvG hX i hN hv hd hcd) po_none (po_some (peW hX b))) fun X hX σ Hc H Q R q => by
    obtain ⟨ev, _, _⟩ := R.ok i _ he
    refine ⟨_, ev, tW.use R h fun v d e1 Hc1 H1 ⟨j, ed, ee, pd⟩ go t => ?_⟩
    subst ed ee
    cases t
    obtain ⟨_, fx, _⟩ := go.rep.ok i _ he
    have sq := hφ _ fx
    rw [← hX.K] at sq
    obtain ⟨ms, em, lm⟩ := cut_ints ns none (some j)
    refine ⟨j, rfl, r, _, rfl, go.rep.same.seq sq, fun p hp => ?_⟩
    have x := Ext.new (o := .lst (cutV (ns.map V.int) none (some j))) go.rep.same hp
    exact q _ _ _ _ _ (pd ms lm) (go.trans (x.go go.rep)) (.lst upd_same (by rw [em]; exact Trs.ints ms))
/-- len(x) of the script -/
theorem w_rawLen (i : Nat) {r : Addr} {ns : List Int} {φ : Hp → Prop} {p : Pos} (hm : G.mg "len" = none) (he : env[i]? = some (.raw (.ref r) φ)) (hφ : ∀ Hc, φ Hc → SqL G.K Hc r (ns.map V.int)) (h : P (.int ns.length) env)
    (hN : G.N[i]? = some x := by rfl) (hv : Vis G.sc x := by first | exact Or.inl rfl | exact Or.inr (Or.inl rfl) | exact Or.inr (Or.inr rfl)) (hg : GlG G "len" := by rfl) (hd : (x == ("__debug__" : Str)) = false := by decide) (hcd : (x == ("__classdict__" : Str)) = false := by decide) :
    W G (.Call (.Name "len" p) [.Name x px] [] pos) env P :=
  W.of (fun X => tCB (fun xs H Q => ∃ p ys, xs = [.ref p] ∧ (SqL X.K H p ys ∨ SqT X.K H p ys) ∧ Q (.int ys.length) H) (tCons (tVar i) tNil)) (fun X hX => pe_callB call_len_seq (glX hX hg) (by rw [hX.mg]; exact hm) boot_len (pa_cons (pvG hX i hN hv hd hcd) pa_nil)) fun X hX σ Hc H Q R q => by
    obtain ⟨ev, fx, _⟩ := R.ok i _ he
    have sq := hφ _ fx
    rw [← hX.K] at sq
    refine ⟨_, ev, r, _, rfl, .inl (R.same.seq sq), ?_⟩
    rw [List.length_map]
    exact q _ _ _ _ _ h (.refl R) (.int _)
/-- return {..}, four written keys -/
theorem r_retDict {rest : List Stmt} {k1 k2 k3 k4 : Str} {v1 v2 v3 v4 : Expr} {j1 j2 j3 j4 : Nat} {q1 q2 q3 q4 qd : Pos} (h : WA G [v1, v2, v3, v4] env fun ds e1 => ∃ d1 d2 d3 d4, ds = [d1, d2, d3, d4] ∧ N.rv [(.inr k1, d1), (.inr k2, d2), (.inr k3, d3), (.inr k4, d4)] e1)
    (hk : ∀ v1 v2 v3 v4 : V, mergeK [] [(Sum.inr k1, v1), (Sum.inr k2, v2), (Sum.inr k3, v3), (Sum.inr k4, v4)] = [(.inr k1, v1), (.inr k2, v2), (.inr k3, v3), (.inr k4, v4)]) :
    Rs G (.Return (some (.Dict [some (.Constant (.str k1) j1 q1), some (.Constant (.str k2) j2 q2), some (.Constant (.str k3) j3 q3), some (.Constant (.str k4) j4 q4)] [v1, v2, v3, v4] qd)) pos :: rest) env N :=
  Rs.of (fun X => tSeq (tRet (tDisp [(tC (.str k1), tW G v1), (tC (.str k2), tW G v2), (tC (.str k3), tW G v3), (tC (.str k4), tW G v4)])) tNever)
    (fun X hX => pss_cons (ps_ret (pe_disp (pps_cons pe_str (peW hX.g v1) (pps_cons pe_str (peW hX.g v2) (pps_cons pe_str (peW hX.g v3) (pps_cons pe_str (peW hX.g v4) pps_nil)))) rfl rfl (fun z => by cases z) (by show 4 ≤ 15; decide))) pss_never) fun X hX σ Hc H D R q => by
    intro p hp
    have g0 := go_new (o := .dK []) R hp
    have no0 := own_ne_new R hp
    have c0 := Same.free R.same hp
    have at0 : (upd H p (.dK [])) p = some (.dK []) := upd_same
    refine tW.use g0.rep h fun w1 d1 e1 Hc1 H1 h1 go1 t1 => ?_
    refine tW.use go1.rep h1 fun w2 d2 e2 Hc2 H2 h2 go2 t2 => ?_
    refine tW.use go2.rep h2 fun w3 d3 e3 Hc3 H3 h3 go3 t3 => ?_
    refine tW.use go3.rep h3 fun w4 d4 e4 Hc4 H4 h4 go4 t4 => ?_
    have g := ((go1.trans go2).trans go3).trans go4
    have at4 := g.kp p _ at0 no0
    have out4 := g.out p (by rw [at0]; simp) c0 no0
    have no4 : ¬ Own σ e4 p := fun z => (g.own p z).elim no0 fun z => by rw [at0] at z; cases z
    obtain ⟨d1', d2', d3', d4', ed, hrv⟩ := h4
    injection ed with e1 ed
    injection ed with e2 ed
    injection ed with e3 ed
    injection ed with e4 ed
    subst e1 e2 e3 e4
    refine ⟨at4, [(.inr k1, w1), (.inr k2, w2), (.inr k3, w3), (.inr k4, w4)], rfl, by show 4 ≤ 15; decide, ?_⟩
    rw [hk]
    have gg := g0.trans g
    refine q.rv p _ [(.inr k1, w1), (.inr k2, w2), (.inr k3, w3), (.inr k4, w4)] _ σ Hc4 _ hrv (go_write gg hp out4 no4) hp upd_same ?_ out4
    exact ⟨rfl, t1.mono (go2.core.trans (go3.core.trans go4.core)), ⟨rfl, t2.mono (go3.core.trans go4.core), ⟨rfl, t3.mono go4.core, ⟨rfl, t4, trivial⟩⟩⟩⟩
end
theorem mergeK4 (v1 v2 v3 v4 : V) : mergeK [] [((.inr "left" : Key), v1), (.inr "seed", v2), (.inr "cells", v3), (.inr "spot", v4)] = [(.inr "left", v1), (.inr "seed", v2), (.inr "cells", v3), (.inr "spot", v4)] := by
  show mergeK [] [(kL, v1), (kS, v2), (kC, v3), (kP, v4)] = [(kL, v1), (kS, v2), (kC, v3), (kP, v4)]
  simp [mergeK, putK, kne]
section
variable {P : Program} {w : World} {K : PySem.W.Frag} {mg : Str → Option Value} {base : Heap} {k : Nat} {f : Addr} {fd : FuncData} {N ps : List Str} {x qual : Str} {st : Stmt} {sd kd : Str}
def scφ (K : PySem.W.Frag) (a : Addr) (ns : List Int) : Hp → Prop := fun Hc => SqL K Hc a (ns.map V.int)
theorem scφ_mono {a : Addr} {ns : List Int} : ∀ H1 H2 : Hp, Same H1 H2 → scφ K a ns H1 → scφ K a ns H2 := fun _ _ s h => s.seq h
def spB (K : PySem.W.Frag) : Sp := fun vs H Q _ => ∃ (a : Addr) (j : Nat) (ns : List Int) (Hc : Hp), vs = [.ref a, .int (j : Int)] ∧ j ≤ 100 ∧ SqL K Hc a (ns.map V.int) ∧ ns.length ≤ 63 ∧ Same Hc H ∧
  ∀ p Hc' H', H p = none → Ext Hc H Hc' H' → MS Hc' H' p 0 → Q (.ref p) H'
theorem fnB (F : Fun K x qual st f fd) (S : FnScope N [sd, kd] (defScope st))
    (h : ∀ A, A.guards = some [] → Room k A → ∀ (a : Addr) (j : Nat) (ns : List Int), j ≤ 100 → ns.length ≤ 63 →
      Rs (GxOf P w K mg base N st A) (defBody st) (.raw (.ref a) (scφ K a ns) :: .va (.int (j : Int)) :: List.replicate (N.length - 2) .no)
        { nx := fun _ => False, rt := fun _ _ => False, rv := fun kvs _ => ∃ l s cs p, kvs = msD l s cs p ∧ cs ≠ [] ∧ cs.length ≤ 200 ∧ 0 ≤ s ∧ s < 2147483647 ∧ p = 0 }) : FnG P w K mg base (k + 1) f fd [sd, kd] (spB K) := by
  refine fnG_of F S (fun vs H Q E ⟨a, j, ns, Hc, ev, _⟩ => by rw [ev]; rfl) fun cdv A outer s0 H vs Q E hg hr ⟨a, j, ns, Hc, ev, hj, sq, hl, sm, q⟩ => ?_
  subst ev
  have eStart : L2.start N [V.ref a, V.int (j : Int)] = some (.ref a) :: some (.int (j : Int)) :: List.replicate (N.length - 2) none := rfl
  have get1 : ∀ {i : Nat} {u : Sl}, ((.raw (.ref a) (scφ K a ns) :: .va (.int (j : Int)) :: List.replicate (N.length - 2) .no : En))[i]? = some u → (i = 0 ∧ u = .raw (.ref a) (scφ K a ns)) ∨ (i = 1 ∧ u = .va (.int (j : Int))) ∨ u = .no := by
    intro i u e
    match i, e with
    | 0, e => cases e; exact .inl ⟨rfl, rfl⟩
    | 1, e => cases e; exact .inr (.inl ⟨rfl, rfl⟩)
    | j + 2, e =>
      have e' : (List.replicate (N.length - 2) Sl.no)[j]? = some u := e
      rw [List.getElem?_replicate] at e'
      split at e' <;> cases e'
      exact .inr (.inr rfl)
  have noown : ∀ {i : Nat} {u : Sl}, ((.raw (.ref a) (scφ K a ns) :: .va (.int (j : Int)) :: List.replicate (N.length - 2) .no : En))[i]? = some u → u.own = false := by
    intro i u e
    rcases get1 e with ⟨ei, eu⟩ | ⟨ei, eu⟩ | eu <;> (rw [eu]; rfl)
  have R : Rp Hc H (L2.start N [V.ref a, V.int (j : Int)]) (.raw (.ref a) (scφ K a ns) :: .va (.int (j : Int)) :: List.replicate (N.length - 2) .no) := by
    rw [eStart]
    refine ⟨sm, fun i u e => ?_, fun i l u v c e1 e2 e3 _ _ _ => ?_, by simp⟩
    · rcases get1 e with ⟨ei, eu⟩ | ⟨ei, eu⟩ | eu
      · subst ei eu
        exact ⟨rfl, sq, scφ_mono⟩
      · subst ei eu
        exact ⟨_, rfl, .int _⟩
      · subst eu
        trivial
    · rw [noown e1] at e3
      cases e3
  have own1 : ∀ {c : Addr}, ¬ Own (L2.start N [V.ref a, V.int (j : Int)]) (.raw (.ref a) (scφ K a ns) :: .va (.int (j : Int)) :: List.replicate (N.length - 2) .no) c := by
    rintro c ⟨i, u, e1, e2, _⟩
    rw [noown e1] at e2
    cases e2
  refine ⟨_, pssR inS_def _, tRs.use R (h (A.deeper (envOfC qual (defScope st) s0.heap.objs.size f cdv)) hg hr a j ns hj hl) ⟨fun _ _ _ _ z => z.elim, fun _ _ _ _ _ _ z => z.elim, fun _ _ _ _ z => z.elim, fun _ _ _ _ z => z.elim, fun p kvs ks e σ' Hc' H' ⟨l, s, cs, p0, ek, b1, b2, b3, b4, b5⟩ g hp hat htr hout => ?_⟩⟩
  subst ek b5
  have m := (ms_out (n := 0) (o := some (some (V.ref p))) ⟨ks, rfl, hout, hat, htr⟩ ⟨b1, b2, b3, b4, Int.le_refl _, Int.le_refl _⟩).2
  exact q p Hc' H' hp ⟨fun b o e => g.kp b o e own1, g.core, g.rep.same, fun b e c => g.out b e c own1⟩ m
/-- m = begun(script, j) -/
theorem r_begun {G : Gx} {env : En} {Nn : DE} {rest : List Stmt} {r : Addr} {ns : List Int} {b : Expr} {pn px2 pc pos : Pos} {xs y : Str} {fB : Addr} {fdB : FuncData} (i j : Nat) (C : Callee G x k fB fdB [sd, kd] (spB G.K)) (he : env[i]? = some (.raw (.ref r) (scφ G.K r ns))) (hns : ns.length ≤ 63)
    (h : W G b env fun d e1 => e1[i]? = some (.raw (.ref r) (scφ G.K r ns)) ∧ j < e1.length ∧ ∃ q : Nat, d = .int (q : Int) ∧ q ≤ 100 ∧ ∀ p, Rs G rest (e1.set j (.ms p 0)) Nn) (hnd : G.N.Nodup)
    {p0 : Pos} (hN : G.N[i]? = some xs := by rfl) (hv : Vis G.sc xs := by first | exact Or.inl rfl | exact Or.inr (Or.inl rfl) | exact Or.inr (Or.inr rfl)) (hj : G.N[j]? = some y := by rfl) (hy : Loc G.sc y := by first | exact Or.inl rfl | exact Or.inr rfl) (hg : GlG G x := by rfl) (nst : noStar [Expr.Name xs px2, b] = true := by rfl) (hdb : (x == ("__debug__" : Str)) = false := by decide)
    (hd : (xs == ("__debug__" : Str)) = false := by decide) (hcd : (xs == ("__classdict__" : Str)) = false := by decide) :
    Rs G (.Assign [.Name y p0] (.Call (.Name x pn) [.Name xs px2, b] [] pc) pos :: rest) env Nn :=
  Rs.of (fun X => tSeq (tAsg (fun σ H Q => tCons (tVar i) (tWA G [b]) σ H fun vs H1 => spB G.K vs H1 Q E0) (gName j)) (tRs G rest)) (fun X hX => by
    have c1 := C.fn
    rw [← hX.g.P, ← hX.g.w, ← hX.g.K, ← hX.g.mg, ← hX.g.base] at c1
    rw [← hX.g.K]
    exact pss_cons (ps_set (i := j) (hX.nodup hnd) (hX.at' hj) (hX.loc hy) (pe_callG c1 (by rw [hX.g.A]; exact C.room) (by rw [hX.g.A]; exact C.gd) (glX hX.g hg) (by rw [hX.g.mg]; exact C.mg) (by rw [hX.g.K]; exact C.kp) (by rw [hX.g.K]; exact C.bd)
      (pa_cons (pvG hX.g i hN hv hd hcd) (paW hX.g _ (noStar_cons nst).2) (star_cons (noStar_cons nst).1)) hdb (star_cons (noStar_cons nst).1) (star_any (noStar_cons nst).2)) rfl (.inl (hX.fn y))) (pssR hX rest)) fun X hX σ Hc H D R q => by
    obtain ⟨ev, _, _⟩ := R.ok i _ he
    refine ⟨_, ev, tW.use R h fun v d e1 Hc1 H1 ⟨he1, hjl, qn, ed, hq, hr⟩ go t => ?_⟩
    subst ed
    cases t
    obtain ⟨_, sq, _⟩ := go.rep.ok i _ he1
    refine ⟨r, qn, ns, Hc1, rfl, hq, sq, hns, go.rep.same, fun p Hc' H' hp ex ms => ?_⟩
    have g1 := ex.go go.rep
    have no1 := own_ne_new go.rep hp
    have il := lt_of_N go.rep hjl
    have hs : ∀ {l : Nat} {s : Sl}, (e1.set j (.ms p 0))[l]? = some s → (l = j ∧ s = .ms p 0) ∨ (l ≠ j ∧ e1[l]? = some s) := by
      intro l s e
      by_cases hl : l = j
      · subst hl
        rw [List.getElem?_set_self hjl] at e
        cases e
        exact .inl ⟨rfl, rfl⟩
      · rw [List.getElem?_set_ne (Ne.symm hl)] at e
        exact .inr ⟨hl, e⟩
    have g : Go Hc1 H1 σ e1 Hc' H' (σ.set j (some (.ref p))) (e1.set j (.ms p 0)) := by
      refine ⟨⟨g1.rep.same, fun l s e => ?_, fun l m s t c h1 h2 h3 h4 h5 h6 => ?_, by rw [List.length_set, List.length_set]; exact go.rep.len⟩, g1.core, g1.kp, g1.out, fun c o => ?_, g1.ex⟩
      · rcases hs e with ⟨f1, f2⟩ | ⟨f1, f2⟩
        · subst f1 f2
          rw [List.getElem?_set_self il]
          exact ⟨rfl, ms⟩
        · rw [List.getElem?_set_ne (Ne.symm f1)]
          exact g1.rep.ok l s f2
      · rcases hs h1 with ⟨f1, f3⟩ | ⟨f1, f3⟩
        · subst f1
          rcases hs h2 with ⟨z1, z3⟩ | ⟨z1, z3⟩
          · exact z1.symm
          · rw [List.getElem?_set_self il] at h5
            cases h5
            rw [List.getElem?_set_ne (Ne.symm z1)] at h6
            exact (no1 ⟨_, _, z3, h4, h6⟩).elim
        · rw [List.getElem?_set_ne (Ne.symm f1)] at h5
          rcases hs h2 with ⟨z1, z3⟩ | ⟨z1, z3⟩
          · subst z1
            rw [List.getElem?_set_self il] at h6
            cases h6
            exact (no1 ⟨_, _, f3, h3, h5⟩).elim
          · rw [List.getElem?_set_ne (Ne.symm z1)] at h6
            exact go.rep.inj l m s t c f3 z3 h3 h4 h5 h6
      · obtain ⟨l, s, f1, f2, f3⟩ := o
        rcases hs f1 with ⟨z1, z3⟩ | ⟨z1, z3⟩
        · subst z1
          rw [List.getElem?_set_self il] at f3
          cases f3
          exact .inr hp
        · rw [List.getElem?_set_ne (Ne.symm z1)] at f3
          exact .inl ⟨l, s, z3, f2, f3⟩
    exact tRs.use g.rep (hr p) (q.from (go.trans g))
end
end TL

namespace TL
open PySem PySem.Spec PyProof.Rows L2
/-! dyeings are numbered as met -/
def nums (n : Nat) : List Int := (List.range n).map fun (i : Nat) => (i : Int)
theorem nums_len (n : Nat) : (nums n).length = n := by unfold nums; rw [List.length_map, List.length_range]
theorem nums_mem {n : Nat} {x : Int} : x ∈ nums n ↔ 0 ≤ x ∧ x < n := by
  unfold nums
  rw [List.mem_map]
  constructor
  · rintro ⟨i, hi, e⟩
    have := List.mem_range.mp hi
    omega
  · rintro ⟨h1, h2⟩
    obtain ⟨j, ej⟩ := Int.eq_ofNat_of_zero_le h1
    exact ⟨j, List.mem_range.mpr (by omega), ej.symm⟩
theorem nums_succ (n : Nat) : nums (n + 1) = nums n ++ [(n : Int)] := by
  unfold nums
  rw [List.range_succ, List.map_append]
  rfl
theorem nums_nodup (n : Nat) : (nums n).Nodup := by
  unfold nums
  refine List.Pairwise.map _ (fun a b (h : a ≠ b) => ?_) List.nodup_range
  intro z
  exact h (by omega)
theorem nums_idx {n i : Nat} (h : i < n) : (nums n).idxOf (i : Int) = i := by
  have e0 : (nums n)[i]? = some (i : Int) := by
    unfold nums
    rw [List.getElem?_map, List.getElem?_range h]
    rfl
  obtain ⟨hl, e⟩ := List.getElem?_eq_some_iff.mp e0
  have := (nums_nodup n).idxOf_getElem i hl
  rw [e] at this
  exact this
theorem nk_mem {ks : List Int} {x : Int} (h : x ∈ ks) : nk ks x = ks := by unfold nk; rw [if_pos h]
theorem nk_not {ks : List Int} {x : Int} (h : x ∉ ks) : nk ks x = ks ++ [x] := by unfold nk; rw [if_neg h]
theorem again_line : ∀ (r ks : List Int), dyLine (nums ks.length) (dyLine ks r).1 = ((dyLine ks r).1, nums (dyLine ks r).2.length)
  | [], ks => rfl
  | x :: r, ks => by
    have ih := again_line r (nk ks x)
    show (((nums ks.length).idxOf (ks.idxOf x : Int) : Int) :: (dyLine (nk (nums ks.length) (ks.idxOf x : Int)) (dyLine (nk ks x) r).1).1, (dyLine (nk (nums ks.length) (ks.idxOf x : Int)) (dyLine (nk ks x) r).1).2) = ((ks.idxOf x : Int) :: (dyLine (nk ks x) r).1, nums (dyLine (nk ks x) r).2.length)
    by_cases h : x ∈ ks
    · have hi : ks.idxOf x < ks.length := List.idxOf_lt_length_of_mem h
      have hm : ((ks.idxOf x : Nat) : Int) ∈ nums ks.length := nums_mem.mpr ⟨by omega, by omega⟩
      rw [nk_mem h] at ih ⊢
      rw [nk_mem hm, ih, nums_idx hi]
    · have hi : ks.idxOf x = ks.length := idx_not h
      have hm : ((ks.length : Nat) : Int) ∉ nums ks.length := fun z => by
        have := (nums_mem.mp z).2
        omega
      rw [hi, nk_not h] at *
      rw [nk_not hm, idx_not hm, nums_len, ← nums_succ]
      rw [List.length_append] at ih
      have e1 : ks.length + [x].length = ks.length + 1 := rfl
      rw [e1] at ih
      rw [ih]
theorem again_tab : ∀ (t : Tb) (ks : List Int), dyTab (nums ks.length) (dyTab ks t).1 = ((dyTab ks t).1, nums (dyTab ks t).2.length)
  | [], ks => rfl
  | r :: t, ks => by
    have ih := again_tab t (dyLine ks r).2
    show ((dyLine (nums ks.length) (dyLine ks r).1).1 :: (dyTab (dyLine (nums ks.length) (dyLine ks r).1).2 (dyTab (dyLine ks r).2 t).1).1, (dyTab (dyLine (nums ks.length) (dyLine ks r).1).2 (dyTab (dyLine ks r).2 t).1).2) = _
    rw [again_line, ih]
    rfl
theorem dy_again (t : Tb) : dy (dy t) = dy t := by
  have := again_tab t []
  unfold dy
  show (dyTab (nums ([] : List Int).length) (dyTab [] t).1).1 = _
  rw [this]
theorem line_grow : ∀ (r ks : List Int), ks.length ≤ (dyLine ks r).2.length
  | [], ks => Nat.le_refl _
  | x :: r, ks => by
    have ih := line_grow r (nk ks x)
    have : ks.length ≤ (nk ks x).length := by
      unfold nk
      split
      · exact Nat.le_refl _
      · simp
    show ks.length ≤ (dyLine (nk ks x) r).2.length
    omega
theorem tab_grow : ∀ (t : Tb) (ks : List Int), ks.length ≤ (dyTab ks t).2.length
  | [], ks => Nat.le_refl _
  | r :: t, ks => by
    have h1 := line_grow r ks
    have h2 := tab_grow t (dyLine ks r).2
    show ks.length ≤ (dyTab (dyLine ks r).2 t).2.length
    omega
theorem line_in : ∀ (r ks : List Int), ∀ z ∈ (dyLine ks r).1, 0 ≤ z ∧ z < (dyLine ks r).2.length
  | [], ks, z, h => by cases h
  | x :: r, ks, z, h => by
    have ih := line_in r (nk ks x)
    have hg := line_grow r (nk ks x)
    have h' : z ∈ (ks.idxOf x : Int) :: (dyLine (nk ks x) r).1 := h
    show 0 ≤ z ∧ z < (dyLine (nk ks x) r).2.length
    rcases List.mem_cons.mp h' with e | e
    · rw [e]
      have : ks.idxOf x < (nk ks x).length := by
        by_cases hx : x ∈ ks
        · rw [nk_mem hx]
          exact List.idxOf_lt_length_of_mem hx
        · rw [nk_not hx, idx_not hx]
          simp
      omega
    · exact ih z e
theorem tab_in : ∀ (t : Tb) (ks : List Int), ∀ r ∈ (dyTab ks t).1, ∀ z ∈ r, 0 ≤ z ∧ z < (dyTab ks t).2.length
  | [], ks, r, h => by cases h
  | s :: t, ks, r, h => by
    intro z hz
    have h' : r ∈ (dyLine ks s).1 :: (dyTab (dyLine ks s).2 t).1 := h
    show 0 ≤ z ∧ z < (dyTab (dyLine ks s).2 t).2.length
    rcases List.mem_cons.mp h' with e | e
    · rw [e] at hz
      have := line_in s ks z hz
      have := tab_grow t (dyLine ks s).2
      omega
    · exact tab_in t (dyLine ks s).2 r e z hz
theorem tab_rows : ∀ (t : Tb) (ks : List Int) (n : Nat), (∀ r ∈ t, r.length = n) → (∀ r ∈ (dyTab ks t).1, r.length = n) ∧ (dyTab ks t).2.length ≤ ks.length + t.length * n
  | [], ks, n, _ => ⟨(fun _ h => by cases h), (by show ks.length ≤ ks.length + 0 * n; omega)⟩
  | s :: t, ks, n, h => by
    obtain ⟨h1, h2⟩ := tab_rows t (dyLine ks s).2 n fun r hr => h r (List.mem_cons_of_mem _ hr)
    have hs := h s List.mem_cons_self
    obtain ⟨l1, l2⟩ := dyLine_len s ks
    refine ⟨fun r hr => ?_, ?_⟩
    · have h' : r ∈ (dyLine ks s).1 :: (dyTab (dyLine ks s).2 t).1 := hr
      rcases List.mem_cons.mp h' with e | e
      · rw [e, l1, hs]
      · exact h1 r e
    · show (dyTab (dyLine ks s).2 t).2.length ≤ ks.length + (t.length + 1) * n
      rw [Nat.add_mul, Nat.one_mul]
      omega
/-- what a drawn table is worth -/
structure Dye (n : Nat) (t : Tb) : Prop where
  sq : Sq n t
  same : dy t = t
  low : ∀ r ∈ t, ∀ z ∈ r, 0 ≤ z ∧ z < (n * n : Nat)
theorem dye_of {n : Nat} {t : Tb} (h : Sq n t) : Dye n (dy t) := by
  obtain ⟨h1, h2⟩ := tab_rows t [] n h.2
  refine ⟨⟨by unfold dy; rw [dyTab_len]; exact h.1, h1⟩, dy_again t, fun r hr z hz => ?_⟩
  have := tab_in t [] r hr z hz
  rw [h.1] at h2
  simp only [List.length_nil, Nat.zero_add] at h2
  omega
/-- tables of natural numbers -/
theorem nat_tb : ∀ {t : Tb}, (∀ r ∈ t, ∀ z ∈ r, 0 ≤ z) → ∃ u : List (List Nat), t = u.map up
  | [], _ => ⟨[], rfl⟩
  | r :: t, h => by
    obtain ⟨u, eu⟩ := nat_tb fun s hs => h s (List.mem_cons_of_mem _ hs)
    have hr : ∀ {l : List Int}, (∀ z ∈ l, 0 ≤ z) → ∃ v : List Nat, l = up v := by
      intro l
      induction l with
      | nil => exact fun _ => ⟨[], rfl⟩
      | cons z l ih =>
        intro h
        obtain ⟨v, ev⟩ := ih fun y hy => h y (List.mem_cons_of_mem _ hy)
        obtain ⟨j, ej⟩ := Int.eq_ofNat_of_zero_le (h z List.mem_cons_self)
        exact ⟨j :: v, by rw [ej, ev]; rfl⟩
    obtain ⟨v, ev⟩ := hr (h r List.mem_cons_self)
    exact ⟨v :: u, by rw [ev, eu]; rfl⟩
theorem rowC_low : ∀ r : List Nat, ∀ c ∈ rowC r, c < 1114112
  | [], c, h => by cases h
  | [x], c, h => by
    have := numL_digits x c h
    omega
  | x :: y :: r, c, h => by
    have h' : c ∈ numL x ++ 32 :: rowC (y :: r) := h
    rcases List.mem_append.mp h' with e | e
    · have := numL_digits x c e
      omega
    · rcases List.mem_cons.mp e with e | e
      · omega
      · exact rowC_low (y :: r) c e
theorem tabC_low : ∀ t : List (List Nat), ∀ c ∈ tabC t, c < 1114112
  | [], c, h => by cases h
  | [r], c, h => rowC_low r c h
  | r :: s :: t, c, h => by
    have h' : c ∈ rowC r ++ 47 :: tabC (s :: t) := h
    rcases List.mem_append.mp h' with e | e
    · exact rowC_low r c e
    · rcases List.mem_cons.mp e with e | e
      · omega
      · exact tabC_low (s :: t) c e
theorem nb_text {t : List (List Nat)} (h : Small (t.map up)) : NB 36002 1 (.str (textOf (t.map up))) :=
  (nb_str (List.all_eq_true.mpr fun c hc => decide_eq_true (tabC_low t c (by
    have e : (textOf (t.map up)).cps.toList = tabC t := textOf_tl t
    rw [← e]
    exact hc)))).mono (by have := textOf_len h; omega) (Nat.le_refl _)
theorem small_of {n : Nat} {t : Tb} (h : Sq n t) (hn : n ≤ 16) (hb : ∀ r ∈ t, ∀ z ∈ r, z.natAbs < 10 ^ 12) : Small t :=
  ⟨by have := h.1; omega, fun r hr => ⟨by have := h.2 r hr; omega, hb r hr⟩⟩
def preSh (ds : List PyData) : Prop := ∃ n : Nat, ds = [.int n] ∧ n ≤ 300
def postSh (ds : List PyData) (d : PyData) : Prop := ∃ (n : Nat) (p : List Int), ds = [.int n] ∧ d = .tuple (p.map .int) ∧ p.Perm (nums n)
def preDr (ds : List PyData) : Prop := ∃ k : Nat, ds = [.int k] ∧ k ≤ 16
def postDr (ds : List PyData) (d : PyData) : Prop := ∃ (k n : Nat) (t : Tb), ds = [.int k] ∧ d = tbT (dy t) ∧ Sq n t ∧ n ≤ k
theorem pd_int {b : Int} {d : PyData} (h : postD [.int b] d) : ∃ i, d = .int i ∧ 0 ≤ i ∧ i < b := by
  obtain ⟨b', i, e1, e2, h1, h2⟩ := h
  injection e1 with e1 _
  injection e1 with e1
  subst e1
  exact ⟨i, e2, h1, h2⟩
end TL

namespace TL
open PySem PySem.Spec PyProof.Rows L2
/-! the law's own def, and its end -/
def spL (K : PySem.W.Frag) : Sp := fun vs H Q _ => ∃ (a : Addr) (ns : List Int), vs = [.ref a] ∧ SqL K H a (ns.map V.int) ∧ ns.length ≤ 63 ∧ ∀ H', Q (.bl true) H'
section
variable {P : Program} {w : World} {K : PySem.W.Frag} {mg : Str → Option Value} {base : Heap} {k : Nat} {f : Addr} {fd : FuncData} {N ps : List Str} {x qual : Str} {st : Stmt} {sd : Str}
theorem fnL (F : Fun K x qual st f fd) (S : FnScope N [sd] (defScope st))
    (h : ∀ A, A.guards = some [] → Room k A → ∀ (a : Addr) (ns : List Int), ns.length ≤ 63 →
      Rs (GxOf P w K mg base N st A) (defBody st) (.raw (.ref a) (scφ K a ns) :: List.replicate (N.length - 1) .no) { nx := fun _ => False, rt := fun d _ => d = .bool true }) : FnG P w K mg base (k + 1) f fd [sd] (spL K) := by
  refine fnG_of F S (fun vs H Q E ⟨a, ns, ev, _⟩ => by rw [ev]; rfl) fun cdv A outer s0 H vs Q E hg hr ⟨a, ns, ev, sq, hl, q⟩ => ?_
  subst ev
  have eStart : L2.start N [V.ref a] = some (.ref a) :: List.replicate (N.length - 1) none := rfl
  have get1 : ∀ {i : Nat} {u : Sl}, ((.raw (.ref a) (scφ K a ns) :: List.replicate (N.length - 1) .no : En))[i]? = some u → (i = 0 ∧ u = .raw (.ref a) (scφ K a ns)) ∨ u = .no := by
    intro i u e
    match i, e with
    | 0, e => cases e; exact .inl ⟨rfl, rfl⟩
    | j + 1, e =>
      have e' : (List.replicate (N.length - 1) Sl.no)[j]? = some u := e
      rw [List.getElem?_replicate] at e'
      split at e' <;> cases e'
      exact .inr rfl
  have noown : ∀ {i : Nat} {u : Sl}, ((.raw (.ref a) (scφ K a ns) :: List.replicate (N.length - 1) .no : En))[i]? = some u → u.own = false := by
    intro i u e
    rcases get1 e with ⟨ei, eu⟩ | eu <;> (rw [eu]; rfl)
  have R : Rp H H (L2.start N [V.ref a]) (.raw (.ref a) (scφ K a ns) :: List.replicate (N.length - 1) .no) := by
    rw [eStart]
    refine ⟨.refl H, fun i u e => ?_, fun i l u v c e1 e2 e3 _ _ _ => ?_, by simp⟩
    · rcases get1 e with ⟨ei, eu⟩ | eu
      · subst ei eu
        exact ⟨rfl, sq, scφ_mono⟩
      · subst eu
        trivial
    · rw [noown e1] at e3
      cases e3
  refine ⟨_, pssR inS_def _, tRs.use R (h (A.deeper (envOfC qual (defScope st) s0.heap.objs.size f cdv)) hg hr a ns hl) ⟨fun _ _ _ _ z => z.elim, fun v d e σ' Hc' H' ed g tv => ?_, fun _ _ _ _ z => z.elim, fun _ _ _ _ z => z.elim, fun _ _ _ _ _ _ _ z => z.elim⟩⟩
  have ed' : d = .bool true := ed
  subst ed'
  cases tv
  exact q H'
end
/-- the law is called behind the top -/
theorem law_callG {P : Program} {w : World} {K : PySem.W.Frag} {mg mb : Str → Option Value} {k : Nat} {fa a : Addr} {fd : FuncData} {x : Str} {sp : Sp} {s1 : Shared} {vs : List Value} {ns : List Int}
    (KX : K.In s1.heap) (hns : s1.heap.Ns mainGlobals mg) (hb : s1.heap.Ns builtinsNs mb) (hbb : ∀ x : Str, x ≠ "__name__" → mb x = bootBuiltins x) (hlim : s1.heap.NoLimit) (hg : s1.gens = #[])
    (ha : s1.heap.get? a = some { cls := .type "list", data := .seq vs.toArray }) (hi : IntsAre vs ns) (hl : ns.length ≤ sizeLine) (hr : Room k callerA)
    (F : ∀ base : Heap, K.In base → base.Ns mainGlobals mg → FnG P w K mg base k fa fd [x] sp) (hbind : ∀ (s : Shared) (u : Value), BindsTo s fd ⟨[u], []⟩ [(x, u)])
    (hsp : ∀ H : Hp, Only H → SqL K H a (ns.map V.int) → sp [.ref a] H (fun v _ => v = .bl true) E0) :
    codeAny (model P w) callerA (.call (.ref fa) ⟨[.ref a], []⟩) (fun r s' => r = .ok (.ret (.bool true)) ∧ OldK s1.heap s'.heap ∧ s'.os = s1.os ∧ AllBare s'.gens) s1 := by
  have rv := vals_ints hi
  have lenV := hi.length
  have core : ∀ H : Hp, Only H → SqL K H a (ns.map V.int) → HOk P w H s1.heap → (∀ b, H b ≠ none → b = a) → (H a ≠ none → K.lookup a = none) →
      codeAny (model P w) callerA (.call (.ref fa) ⟨[.ref a], []⟩) (fun r s' => r = .ok (.ret (.bool true)) ∧ OldK s1.heap s'.heap ∧ s'.os = s1.os ∧ AllBare s'.gens) s1 := by
    intro H hO hS hok hA hK
    have nA : ∀ {b : Addr}, b ≠ a → H b = none := fun {b} ne => by
      cases q : H b with
      | none => rfl
      | some u => exact absurd (hA b (by rw [q]; simp)) ne
    have notd : ∀ {b : Addr} {o : Obj} {es : Array DictEntry} {ep : Nat}, s1.heap.get? b = some o → o.data = .dict es ep → H b = none := by
      intro b o es ep e d
      refine nA fun z => ?_
      subst z
      rw [ha] at e
      cases e
      have d' : Data.seq vs.toArray _ = Data.dict es ep := d
      cases d'
    have nsK : ∀ {b : Addr} {m : Str → Option Value}, s1.heap.Ns b m → (hidT s1.heap H).Ns b m := by
      rintro b m ⟨o, es, ep, e, d, r⟩
      exact ⟨o, es, ep, hidT_get e (notd e d), d, r⟩
    have hKb : K.In (hidT s1.heap H) := by
      intro b o e
      refine hidT_get (KX b o e) ?_
      by_cases z : b = a
      · subst z
        cases q : H b with
        | none => rfl
        | some u =>
          have e' := hK (by rw [q]; simp)
          rw [e'] at e
          cases e
      · exact nA z
    have hM : Mod K mg (hidT s1.heap H) := by
      obtain ⟨mc, h1, h2⟩ := hlim
      exact ⟨hKb, nsK hns, ⟨mb, nsK hb, hbb⟩, ⟨mc, nsK h1, h2⟩⟩
    have e0 : Env0 P w K mg (hidT s1.heap H) callerA [] s1 H := by
      refine ⟨rfl, hM, fun b o e => of_hidT e, Nat.le_of_eq (hidT_size _ _), trivial, fun b hb => ?_, hok, .of_eq hg⟩
      cases (show b ∈ ([] : List Addr) from hb)
    have run := (F _ hKb (nsK hns)).run callerA [] s1 H ⟨[.ref a], []⟩ [.ref a] [.ref a] _ _ rfl hr e0 (hbind s1 (.ref a)) (.cons rfl .nil) (hsp H hO hS)
    refine codeAny_mono run fun r s' h => ?_
    cases r with
    | error e => exact h.elim
    | ok fl =>
      cases fl with
      | next => exact h.elim
      | brk => exact h.elim
      | cont => exact h.elim
      | ret u =>
        obtain ⟨v, H', os, bare, un, hok', r', q⟩ := h
        have q' : v = .bl true := q
        subst q'
        have ru : u = Value.bool true := r'
        subst ru
        refine ⟨rfl, OldK.of_keep fun b o e => ?_, os, bare⟩
        cases q : H b with
        | none => exact un.keep b o e q (fun z => by cases (show b ∈ ([] : List Addr) from z)) (by simp)
        | some u =>
          rcases hO b with z | ⟨ob, xs, z⟩
          · rw [q] at z
            cases z
          · have e1 := (hok b _ z).1
            have e2 := (hok' b _ (un.frzs b ob _ z)).1
            rw [e] at e1
            cases e1
            exact e2
  cases hk : K.lookup a with
  | some o =>
    have e := KX a o hk
    rw [ha] at e
    cases e
    refine core (fun _ => none) (fun _ => .inl rfl) (.inr ⟨_, vs.toArray, _, hk, rfl, rfl, rfl, ?_, ?_⟩) (fun b u z => ?_) (fun b z => absurd rfl z) fun z => absurd rfl z
    · rw [List.size_toArray, lenV]
      exact hl
    · simpa using rv
    · cases (show (none : Option HO) = some u from z)
  | none =>
    let H1 : Hp := fun b => if b = a then some (.frz { cls := .type "list", data := .seq vs.toArray } (.lst (ns.map V.int))) else none
    have atA : H1 a = some (.frz { cls := .type "list", data := .seq vs.toArray } (.lst (ns.map V.int))) := if_pos rfl
    have off : ∀ {b : Addr}, b ≠ a → H1 b = none := fun h => if_neg h
    refine core H1 (fun b => ?_) (.inl (.inr ⟨_, atA⟩)) (fun b u z => ?_) (fun b z => ?_) fun _ => hk
    · by_cases hb : b = a
      · exact .inr ⟨_, _, by rw [hb]; exact atA⟩
      · exact .inl (off hb)
    · by_cases hb : b = a
      · subst hb
        rw [atA] at z
        cases z
        exact ⟨ha, by rw [List.length_map]; exact hl, vs, _, rv, ha⟩
      · rw [off hb] at z
        cases z
    · by_cases hb : b = a
      · exact hb
      · exact absurd (off hb) z
theorem walk_ofG {l : PySem.W.OpenLaw} {n k : Nat} {q : Program} {loose : List Str} {XP : (Str → Option Value) → Heap → Prop} {YP : World → Heap → Prop} {d : DefRec} {K : Params → PySem.W.Frag} {sp : PySem.W.Frag → Sp} {x : Str}
    (hn : l.most = some n) (hn2 : n ≤ sizeLine) (hdf : d.params.defaults = []) (hr : Room k callerA)
    (hY : ∀ (w : World) (h : Heap), YP w h → (K w.params).In h)
    (F : ∀ (w : World) (mg : Str → Option Value) (fa : Addr) (h : Heap), (K w.params).In h → h.Ns mainGlobals mg → mg d.name = some (.ref fa) →
      ∃ fd : FuncData, (∀ (s : Shared) (u : Value), BindsTo s fd ⟨[u], []⟩ [(x, u)]) ∧ ∀ base : Heap, (K w.params).In base → base.Ns mainGlobals mg → FnG l.prog w (K w.params) mg base k fa fd [x] (sp (K w.params)))
    (hsp : ∀ (K : PySem.W.Frag) (H : Hp) (a : Addr) (ns : List Int), ns.length ≤ n → Only H → SqL K H a (ns.map V.int) → sp K [.ref a] H (fun v _ => v = .bl true) E0) :
    PySem.W.WalkO q loose XP YP l.row.toRowW d [] (fun f vs => PySem.call f vs) := by
  apply Att.attach_call hn hdf
  intro w s0 s1 mg mb fa o pm cd doc a vs ns G Y ho hd hcd hmg hobj hints hlen hg
  have KX := hY w _ Y
  obtain ⟨fd, hb, hF⟩ := F w mg fa _ KX G.T.g hmg
  exact law_callG KX G.T.g G.T.b G.T.builtins G.T.nolimit hg hobj hints (Nat.le_trans hlen hn2) hr hF hb fun H hO hS => hsp (K w.params) H a ns hlen hO hS
end TL

namespace K03
open PySem PySem.Spec PyProof.Rows L2 TL
def topS (i : Nat) : Stmt := PySem.Challenge.pw_pairdyes_k03_whole_texts.main.body.getD i (.Pass ⟨0, 0, 0, 0⟩)
def preTr (ds : List PyData) : Prop := ∃ (n : Nat) (t : Tb), ds = [tbT t] ∧ Dye n t ∧ n ≤ 16
def postTr (_ : List PyData) (d : PyData) : Prop := d = .bool true
end K03

namespace K03
open PySem PySem.Spec PyProof.Rows L2 TL
def preHr (ds : List PyData) : Prop := ds = []
def postHr (_ : List PyData) (d : PyData) : Prop := d = .bool true
def unl : List (List Nat) := (List.range 16).map fun x => (List.range 16).map fun y => 16 * x + y
theorem unl_dy : dy (unl.map up) = unl.map up := by decide +kernel
theorem unl_sq : unl.length ≤ 16 ∧ ∀ r ∈ unl, r.length = unl.length ∧ ∀ x ∈ r, x < 1000 := by decide +kernel
theorem txt0 : textOf ([] : Tb) = Str.ofString "" := by decide +kernel
theorem txt1 : textOf ([[0]].map up) = Str.ofString "0" := by decide +kernel
theorem txt7 : textOf ([[7]].map up) = Str.ofString "7" := by decide +kernel
theorem txt2 : textOf ([[0, 1], [1, 0]].map up) = Str.ofString "0 1/1 0" := by decide +kernel
theorem txt3 : textOf ([[999, 0], [0, 10]].map up) = Str.ofString "999 0/0 10" := by decide +kernel
theorem txt4 : textOf ([[5, 5], [5, 5]].map up) = Str.ofString "5 5/5 5" := by decide +kernel
theorem dy7 : dy ([[7]].map up) = [[0]] := by decide +kernel
theorem dy3 : dy ([[999, 0], [0, 10]].map up) = [[0, 1], [1, 2]] := by decide +kernel
theorem dy4 : dy ([[5, 5], [5, 5]].map up) = [[0, 0], [0, 0]] := by decide +kernel
theorem nbs (x : Str) (h : x.cps.toList.all (fun c => decide (c < 1114112)) = true) (hl : x.length ≤ 20) : NB 4000 3 (.str x) := (nb_str h).mono (by omega) (by decide)
theorem small3 (t : Tb) (h : (decide (t.length ≤ 16) && t.all fun r => decide (r.length ≤ 16) && r.all fun x => decide (x.natAbs < 10 ^ 12)) = true) : Small t := by
  simp only [Bool.and_eq_true, decide_eq_true_eq, List.all_eq_true] at h
  exact h
def gI (x : Int) : PyData → PyData
  | .int y => .int (16 * x + y)
  | _ => .none
def gO : PyData → PyData
  | .int x => .tuple ((rgD 0 16).map (gI x))
  | _ => .none
theorem eu : PyData.tuple ((rgD 0 16).map gO) = tbT (unl.map up) := by
  unfold tbT unl
  rw [List.map_map, List.map_map]
  have e : rgD 0 16 = (List.range 16).map fun (i : Nat) => PyData.int (0 + (i : Int)) := rfl
  rw [e, List.map_map]
  refine congrArg PyData.tuple (List.map_congr_left fun x _ => ?_)
  show PyData.tuple ((rgD 0 16).map (gI (0 + (x : Int)))) = PyData.tuple ((((List.range 16).map fun y => 16 * x + y).map fun (n : Nat) => (n : Int)).map PyData.int)
  rw [e, List.map_map, List.map_map, List.map_map]
  refine congrArg PyData.tuple (List.map_congr_left fun y _ => ?_)
  show PyData.int (16 * (0 + (x : Int)) + (0 + (y : Int))) = PyData.int ((16 * x + y : Nat) : Int)
  refine congrArg PyData.int ?_
  push_cast
  omega
theorem small_u : Small (unl.map up) := small3 _ (by decide +kernel)
theorem unl_ex : ∃ U : List (List Nat), (U.length ≤ 16 ∧ ∀ r ∈ U, r.length = U.length ∧ ∀ x ∈ r, x < 1000) ∧ dy (U.map up) = U.map up ∧ Small (U.map up) ∧ PyData.tuple ((rgD 0 16).map gO) = tbT (U.map up) := ⟨unl, unl_sq, unl_dy, small_u, eu⟩
def dA : PyData := .list [.str (Str.ofString ""), tbT [], .str (Str.ofString "0"), tbT [[0]], .str (Str.ofString "0 1/1 0"), tbT [[0, 1], [1, 2]], tbT [[0, 0], [0, 0]]]
theorem dpA : isDisplay dA = true := by decide +kernel
theorem nbA : NB 60000 4 dA := by
    have s0 : Small [] := small3 _ (by decide +kernel)
    have s1 : Small ([[0]] : Tb) := small3 _ (by decide +kernel)
    have h : ∀ x ∈ [PyData.str (Str.ofString ""), tbT [], .str (Str.ofString "0"), tbT [[0]], .str (Str.ofString "0 1/1 0"), tbT [[0, 1], [1, 2]], tbT [[0, 0], [0, 0]]], NB 4000 3 x := fun x hx => by
      rcases List.mem_cons.mp hx with e | hx
      · rw [e]; exact nbs _ (by decide +kernel) (by decide +kernel)
      rcases List.mem_cons.mp hx with e | hx
      · rw [e]; exact (nb_tb s0).mono (by omega) (Nat.le_refl _)
      rcases List.mem_cons.mp hx with e | hx
      · rw [e]; exact nbs _ (by decide +kernel) (by decide +kernel)
      rcases List.mem_cons.mp hx with e | hx
      · rw [e]; exact (nb_tb s1).mono (by omega) (Nat.le_refl _)
      rcases List.mem_cons.mp hx with e | hx
      · rw [e]; exact nbs _ (by decide +kernel) (by decide +kernel)
      rcases List.mem_cons.mp hx with e | hx
      · rw [e]; exact (nb_tb (small3 _ (by decide +kernel))).mono (by omega) (Nat.le_refl _)
      rcases List.mem_cons.mp hx with e | hx
      · rw [e]; exact (nb_tb (small3 _ (by decide +kernel))).mono (by omega) (Nat.le_refl _)
      cases hx
    exact (nb_list h).mono (by simp only [List.length_cons, List.length_nil]; omega) (Nat.le_refl _)
end K03

namespace K03
open PySem PySem.Spec PyProof.Rows L2 TL
section
variable {P : Program} {w : World} {K : PySem.W.Frag} {mg : Str → Option Value} {base : Heap} {k : Nat} {f : Addr} {fd : FuncData}
abbrev sDraw : Stmt := topS 16
theorem scDraw : FnScope ["m", "bound", "found", "spot", "cells", "extra", "cell", "blend"] ["m", "bound"] (defScope sDraw) := ⟨rfl, rfl, rfl, by decide +kernel, rfl, by decide +kernel, by decide +kernel⟩
theorem small_mul {i j : Int} (h1 : -1000000000000 ≤ i) (h2 : i ≤ 1000000000000) : CMul i j := .inl ⟨by omega, by omega⟩
theorem small_mulR {i j : Int} (h1 : -1000000000000 ≤ j) (h2 : j ≤ 1000000000000) : CMul i j := .inr ⟨by omega, by omega⟩
theorem ok_draw (F : Fun K "_law_draw" "_law_draw" sDraw f fd) (m1 : mg "int" = none) (m2 : mg "len" = none) : FnG P w K mg base (k + 1) f fd ["m", "bound"] (spM 1 preD postD) := by
  refine fnDraw F scDraw (by decide) fun A hg hr a l s p ns b hb1 hb2 h1 h2 h3 h4 h5 h6 => ?_
  have hu : A.units + 1 < cLine := hu_of hr
  refine r_if (wt_gt (w_dget 0 hu rfl (w_str ⟨_, kL, _, rfl, rfl, val_L, l, rfl, w_int ⟨0, rfl, ifd (fun hl => ?_) fun hl => ?_⟩⟩)))
  · refine r_asg 2 scDraw.nd (w_mod (w_intC m1 (w_dget 0 hu rfl (w_str ⟨_, kL, _, rfl, rfl, val_L, l, rfl, l, rfl, w_name 1 ⟨b, rfl, by omega, ?_⟩⟩))))
    refine r_dput 0 hu (w_fdiv (w_dget 0 hu rfl (w_str ⟨_, kL, _, rfl, rfl, val_L, l, rfl, w_name 1 ⟨b, rfl, ⟨by omega, by omega⟩, a, _, rfl, w_str ⟨_, kL, rfl, rfl, by show 4 < 100000; decide, ?_⟩⟩⟩)))
    rw [put_L]
    exact r_ret (w_name 2 ⟨_, _, rfl, h5, by omega, _, rfl, Int.emod_nonneg _ (by omega), Int.emod_lt_of_pos _ (by omega)⟩)
  · refine r_nil ?_
    refine r_asg 3 scDraw.nd (w_dget 0 hu rfl (w_str ⟨_, kP, _, rfl, rfl, val_P, ?_⟩))
    refine r_dput 0 hu (w_add (w_name 3 ⟨p, rfl, w_int ⟨1, rfl, a, _, rfl, w_str ⟨_, kP, rfl, rfl, by show 4 < 100000; decide, ?_⟩⟩⟩))
    rw [put_P]
    have sp : (-1000000000000 : Int) ≤ p ∧ p ≤ 1000000000000 := by omega
    refine r_par2 4 5 (w_dget 0 hu rfl (w_str ⟨_, kC, _, rfl, rfl, val_C, w_add (w_dget 0 hu rfl (w_str ⟨_, kS, _, rfl, rfl, val_S, s, rfl, w_mul (w_mul (w_int ⟨40503, rfl, w_name 3 ⟨p, rfl, small_mul (by decide) (by decide), _, rfl, w_name 3 ⟨p, rfl, small_mulR sp.1 sp.2, _, rfl, _, _, rfl, ?_⟩⟩⟩))⟩))⟩)) scDraw.nd (fun v hv => ?_)
    · generalize s + 40503 * p * p = ex
      have hlen : (ns.map PyData.int).length = ns.length := List.length_map ..
      have hpos : 0 < ns.length := by
        cases ns with
        | nil => exact absurd rfl h1
        | cons _ _ => exact Nat.succ_pos _
      -- cell = cells[int(spot) % len(cells)]
      have hj : 0 ≤ p % (ns.length : Int) ∧ p % (ns.length : Int) < ns.length := ⟨Int.emod_nonneg _ (by omega), Int.emod_lt_of_pos _ (by omega)⟩
      obtain ⟨j, ej⟩ := Int.eq_ofNat_of_zero_le hj.1
      have hjl : j < ns.length := by omega
      refine r_asg 6 scDraw.nd (w_sub (w_name 4 (w_mod (w_intC m1 (w_name 3 ⟨p, rfl, p, rfl, w_len m2 (w_name 4 ⟨ns.length, ?_, _, rfl, ?_, ns.map PyData.int, p % (ns.length : Int), .int ns[j], rfl, rfl, ?_, ?_⟩)⟩)))))
      · show some (ns.map PyData.int).length = _
        rw [hlen]
      · omega
      · rw [ej]
        exact atI_nat (by rw [List.getElem?_map, List.getElem?_eq_getElem hjl]; rfl)
      generalize ns[j] = c
      -- blend
      refine r_asg 7 scDraw.nd (w_mod (w_intC m1 (w_add (w_mul (w_name 6 ⟨c, rfl, w_add (w_mul (w_int ⟨2, rfl, w_name 3 ⟨p, rfl, small_mul (by decide) (by decide), _, rfl, w_int ⟨3, rfl, _, rfl, small_mulR (by omega) (by omega), _, rfl, w_name 5 ⟨ex, rfl, _, rfl, _, rfl, w_int ⟨2147483647, rfl, by decide, ?_⟩⟩⟩⟩⟩))⟩)))))
      generalize hb3 : (c * (2 * p + 3) + ex) % 2147483647 = b1
      have hb4 : 0 ≤ b1 ∧ b1 < 2147483647 := by rw [← hb3]; exact ⟨Int.emod_nonneg _ (by decide), Int.emod_lt_of_pos _ (by decide)⟩
      refine r_asg 7 scDraw.nd (w_mod (w_intC m1 (w_add (w_add (w_mul (w_name 7 ⟨b1, rfl, w_name 7 ⟨b1, rfl, small_mul (by omega) (by omega), _, rfl, w_mul (w_int ⟨69621, rfl, w_name 3 ⟨p, rfl, small_mul (by decide) (by decide), _, rfl, _, rfl, w_dget 0 hu rfl (w_str ⟨_, kS, _, rfl, rfl, val_S, s, rfl, _, rfl, _, rfl, w_int ⟨2147483629, rfl, by decide, ?_⟩⟩)⟩⟩)⟩⟩))))))
      generalize hb5 : (b1 * b1 + 69621 * p + s) % 2147483629 = b2
      have hb6 : 0 ≤ b2 ∧ b2 < 2147483629 := by rw [← hb5]; exact ⟨Int.emod_nonneg _ (by decide), Int.emod_lt_of_pos _ (by decide)⟩
      refine r_ret (w_mod (w_fdiv (w_mod (w_intC m1 (w_add (w_mul (w_name 7 ⟨b2, rfl, w_int ⟨48271, rfl, small_mul (by omega) (by omega), _, rfl, w_name 3 ⟨p, rfl, _, rfl, _, rfl, w_int ⟨2147483647, rfl, by decide, _, rfl, w_int ⟨11, rfl, ⟨by decide, by decide⟩, _, rfl, w_name 1 ⟨b, rfl, by omega, ?_⟩⟩⟩⟩⟩⟩)))))))
      exact ⟨l, p + 1, rfl, by omega, by omega, _, rfl, Int.emod_nonneg _ (by omega), Int.emod_lt_of_pos _ (by omega)⟩
    · cases v
      subst hv
      rfl
end
end K03

namespace K03
open PySem PySem.Spec PyProof.Rows L2 TL
section
variable {P : Program} {w : World} {K : PySem.W.Frag} {mg : Str → Option Value} {base : Heap} {k : Nat} {f : Addr} {fd : FuncData}
abbrev sDyed : Stmt := topS 19
theorem scDyed : FnScope ["rows", "spots", "found", "row", "line", "key"] ["rows"] (defScope sDyed) := ⟨rfl, rfl, rfl, by decide +kernel, rfl, by decide +kernel, by decide +kernel⟩
theorem ok_dyed (F : Fun K "_law_dyed" "_law_dyed" sDyed f fd) (m1 : mg "len" = none) (m2 : mg "tuple" = none) : FnG P w K mg base (k + 1) f fd ["rows"] (spP preDy postDy) := by
  refine fnP F scDyed (fun ds ⟨_, _, e, _⟩ => by rw [e]; rfl) fun A hg hr ds ⟨d0, t, e, ht, hl, hlr⟩ => ?_
  subst e
  obtain ⟨rs, ers, al⟩ := id ht
  have hu : A.units + 1 < cLine := hu_of hr
  refine r_parNew 1 2 (fun p => ?_) scDyed.nd (by show 1 < 6; decide) (by show 2 < 6; decide) (by intro v hv; cases v; subst hv; rfl)
  refine r_for 3 scDyed.nd (wi_seq (w_name 0 ⟨rs, ers, fun i e => ∃ s3 s4 s5, e = [.va d0, .dk p (kvK (dyTab [] (t.take i)).2), .ow ((dyTab [] (t.take i)).1.map rowT), s3, s4, s5] ∧ (dyTab [] (t.take i)).2.length ≤ 16 * i, ⟨_, _, _, rfl, Nat.zero_le _⟩, fun i d e ed he => ?_, fun e he => ?_⟩))
  · obtain ⟨s3, s4, s5, ee, hk⟩ := he
    subst ee
    obtain ⟨r, er, hd⟩ := al.get ed
    have hi : i < t.length := (List.getElem?_eq_some_iff.mp er).1
    have hrl := hlr r (List.mem_of_getElem? er)
    have es : t.take (i + 1) = t.take i ++ [r] := by rw [List.take_add_one, er]; rfl
    have hT1 : (dyTab [] (t.take i)).1.length ≤ i := by
      rw [dyTab_len, List.length_take]
      exact Nat.min_le_left _ _
    generalize hT : dyTab [] (t.take i) = T at *
    obtain ⟨T1, ks⟩ := T
    refine r_new 4 scDyed.nd (by show 4 < 6; decide) ?_
    refine r_for 5 scDyed.nd (wi_seq (w_name 3 ⟨_, hd, fun j e => ∃ s5, e = [.va d0, .dk p (kvK (dyLine ks (r.take j)).2), .ow (T1.map rowT), .va d, .ow ((dyLine ks (r.take j)).1.map .int), s5], ⟨_, rfl⟩, fun j c e ec he => ?_, fun e he => ?_⟩))
    · obtain ⟨s5, ee⟩ := he
      subst ee
      rw [List.getElem?_map] at ec
      cases ex : r[j]? with
      | none => rw [ex] at ec; cases ec
      | some x =>
        rw [ex] at ec
        cases ec
        have hj : j < r.length := (List.getElem?_eq_some_iff.mp ex).1
        have ej : r.take (j + 1) = r.take j ++ [x] := by rw [List.take_add_one, ex]; rfl
        have hlen := (dyLine_len (r.take j) ks)
        have htk : (r.take j).length ≤ j := by rw [List.length_take]; exact Nat.min_le_left _ _
        generalize hL : dyLine ks (r.take j) = Lk at *
        obtain ⟨o, kk⟩ := Lk
        have hkk : kk.length ≤ 300 := by
          have := hlen.2
          show kk.length ≤ 300
          simp only at this hk
          omega
        have nx : dyLine ks (r.take (j + 1)) = (o ++ [(kk.idxOf x : Int)], nk kk x) := by rw [ej, dyLine_snoc, hL]
        refine r_if (wt_dnin 1 hu (w_name 5 ⟨p, kvK kk, .inl x, rfl, rfl, ?_⟩))
        have ev := kv_val kk 0 x
        rw [Nat.zero_add] at ev
        have app : ∀ kk', kvK kk' = kvK (nk kk x) → valD (kvK kk') (.inl x) = some (.int (kk.idxOf x : Int)) → ∀ N : DE, (∀ s5, N.nx [.va d0, .dk p (kvK kk'), .ow (T1.map rowT), .va d, .ow ((o ++ [(kk.idxOf x : Int)]).map .int), s5]) →
            Rs (GxOf P w K mg base ["rows", "spots", "found", "row", "line", "key"] sDyed A) [((match (match (defBody sDyed).getD 1 (.Pass ⟨0, 0, 0, 0⟩) with | .For _ _ b _ _ => b | _ => []).getD 1 (.Pass ⟨0, 0, 0, 0⟩) with | .For _ _ b _ _ => b | _ => []) : List Stmt).getD 1 (.Pass ⟨0, 0, 0, 0⟩)]
              [.va d0, .dk p (kvK kk'), .ow (T1.map rowT), .va d, .ow (o.map .int), .va (.int x)] N := by
          intro kk' e1 e2 N hN
          refine r_append 4 rfl (w_dget 1 hu rfl (w_name 5 ⟨_, .inl x, _, rfl, rfl, e2, _, rfl, ?_, r_nil ?_⟩))
          · have := hlen.1
            simp only at this
            rw [List.length_map]
            omega
          · have := hN (.va (.int x))
            rw [List.map_append] at this
            exact this
        by_cases hm : x ∈ kk
        · rw [if_pos hm] at ev
          have ev' : valD (kvK kk) (.inl x) = some (.int (kk.idxOf x : Int)) := ev
          refine ifF (by rw [ev']; rfl) (r_nil (app kk (by unfold nk; rw [if_pos hm]) ev' _ fun s5 => ⟨s5, ?_⟩))
          rw [nx]
          unfold nk
          rw [if_pos hm]
        · rw [if_neg hm] at ev
          have ev' : valD (kvK kk) (.inl x) = none := ev
          refine ifT (by rw [ev']; rfl) (r_dput 1 hu (w_lenD 1 m1 rfl ⟨p, _, rfl, w_name 5 ⟨_, .inl x, rfl, rfl, ?_, ?_⟩⟩))
          · show (kvF 0 kk).length < 100000
            rw [kv_len]
            omega
          · rw [show (kvK kk).length = kk.length from kv_len 0 kk, kv_put hm]
            have e3 := kv_val (kk ++ [x]) 0 x
            rw [if_pos (by simp), Nat.zero_add, idx_snoc hm] at e3
            refine r_nil (app (kk ++ [x]) (by unfold nk; rw [if_neg hm]) (by rw [idx_not hm]; exact e3) _ fun s5 => ⟨s5, ?_⟩)
            rw [nx]
            unfold nk
            rw [if_neg hm]
    · obtain ⟨s5, ee⟩ := he
      rw [List.length_map, List.take_length] at ee
      subst ee
      refine r_append 2 rfl (w_tupC m2 (w_freeze 4 ⟨_, rfl, _, rfl, ?_, r_nil ?_⟩))
      · rw [List.length_map]
        have : T1.length ≤ i := by
          have := hT1
          simp only at this
          exact this
        omega
      · refine ⟨.va d, .va (.list ((dyLine ks r).1.map .int)), s5, ?_, ?_⟩
        · rw [es, dyTab_snoc, hT, List.map_append]
          rfl
        · rw [es, dyTab_snoc, hT]
          have := (dyLine_len r ks).2
          simp only at hk ⊢
          omega
  · obtain ⟨s3, s4, s5, ee, _⟩ := he
    rw [← al.length, List.take_length] at ee
    subst ee
    refine r_ret (w_tupC m2 (w_freeze 2 ⟨_, rfl, fun d1 t' e ht' => ?_⟩))
    cases e
    rw [isTb_inj ht' ht]
    rfl
end
end K03

namespace K03
open PySem PySem.Spec PyProof.Rows L2 TL
section
variable {P : Program} {w : World} {K : PySem.W.Frag} {mg : Str → Option Value} {base : Heap} {k : Nat} {f : Addr} {fd : FuncData}
abbrev sOf : Stmt := topS 17
theorem scOf : FnScope ["m", "some"] ["m", "some"] (defScope sOf) := ⟨rfl, rfl, rfl, by decide +kernel, rfl, by decide +kernel, by decide +kernel⟩
theorem ok_of (F : Fun K "_law_of" "_law_of" sOf f fd) (m1 : mg "len" = none) (D : Dc P w K mg base "_law_draw" 1 ["m", "bound"] (spM 1 preD postD)) : FnG P w K mg base 2 f fd ["m", "some"] (spM 1 preOf postOf) := by
  refine fnM F scOf (fun ds ⟨_, e, _⟩ => by rw [e]; rfl) fun A hg hr a n ds ⟨xs, e, hne, hl⟩ hn => ?_
  subst e
  obtain ⟨fD, fdD, C⟩ := D.callee (N := ["m", "some"]) (st := sOf) hr hg (Nat.le_refl _)
  have hpos : 0 < xs.length := by
    cases xs with
    | nil => exact absurd rfl hne
    | cons _ _ => exact Nat.succ_pos _
  refine r_ret (w_sub (w_name 1 (w_callM 0 C rfl (w_len m1 (w_name 1 ⟨xs.length, rfl, n, rfl, hn, ⟨_, rfl, by omega, by omega⟩, fun d n' hn' pd => ?_⟩)))))
  obtain ⟨b, i, e1, e2, i0, i1⟩ := pd
  injection e1 with e1 _
  injection e1 with e1
  subst e1 e2
  obtain ⟨x, hx, ex⟩ := atI_int (l := xs) i0 (by omega)
  exact ⟨xs, i, x, rfl, rfl, ex, n', rfl, hn', xs, rfl, hx⟩
abbrev sShuf : Stmt := topS 18
theorem scShuf : FnScope ["m", "count", "left", "found", "k", "one", "other"] ["m", "count"] (defScope sShuf) := ⟨rfl, rfl, rfl, by decide +kernel, rfl, by decide +kernel, by decide +kernel⟩
theorem pick_perm {fo lf : List Int} {z : Int} {l : List Int} (h : (fo ++ lf).Perm l) (hn : lf.Nodup) (hz : z ∈ lf) : ((fo ++ [z]) ++ lf.filter (fun y => !decide (y = z))).Perm l := by
  have e1 : lf.erase z = lf.filter (fun y => !decide (y = z)) := by
    rw [hn.erase_eq_filter]
    congr 1
  rw [← e1, List.append_assoc]
  exact (List.Perm.append_left fo (List.perm_cons_erase hz).symm).trans h
theorem ok_shuf (F : Fun K "_law_shuffled" "_law_shuffled" sShuf f fd) (m1 : mg "list" = none) (m2 : mg "range" = none) (m3 : mg "tuple" = none) (D : Dc P w K mg base "_law_of" 2 ["m", "some"] (spM 1 preOf postOf)) :
    FnG P w K mg base 3 f fd ["m", "count"] (spM 1000 preSh postSh) := by
  refine fnM F scShuf (fun ds ⟨_, e, _⟩ => by rw [e]; rfl) fun A hg hr a n ds ⟨c, e, hc⟩ hn => ?_
  subst e
  obtain ⟨fD, fdD, C⟩ := D.callee (N := ["m", "count", "left", "found", "k", "one", "other"]) (st := sShuf) hr hg (Nat.le_refl _)
  have hl0 : (LIM : Nat) = 1000000000 := rfl
  refine r_parNew2 2 3 (w_listRg m1 m2 (w_name 1 ⟨c, rfl, by omega, by show 3 < 7; decide, ?_⟩)) scShuf.nd (by intro v hv; cases v; subst hv; rfl)
  refine r_for 4 scShuf.nd (wi_rg m2 (w_name 1 ⟨c, rfl, by omega, by omega, fun i e => ∃ n' s4 s5 s6 lf fo, e = [.ms a n', .va (.int c), .va (.list (lf.map .int)), .ow (fo.map .int), s4, s5, s6] ∧ n' ≤ n + i ∧ lf.Nodup ∧ fo.length = i ∧ (fo ++ lf).Perm (nums c),
    ⟨n, .no, .no, .no, nums c, [], ?_, Nat.le_refl _, nums_nodup c, rfl, List.Perm.refl _⟩, fun i d e ed he => ?_, fun e he => ?_⟩))
  · unfold nums
    rw [List.map_map]
    rfl
  · obtain ⟨n', s4, s5, s6, lf, fo, ee, h1, h2, h3, h4⟩ := he
    subst ee
    obtain ⟨hi, ed⟩ := rgD_get ed
    have hlen := h4.length_eq
    rw [List.length_append] at hlen
    have hic : (nums c).length = c := by unfold nums; rw [List.length_map, List.length_range]
    have hlf : lf.length = c - i := by omega
    have hi' : i < c := by simpa using hi
    have hln : lf ≠ [] := by
      intro z
      rw [z] at hlf
      simp at hlf
      omega
    refine r_asg 5 scShuf.nd (w_callM 0 C rfl (w_name 2 ⟨n', rfl, by omega, ⟨lf.map .int, rfl, ?_, by rw [List.length_map]; omega⟩, fun d1 n2 hn2 pd => ?_⟩))
    · simpa using hln
    obtain ⟨xs, e1, hx⟩ := pd
    injection e1 with e1 _
    injection e1 with e1
    subst e1
    obtain ⟨z, hz, ez⟩ := mem_ints hx
    subst ez
    refine r_lc 2 6 false true (t := some _) (lc_seq (w_name 2 ⟨lf.map .int, rfl, by rw [List.length_map]; omega, cj_filter (fun d => match d with | .int y => !decide (y = z) | _ => false) (fun d hd => ?_) (fun d hd => w_name 6 ⟨rfl, rfl⟩) ⟨by show 2 < 7; decide, ?_⟩⟩)) scShuf.nd (hsw := .inl ⟨rfl, rfl, fun v hv => by cases v; subst hv; rfl⟩)
    · obtain ⟨y, hy, ey⟩ := mem_ints hd
      subst ey
      exact wt_neI (w_name 6 ⟨y, rfl, w_name 5 ⟨z, rfl, rfl, rfl⟩⟩)
    · have ef : (lf.map PyData.int).filter (fun d => match d with | .int y => !decide (y = z) | _ => false) = (lf.filter fun y => !decide (y = z)).map PyData.int := by
        rw [List.filter_map]
        rfl
      rw [ef]
      refine r_append 3 rfl (w_name 5 ⟨_, rfl, by rw [List.length_map]; omega, r_nil ?_⟩)
      refine ⟨n2, .va d, .va (.int z), .no, lf.filter (fun y => !decide (y = z)), fo ++ [z], ?_, by omega, h2.filter _, by rw [List.length_append, h3]; rfl, pick_perm h4 h2 hz⟩
      rw [List.map_append]
      rfl
  · obtain ⟨n', s4, s5, s6, lf, fo, ee, h1, h2, h3, h4⟩ := he
    subst ee
    rw [rgD_len] at h1 h3
    have hlen := h4.length_eq
    rw [List.length_append] at hlen
    have hic : (nums c).length = c := by unfold nums; rw [List.length_map, List.length_range]
    have hlf : lf = [] := List.eq_nil_of_length_eq_zero (by omega)
    subst hlf
    rw [List.append_nil] at h4
    refine r_ret (w_tupC m3 (w_freeze 3 ⟨_, rfl, n', rfl, by omega, c, fo, rfl, rfl, h4⟩))
end
end K03

namespace K03
open PySem PySem.Spec PyProof.Rows L2 TL
section
variable {P : Program} {w : World} {K : PySem.W.Frag} {mg : Str → Option Value} {base : Heap} {k : Nat} {f : Addr} {fd : FuncData}
abbrev sDrawn : Stmt := topS 21
abbrev nDrawn : List Str := ["m", "most", "n", "word", "top", "rows", "x", "y", "i", "j"]
theorem scDrawn : FnScope nDrawn ["m", "most"] (defScope sDrawn) := ⟨rfl, rfl, rfl, by decide +kernel, rfl, by decide +kernel, by decide +kernel⟩
theorem sq_at {n : Nat} {t : Tb} (h : Sq n t) {i j : Int} (hi : 0 ≤ i ∧ i < n) (hj : 0 ≤ j ∧ j < n) : ∃ r z, atI (t.map rowL) i = some (rowL r) ∧ atI (r.map PyData.int) j = some (.int z) := by
  obtain ⟨a, ea⟩ := Int.eq_ofNat_of_zero_le hi.1
  obtain ⟨b, eb⟩ := Int.eq_ofNat_of_zero_le hj.1
  have ha : a < t.length := by have := h.1; omega
  have hr := h.2 t[a] (List.getElem_mem ha)
  have hb : b < t[a].length := by omega
  refine ⟨t[a], t[a][b], ?_, ?_⟩
  · rw [ea]
    exact atI_nat (by rw [List.getElem?_map, List.getElem?_eq_getElem ha]; rfl)
  · rw [eb]
    exact atI_nat (by rw [List.getElem?_map, List.getElem?_eq_getElem hb]; rfl)
theorem ok_drawn (F : Fun K "_law_drawn" "_law_drawn" sDrawn f fd) (m1 : mg "range" = none) (m2 : mg "min" = none) (m3 : mg "max" = none) (m4 : mg "int" = none) (D : Dc P w K mg base "_law_draw" 1 ["m", "bound"] (spM 1 preD postD)) (D2 : Dc P w K mg base "_law_dyed" 1 ["rows"] (spP preDy postDy)) :
    FnG P w K mg base 2 f fd ["m", "most"] (spM 1000 preDr postDr) := by
  refine fnM F scDrawn (fun ds ⟨_, e, _⟩ => by rw [e]; rfl) fun A hg hr a n0 ds ⟨kk, e, hk⟩ hn0 => ?_
  subst e
  obtain ⟨fD, fdD, C⟩ := D.callee (N := nDrawn) (st := sDrawn) hr hg (Nat.le_refl _)
  obtain ⟨fE, fdE, CE⟩ := D2.callee (N := nDrawn) (st := sDrawn) hr hg (Nat.le_refl _)
  have hl0 : (LIM : Nat) = 1000000000 := rfl
  refine r_un3 2 3 4 (w_tup (w_callM 0 C rfl (w_add (w_name 1 ⟨kk, rfl, w_int ⟨1, rfl, n0, rfl, by omega, ⟨_, rfl, by omega, by omega⟩, fun d1 n1 hn1 pd1 => ?_⟩⟩)))) scDrawn.nd (by intro v hv; cases v; subst hv; rfl)
  refine w_callM 0 C rfl (w_int ⟨n1, rfl, by omega, ⟨_, rfl, by decide, by decide⟩, fun d2 n2 hn2 pd2 => w_add (w_int ⟨1, rfl, w_callM 0 C rfl (w_int ⟨n2, rfl, by omega, ⟨_, rfl, by decide, by decide⟩, fun d3 n3 hn3 pd3 => ?_⟩)⟩)⟩)
  obtain ⟨nn, e1, g1, g2⟩ := pd_int pd1
  obtain ⟨wd, e2, g3, g4⟩ := pd_int pd2
  obtain ⟨tp, e3, g5, g6⟩ := pd_int pd3
  subst e1 e2 e3
  obtain ⟨n, en⟩ := Int.eq_ofNat_of_zero_le g1
  subst en
  refine ⟨tp, rfl, by show 3 ≤ sizeLine; decide, _, _, _, rfl, ?_⟩
  have hn : n ≤ 16 := by omega
  have hnn : n * n ≤ 256 := Nat.mul_le_mul hn hn
  -- rows, drawn
  refine r_lc 5 6 false false (t := none) (wi_rg m1 (w_name 2 ⟨(n : Int), rfl, by omega, by omega, ?_⟩)) scDrawn.nd (hsw := .inr ⟨rfl, fun v hv => by cases v; subst hv; rfl⟩)
  rw [Int.toNat_natCast]
  refine ⟨by rw [rgD_len]; omega, cj_grid (jy := 7) (fun c e => ∃ n', e = [.ms a n', .va (.int kk), .va (.int (n : Int)), .va (.int wd), .va (.int (1 + tp)), .no, .no, .no, .no, .no] ∧ n' ≤ n3 + c) (by omega) m1 scDrawn.nd ⟨n3, rfl, Nat.le_refl _⟩
    (fun c e ⟨n', ee, _⟩ => by subst ee; rfl) (fun c e i ⟨n', ee, _⟩ => by subst ee; rfl) (fun c e i ⟨n', ee, _⟩ => by subst ee; exact w_name 2 ⟨rfl, rfl⟩) (fun c e i j hi hj hc ⟨n', ee, h1⟩ => ?_) fun t e ht ⟨n', ee, h1⟩ => ?_⟩
  · subst ee
    refine w_callM 0 ((C.blk _).blk _) rfl (w_name 4 ⟨n', rfl, by omega, ⟨1 + tp, rfl, by omega, by omega⟩, fun d n4 hn4 pd => ?_⟩)
    obtain ⟨z, ez, _, _⟩ := pd_int pd
    exact ⟨⟨z, ez⟩, _, ⟨n4, rfl, by omega⟩, rfl⟩
  subst ee
  refine ⟨by show 5 < 10; decide, ?_⟩
  -- what follows, from any table
  let N0 : DE := { nx := fun e => ∃ n', e[0]? = some (.ms a n') ∧ n' ≤ n0 + 1000 ∧ postDr [.int kk] .none, rt := fun d e => ∃ n', e[0]? = some (.ms a n') ∧ n' ≤ n0 + 1000 ∧ postDr [.int kk] d }
  let G0 : Gx := GxOf P w K mg base nDrawn sDrawn A
  have k6 : ∀ (t : Tb) (s6 s7 s8 s9 : Sl) (n' : Nat), Sq n t → n' ≤ n0 + 900 → Rs G0 ((defBody sDrawn).drop 6) [.ms a n', .va (.int kk), .va (.int (n : Int)), .va (.int wd), .va (.int (1 + tp)), .va (tbL t), s6, s7, s8, s9] N0 := by
    intro t s6 s7 s8 s9 n' ht hn'
    refine r_ret (w_callP CE (w_name 5 ⟨⟨tbL t, t, rfl, isTb_L t, by have := ht.1; omega, fun r hr => by have := ht.2 r hr; omega⟩, fun d pd => ⟨n', rfl, by omega, kk, n, t, rfl, pd _ t rfl (isTb_L t), ht, by omega⟩⟩))
  have k5 : ∀ (t : Tb) (n' : Nat), Sq n t → n' ≤ n0 + 600 → Rs G0 ((defBody sDrawn).drop 5) [.ms a n', .va (.int kk), .va (.int (n : Int)), .va (.int wd), .va (.int (1 + tp)), .va (tbL t), .no, .no, .no, .no] N0 := by
    intro t n' ht hn'
    refine r_if (wt_and (wt_eqI (w_name 3 ⟨wd, rfl, w_int ⟨4, rfl, ifd (fun hw => wt_gt (w_name 2 ⟨(n : Int), rfl, w_int ⟨0, rfl, ifd (fun hp => ?_) fun _ => r_nil (k6 t _ _ _ _ n' ht (by omega))⟩⟩)) fun _ => ifF rfl (r_nil (k6 t _ _ _ _ n' ht (by omega)))⟩⟩)))
    refine r_un2 6 7 (w_tup (w_callM 0 C rfl (w_name 2 ⟨n', rfl, by omega, ⟨(n : Int), rfl, by omega, by omega⟩, fun d1 n1 hn1 pd1 => w_callM 0 C rfl (w_name 2 ⟨n1, rfl, by omega, ⟨(n : Int), rfl, by omega, by omega⟩, fun d2 n2 hn2 pd2 => ?_⟩)⟩))) scDrawn.nd (by intro v hv; cases v; subst hv; rfl)
    obtain ⟨xx, ex, _, _⟩ := pd_int pd1
    obtain ⟨yy, ey, _, _⟩ := pd_int pd2
    subst ex ey
    refine ⟨by show 2 ≤ sizeLine; decide, _, _, rfl, ?_⟩
    refine r_lc 5 8 false false (t := none) (wi_rg m1 (w_name 2 ⟨(n : Int), rfl, by omega, by omega, ?_⟩)) scDrawn.nd (hsw := .inr ⟨rfl, fun v hv => by cases v; subst hv; rfl⟩)
    rw [Int.toNat_natCast]
    refine ⟨by rw [rgD_len]; omega, cj_grid (jy := 9) (fun c e => e = [.ms a n2, .va (.int kk), .va (.int (n : Int)), .va (.int wd), .va (.int (1 + tp)), .va (tbL t), .va (.int xx), .va (.int yy), .no, .no]) (by omega) m1 scDrawn.nd rfl
      (fun c e ee => by subst ee; rfl) (fun c e i ee => by subst ee; rfl) (fun c e i ee => by subst ee; exact w_name 2 ⟨rfl, rfl⟩) (fun c e i j hi hj hc ee => ?_) fun t2 e ht2 ee => ?_⟩
    · subst ee
      refine w_intC m4 (w_and (w_eqI (w_name 8 ⟨(i : Int), rfl, w_name 6 ⟨xx, rfl, _, rfl, ifb (fun _ => w_eqI (w_name 9 ⟨(j : Int), rfl, w_name 7 ⟨yy, rfl, _, rfl, ⟨_, rfl⟩, _, rfl, rfl⟩⟩)) fun _ => ⟨_, rfl, ⟨_, rfl⟩, _, rfl, rfl⟩⟩⟩)))
    · subst ee
      exact ⟨by show 5 < 10; decide, r_nil (k6 t2 _ _ _ _ n2 ht2 (by omega))⟩
  -- a grid made of the rows alone
  have k4 : ∀ (t : Tb) (n' : Nat), Sq n t → n' ≤ n0 + 600 → Rs G0 ((defBody sDrawn).drop 4) [.ms a n', .va (.int kk), .va (.int (n : Int)), .va (.int wd), .va (.int (1 + tp)), .va (tbL t), .no, .no, .no, .no] N0 := by
    intro t n' ht hn'
    refine r_if (wt_and (wt_eqI (w_name 3 ⟨wd, rfl, w_int ⟨3, rfl, ifd (fun hw => wt_gt (w_name 2 ⟨(n : Int), rfl, w_int ⟨0, rfl, ifd (fun hp => ?_) fun _ => r_nil (k5 t n' ht hn')⟩⟩)) fun _ => ifF rfl (r_nil (k5 t n' ht hn'))⟩⟩)))
    refine r_lc 5 6 false false (t := none) (wi_rg m1 (w_name 2 ⟨(n : Int), rfl, by omega, by omega, ?_⟩)) scDrawn.nd (hsw := .inr ⟨rfl, fun v hv => by cases v; subst hv; rfl⟩)
    rw [Int.toNat_natCast]
    refine ⟨by rw [rgD_len]; omega, cj_grid (jy := 7) (fun c e => e = [.ms a n', .va (.int kk), .va (.int (n : Int)), .va (.int wd), .va (.int (1 + tp)), .va (tbL t), .no, .no, .no, .no]) (by omega) m1 scDrawn.nd rfl
      (fun c e ee => by subst ee; rfl) (fun c e i ee => by subst ee; rfl) (fun c e i ee => by subst ee; exact w_name 2 ⟨rfl, rfl⟩) (fun c e i j hi hj hc ee => ?_) fun t2 e ht2 ee => ?_⟩
    · subst ee
      obtain ⟨r, z, h1, h2⟩ := sq_at ht (i := 0) (j := ((j : Int) - (i : Int)) % (n : Int)) ⟨by omega, by omega⟩ ⟨Int.emod_nonneg _ (by omega), Int.emod_lt_of_pos _ (by omega)⟩
      refine w_sub (w_sub (w_name 5 (w_int ⟨_, _, _, rfl, rfl, h1, w_mod (w_intC m4 (w_minus (w_name 7 ⟨(j : Int), rfl, w_name 6 ⟨(i : Int), rfl, _, rfl, _, rfl, w_name 2 ⟨(n : Int), rfl, by omega, _, _, _, rfl, rfl, h2, ⟨z, rfl⟩, _, rfl, rfl⟩⟩⟩)))⟩)))
    · subst ee
      exact ⟨by show 5 < 10; decide, r_nil (k5 t2 n' ht2 hn')⟩
  have k3 : ∀ (t : Tb) (n' : Nat), Sq n t → n' ≤ n0 + 600 → Rs G0 ((defBody sDrawn).drop 3) [.ms a n', .va (.int kk), .va (.int (n : Int)), .va (.int wd), .va (.int (1 + tp)), .va (tbL t), .no, .no, .no, .no] N0 := by
    intro t n' ht hn'
    refine r_if (wt_eqI (w_name 3 ⟨wd, rfl, w_int ⟨2, rfl, ifd (fun hw => ?_) fun _ => r_nil (k4 t n' ht hn')⟩⟩))
    refine r_lc 5 6 false false (t := none) (wi_rg m1 (w_name 2 ⟨(n : Int), rfl, by omega, by omega, ?_⟩)) scDrawn.nd (hsw := .inr ⟨rfl, fun v hv => by cases v; subst hv; rfl⟩)
    rw [Int.toNat_natCast]
    refine ⟨by rw [rgD_len]; omega, cj_grid (jy := 7) (fun c e => e = [.ms a n', .va (.int kk), .va (.int (n : Int)), .va (.int wd), .va (.int (1 + tp)), .va (tbL t), .no, .no, .no, .no]) (by omega) m1 scDrawn.nd rfl
      (fun c e ee => by subst ee; rfl) (fun c e i ee => by subst ee; rfl) (fun c e i ee => by subst ee; exact w_name 2 ⟨rfl, rfl⟩) (fun c e i j hi hj hc ee => ?_) fun t2 e ht2 ee => ?_⟩
    · subst ee
      obtain ⟨r, z, h1, h2⟩ := sq_at ht (i := if (j : Int) < (i : Int) then (j : Int) else (i : Int)) (j := if (j : Int) > (i : Int) then (j : Int) else (i : Int)) (by constructor <;> split <;> omega) (by constructor <;> split <;> omega)
      refine w_if (wt_neI (w_name 6 ⟨(i : Int), rfl, w_name 7 ⟨(j : Int), rfl, ifn (fun _ => ?_) fun _ => w_name 4 ⟨⟨_, rfl⟩, _, rfl, rfl⟩⟩⟩))
      exact w_sub (w_sub (w_name 5 (w_min2 m2 (w_name 6 (w_name 7 ⟨_, _, rfl, _, _, _, rfl, rfl, h1, w_max2 m3 (w_name 6 (w_name 7 ⟨_, _, rfl, _, _, _, rfl, rfl, h2, ⟨z, rfl⟩, _, rfl, rfl⟩))⟩)))))
    · subst ee
      exact ⟨by show 5 < 10; decide, r_nil (k4 t2 n' ht2 hn')⟩
  have k2 : ∀ (t : Tb) (n' : Nat), Sq n t → n' ≤ n0 + 600 → Rs G0 ((defBody sDrawn).drop 2) [.ms a n', .va (.int kk), .va (.int (n : Int)), .va (.int wd), .va (.int (1 + tp)), .va (tbL t), .no, .no, .no, .no] N0 := by
    intro t n' ht hn'
    refine r_if (wt_eqI (w_name 3 ⟨wd, rfl, w_int ⟨1, rfl, ifd (fun hw => ?_) fun _ => r_nil (k3 t n' ht hn')⟩⟩))
    refine r_lc 5 6 false false (t := none) (wi_rg m1 (w_name 2 ⟨(n : Int), rfl, by omega, by omega, ?_⟩)) scDrawn.nd (hsw := .inr ⟨rfl, fun v hv => by cases v; subst hv; rfl⟩)
    rw [Int.toNat_natCast]
    refine ⟨by rw [rgD_len]; omega, cj_grid (jy := 7) (fun c e => e = [.ms a n', .va (.int kk), .va (.int (n : Int)), .va (.int wd), .va (.int (1 + tp)), .va (tbL t), .no, .no, .no, .no]) (by omega) m1 scDrawn.nd rfl
      (fun c e ee => by subst ee; rfl) (fun c e i ee => by subst ee; rfl) (fun c e i ee => by subst ee; exact w_name 2 ⟨rfl, rfl⟩) (fun c e i j hi hj hc ee => ?_) fun t2 e ht2 ee => ?_⟩
    · subst ee
      obtain ⟨r, z, h1, h2⟩ := sq_at ht (i := if (j : Int) < (i : Int) then (j : Int) else (i : Int)) (j := if (j : Int) > (i : Int) then (j : Int) else (i : Int)) (by constructor <;> split <;> omega) (by constructor <;> split <;> omega)
      exact w_sub (w_sub (w_name 5 (w_min2 m2 (w_name 6 (w_name 7 ⟨_, _, rfl, _, _, _, rfl, rfl, h1, w_max2 m3 (w_name 6 (w_name 7 ⟨_, _, rfl, _, _, _, rfl, rfl, h2, ⟨z, rfl⟩, _, rfl, rfl⟩))⟩)))))
    · subst ee
      exact ⟨by show 5 < 10; decide, r_nil (k3 t2 n' ht2 hn')⟩
  exact k2 t n' ht (by omega)
end
end K03

namespace K03
open PySem PySem.Spec PyProof.Rows L2 TL
section
variable {P : Program} {w : World} {K : PySem.W.Frag} {mg : Str → Option Value} {base : Heap} {k : Nat} {f : Addr} {fd : FuncData}
abbrev sMany : Stmt := topS 20
theorem scMany : FnScope ["dyeing", "row"] ["dyeing"] (defScope sMany) := ⟨rfl, rfl, rfl, by decide +kernel, rfl, by decide +kernel, by decide +kernel⟩
theorem ok_many (F : Fun K "_law_many" "_law_many" sMany f fd) (m1 : mg "max" = none) :
    FnG P w K mg base 1 f fd ["dyeing"] (spP preMy postMy) := by
  refine fnP F scMany (fun ds ⟨t, e, _⟩ => by rw [e]; rfl) fun A hg hr ds ⟨t, e, hne, hl⟩ => ?_
  subst e
  refine r_ret (w_if (wt_neD (by have := hr.units; exact this) (w_name 0 (w_tup ⟨Nat.zero_le _, shaped_tb t, by decide +kernel, ?_⟩))))
  rw [eqv_nil]
  cases t with
  | nil => exact w_int fun t e => ⟨0, rfl, .inl ⟨by cases t with | nil => rfl | cons _ _ => simp [tbT] at e, rfl⟩⟩
  | cons r0 t0 =>
    generalize ht : r0 :: t0 = t at *
    have htn : t ≠ [] := by rw [← ht]; exact List.cons_ne_nil _ _
    rw [show (!t.isEmpty) = true by rw [← ht]; rfl, if_pos rfl]
    refine w_add (w_int ⟨1, rfl, w_maxL m1 (w_lc 1 (t := none) (lc_seq (w_name 0 ⟨t.map rowT, rfl, by rw [List.length_map]; omega, cj_rel isMaxRow (fun d hd => ?_) fun acc a => ?_⟩)) scMany.nd)⟩)
    · obtain ⟨r, hrm, er⟩ := List.mem_map.mp hd
      subst er
      exact w_maxT (by have := hr.units; exact this) m1 (w_name 1 ⟨r, rfl, hne r hrm, fun m hm hy => ⟨fun r' e => by rw [← rowT_inj e]; exact ⟨m, hm, rfl, hy⟩, rfl⟩⟩)
    · obtain ⟨zs, e, al⟩ := maxRows a
      subst e
      refine ⟨zs, rfl, ⟨_, rfl⟩, fun z => ?_, fun m hm hy => ⟨m, rfl, fun t' e => ⟨1 + m, rfl, .inr ?_⟩⟩⟩
      · subst z
        exact htn (List.eq_nil_of_length_eq_zero al.length)
      · injection e with e _
        rw [← tbT_inj e]
        have e1 : (1 + m - 1 : Int) = m := by omega
        rw [e1]
        obtain ⟨q1, q2⟩ := All2.memR al
        refine ⟨?_, fun r hr x hx => ?_⟩
        · obtain ⟨r, hr, h1, _⟩ := q1 m hm
          exact ⟨r, hr, h1⟩
        · obtain ⟨z, hz, _, h2⟩ := q2 r hr
          exact Int.le_trans (h2 x hx) (hy z hz)
abbrev sLike : Stmt := topS 22
theorem scLike : FnScope ["got", "due"] ["got", "due"] (defScope sLike) := ⟨rfl, rfl, rfl, by decide +kernel, rfl, by decide +kernel, by decide +kernel⟩
theorem ok_like (F : Fun K "_law_like" "_law_like" sLike f fd) (m1 : mg "repr" = none) : FnG P w K mg base 1 f fd ["got", "due"] (spP preLk postLk) := by
  refine fnP F scLike (fun ds ⟨_, _, _, e, _⟩ => by rw [e]; rfl) fun A hg hr ds ⟨a, B, D, e, h1, h2, h3, h4⟩ => ?_
  subst e
  have hB : a.shown.length ≤ sizeLine := Nat.le_trans h2.ln (Nat.le_trans h3 (by decide))
  have hu : A.units + (a.depth + 1) < cLine := by
    have := hr.units
    have := h2.dp
    omega
  exact r_ret (w_eqF (w_repr m1 hg (w_name 0 ⟨h1, h2.sh, h2.nd, hB, hu, w_repr m1 hg (w_name 1 ⟨h1, h2.sh, h2.nd, hB, hu, _, _, rfl, rfl, rfl, congrArg PyData.bool (decide_eq_true rfl)⟩)⟩)))
abbrev sText : Stmt := topS 23
theorem scText : FnScope ["table", "row", "entry"] ["table"] (defScope sText) := ⟨rfl, rfl, rfl, by decide +kernel, rfl, by decide +kernel, by decide +kernel⟩
theorem ok_text (F : Fun K "_law_text" "_law_text" sText f fd) (m1 : mg "str" = none) : FnG P w K mg base 1 f fd ["table"] (spP preTx postTx) := by
  refine fnP F scText (fun ds ⟨_, _, e, _⟩ => by rw [e]; rfl) fun A hg hr ds ⟨d0, t, e, ht, hs⟩ => ?_
  subst e
  obtain ⟨rs, ers, al⟩ := id ht
  have hlr : rs.length ≤ 16 := by rw [← al.length]; exact hs.1
  refine r_ret (w_join (w_str ⟨_, rfl, w_lc 1 (t := none) (lc_seq (w_name 0 ⟨rs, ers, by omega, cj_rel (fun d y => ∀ r ∈ t, itemD d = some (r.map PyData.int) → y = .str (rowS r)) (fun d hd => ?_) fun acc a => ?_⟩)) scText.nd⟩))
  · obtain ⟨r, hr, er⟩ := (All2.memR al).1 d hd
    have hb := hs.2 r hr
    refine w_join (w_str ⟨_, rfl, w_lc 2 (t := none) (lc_seq (w_name 1 ⟨r.map .int, er, by rw [List.length_map]; omega, cj_map (fun d => match d with | .int z => .str (tS z) | _ => .none) (fun c hc => ?_) ⟨r.map tS, ?_, ?_, fun r' hr' e' => ?_, rfl⟩⟩)) scText.nd⟩)
    · obtain ⟨z, hz, e⟩ := mem_ints hc
      subst e
      exact w_strI m1 (w_name 2 ⟨z, rfl, log_small (hb.2 z hz), rfl, rfl⟩)
    · show some _ = some _
      rw [List.map_map, List.map_map]
      rfl
    · have h2 : ((r.map tS).map (·.length)).sum ≤ (r.map tS).length * 13 := sum_le fun x hx => by
        obtain ⟨z, hz, e⟩ := List.mem_map.mp hx
        rw [← e]
        exact tS_len (hb.2 z hz)
      have e1 : (Str.ofString " ").length = 1 := by decide
      simp only [List.length_map] at h2 ⊢
      rw [e1]
      have := hb.1
      omega
    · rw [er] at e'
      have : r = r' := rowT_inj (by unfold rowT; rw [Option.some.inj e'])
      rw [← this]
      rfl
  · have e2 : acc = t.map fun r => PyData.str (rowS r) := by
      have c := All2.comp al a
      refine All2.eq_mapM (fun r hr y ⟨d, h1, h2⟩ => h2 r hr h1) c
    subst e2
    refine ⟨t.map rowS, ?_, ?_, fun d1 t' e ht' => ?_⟩
    · show some _ = some _
      rw [List.map_map]
      rfl
    · have h2 : ((t.map rowS).map (·.length)).sum ≤ (t.map rowS).length * 224 := sum_le fun x hx => by
        obtain ⟨z, hz, e⟩ := List.mem_map.mp hx
        rw [← e]
        exact rowS_len (hs.2 z hz)
      have e1 : (Str.ofString "/").length = 1 := by decide
      simp only [List.length_map] at h2 ⊢
      rw [e1]
      have := hs.1
      omega
    · cases e
      rw [isTb_inj ht' ht]
      rfl
abbrev sWrit : Stmt := topS 10
theorem scWrit : FnScope ["dyeing", "row", "dye"] ["dyeing"] (defScope sWrit) := ⟨rfl, rfl, rfl, by decide +kernel, rfl, by decide +kernel, by decide +kernel⟩
theorem ok_writ (F : Fun K "written" "written" sWrit f fd) (m1 : mg "str" = none) : FnG P w K mg base 1 f fd ["dyeing"] (spP preTx postTx) := by
  refine fnP F scWrit (fun ds ⟨_, _, e, _⟩ => by rw [e]; rfl) fun A hg hr ds ⟨d0, t, e, ht, hs⟩ => ?_
  subst e
  obtain ⟨rs, ers, al⟩ := id ht
  have hlr : rs.length ≤ 16 := by rw [← al.length]; exact hs.1
  refine r_ret (w_join (w_str ⟨_, rfl, w_lc 1 (t := none) (lc_seq (w_name 0 ⟨rs, ers, by omega, cj_rel (fun d y => ∀ r ∈ t, itemD d = some (r.map PyData.int) → y = .str (rowS r)) (fun d hd => ?_) fun acc a => ?_⟩)) scWrit.nd⟩))
  · obtain ⟨r, hr, er⟩ := (All2.memR al).1 d hd
    have hb := hs.2 r hr
    refine w_join (w_str ⟨_, rfl, w_lc 2 (t := none) (lc_seq (w_name 1 ⟨r.map .int, er, by rw [List.length_map]; omega, cj_map (fun d => match d with | .int z => .str (tS z) | _ => .none) (fun c hc => ?_) ⟨r.map tS, ?_, ?_, fun r' hr' e' => ?_, rfl⟩⟩)) scWrit.nd⟩)
    · obtain ⟨z, hz, e⟩ := mem_ints hc
      subst e
      exact w_strI m1 (w_name 2 ⟨z, rfl, log_small (hb.2 z hz), rfl, rfl⟩)
    · show some _ = some _
      rw [List.map_map, List.map_map]
      rfl
    · have h2 : ((r.map tS).map (·.length)).sum ≤ (r.map tS).length * 13 := sum_le fun x hx => by
        obtain ⟨z, hz, e⟩ := List.mem_map.mp hx
        rw [← e]
        exact tS_len (hb.2 z hz)
      have e1 : (Str.ofString " ").length = 1 := by decide
      simp only [List.length_map] at h2 ⊢
      rw [e1]
      have := hb.1
      omega
    · rw [er] at e'
      have : r = r' := rowT_inj (by unfold rowT; rw [Option.some.inj e'])
      rw [← this]
      rfl
  · have e2 : acc = t.map fun r => PyData.str (rowS r) := by
      have c := All2.comp al a
      refine All2.eq_mapM (fun r hr y ⟨d, h1, h2⟩ => h2 r hr h1) c
    subst e2
    refine ⟨t.map rowS, ?_, ?_, fun d1 t' e ht' => ?_⟩
    · show some _ = some _
      rw [List.map_map]
      rfl
    · have h2 : ((t.map rowS).map (·.length)).sum ≤ (t.map rowS).length * 224 := sum_le fun x hx => by
        obtain ⟨z, hz, e⟩ := List.mem_map.mp hx
        rw [← e]
        exact rowS_len (hs.2 z hz)
      have e1 : (Str.ofString "/").length = 1 := by decide
      simp only [List.length_map] at h2 ⊢
      rw [e1]
      have := hs.1
      omega
    · cases e
      rw [isTb_inj ht' ht]
      rfl
end
end K03

namespace K03
open PySem PySem.Spec PyProof.Rows L2 TL
section
variable {P : Program} {w : World} {K : PySem.W.Frag} {mg : Str → Option Value} {base : Heap} {k : Nat} {f : Addr} {fd : FuncData}
theorem len_item {d : PyData} {rs : List PyData} (h : itemD d = some rs) : lenD d = some rs.length := by
  cases d <;> first | (cases h; rfl) | cases h
abbrev sPd : Stmt := topS 6
abbrev nPd : List Str := ["table", "numbers", "row", "entry"]
theorem scPd : FnScope nPd ["table"] (defScope sPd) := ⟨rfl, rfl, rfl, by decide +kernel, rfl, by decide +kernel, by decide +kernel⟩
theorem ok_pd (F : Fun K "dyed" "dyed" sPd f fd) (m1 : mg "len" = none) (m2 : mg "tuple" = none) {tk : Tok} (m3 : mg "MOST_PLACES" = some (.int 16 tk)) : FnG P w K mg base 1 f fd ["table"] (spP preDy postDy) := by
  refine fnP F scPd (fun ds ⟨_, _, e, _⟩ => by rw [e]; rfl) fun A hg hr ds ⟨d0, t, e, ht, hl, hlr⟩ => ?_
  subst e
  obtain ⟨rs, ers, al⟩ := id ht
  have hu : A.units + 1 < cLine := hu_of hr
  have hlen := al.length
  refine r_if (wt_gt (w_len m1 (w_name 0 ⟨rs.length, len_item ers, _, rfl, w_glob m3 (v := .int 16) ⟨_, rfl⟩ rfl ⟨16, rfl, ifd (fun h => by omega) fun _ => r_nil ?_⟩⟩)))
  refine r_dnew 1 scPd.nd (by show 1 < 4; decide) fun p => ?_
  refine r_ret (w_tupC m2 (w_lc 2 (t := none) (lc_seq (w_name 0 ⟨rs, ers, by omega, ⟨fun i acc e => acc = (dyTab [] (t.take i)).1.map rowT ∧ ∃ s3, e = [.va d0, .dk p (kvK (dyTab [] (t.take i)).2), .no, s3] ∧ (dyTab [] (t.take i)).2.length ≤ 16 * i, ⟨rfl, _, rfl, Nat.zero_le _⟩, fun acc e he => ?_, fun i d acc e ed hla he => ?_⟩⟩)) scPd.nd))
  · obtain ⟨ea, s3, ee, _⟩ := he
    rw [← hlen, List.take_length] at ea ee
    subst ea ee
    refine ⟨_, rfl, fun d1 t' e ht' => ?_⟩
    cases e
    rw [isTb_inj ht' ht]
    rfl
  · obtain ⟨ea, s3, ee, hk⟩ := he
    subst ea ee
    obtain ⟨r, er, hd⟩ := al.get ed
    have hi : i < t.length := (List.getElem?_eq_some_iff.mp er).1
    have hrl := hlr r (List.mem_of_getElem? er)
    have es : t.take (i + 1) = t.take i ++ [r] := by rw [List.take_add_one, er]; rfl
    generalize hT : dyTab [] (t.take i) = T at *
    obtain ⟨T1, ks⟩ := T
    refine w_tupC m2 (w_lc 3 (t := none) (lc_seq (w_name 2 ⟨r.map .int, hd, by rw [List.length_map]; omega, ⟨fun j acc e => acc = (dyLine ks (r.take j)).1.map PyData.int ∧ e = [.va d0, .dk p (kvK (dyLine ks (r.take j)).2), .va d, .no], ⟨rfl, rfl⟩, fun acc e he => ?_, fun j c acc e ec _ he => ?_⟩⟩)) scPd.nd)
    · obtain ⟨ea, ee⟩ := he
      rw [List.length_map, List.take_length] at ea ee
      subst ea ee
      refine ⟨_, rfl, ?_, .no, ?_, ?_⟩
      · rw [es, dyTab_snoc, hT, List.map_append]
        rfl
      · rw [es, dyTab_snoc, hT]
        rfl
      · rw [es, dyTab_snoc, hT]
        have := (dyLine_len r ks).2
        simp only at hk ⊢
        omega
    · obtain ⟨ea, ee⟩ := he
      subst ea ee
      rw [List.getElem?_map] at ec
      cases ex : r[j]? with
      | none => rw [ex] at ec; cases ec
      | some x =>
        rw [ex] at ec
        cases ec
        have hj : j < r.length := (List.getElem?_eq_some_iff.mp ex).1
        have ej : r.take (j + 1) = r.take j ++ [x] := by rw [List.take_add_one, ex]; rfl
        have hlen2 := (dyLine_len (r.take j) ks)
        have htk : (r.take j).length ≤ j := by rw [List.length_take]; exact Nat.min_le_left _ _
        generalize hL : dyLine ks (r.take j) = Lk at *
        obtain ⟨o, kk⟩ := Lk
        have hkk : kk.length ≤ 300 := by
          have := hlen2.2
          show kk.length ≤ 300
          simp only at this hk
          omega
        have nx : dyLine ks (r.take (j + 1)) = (o ++ [(kk.idxOf x : Int)], nk kk x) := by rw [ej, dyLine_snoc, hL]
        have ev := kv_val kk 0 x
        rw [Nat.zero_add] at ev
        refine w_dset 1 rfl (w_name 3 (w_lenD 1 m1 rfl ⟨kvK kk, .inl x, rfl, rfl, ?_, fun d' ed' => ?_, fun en => ?_⟩))
        · show (kvF 0 kk).length < 100000
          rw [kv_len]
          omega
        · rw [show valD (kvK kk) (.inl x) = _ from ev] at ed'
          by_cases hm : x ∈ kk
          · rw [if_pos hm] at ed'
            cases ed'
            rw [nx]
            unfold nk
            rw [if_pos hm]
            exact ⟨by rw [List.map_append]; rfl, rfl⟩
          · rw [if_neg hm] at ed'
            cases ed'
        · rw [show valD (kvK kk) (.inl x) = _ from ev] at en
          by_cases hm : x ∈ kk
          · rw [if_pos hm] at en
            cases en
          · rw [show (kvK kk).length = kk.length from kv_len 0 kk, kv_put hm, nx]
            unfold nk
            rw [if_neg hm]
            exact ⟨by rw [List.map_append, idx_not hm]; rfl, rfl⟩
end
end K03

namespace K03
open PySem PySem.Spec PyProof.Rows L2 TL
section
variable {P : Program} {w : World} {K : PySem.W.Frag} {mg : Str → Option Value} {base : Heap} {k : Nat} {f : Addr} {fd : FuncData}
theorem app_inj {α : Type} {A B C D : List α} (h : A ++ B = C ++ D) (l : A.length = C.length) : A = C ∧ B = D := List.append_inj h l
theorem noDig_eq {n m : Nat} {B C : List Nat} (h : numL n ++ B = numL m ++ C) (hb : noDig B) (hc : noDig C) : numL n = numL m := by
  have key : ∀ (D E : List Nat), NumText.AllDigits D → NumText.AllDigits E → D ++ B = E ++ C → D = E := by
    intro D
    induction D with
    | nil =>
      intro E _ he e
      cases E with
      | nil => rfl
      | cons x E =>
        have hx := he x List.mem_cons_self
        rw [List.nil_append] at e
        subst e
        rcases hb with z | z <;> omega
    | cons x D ih =>
      intro E hd he e
      cases E with
      | nil =>
        have hx := hd x List.mem_cons_self
        rw [List.nil_append] at e
        subst e
        rcases hc with z | z <;> omega
      | cons y E =>
        rw [List.cons_append, List.cons_append] at e
        injection e with e1 e2
        rw [e1, ih E (fun c hc => hd c (List.mem_cons_of_mem _ hc)) (fun c hc => he c (List.mem_cons_of_mem _ hc)) e2]
  exact key _ _ (numL_digits n) (numL_digits m) h
abbrev sEe : Stmt := topS 13
abbrev nEe : List Str := ["text", "start", "end"]
theorem scEe : FnScope nEe ["text", "start"] (defScope sEe) := ⟨rfl, rfl, rfl, by decide +kernel, rfl, by decide +kernel, by decide +kernel⟩
theorem ok_ee (F : Fun K "entry_end" "entry_end" sEe f fd) (m1 : mg "len" = none) {t1 t2 : Tok} (m2 : mg "MOST_DIGITS" = some (.int 3 t1)) (m3 : mg "DIGITS" = some (.str "0123456789" t2)) : FnG P w K mg base 1 f fd ["text", "start"] (spP preEe postEe) := by
  refine fnP F scEe (fun ds ⟨_, _, _, _, e, _⟩ => by rw [e]; rfl) fun A hg hr ds ⟨T, Aa, B, n, e, hT, hn, hl, hB⟩ => ?_
  subst e
  have hTl := len_of_tl T
  rw [hT, List.length_append, List.length_append] at hTl
  have hD := num_len hn
  have hsz : T.length ≤ sizeLine := Nat.le_trans hl (by decide)
  -- any reading of the arguments gives the same end
  have fin : postEe [.str T, .int (Aa.length : Int)] (.int ((Aa.length : Int) + ((numL n).length : Int))) := by
    intro T' A' B' n' e hT' hn' hB'
    injection e with e1 e2
    injection e1 with e1
    subst e1
    injection e2 with e2 _
    injection e2 with e2
    have e3 : Aa.length = A'.length := by omega
    rw [hT] at hT'
    obtain ⟨_, e4⟩ := app_inj hT' e3
    rw [noDig_eq e4 hB hB', e2]
  have sw := sw1 (T := T) (y := "0") (A := Aa) (B := numL n ++ B) (c := 48) hT rfl
  refine r_if (wt_val (w_starts3 (w_name 0 ⟨T, rfl, w_str (w_name 1 ⟨"0", _, rfl, _, rfl, ?_⟩)⟩)))
  rw [sw]
  by_cases h0 : n = 0
  · subst h0
    have e0 : numL 0 = [48] := numL_lt (by decide)
    rw [e0] at fin ⊢
    refine ifT rfl (r_ret (w_add (w_name 1 ⟨_, rfl, w_int ⟨1, rfl, fin⟩⟩)))
  · obtain ⟨c, D, eD⟩ : ∃ c D, numL n = c :: D := by
      cases hq : numL n with
      | nil => exact absurd hq (numL_ne n)
      | cons c D => exact ⟨c, D, rfl⟩
    have hc := num_head n (by omega) c D eD
    have hcb : swH 48 (numL n ++ B) = false := by
      rw [eD]
      show (c == 48) = false
      simpa using hc
    rw [hcb]
    refine ifF rfl (r_nil (r_asg 2 scEe.nd (w_name 1 ?_)))
    refine r_while (fun m e => ∃ i : Nat, m = (numL n).length - i ∧ i ≤ (numL n).length ∧ e = [.va (.str T), .va (.int (Aa.length : Int)), .va (.int ((Aa.length : Int) + (i : Int)))]) (numL n).length ⟨0, by omega, Nat.zero_le _, by rw [show ((Aa.length : Int) + ((0 : Nat) : Int)) = (Aa.length : Int) by omega]; rfl⟩ fun m e ⟨i, em, hi, ee⟩ => ?_
    subst ee
    have done : i = (numL n).length → ∀ e : En, e = [.va (.str T), .va (.int (Aa.length : Int)), .va (.int ((Aa.length : Int) + (i : Int)))] → Rs (GxOf P w K mg base nEe sEe A) ((defBody sEe).drop 3) e { nx := fun _ => postEe [.str T, .int (Aa.length : Int)] .none, rt := fun d _ => postEe [.str T, .int (Aa.length : Int)] d } := by
      intro hi e ee
      subst ee
      refine r_ret (w_name 2 ?_)
      rw [hi]
      exact fin
    refine wt_and3 (wt_lt (w_name 2 ⟨(Aa.length : Int) + (i : Int), rfl, w_len m1 (w_name 0 ⟨T.length, lenS hsz, (T.length : Int), rfl, ifd (fun h1 => wt_lt (w_minus (w_name 2 ⟨_, rfl, w_name 1 ⟨_, rfl, _, rfl, w_glob m2 (v := .int 3) ⟨_, rfl⟩ rfl ⟨3, rfl, ifd (fun h2 => ?_) fun h2 => ?_⟩⟩⟩))) fun h1 => ifF rfl (done (by omega) _ rfl)⟩)⟩))
    · have hlt : Aa.length + i < (tl T).length := by rw [← len_of_tl T]; omega
      refine wt_inS (w_subS (w_name 0 (w_name 2 ⟨T, _, (tl T)[Aa.length + i], rfl, rfl, hsz, ?_, w_glob m3 (v := .str "0123456789") ⟨_, rfl⟩ rfl ⟨_, _, rfl, rfl, ?_⟩⟩)))
      · have e : ((Aa.length : Int) + (i : Int)) = ((Aa.length + i : Nat) : Int) := by push_cast; rfl
        rw [e]
        exact atI_nat (List.getElem?_eq_getElem hlt)
      · have dg : (decide ((tl T)[Aa.length + i] ∈ (Str.ofString "0123456789").cps.toList)) = decide (48 ≤ (tl T)[Aa.length + i] ∧ (tl T)[Aa.length + i] ≤ 57) := by
          have e : (Str.ofString "0123456789").cps.toList = [48, 49, 50, 51, 52, 53, 54, 55, 56, 57] := by decide
          rw [e]
          congr 1
          apply propext
          simp only [List.mem_cons, List.not_mem_nil, or_false]
          omega
        have dg' : (decide ((tl T)[Aa.length + i] ∈ ("0123456789" : Str).cps.toList)) = decide (48 ≤ (tl T)[Aa.length + i] ∧ (tl T)[Aa.length + i] ≤ 57) := dg
        rw [dg']
        have eg : (tl T)[Aa.length + i]? = (numL n ++ B)[i]? := by
          rw [hT, List.getElem?_append_right (by omega)]
          congr 1
          omega
        rw [List.getElem?_eq_getElem hlt] at eg
        by_cases hi2 : i < (numL n).length
        · rw [List.getElem?_append_left hi2, List.getElem?_eq_getElem hi2] at eg
          have ev := Option.some.inj eg
          have hd := numL_digits n (numL n)[i] (List.getElem_mem hi2)
          refine ifT (decide_eq_true (by rw [ev]; exact hd)) (r_augAdd 2 scEe.nd rfl (w_int ⟨1, rfl, r_nil ⟨(numL n).length - (i + 1), by omega, i + 1, rfl, hi2, ?_⟩⟩))
          rw [show ((Aa.length : Int) + ((i + 1 : Nat) : Int)) = (Aa.length : Int) + (i : Int) + 1 by push_cast; omega]
          rfl
        · have hi3 : i = (numL n).length := by omega
          refine ifF (decide_eq_false fun z => ?_) (done hi3 _ rfl)
          rw [List.getElem?_append_right (by omega)] at eg
          cases B with
          | nil => simp at eg
          | cons b B =>
            have e0 : i - (numL n).length = 0 := by omega
            rw [e0] at eg
            have ev : (tl T)[Aa.length + i] = b := Option.some.inj eg
            rw [ev] at z
            rcases hB with y | y <;> omega
    · exact ifF rfl (done (by omega) _ rfl)
end
end K03

namespace K03
open PySem PySem.Spec PyProof.Rows L2 TL
section
variable {P : Program} {w : World} {K : PySem.W.Frag} {mg : Str → Option Value} {base : Heap} {k : Nat} {f : Addr} {fd : FuncData}
abbrev sRr : Stmt := topS 12
abbrev nRr : List Str := ["text", "start", "most", "row", "end"]
theorem scRr : FnScope nRr ["text", "start", "most"] (defScope sRr) := ⟨rfl, rfl, rfl, by decide +kernel, rfl, by decide +kernel, by decide +kernel⟩
theorem ok_rr (g : RrG) (F : Fun K "read_row" "read_row" sRr f fd) (m1 : mg "len" = none) (m2 : mg "int" = none) (D : Dc P w K mg base "entry_end" 1 ["text", "start"] (spP preEe postEe)) : FnG P w K mg base 2 f fd ["text", "start", "most"] (spP (preRg g) (postRg g)) := by
  refine fnP F scRr (fun ds ⟨e, _⟩ => by rw [e]; rfl) fun A hg hr ds ⟨e, hT, hne, hx, hm, hm2, hl, hB⟩ => ?_
  subst e
  obtain ⟨T, Aa, B, r, m⟩ := g
  simp only at *
  obtain ⟨fE, fdE, C⟩ := D.callee (N := nRr) (st := sRr) hr hg (Nat.le_refl _)
  have hsz : T.length ≤ sizeLine := Nat.le_trans hl (by decide)
  have hrl : r.length ≤ 16 := by omega
  refine r_new 3 scRr.nd (by show 3 < 5; decide) ?_
  refine r_while (fun m' e => ∃ (A' : List Nat) (dn rest : List Nat) (s4 : Sl), r = dn ++ rest ∧ rest ≠ [] ∧ tl T = A' ++ (rowC rest ++ B) ∧ A'.length + (rowC rest).length = Aa.length + (rowC r).length ∧ m' = rest.length ∧
      e = [.va (.str T), .va (.int (A'.length : Int)), .va (.int (m : Int)), .ow ((up dn).map .int), s4]) r.length ⟨Aa, [], r, .no, rfl, hne, hT, rfl, rfl, rfl⟩ fun m' e ⟨A', dn, rest, s4, hr1, hrn, hT', hlen, em, ee⟩ => wt_true (ifT rfl ?_)
  subst ee
  cases rest with
  | nil => exact absurd rfl hrn
  | cons x rest' =>
    have hx1 : x < 1000 := hx x (by rw [hr1]; simp)
    have hdl : dn.length + 1 + rest'.length = r.length := by rw [hr1]; simp; omega
    rw [rowC_cons, List.append_assoc] at hT'
    generalize hB' : rowTl rest' ++ B = B' at hT'
    have hnd : noDig B' := by
      rw [← hB']
      cases rest' with
      | nil =>
        cases B with
        | nil => trivial
        | cons b B =>
          have : b = 47 := hB
          show b < 48 ∨ 57 < b
          omega
      | cons y r' => exact .inl (by decide)
    refine r_asg 4 scRr.nd (w_callP C (w_name 0 (w_name 1 ⟨⟨T, A', B', x, rfl, hT', hx1, hl, hnd⟩, fun d pd => ?_⟩)))
    rw [pd T A' B' x rfl hT' hx1 hnd]
    have hDx := num_len hx1
    refine r_if (wt_eqI (w_name 4 ⟨_, rfl, w_name 1 ⟨_, rfl, ?_⟩⟩))
    refine ifF (decide_eq_false (by omega)) (r_nil ?_)
    have hcut := cut1 (T := T) (A := A') (D := numL x) (B := B') hT'
    refine r_append 3 rfl (w_intS m2 (w_sliceS (w_name 0 ⟨T, rfl, hsz, w_name 1 ⟨(A'.length : Int), rfl, w_name 4 ⟨_, rfl, tS (x : Int), (x : Int), ?_, int_num (by omega), ?_, _, rfl, ?_, ?_⟩⟩⟩)))
    · rw [hcut, str_of_tl (x := tS (x : Int)), tS_tl]
    · rw [len_of_tl, tS_tl]
      omega
    · rw [List.length_map, List.length_map]
      omega
    · have ret : rest' = [] → ∀ e : En, e = [.va (.str T), .va (.int (A'.length : Int)), .va (.int (m : Int)), .ow ((up dn).map .int ++ [.int (x : Int)]), .va (.int ((A'.length : Int) + ((numL x).length : Int)))] →
          ∀ q : Pos × Pos × Pos × Pos, Rs (GxOf P w K mg base nRr sRr A) [.Return (some (.Tuple [.Name "row" q.1, .Name "end" q.2.1] 0 q.2.2.1)) q.2.2.2] e { nx := fun _ => False, rt := fun d _ => postRg ⟨T, Aa, B, r, m⟩ [.str T, .int (Aa.length : Int), .int (m : Int)] d } := by
        intro hr0 e ee q
        subst ee
        subst hr0
        refine r_ret (w_tup (w_freeze 3 (w_name 4 ⟨by show 2 ≤ sizeLine; decide, ?_⟩)))
        show PyData.tuple _ = PyData.tuple _
        have e1 : (rowC [x]).length = (numL x).length := rfl
        rw [e1] at hlen
        rw [hr1]
        have e2 : ((A'.length : Int) + ((numL x).length : Int)) = (Aa.length : Int) + ((rowC (dn ++ [x])).length : Int) := by
          rw [hr1] at hlen
          omega
        rw [e2]
        unfold up
        rw [List.map_append, List.map_append]
        rfl
      have lenrow : ((up dn).map PyData.int ++ [PyData.int (x : Int)]).length = dn.length + 1 := by simp
      have retS : ∀ (e : En) (N : DE), (∀ q : Pos × Pos × Pos × Pos, Rs (GxOf P w K mg base nRr sRr A) [.Return (some (.Tuple [.Name "row" q.1, .Name "end" q.2.1] 0 q.2.2.1)) q.2.2.2] e { nx := fun _ => False, rt := fun d _ => postRg ⟨T, Aa, B, r, m⟩ [.str T, .int (Aa.length : Int), .int (m : Int)] d }) → True := fun _ _ _ => trivial
      refine r_if (wt_or (wt_eqI (w_lenO 3 m1 rfl ⟨_, rfl, w_name 2 ⟨(m : Int), rfl, ifd (fun heq => ifT rfl ?_) fun hne2 => wt_not (wt_val (w_starts3 (w_name 0 ⟨T, rfl, w_str (w_name 4 ⟨" ", _, rfl, _, rfl, ?_⟩)⟩)))⟩⟩)))
      · have hr0 : rest' = [] := List.eq_nil_of_length_eq_zero (by rw [lenrow] at heq; omega)
        exact Rs.imp (ret hr0 _ rfl ⟨_, _, _, _⟩) (fun _ z => z.elim) (fun _ _ z => z) (fun _ z => z.elim) (fun _ z => z.elim) (fun _ _ z => z.elim)
      · have hT2 : tl T = (A' ++ numL x) ++ B' := by rw [hT', List.append_assoc]
        have sw := sw1 (T := T) (y := " ") (A := A' ++ numL x) (B := B') (c := 32) hT2 rfl
        have el : (((A' ++ numL x).length : Nat) : Int) = (A'.length : Int) + ((numL x).length : Int) := by rw [List.length_append]; push_cast; rfl
        rw [el] at sw
        rw [sw, ← hB']
        cases rest' with
        | nil =>
          have hb : swH 32 ([] ++ B) = false := by
            cases B with
            | nil => rfl
            | cons b B =>
              have : b = 47 := hB
              subst this
              rfl
          show if (!swH 32 ([] ++ B)) = true then _ else _
          rw [hb]
          exact ifT rfl (Rs.imp (ret rfl _ rfl ⟨_, _, _, _⟩) (fun _ z => z.elim) (fun _ _ z => z) (fun _ z => z.elim) (fun _ z => z.elim) (fun _ _ z => z.elim))
        | cons y r' =>
          refine ifF rfl (r_nil (r_asg 1 scRr.nd (w_add (w_name 4 ⟨_, rfl, w_int ⟨1, rfl, r_nil ⟨(y :: r').length, by rw [em]; simp, A' ++ (numL x ++ [32]), dn ++ [x], y :: r', .va (.int ((A'.length : Int) + ((numL x).length : Int))), ?_, by simp, ?_, ?_, rfl, ?_⟩⟩⟩))))
          · rw [hr1]
            simp
          · rw [hT', ← hB']
            show A' ++ (numL x ++ (32 :: rowC (y :: r') ++ B)) = _
            simp
          · have e0 : (rowTl (y :: r')).length = 1 + (rowC (y :: r')).length := by
              show (32 :: rowC (y :: r')).length = _
              rw [List.length_cons]
              omega
            rw [rowC_cons] at hlen
            simp only [List.length_append, List.length_cons, List.length_nil] at hlen ⊢
            omega
          · have e1 : (((A' ++ (numL x ++ [32])).length : Nat) : Int) = (A'.length : Int) + ((numL x).length : Int) + 1 := by
              simp only [List.length_append, List.length_cons, List.length_nil]
              push_cast
              omega
            rw [e1]
            unfold up
            rw [List.map_append, List.map_append]
            rfl
end
end K03

namespace K03
open PySem PySem.Spec PyProof.Rows L2 TL
section
variable {P : Program} {w : World} {K : PySem.W.Frag} {mg : Str → Option Value} {base : Heap} {k : Nat} {f : Addr} {fd : FuncData}
abbrev sRe : Stmt := topS 11
abbrev nRe : List Str := ["text", "first", "end", "rows", "row"]
theorem scRe : FnScope nRe ["text"] (defScope sRe) := ⟨rfl, rfl, rfl, by decide +kernel, rfl, by decide +kernel, by decide +kernel⟩
theorem ok_re (t : List (List Nat)) (F : Fun K "read_dyeing" "read_dyeing" sRe f fd) (m1 : mg "len" = none) {tk : Tok} (m2 : mg "MOST_PLACES" = some (.int 16 tk)) (D : ∀ g, Dc P w K mg base "read_row" 2 ["text", "start", "most"] (spP (preRg g) (postRg g))) (D2 : Dc P w K mg base "dyed" 1 ["table"] (spP preDy postDy)) :
    FnG P w K mg base 3 f fd ["text"] (spP (preRe t) (postRe t)) := by
  refine fnP F scRe (fun ds ⟨e, _⟩ => by rw [e]; rfl) fun A hg hr ds ⟨e, hn, hsq⟩ => ?_
  subst e
  have hsm : Small (t.map up) := small_up rfl hsq hn
  have hlen := textOf_len hsm
  have hT := textOf_tl t
  generalize textOf (t.map up) = T at *
  have hsz : T.length ≤ sizeLine := Nat.le_trans hlen (by decide)
  obtain ⟨fD, fdD, CD⟩ := D2.callee (N := nRe) (st := sRe) hr hg (by decide : 1 ≤ 2)
  refine r_if (wt_eqF (w_name 0 (w_str ⟨_, _, rfl, rfl, rfl, ?_⟩)))
  cases t with
  | nil =>
    have e0 : T = Str.empty := by
      rw [str_of_tl (x := T), hT]
      rfl
    exact ifT (decide_eq_true (congrArg V.str e0)) (r_ret (w_tup ⟨Nat.zero_le _, rfl⟩))
  | cons r0 ts =>
    generalize hn0 : (r0 :: ts).length = n at *
    have hn1 : 1 ≤ n := by rw [← hn0]; exact Nat.succ_pos _
    have hr0 := hsq r0 List.mem_cons_self
    have rne : ∀ r ∈ r0 :: ts, r ≠ [] := fun r hr z => by
      have := (hsq r hr).1
      rw [z] at this
      simp at this
      omega
    have hTne : ¬ V.str T = V.str "" := fun z => by
      have e := V.str.inj z
      rw [e] at hT
      rw [tabC_cons] at hT
      cases r0 with
      | nil => exact rne [] List.mem_cons_self rfl
      | cons x r =>
        have e2 : tl ("" : Str) = [] := rfl
        rw [e2] at hT
        have hD := (num_len (hr0.2 x List.mem_cons_self)).1
        have := congrArg List.length hT
        cases r with
        | nil =>
          have e3 : rowC [x] = numL x := rfl
          rw [e3] at this
          simp at this
          omega
        | cons y r =>
          have e3 : rowC (x :: y :: r) = numL x ++ 32 :: rowC (y :: r) := rfl
          rw [e3] at this
          simp at this
    refine ifF (decide_eq_false hTne) (r_nil ?_)
    rw [tabC_cons] at hT
    obtain ⟨fR, fdR, CR⟩ := (D ⟨T, [], tabTl ts, r0, 16⟩).callee (N := nRe) (st := sRe) hr hg (Nat.le_refl _)
    refine r_un2 1 2 (w_callP CR (w_name 0 (w_int (w_glob m2 (v := .int 16) ⟨_, rfl⟩ rfl ⟨⟨rfl, hT, rne r0 List.mem_cons_self, hr0.2, by show r0.length ≤ 16; omega, by show 16 ≤ 16; decide, by show T.length ≤ 100000; omega, tabTl_end ts⟩, fun d pd => ⟨_, _, pd, ?_⟩⟩)))) scRe.nd (fun _ _ => rfl)
    refine r_lstOw 3 scRe.nd (w_name 1 ⟨by show 1 ≤ sizeLine; decide, by show 3 < 5; decide, ?_⟩)
    have hfl : ((up r0).map PyData.int).length = n := by rw [List.length_map, List.length_map]; exact hr0.1
    refine r_while (fun m e => ∃ (dn rest : List (List Nat)) (A' : List Nat) (s4 : Sl), r0 :: ts = dn ++ rest ∧ tl T = A' ++ tabTl rest ∧ m = rest.length ∧
      e = [.va (.str T), .va (.list ((up r0).map .int)), .va (.int (A'.length : Int)), .ow (dn.map fun r => rowL (up r)), s4]) ts.length ⟨[r0], ts, rowC r0, .no, rfl, hT, rfl, ?_⟩ fun m e ⟨dn, rest, A', s4, hd, hT', em, ee⟩ => ?_
    · have e1 : ((([] : List Nat).length : Int) + ((rowC r0).length : Int)) = ((rowC r0).length : Int) := by simp
      rw [e1]
      rfl
    · subst ee
      have hdl : dn.length + rest.length = n := by rw [← hn0, hd, List.length_append]
      refine wt_lt (w_lenO 3 m1 rfl ⟨_, rfl, w_len m1 (w_name 1 ⟨_, rfl, _, rfl, ?_⟩)⟩)
      rw [hfl, List.length_map]
      refine ifd (fun hlt => ?_) fun hge => ?_
      · cases rest with
        | nil => simp at hdl; omega
        | cons s rest' =>
          have hsm2 : s ∈ r0 :: ts := by rw [hd]; simp
          have hs := hsq s hsm2
          have e1 : tabTl (s :: rest') = 47 :: (rowC s ++ tabTl rest') := by
            show 47 :: tabC (s :: rest') = _
            rw [tabC_cons]
          rw [e1] at hT'
          have sw := sw1 (T := T) (y := "/") (A := A') (B := 47 :: (rowC s ++ tabTl rest')) (c := 47) hT' rfl
          refine r_if (wt_not (wt_val (w_starts3 (w_name 0 ⟨T, rfl, w_str (w_name 2 ⟨"/", _, rfl, _, rfl, ?_⟩)⟩))))
          rw [sw]
          refine ifF rfl (r_nil ?_)
          have hT2 : tl T = (A' ++ [47]) ++ (rowC s ++ tabTl rest') := by rw [hT']; simp
          obtain ⟨fS, fdS, CS⟩ := (D ⟨T, A' ++ [47], tabTl rest', s, n⟩).callee (N := nRe) (st := sRe) hr hg (Nat.le_refl _)
          have ea : (((A' ++ [47]).length : Nat) : Int) = (A'.length : Int) + 1 := by rw [List.length_append]; push_cast; rfl
          refine r_un2 4 2 (w_callP CS (w_name 0 (w_add (w_name 2 ⟨_, rfl, w_int ⟨1, rfl, w_len m1 (w_name 1 ⟨_, rfl, ⟨?_, hT2, rne s hsm2, hs.2, by show s.length ≤ n; omega, by show n ≤ 16; omega, by show T.length ≤ 100000; omega, tabTl_end rest'⟩, fun d pd => ⟨_, _, pd, ?_⟩⟩)⟩⟩)))) scRe.nd (fun _ _ => rfl)
          · show _ = [PyData.str T, .int (((A' ++ [47]).length : Nat) : Int), .int (n : Int)]
            rw [ea, hfl]
          · refine r_if (wt_lt (w_len m1 (w_name 4 ⟨_, rfl, _, rfl, w_len m1 (w_name 1 ⟨_, rfl, _, rfl, ?_⟩)⟩)))
            rw [hfl, List.length_map, List.length_map, hs.1]
            refine ifF (decide_eq_false (by omega)) (r_nil (r_append 3 rfl (w_name 4 ⟨_, rfl, ?_, r_nil ?_⟩)))
            · rw [List.length_map]
              omega
            refine ⟨rest'.length, by rw [em]; simp, dn ++ [s], rest', A' ++ (47 :: rowC s), .va (.list ((up s).map .int)), ?_, ?_, rfl, ?_⟩
            · rw [hd]
              simp
            · rw [hT']
              simp
            · have e3 : (((A' ++ (47 :: rowC s)).length : Nat) : Int) = (((A' ++ [47]).length : Nat) : Int) + ((rowC s).length : Int) := by
                simp only [List.length_append, List.length_cons, List.length_nil]
                push_cast
                omega
              rw [e3, List.map_append]
              rfl
      · have hrn : rest = [] := List.eq_nil_of_length_eq_zero (by omega)
        subst hrn
        rw [List.append_nil] at hd
        have hTl := len_of_tl T
        rw [hT'] at hTl
        have e0 : tabTl [] = [] := rfl
        rw [e0, List.append_nil] at hTl
        refine r_if (wt_lt (w_name 2 ⟨(A'.length : Int), rfl, w_len m1 (w_name 0 ⟨T.length, lenS hsz, _, rfl, ifF (decide_eq_false (by omega)) (r_nil ?_)⟩)⟩))
        refine r_ret (w_callP CD (w_freeze 3 ⟨⟨.list (dn.map fun r => rowL (up r)), (r0 :: ts).map up, rfl, ?_, ?_, ?_⟩, fun d pd => ?_⟩))
        · rw [hd]
          have := isTb_L (dn.map up)
          unfold tbL at this
          rw [List.map_map] at this
          exact this
        · rw [List.length_map, hn0]
          omega
        · exact fun r hr => (hsm.2 r hr).1
        · refine pd _ _ rfl ?_
          rw [hd]
          have := isTb_L (dn.map up)
          unfold tbL at this
          rw [List.map_map] at this
          exact this
end
end K03

namespace K03
open PySem PySem.Spec PyProof.Rows L2 TL
section
variable {P : Program} {w : World} {K : PySem.W.Frag} {mg : Str → Option Value} {base : Heap} {k : Nat} {f : Addr} {fd : FuncData}
abbrev sBeg : Stmt := topS 15
abbrev nBeg : List Str := ["script", "k", "cells", "great", "seed", "cell"]
theorem scBeg : FnScope nBeg ["script", "k"] (defScope sBeg) := ⟨rfl, rfl, rfl, by decide +kernel, rfl, by decide +kernel, by decide +kernel⟩
theorem ok_beg (F : Fun K "_law_begun" "_law_begun" sBeg f fd) (m1 : mg "int" = none) : FnG P w K mg base 1 f fd ["script", "k"] (spB K) := by
  refine fnB F scBeg fun A hg hr a j ns hj hl => ?_
  refine r_asg 2 scBeg.nd (w_cat (w_rawFrom 0 rfl (fun _ h => h) (w_name 1 ⟨_, rfl, rfl, fun u1 l1 => ⟨_, rfl, w_rawTo 0 rfl (fun _ h => h) (w_name 1 ⟨_, rfl, rfl, fun u2 l2 => ⟨_, rfl, ?_, ?_⟩⟩)⟩⟩)))
  · rw [List.length_map, List.length_map]
    exact Nat.le_trans (show u1.length + u2.length ≤ 200 by omega) (by decide)
  rw [← List.map_append]
  have hcl : (u1 ++ u2).length ≤ 126 := by rw [List.length_append]; omega
  generalize u1 ++ u2 = cs at *
  refine r_lc 3 5 false true (t := some _) (lc_seq (w_name 2 ⟨cs.map .int, rfl, by rw [List.length_map]; omega, cj_filter (fun d => match d with | .int y => decide ((10 : Int) ^ 18 ≤ y) | _ => false) (fun d hd => ?_) (fun d hd => w_name 5 ⟨rfl, rfl⟩) ⟨by show 3 < 6; decide, ?_⟩⟩)) scBeg.nd (hsw := .inl ⟨rfl, rfl, fun v hv => by cases v; subst hv; rfl⟩)
  · obtain ⟨y, hy, ey⟩ := mem_ints hd
    subst ey
    exact wt_ge (w_name 5 ⟨y, rfl, w_pow (w_int ⟨10, rfl, w_int ⟨18, rfl, ⟨by decide, by decide, by decide⟩, _, rfl, rfl, rfl⟩⟩)⟩)
  have ef : (cs.map PyData.int).filter (fun d => match d with | .int y => decide ((10 : Int) ^ 18 ≤ y) | _ => false) = (cs.filter fun y => decide ((10 : Int) ^ 18 ≤ y)).map PyData.int := by
    rw [List.filter_map]
    rfl
  rw [ef]
  generalize cs.filter (fun y => decide ((10 : Int) ^ 18 ≤ y)) = gs
  refine r_asg 4 scBeg.nd (w_add (w_int ⟨71, rfl, w_name 1 ⟨_, rfl, ?_⟩⟩))
  refine r_for 5 scBeg.nd (wi_seq (w_name 2 ⟨cs.map .int, rfl, fun i e => ∃ (s : Int) (s5 : Sl), 0 ≤ s ∧ s < 2147483647 ∧ e = [.raw (.ref a) (scφ K a ns), .va (.int (j : Int)), .va (.list (cs.map .int)), .va (.list (gs.map .int)), .va (.int s), s5],
    ⟨71 + (j : Int), .no, by omega, by omega, rfl⟩, fun i d e ed he => ?_, fun e he => ?_⟩))
  · obtain ⟨s, s5, h1, h2, ee⟩ := he
    subst ee
    obtain ⟨y, hy, ey⟩ := mem_ints (List.mem_of_getElem? ed)
    subst ey
    refine r_asg 4 scBeg.nd (w_mod (w_intC m1 (w_add (w_mul (w_name 4 ⟨s, rfl, w_int ⟨48271, rfl, small_mul (by omega) (by omega), _, rfl, w_name 5 ⟨y, rfl, _, rfl, _, rfl, w_int ⟨2147483647, rfl, by decide, r_nil ?_⟩⟩⟩⟩)))))
    exact ⟨_, _, Int.emod_nonneg _ (by decide), Int.emod_lt_of_pos _ (by decide), rfl⟩
  · obtain ⟨s, s5, h1, h2, ee⟩ := he
    subst ee
    refine r_retDict (w_if (wt_neD (by have := hr.units; exact this) (w_name 3 (w_lst ⟨Nat.zero_le _, ?_, by decide +kernel, ?_⟩)))) mergeK4
    · show SeqAt.shaped (.list (gs.map .int)) = true
      unfold SeqAt.shaped
      have c1 : (PyData.list (gs.map PyData.int)).canLay0 = true := by
        simp only [PyData.canLay0]
        exact canAll _ (fun i => by simp [PyData.canLay0]) gs
      have c2 : (PyData.list (gs.map PyData.int)).depth ≤ 64 := by
        simp only [PyData.depth]
        have := dep_ints gs
        omega
      rw [c1, decide_eq_true c2]
      rfl
    · have hge : PyData.eqv (.list (gs.map .int)) (.list []) = gs.isEmpty := by
        cases gs with
        | nil => simp [PyData.eqv, PyData.eqvAll]
        | cons r t => simp [PyData.eqv, PyData.eqvAll]
      rw [hge]
      cases gs with
      | nil =>
        refine ifF rfl (w_int (w_name 4 (w_cat (w_name 2 ⟨_, rfl, w_lst (w_add (w_mul (w_int ⟨53, rfl, w_name 1 ⟨_, rfl, small_mul (by decide) (by decide), _, rfl, w_int ⟨11, rfl, ?_, _, rfl, ?_, w_int ?_⟩⟩⟩)))⟩))))
        · show 1 ≤ sizeLine
          decide
        · rw [List.length_map]
          exact Nat.le_trans (show cs.length + 1 ≤ 200 by omega) (by decide)
        · refine ⟨_, _, _, _, rfl, 0, s, cs ++ [53 * (j : Int) + 11], 0, ?_, by simp, by rw [List.length_append]; show cs.length + 1 ≤ 200; omega, h1, h2, rfl⟩
          unfold msD
          rw [List.map_append]
          rfl
      | cons g0 gs =>
        refine ifT rfl (w_sub (w_name 3 (w_int ⟨(g0 :: gs).map .int, 0, .int g0, rfl, rfl, atI_nat (j := 0) rfl, w_name 4 (w_cat (w_name 2 ⟨_, rfl, w_lst (w_add (w_mul (w_int ⟨53, rfl, w_name 1 ⟨_, rfl, small_mul (by decide) (by decide), _, rfl, w_int ⟨11, rfl, ?_, _, rfl, ?_, w_int ?_⟩⟩⟩)))⟩))⟩)))
        · show 1 ≤ sizeLine
          decide
        · rw [List.length_map]
          exact Nat.le_trans (show cs.length + 1 ≤ 200 by omega) (by decide)
        · refine ⟨_, _, _, _, rfl, g0, s, cs ++ [53 * (j : Int) + 11], 0, ?_, by simp, by rw [List.length_append]; show cs.length + 1 ≤ 200; omega, h1, h2, rfl⟩
          unfold msD
          rw [List.map_append]
          rfl
end
end K03

namespace K03
open PySem PySem.Spec PyProof.Rows L2 TL
section
variable {P : Program} {w : World} {K : PySem.W.Frag} {mg : Str → Option Value} {base : Heap} {k : Nat} {f : Addr} {fd : FuncData}
abbrev sTr : Stmt := topS 24
abbrev nTr : List Str := ["m", "table", "text", "many", "step", "first", "keys", "other", "j", "row", "dye"]
theorem scTr : FnScope nTr ["m", "table"] (defScope sTr) := ⟨rfl, rfl, rfl, by decide +kernel, rfl, by decide +kernel, by decide +kernel⟩
set_option maxHeartbeats 4000000 in
theorem ok_tr (F : Fun K "_law_texts_right" "_law_texts_right" sTr f fd) (DT : Dc P w K mg base "_law_text" 1 ["table"] (spP preTx postTx)) (DM : Dc P w K mg base "_law_many" 1 ["dyeing"] (spP preMy postMy)) (DL : Dc P w K mg base "_law_like" 1 ["got", "due"] (spP preLk postLk))
    (DW : Dc P w K mg base "written" 1 ["dyeing"] (spP preTx postTx)) (DR : ∀ t, Dc P w K mg base "read_dyeing" 3 ["text"] (spP (preRe t) (postRe t))) (DO : Dc P w K mg base "_law_of" 2 ["m", "some"] (spM 1 preOf postOf)) (DD : Dc P w K mg base "_law_draw" 1 ["m", "bound"] (spM 1 preD postD))
    (DS : Dc P w K mg base "_law_shuffled" 3 ["m", "count"] (spM 1000 preSh postSh)) (DY : Dc P w K mg base "_law_dyed" 1 ["rows"] (spP preDy postDy)) : FnG P w K mg base 4 f fd ["m", "table"] (spM 2000 preTr postTr) := by
  refine fnM F scTr (fun ds ⟨_, _, e, _⟩ => by rw [e]; rfl) fun A hg hr a n0 ds ⟨n, t, e, ht, hn⟩ hn0 => ?_
  subst e
  have hl0 : (LIM : Nat) = 1000000000 := rfl
  obtain ⟨fT, fdT, CT⟩ := DT.callee (N := nTr) (st := sTr) hr hg (by decide : 1 ≤ 3)
  obtain ⟨fM, fdM, CM⟩ := DM.callee (N := nTr) (st := sTr) hr hg (by decide : 1 ≤ 3)
  obtain ⟨fL, fdL, CL⟩ := DL.callee (N := nTr) (st := sTr) hr hg (by decide : 1 ≤ 3)
  obtain ⟨fW, fdW, CW⟩ := DW.callee (N := nTr) (st := sTr) hr hg (by decide : 1 ≤ 3)
  obtain ⟨fO, fdO, CO⟩ := DO.callee (N := nTr) (st := sTr) hr hg (by decide : 2 ≤ 3)
  obtain ⟨fD, fdD, CD⟩ := DD.callee (N := nTr) (st := sTr) hr hg (by decide : 1 ≤ 3)
  obtain ⟨fS, fdS, CS⟩ := DS.callee (N := nTr) (st := sTr) hr hg (by decide : 3 ≤ 3)
  obtain ⟨fY, fdY, CY⟩ := DY.callee (N := nTr) (st := sTr) hr hg (by decide : 1 ≤ 3)
  have hnn : n * n ≤ 256 := Nat.mul_le_mul hn hn
  have hbig : ∀ r ∈ t, ∀ z ∈ r, z.natAbs < 1000 := fun r hr z hz => by have := ht.low r hr z hz; omega
  have hsm : Small t := small_of ht.sq hn fun r hr z hz => Nat.lt_trans (hbig r hr z hz) (by decide)
  obtain ⟨u, eu⟩ := nat_tb fun r hr z hz => (ht.low r hr z hz).1
  have hul : u.length = n := by have := ht.sq.1; rw [eu, List.length_map] at this; exact this
  have hu : ∀ r ∈ u, r.length = u.length ∧ ∀ x ∈ r, x < 1000 := fun r hr => by
    have hm : up r ∈ t := by rw [eu]; exact List.mem_map_of_mem hr
    refine ⟨by have := ht.sq.2 _ hm; rw [List.length_map] at this; omega, fun x hx => ?_⟩
    have := hbig _ hm (x : Int) (List.mem_map_of_mem hx)
    omega
  have nbt : NB 36002 1 (.str (textOf t)) := by
    rw [eu]
    exact nb_text (by rw [← eu]; exact hsm)
  obtain ⟨fR, fdR, CR⟩ := (DR u).callee (N := nTr) (st := sTr) hr hg (by decide : 3 ≤ 3)
  have hrne : ∀ r ∈ t, r ≠ [] := fun r hr z => by
    have h1 := ht.sq.2 r hr
    rw [z] at h1
    have h2 := ht.sq.1
    have h3 := List.length_pos_of_mem hr
    simp at h1
    omega
  -- text, many
  refine r_par2 2 3 (w_callP CT (w_name 1 ⟨⟨_, t, rfl, isTb_T t, hsm⟩, fun d1 pd1 => w_callP CM (w_name 1 ⟨⟨t, rfl, hrne, by have := ht.sq.1; omega⟩, fun d2 pd2 => ?_⟩)⟩)) scTr.nd (by intro v hv; cases v; subst hv; rfl)
  rw [pd1 _ t rfl (isTb_T t)]
  obtain ⟨mz, emz, hmany⟩ := pd2 t rfl
  subst emz
  refine ⟨_, _, rfl, ?_⟩
  -- many as a natural number
  have hmn : 0 ≤ mz ∧ mz ≤ 256 ∧ ∀ r ∈ t, ∀ z ∈ r, 0 ≤ z ∧ z < mz := by
    rcases hmany with ⟨e1, e2⟩ | ⟨⟨r, hr, hz⟩, hall⟩
    · refine ⟨by omega, by omega, fun r hr => ?_⟩
      rw [e1] at hr
      cases hr
    · have := ht.low r hr _ hz
      refine ⟨by omega, by omega, fun s hs z hz => ⟨(ht.low s hs z hz).1, by have := hall s hs z hz; omega⟩⟩
  obtain ⟨hm0, hm1, hm2⟩ := hmn
  obtain ⟨c, ec⟩ := Int.eq_ofNat_of_zero_le hm0
  subst ec
  have hc : c ≤ 256 := by omega
  have nb3 : NB 200000 4 (.list [.str (textOf t), tbT t, .str (textOf t)]) := by
    have h : ∀ x ∈ [PyData.str (textOf t), tbT t, .str (textOf t)], NB 36002 3 x := fun x hx => by
      rcases List.mem_cons.mp hx with e | hx
      · rw [e]; exact nbt.mono (Nat.le_refl _) (by decide)
      rcases List.mem_cons.mp hx with e | hx
      · rw [e]; exact (nb_tb hsm).mono (by omega) (Nat.le_refl _)
      rcases List.mem_cons.mp hx with e | hx
      · rw [e]; exact nbt.mono (Nat.le_refl _) (by decide)
      cases hx
    exact (nb_list h).mono (by simp only [List.length_cons, List.length_nil]; omega) (Nat.le_refl _)
  refine r_if (wt_not (wt_val (w_callP CL (w_lst (w_callP CW (w_name 1 ⟨⟨_, t, rfl, isTb_T t, hsm⟩, fun d1 pd1 => w_callP CR (w_name 2 ⟨⟨?_, by omega, hu⟩, fun d2 pd2 => w_callP CW (w_name 1 ⟨⟨_, t, rfl, isTb_T t, hsm⟩, fun d3 pd3 => ?_⟩)⟩)⟩))))))
  · rw [← eu]
  rw [pd1 _ t rfl (isTb_T t), pd3 _ t rfl (isTb_T t), show d2 = tbT t by rw [show d2 = _ from pd2, ← eu, ht.same]]
  refine ⟨by show 3 ≤ sizeLine; decide, w_lst (w_name 2 (w_name 1 (w_name 2 ⟨by show 3 ≤ sizeLine; decide, ⟨_, _, _, rfl, rfl, nb3, by decide, by decide⟩, fun d pd => ⟨true, pd, ifF rfl (r_nil ?_)⟩⟩)))⟩
  -- the rest asks but little of the keys
  let Nn : DE := { nx := fun e => ∃ n', e[0]? = some (.ms a n') ∧ n' ≤ n0 + 2000 ∧ postTr [tbT t] .none, rt := fun d e => ∃ n', e[0]? = some (.ms a n') ∧ n' ≤ n0 + 2000 ∧ postTr [tbT t] d }
  let G0 : Gx := GxOf P w K mg base nTr sTr A
  let KS : List Int → Prop := fun ks => ks.length = c ∧ ∀ z ∈ ks, 0 ≤ z ∧ z < 1000
  let kf : List Int → Int → Int := fun ks z => ks.getD z.toNat 0
  let tk : List Int → Tb := fun ks => t.map fun r => r.map (kf ks)
  have kfat : ∀ (ks : List Int) (z : Int), KS ks → 0 ≤ z → z < c → atI (ks.map PyData.int) z = some (.int (kf ks z)) ∧ kf ks z ∈ ks := by
    intro ks z hk h0 h1
    obtain ⟨i, ei⟩ := Int.eq_ofNat_of_zero_le h0
    subst ei
    have hi : i < ks.length := by rw [hk.1]; omega
    have e : kf ks (i : Int) = ks[i] := by
      show ks.getD (i : Int).toNat 0 = _
      rw [Int.toNat_natCast, List.getD_eq_getElem?_getD, List.getElem?_eq_getElem hi]
      rfl
    rw [e]
    exact ⟨atI_nat (by rw [List.getElem?_map, List.getElem?_eq_getElem hi]; rfl), List.getElem_mem hi⟩
  have tkf : ∀ ks, KS ks → Sq n (tk ks) ∧ ∀ r ∈ tk ks, ∀ z ∈ r, 0 ≤ z ∧ z < 1000 := by
    intro ks hk
    refine ⟨⟨by show (t.map _).length = n; rw [List.length_map]; exact ht.sq.1, fun r hr => ?_⟩, fun r hr z hz => ?_⟩
    · obtain ⟨s, hs, e⟩ := List.mem_map.mp hr
      rw [← e, List.length_map]
      exact ht.sq.2 s hs
    · obtain ⟨s, hs, e⟩ := List.mem_map.mp hr
      rw [← e] at hz
      obtain ⟨y, hy, e2⟩ := List.mem_map.mp hz
      rw [← e2]
      have := hm2 s hs y hy
      exact hk.2 _ (kfat ks y hk this.1 this.2).2
  have likeO : ∀ (ks : List Int) (n' : Nat) (s4 s5 s6 s8 s9 s10 : Sl), KS ks → ∀ p1 p2 p3 p4 p5 p6 p7 p8 p9 p10 : Pos, ∀ Pp : PyData → En → Prop, Pp (.bool true) [.ms a n', .va (tbT t), .va (.str (textOf t)), .va (.int (c : Int)), s4, s5, s6, .va (tbL (tk ks)), s8, s9, s10] →
      W G0 (.Call (.Name "_law_like" p1) [.Call (.Name "read_dyeing" p2) [.Call (.Name "_law_text" p3) [.Name "other" p4] [] p5] [] p6, .Call (.Name "_law_dyed" p7) [.Name "other" p8] [] p9] [] p10)
        [.ms a n', .va (tbT t), .va (.str (textOf t)), .va (.int (c : Int)), s4, s5, s6, .va (tbL (tk ks)), s8, s9, s10] Pp := by
    intro ks n' s4 s5 s6 s8 s9 s10 hk p1 p2 p3 p4 p5 p6 p7 p8 p9 p10 Pp hP
    obtain ⟨hsq, hlow⟩ := tkf ks hk
    generalize tk ks = t' at *
    have e12 : (1000 : Nat) < 10 ^ 12 := by decide
    have hsm' : Small t' := small_of hsq hn fun r hr z hz => by
      have := hlow r hr z hz
      omega
    obtain ⟨u', eu'⟩ := nat_tb fun r hr z hz => (hlow r hr z hz).1
    have hul' : u'.length = n := by have := hsq.1; rw [eu', List.length_map] at this; exact this
    have hu' : ∀ r ∈ u', r.length = u'.length ∧ ∀ x ∈ r, x < 1000 := fun r hr => by
      have hm : up r ∈ t' := by rw [eu']; exact List.mem_map_of_mem hr
      refine ⟨by have := hsq.2 _ hm; rw [List.length_map] at this; omega, fun x hx => ?_⟩
      have := (hlow _ hm (x : Int) (List.mem_map_of_mem hx)).2
      omega
    obtain ⟨fR', fdR', CR'⟩ := (DR u').callee (N := nTr) (st := sTr) hr hg (by decide : 3 ≤ 3)
    have hdy := dye_of hsq
    have hsd : Small (dy t') := small_of hdy.sq hn fun r hr z hz => by
      have := hdy.low r hr z hz
      omega
    refine w_callP CL (w_callP CR' (w_callP CT (w_name 7 ⟨⟨_, t', rfl, isTb_L t', hsm'⟩, fun d1 pd1 => ⟨⟨?_, by omega, hu'⟩, fun d2 pd2 => w_callP CY (w_name 7 ⟨⟨_, t', rfl, isTb_L t', by have := hsq.1; omega, fun r hr => by have := hsq.2 r hr; omega⟩, fun d3 pd3 => ?_⟩)⟩⟩)))
    · rw [pd1 _ t' rfl (isTb_L t'), ← eu']
    · rw [show d2 = tbT (dy t') by rw [show d2 = _ from pd2, ← eu'], pd3 _ t' rfl (isTb_L t')]
      exact ⟨⟨_, _, _, rfl, rfl, nb_tb hsd, by decide, by decide⟩, fun d pd => by rw [show d = .bool true from pd]; exact hP⟩
  have mkO : ∀ (ks : List Int) (j : Nat), KS ks → True := fun _ _ _ => trivial
  have row9 : ∀ (ks : List Int), (t.map rowT).map (fun d => match d with | .tuple xs => .list (xs.map fun d => match d with | .int z => .int (kf ks z) | _ => .none) | _ => .none) = (tk ks).map rowL := by
    intro ks
    show _ = (t.map _).map rowL
    rw [List.map_map, List.map_map]
    apply List.map_congr_left
    intro r _
    show PyData.list ((r.map PyData.int).map _) = PyData.list ((r.map (kf ks)).map PyData.int)
    rw [List.map_map, List.map_map]
    rfl
  have t9 : ∀ (ks : List Int) (n' : Nat) (s4 s5 s6 s8 s9 s10 : Sl), KS ks → n' ≤ n0 + 2000 → Rs G0 ((defBody sTr).drop 9) [.ms a n', .va (tbT t), .va (.str (textOf t)), .va (.int (c : Int)), s4, s5, s6, .va (tbL (tk ks)), s8, s9, s10] Nn := by
    intro ks n' s4 s5 s6 s8 s9 s10 hk hn'
    exact r_ret (likeO ks n' s4 s5 s6 s8 s9 s10 hk _ _ _ _ _ _ _ _ _ _ _ ⟨n', rfl, hn', rfl⟩)
  have t8 : ∀ (ks : List Int) (n' : Nat) (s4 s5 s7 s8 s9 : Sl), KS ks → n' ≤ n0 + 2000 → Rs G0 ((defBody sTr).drop 8) [.ms a n', .va (tbT t), .va (.str (textOf t)), .va (.int (c : Int)), s4, s5, .ow (ks.map .int), s7, s8, s9, .no] Nn := by
    intro ks n' s4 s5 s7 s8 s9 hk hn'
    refine r_lc 7 9 false true (t := none) (lc_seq (w_name 1 ⟨t.map rowT, rfl, by rw [List.length_map]; have := ht.sq.1; omega, cj_map (fun d => match d with | .tuple xs => .list (xs.map fun d => match d with | .int z => .int (kf ks z) | _ => .none) | _ => .none) (fun d hd => ?_) ⟨by show 7 < 11; decide, ?_⟩⟩)) scTr.nd (hsw := .inl ⟨rfl, rfl, fun v hv => by cases v; subst hv; rfl⟩)
    · obtain ⟨r, hr, er⟩ := List.mem_map.mp hd
      subst er
      refine w_lc 10 (t := none) (lc_seq (w_name 9 ⟨r.map .int, rfl, by rw [List.length_map]; have := ht.sq.2 r hr; omega, cj_map (fun d => match d with | .int z => .int (kf ks z) | _ => .none) (fun d hd => ?_) ⟨rfl, rfl⟩⟩)) scTr.nd
      obtain ⟨z, hz, ez⟩ := mem_ints hd
      subst ez
      have := hm2 r hr z hz
      exact w_subOwn 6 rfl (w_name 10 ⟨z, _, rfl, rfl, (kfat ks z hk this.1 this.2).1, rfl, rfl⟩)
    · rw [row9]
      exact t9 ks n' s4 s5 _ s8 _ _ hk hn'
  have ixn : ∀ (l : List PyData) (i : Int), 0 ≤ i → i < l.length → ∃ j, j < l.length ∧ ixN l.length i = some j := by
    intro l i h0 h1
    refine ⟨i.toNat, by omega, ?_⟩
    unfold ixN
    rw [if_pos h0, if_pos h1]
  have kset : ∀ (ks : List Int) (j : Nat) (z : Int), KS ks → 0 ≤ z → z < 1000 → KS (ks.set j z) := by
    intro ks j z hk h0 h1
    refine ⟨by rw [List.length_set]; exact hk.1, fun y hy => ?_⟩
    rcases List.mem_or_eq_of_mem_set hy with e | e
    · exact hk.2 y e
    · rw [e]
      exact ⟨h0, h1⟩
  have t7 : ∀ (ks : List Int) (n' : Nat) (s4 s5 s7 s8 s9 : Sl), KS ks → n' ≤ n0 + 1900 → Rs G0 ((defBody sTr).drop 7) [.ms a n', .va (tbT t), .va (.str (textOf t)), .va (.int (c : Int)), s4, s5, .ow (ks.map .int), s7, s8, s9, .no] Nn := by
    intro ks n' s4 s5 s7 s8 s9 hk hn'
    refine r_if (wt_gt (w_name 3 ⟨(c : Int), rfl, w_int ⟨1, rfl, ifd (fun h1 => ?_) fun _ => r_nil (t8 ks n' s4 s5 s7 s8 s9 hk (by omega))⟩⟩))
    refine r_setL 6 ?_
    refine w_subOwn 6 rfl ?_
    refine (w_callM 0 CD rfl (w_name 3 ⟨n', rfl, by omega, ⟨(c : Int), rfl, by omega, by omega⟩, fun d1 n1 hn1 pd1 => ?_⟩))
    obtain ⟨i1, e1, g1, g2⟩ := pd_int pd1
    subst e1
    have k1 := kfat ks i1 hk g1 g2
    refine ⟨i1, _, rfl, rfl, k1.1, _, rfl, w_callM 0 CD rfl (w_name 3 ⟨n1, rfl, by omega, ⟨(c : Int), rfl, by omega, by omega⟩, fun d2 n2 hn2 pd2 => ?_⟩)⟩
    obtain ⟨i2, e2, g3, g4⟩ := pd_int pd2
    subst e2
    obtain ⟨j, hj, ej⟩ := ixn (ks.map .int) i2 g3 (by rw [List.length_map, hk.1]; exact g4)
    refine ⟨_, i2, j, rfl, rfl, ej, r_nil ?_⟩
    have hz := hk.2 _ k1.2
    have := t8 (ks.set j (kf ks i1)) n2 s4 s5 s7 s8 s9 (kset ks j _ hk hz.1 hz.2) (by omega)
    rw [List.map_set] at this
    exact this
  have t5 : ∀ (ks : List Int) (n' : Nat) (s4 s5 s7 s8 s9 : Sl), KS ks → n' ≤ n0 + 1800 → Rs G0 ((defBody sTr).drop 5) [.ms a n', .va (tbT t), .va (.str (textOf t)), .va (.int (c : Int)), s4, s5, .ow (ks.map .int), s7, s8, s9, .no] Nn := by
    intro ks n' s4 s5 s7 s8 s9 hk hn'
    refine r_lc 7 9 false true (t := none) (lc_seq (w_name 1 ⟨t.map rowT, rfl, by rw [List.length_map]; have := ht.sq.1; omega, cj_map (fun d => match d with | .tuple xs => .list (xs.map fun d => match d with | .int z => .int (kf ks z) | _ => .none) | _ => .none) (fun d hd => ?_) ⟨by show 7 < 11; decide, ?_⟩⟩)) scTr.nd (hsw := .inl ⟨rfl, rfl, fun v hv => by cases v; subst hv; rfl⟩)
    · obtain ⟨r, hr, er⟩ := List.mem_map.mp hd
      subst er
      refine w_lc 10 (t := none) (lc_seq (w_name 9 ⟨r.map .int, rfl, by rw [List.length_map]; have := ht.sq.2 r hr; omega, cj_map (fun d => match d with | .int z => .int (kf ks z) | _ => .none) (fun d hd => ?_) ⟨rfl, rfl⟩⟩)) scTr.nd
      obtain ⟨z, hz, ez⟩ := mem_ints hd
      subst ez
      have := hm2 r hr z hz
      exact w_subOwn 6 rfl (w_name 10 ⟨z, _, rfl, rfl, (kfat ks z hk this.1 this.2).1, rfl, rfl⟩)
    · rw [row9]
      exact r_if (wt_not (wt_val (likeO ks n' s4 s5 _ s8 _ _ hk _ _ _ _ _ _ _ _ _ _ _ ⟨true, rfl, ifF rfl (r_nil (t7 ks n' s4 s5 _ s8 _ hk (by omega)))⟩)))
  refine r_un2 4 5 (w_tup (w_callM 0 CO rfl (w_lst (w_int (w_int (w_int ⟨by show 3 ≤ sizeLine; decide, n0, rfl, by omega, ⟨_, rfl, by simp, by show 3 < 100000; decide⟩, fun d1 n1 hn1 pd1 => ?_⟩)))))) scTr.nd (by intro v hv; cases v; subst hv; rfl)
  refine w_callM 0 CD rfl (w_int ⟨n1, rfl, by omega, ⟨_, rfl, by decide, by decide⟩, fun d2 n2 hn2 pd2 => ⟨by show 2 ≤ sizeLine; decide, _, _, rfl, ?_⟩⟩)
  obtain ⟨xs, ex, hx⟩ := pd1
  injection ex with ex _
  injection ex with ex
  subst ex
  obtain ⟨st, est, hst⟩ : ∃ st : Int, d1 = .int st ∧ (st = 1 ∨ st = 2 ∨ st = 3) := by
    rcases List.mem_cons.mp hx with e | hx
    · exact ⟨1, e, .inl rfl⟩
    rcases List.mem_cons.mp hx with e | hx
    · exact ⟨2, e, .inr (.inl rfl)⟩
    rcases List.mem_cons.mp hx with e | hx
    · exact ⟨3, e, .inr (.inr rfl)⟩
    cases hx
  subst est
  obtain ⟨fi, efi, f1, f2⟩ := pd_int pd2
  subst efi
  refine r_lc 6 8 true false (t := none) (lc_seq (w_callM 0 CS rfl (w_name 3 ⟨n2, rfl, by omega, ⟨c, rfl, by omega⟩, fun d3 n3 hn3 pd3 => ?_⟩))) scTr.nd (hsw := .inr ⟨rfl, fun v hv => by cases v; subst hv; rfl⟩)
  obtain ⟨c', p, e1, e2, hp⟩ := pd3
  injection e1 with e1 _
  injection e1 with e1
  have e3 : c = c' := by omega
  subst e3 e2
  have hpl : p.length = c := by rw [hp.length_eq, nums_len]
  refine ⟨p.map .int, rfl, by rw [List.length_map]; omega, cj_map (fun d => match d with | .int z => .int (fi + st * z) | _ => .none) (fun d hd => ?_) ⟨by show 6 < 11; decide, ?_⟩⟩
  · obtain ⟨z, hz, ez⟩ := mem_ints hd
    subst ez
    exact w_add (w_name 5 ⟨fi, rfl, w_mul (w_name 4 ⟨st, rfl, w_name 8 ⟨z, rfl, small_mul (by omega) (by omega), _, rfl, rfl, rfl⟩⟩)⟩)
  have eks : (p.map PyData.int).map (fun d => match d with | .int z => .int (fi + st * z) | _ => .none) = (p.map fun z => fi + st * z).map PyData.int := by
    rw [List.map_map, List.map_map]
    rfl
  rw [eks]
  have hks : KS (p.map fun z => fi + st * z) := by
    refine ⟨by rw [List.length_map]; exact hpl, fun z hz => ?_⟩
    obtain ⟨y, hy, e⟩ := List.mem_map.mp hz
    have hy' := nums_mem.mp (hp.mem_iff.mp hy)
    rw [← e]
    rcases hst with e | e | e <;> (subst e; constructor <;> omega)
  generalize p.map (fun z => fi + st * z) = ks at hks
  refine r_if (wt_and (wt_gt (w_name 3 ⟨(c : Int), rfl, w_int ⟨0, rfl, ifd (fun h1 => wt_eqI (w_callM 0 CD rfl (w_int ⟨n3, rfl, by omega, ⟨_, rfl, by decide, by decide⟩, fun d4 n4 hn4 pd4 => ?_⟩))) fun _ => ifF rfl (r_nil (t5 ks n3 _ _ _ _ _ hks (by omega)))⟩⟩)))
  obtain ⟨i4, e4, _, _⟩ := pd_int pd4
  subst e4
  refine ⟨i4, rfl, w_int ⟨0, rfl, ifd (fun _ => ?_) fun _ => r_nil (t5 ks n4 _ _ _ _ _ hks (by omega))⟩⟩
  -- keys[..] = ..
  have put : ∀ (z : Int) (n5 : Nat), 0 ≤ z → z < 1000 → n5 ≤ n0 + 1100 + 2 → ∀ pp qq : Pos, ∀ Pq : PyData → En → Prop, (∀ n6 i, n6 ≤ n5 + 1 → 0 ≤ i → i < c → Pq (.int i) [.ms a n6, .va (tbT t), .va (.str (textOf t)), .va (.int (c : Int)), .va (.int st), .va (.int fi), .ow (ks.map .int), .no, .no, .no, .no]) → True := fun _ _ _ _ _ _ _ _ _ => trivial
  refine r_setL 6 (w_if (wt_gt (w_name 5 ⟨fi, rfl, w_int ⟨0, rfl, ifd (fun _ => ?_) fun _ => ?_⟩⟩)))
  · refine w_callM 0 CO rfl (w_lst (w_int (w_int (w_int ⟨by show 3 ≤ sizeLine; decide, n4, rfl, by omega, ⟨_, rfl, by simp, by show 3 < 100000; decide⟩, fun d5 n5 hn5 pd5 => ?_⟩))))
    obtain ⟨xs, ex, hx⟩ := pd5
    injection ex with ex _
    injection ex with ex
    subst ex
    obtain ⟨z, ez, hz⟩ : ∃ z : Int, d5 = .int z ∧ 0 ≤ z ∧ z < 1000 := by
      rcases List.mem_cons.mp hx with e | hx
      · exact ⟨999, e, by decide, by decide⟩
      rcases List.mem_cons.mp hx with e | hx
      · exact ⟨998, e, by decide, by decide⟩
      rcases List.mem_cons.mp hx with e | hx
      · exact ⟨0, e, by decide, by decide⟩
      cases hx
    subst ez
    refine ⟨_, rfl, w_callM 0 CD rfl (w_name 3 ⟨n5, rfl, by omega, ⟨(c : Int), rfl, by omega, by omega⟩, fun d6 n6 hn6 pd6 => ?_⟩)⟩
    obtain ⟨i2, e2, g3, g4⟩ := pd_int pd6
    subst e2
    obtain ⟨j, hj, ej⟩ := ixn (ks.map .int) i2 g3 (by rw [List.length_map, hks.1]; exact g4)
    refine ⟨_, i2, j, rfl, rfl, ej, r_nil ?_⟩
    have := t5 (ks.set j z) n6 (.va (.int st)) (.va (.int fi)) .no .no .no (kset ks j _ hks hz.1 hz.2) (by omega)
    rw [List.map_set] at this
    exact this
  · refine w_int ⟨_, rfl, w_callM 0 CD rfl (w_name 3 ⟨n4, rfl, by omega, ⟨(c : Int), rfl, by omega, by omega⟩, fun d6 n6 hn6 pd6 => ?_⟩)⟩
    obtain ⟨i2, e2, g3, g4⟩ := pd_int pd6
    subst e2
    obtain ⟨j, hj, ej⟩ := ixn (ks.map .int) i2 g3 (by rw [List.length_map, hks.1]; exact g4)
    refine ⟨_, i2, j, rfl, rfl, ej, r_nil ?_⟩
    have := t5 (ks.set j 999) n6 (.va (.int st)) (.va (.int fi)) .no .no .no (kset ks j _ hks (by decide) (by decide)) (by omega)
    rw [List.map_set] at this
    exact this
end
end K03

namespace K03
open PySem PySem.Spec PyProof.Rows L2 TL
section
variable {P : Program} {w : World} {K : PySem.W.Frag} {mg : Str → Option Value} {base : Heap} {k : Nat} {f : Addr} {fd : FuncData}
abbrev sHr : Stmt := topS 25
abbrev nHr : List Str := ["told", "unlike", "x", "y"]
theorem scHr : FnScope nHr [] (defScope sHr) := ⟨rfl, rfl, rfl, by decide +kernel, rfl, by decide +kernel, by decide +kernel⟩
set_option maxHeartbeats 4000000 in
theorem ok_hr (F : Fun K "_law_hand_right" "_law_hand_right" sHr f fd) (m1 : mg "tuple" = none) (m2 : mg "range" = none) (DT : Dc P w K mg base "_law_text" 1 ["table"] (spP preTx postTx)) (DL : Dc P w K mg base "_law_like" 1 ["got", "due"] (spP preLk postLk))
    (DW : Dc P w K mg base "written" 1 ["dyeing"] (spP preTx postTx)) (DR : ∀ t, Dc P w K mg base "read_dyeing" 3 ["text"] (spP (preRe t) (postRe t))) : FnG P w K mg base 4 f fd [] (spP preHr postHr) := by
  refine fnP F scHr (fun ds e => by rw [show ds = [] from e]; rfl) fun A hg hr ds e => ?_
  have e' : ds = [] := e
  subst e'
  obtain ⟨fT, fdT, CT⟩ := DT.callee (N := nHr) (st := sHr) hr hg (by decide : 1 ≤ 3)
  obtain ⟨fL, fdL, CL⟩ := DL.callee (N := nHr) (st := sHr) hr hg (by decide : 1 ≤ 3)
  obtain ⟨fW, fdW, CW⟩ := DW.callee (N := nHr) (st := sHr) hr hg (by decide : 1 ≤ 3)
  obtain ⟨_, _, C0⟩ := (DR []).callee (N := nHr) (st := sHr) hr hg (by decide : 3 ≤ 3)
  obtain ⟨_, _, C7⟩ := (DR [[7]]).callee (N := nHr) (st := sHr) hr hg (by decide : 3 ≤ 3)
  obtain ⟨_, _, C3⟩ := (DR [[999, 0], [0, 10]]).callee (N := nHr) (st := sHr) hr hg (by decide : 3 ≤ 3)
  obtain ⟨_, _, C4⟩ := (DR [[5, 5], [5, 5]]).callee (N := nHr) (st := sHr) hr hg (by decide : 3 ≤ 3)
  obtain ⟨U, uq, ud, us, ue⟩ := unl_ex
  obtain ⟨_, _, CU⟩ := (DR U).callee (N := nHr) (st := sHr) hr hg (by decide : 3 ≤ 3)
  have l1 : 1 ≤ sizeLine := by decide
  have l2 : 2 ≤ sizeLine := by decide
  have l5 : 5 ≤ sizeLine := by decide
  have l7 : 7 ≤ sizeLine := by decide
  have s0 : Small [] := small3 _ (by decide +kernel)
  have s1 : Small ([[0]] : Tb) := small3 _ (by decide +kernel)
  have s2 : Small ([[0, 1], [1, 0]] : Tb) := small3 _ (by decide +kernel)
  refine r_asg 0 scHr.nd (w_lst (w_callP CW (w_tup ⟨Nat.zero_le _, ⟨_, [], rfl, isTb_T [], s0⟩, fun d1 p1 => ?_⟩)))
  rw [p1 _ [] rfl (isTb_T []), txt0]
  refine w_callP C0 (w_str ⟨⟨by rw [show textOf ([].map up) = Str.ofString "" from txt0], by decide, fun r h => by cases h⟩, fun d2 p2 => ?_⟩)
  rw [show d2 = tbT [] from p2]
  refine w_callP CW (w_tup (w_tup (w_int ⟨l1, l1, ⟨_, [[0]], rfl, isTb_T [[0]], s1⟩, fun d3 p3 => ?_⟩)))
  rw [p3 _ [[0]] rfl (isTb_T [[0]]), show textOf [[0]] = Str.ofString "0" from txt1]
  refine w_callP C7 (w_str ⟨⟨by rw [txt7], by decide, by decide⟩, fun d4 p4 => ?_⟩)
  rw [show d4 = tbT [[0]] by rw [show d4 = _ from p4, dy7]]
  refine w_callP CW (w_tup (w_tup (w_int (w_int ⟨l2, w_tup (w_int (w_int ⟨l2, l2, ⟨_, [[0, 1], [1, 0]], rfl, isTb_T [[0, 1], [1, 0]], s2⟩, fun d5 p5 => ?_⟩))⟩))))
  rw [p5 _ [[0, 1], [1, 0]] rfl (isTb_T [[0, 1], [1, 0]]), show textOf [[0, 1], [1, 0]] = Str.ofString "0 1/1 0" from txt2]
  refine ⟨l5, r_asg 0 scHr.nd (w_cat (w_name 0 ⟨_, rfl, w_lst (w_callP C3 (w_str ⟨⟨by rw [txt3], by decide, by decide⟩, fun d6 p6 => w_callP C4 (w_str ⟨⟨by rw [txt4], by decide, by decide⟩, fun d7 p7 => ⟨l2, _, rfl, ?_, ?_⟩⟩)⟩))⟩))⟩
  · show 5 + 2 ≤ sizeLine
    decide
  rw [show d6 = tbT [[0, 1], [1, 2]] by rw [show d6 = _ from p6, dy3], show d7 = tbT [[0, 0], [0, 0]] by rw [show d7 = _ from p7, dy4]]
  refine r_if (wt_not (wt_val (w_callP CL ?_)))
  refine w_name 0 ?_
  refine w_lst ?_
  refine w_str ?_
  refine w_tup ?_
  refine ⟨Nat.zero_le _, ?_⟩
  refine w_str (w_tup ?_)
  refine w_tup ?_
  refine w_int ?_
  refine ⟨l1, ?_⟩
  refine ⟨l1, ?_⟩
  refine w_str (w_tup ?_)
  refine w_tup ?_
  refine w_int (w_int ?_)
  refine ⟨l2, ?_⟩
  refine w_tup (w_int (w_int ?_))
  refine ⟨l2, ?_⟩
  refine ⟨l2, ?_⟩
  refine w_tup (w_tup (w_int (w_int ?_)))
  refine ⟨l2, ?_⟩
  refine w_tup (w_int (w_int ?_))
  refine ⟨l2, ?_⟩
  refine ⟨l2, ?_⟩
  refine ⟨?_, ?_, fun d pd => ?_⟩
  · show 7 ≤ sizeLine
    exact l7
  · have ea : ∀ a b : PyData, a = dA → b = dA → preLk [a, b] := fun a b h1 h2 => by
      subst h1; subst h2
      exact ⟨dA, 60000, 4, rfl, dpA, nbA, by decide, by decide⟩
    exact ea _ _ rfl rfl
  · refine ⟨true, pd, ?_⟩
    refine ifF rfl (r_nil ?_)
    have gi : ∀ (d : PyData), d ∈ rgD 0 16 → ∃ i : Nat, i < 16 ∧ d = .int (i : Int) := fun d hd => by
      obtain ⟨j, hj⟩ := List.getElem?_of_mem hd
      obtain ⟨h1, h2⟩ := rgD_get hj
      exact ⟨j, h1, by rw [h2, Int.zero_add]⟩
    have e16 : ((16 : Int)).toNat = 16 := rfl
    refine r_asg 1 scHr.nd (w_tupC m1 (w_lc 2 (t := none) (wi_rg m2 (w_int ⟨16, rfl, by decide, by decide, ?_⟩)) scHr.nd))
    rw [e16]
    refine ⟨by rw [rgD_len]; decide, cj_map gO (fun d hd => ?_) ⟨_, rfl, ?_⟩⟩
    · obtain ⟨x, hx, ex⟩ := gi d hd
      subst ex
      refine w_tupC m1 (w_lc 3 (t := none) (wi_rg m2 (w_int ⟨16, rfl, by decide, by decide, ?_⟩)) scHr.nd)
      rw [e16]
      refine ⟨by rw [rgD_len]; decide, cj_map (gI (x : Int)) (fun d hd => ?_) ⟨_, rfl, ?_⟩⟩
      · obtain ⟨y, hy, ey⟩ := gi d hd
        subst ey
        exact w_add (w_mul (w_int ⟨16, rfl, w_name 2 ⟨(x : Int), rfl, small_mul (by decide) (by decide), _, rfl, w_name 3 ⟨(y : Int), rfl, rfl, rfl⟩⟩⟩))
      · exact ⟨rfl, rfl⟩
    · rw [ue]
      have nbU : NB 100000 4 (.list [.str (textOf (U.map up)), tbT (U.map up)]) := by
        have h : ∀ x ∈ [PyData.str (textOf (U.map up)), tbT (U.map up)], NB 36002 3 x := fun x hx => by
          rcases List.mem_cons.mp hx with e | hx
          · rw [e]; exact (nb_text us).mono (Nat.le_refl _) (by decide)
          rcases List.mem_cons.mp hx with e | hx
          · rw [e]; exact (nb_tb us).mono (by omega) (Nat.le_refl _)
          cases hx
        exact (nb_list h).mono (by simp only [List.length_cons, List.length_nil]; omega) (Nat.le_refl _)
      have hU : preTx [tbT (U.map up)] := ⟨_, U.map up, rfl, isTb_T _, us⟩
      have dU : ∀ d, postTx [tbT (U.map up)] d → d = .str (textOf (U.map up)) := fun d p => p _ _ rfl (isTb_T _)
      refine r_ret (w_callP CL (w_lst (w_callP CW (w_name 1 ?_))))
      refine ⟨hU, fun d1 p1 => ?_⟩
      have p1 := dU _ p1
      subst p1
      refine w_callP CU (w_callP CT (w_name 1 ?_))
      refine ⟨hU, fun d2 p2 => ?_⟩
      have p2 := dU _ p2
      subst p2
      refine ⟨⟨rfl, uq⟩, fun d3 p3 => ?_⟩
      have p3 : d3 = tbT (U.map up) := by rw [show d3 = _ from p3, ud]
      subst p3
      refine ⟨l2, ?_⟩
      refine w_lst (w_callP CT (w_name 1 ?_))
      refine ⟨hU, fun d4 p4 => ?_⟩
      have p4 := dU _ p4
      subst p4
      refine w_name 1 ?_
      refine ⟨l2, ?_⟩
      exact ⟨⟨_, _, _, rfl, rfl, nbU, by decide, by decide⟩, fun d pd => pd⟩

end
end K03

namespace K03
open PySem PySem.Spec PyProof.Rows L2 TL
section
variable {P : Program} {w : World} {K : PySem.W.Frag} {mg : Str → Option Value} {base : Heap} {k : Nat} {f : Addr} {fd : FuncData}
abbrev sLw : Stmt := topS 26
abbrev nLw : List Str := ["script", "k", "m"]
theorem scLw : FnScope nLw ["script"] (defScope sLw) := ⟨rfl, rfl, rfl, by decide +kernel, rfl, by decide +kernel, by decide +kernel⟩
set_option maxHeartbeats 4000000 in
theorem ok_lw (F : Fun K "law" "law" sLw f fd) (m1 : mg "range" = none) (m2 : mg "max" = none) (m3 : mg "min" = none) (m4 : mg "len" = none) (DH : Dc P w K mg base "_law_hand_right" 4 [] (spP preHr postHr)) (DB : Dc P w K mg base "_law_begun" 1 ["script", "k"] (spB K))
    (DO : Dc P w K mg base "_law_of" 2 ["m", "some"] (spM 1 preOf postOf)) (DD : Dc P w K mg base "_law_drawn" 2 ["m", "most"] (spM 1000 preDr postDr)) (DT : Dc P w K mg base "_law_texts_right" 4 ["m", "table"] (spM 2000 preTr postTr)) : FnG P w K mg base 5 f fd ["script"] (spL K) := by
  refine fnL F scLw fun A hg hr a ns hl => ?_
  obtain ⟨fH, fdH, CH⟩ := DH.callee (N := nLw) (st := sLw) hr hg (by decide : 4 ≤ 4)
  obtain ⟨fB, fdB, CB⟩ := DB.callee (N := nLw) (st := sLw) hr hg (by decide : 1 ≤ 4)
  obtain ⟨fO, fdO, CO⟩ := DO.callee (N := nLw) (st := sLw) hr hg (by decide : 2 ≤ 4)
  obtain ⟨fD, fdD, CD⟩ := DD.callee (N := nLw) (st := sLw) hr hg (by decide : 2 ≤ 4)
  obtain ⟨fT, fdT, CT⟩ := DT.callee (N := nLw) (st := sLw) hr hg (by decide : 4 ≤ 4)
  refine r_if (wt_not (wt_val (w_call0 CH ⟨rfl, fun d pd => ⟨true, pd, ifF rfl (r_nil ?_)⟩⟩)))
  refine r_for 1 scLw.nd (wi_rg m1 (w_max2 m2 (w_int (w_min2 m3 (w_rawLen 0 m4 rfl (fun _ h => h) (w_int ⟨_, _, rfl, ?_⟩))))))
  refine ⟨_, _, rfl, _, rfl, ?_, ?_, ?_⟩
  · split <;> split <;> omega
  · split <;> split <;> omega
  refine ⟨fun _ e => ∃ s1 s2 : Sl, e = [.raw (.ref a) (scφ K a ns), s1, s2], ⟨.no, .no, rfl⟩, fun i d e ed he => ?_, fun e he => ?_⟩
  · obtain ⟨s1, s2, ee⟩ := he
    subst ee
    obtain ⟨h1, h2⟩ := rgD_get ed
    have hi : i < 4 := by
      refine Nat.lt_of_lt_of_le h1 ?_
      split <;> split <;> omega
    rw [Int.zero_add] at h2
    subst h2
    refine r_begun 0 2 CB rfl hl (w_name 1 ⟨rfl, ?_, i, rfl, Nat.le_trans (Nat.le_of_lt hi) (by decide), fun p => ?_⟩) scLw.nd
    · show 2 < 3
      decide
    refine r_if (wt_not (wt_val (w_callM 2 CT rfl (w_callM 2 CD rfl (w_callM 2 CO rfl ?_)))))
    refine w_lst (w_int (w_int (w_int (w_int ?_))))
    refine ⟨?_, 0, rfl, ?_, ⟨_, rfl, by simp, ?_⟩, fun d n1 hn1 pd => ?_⟩
    · show 4 ≤ sizeLine
      decide
    · show 0 + 1 ≤ 1000000000
      decide
    · show 4 < 100000
      decide
    obtain ⟨xs, ex, hd⟩ := pd
    cases ex
    have hk : ∃ q : Nat, d = .int q ∧ q ≤ 16 := by
      simp only [List.mem_cons, List.not_mem_nil, or_false] at hd
      rcases hd with e | e | e | e
      · exact ⟨7, e, by decide⟩
      · exact ⟨7, e, by decide⟩
      · exact ⟨16, e, by decide⟩
      · exact ⟨5, e, by decide⟩
    obtain ⟨q, eq, hq⟩ := hk
    subst eq
    refine ⟨n1, rfl, ?_, ⟨q, rfl, hq⟩, fun d n2 hn2 pd => ?_⟩
    · show n1 + 1000 ≤ 1000000000
      omega
    obtain ⟨q', n, t, e1, e2, hs, hn⟩ := pd
    cases e1
    subst e2
    refine ⟨n2, rfl, ?_, ⟨n, dy t, rfl, dye_of hs, Nat.le_trans hn hq⟩, fun d n3 hn3 pd => ?_⟩
    · show n2 + 2000 ≤ 1000000000
      omega
    exact ⟨true, pd, ifF rfl (r_nil (r_nil ⟨_, _, rfl⟩))⟩
  · obtain ⟨s1, s2, ee⟩ := he
    subst ee
    exact r_ret (w_bl rfl)
end
end K03

namespace K03
open PySem PySem.Spec PyProof.Rows L2 TL
/-- a def as the top has left it -/
def Df (K : PySem.W.Frag) (x : Str) (st : Stmt) (ps : List Str) : Prop := ∃ (f : Addr) (fd : FuncData), Fun K x x st f fd ∧ PySem.W.nsIn K mainGlobals x = some (some (.ref f)) ∧ (∀ (s : Shared) (us : List Value), us.length = ps.length → BindsTo s fd ⟨us, []⟩ (ps.zip us)) ∧ Binds K fd ps []
theorem df_mk {K : PySem.W.Frag} {x : Str} {st : Stmt} {ps : List Str} {f : Addr} {oc : Value} {od an : Option Addr} {osl : Array (Option Value)} {kV doc pm cdv ct : Value}
    (b : ∀ (kV doc pm : Value) (an : Option Addr) (cdv ct : Value) (us : List Value), us.length = ps.length → bindArgs (PySem.W.fnOf x x (defArgs st) (defBody st) (defScope st) .none kV doc pm an cdv ct) ⟨us, []⟩ = pure (ps.zip us))
    (a : PySem.W.nsIn K mainGlobals x = some (some (.ref f))) (l : K.lookup f = some ⟨oc, od, .func (PySem.W.fnOf x x (defArgs st) (defBody st) (defScope st) .none kV doc pm an cdv ct), osl⟩)
    (c : PySem.W.codeIn K cdv x = true) (k : PySem.W.keepIn K (.ref f) = true) : Df K x st ps :=
  ⟨f, _, fun_mk l c k, a, fun s us h => .of_eq (b kV doc pm an cdv ct us h), (fun_mk l c k).binds b⟩
theorem Df.dc {P : Program} {w : World} {K : PySem.W.Frag} {h base : Heap} {mg : Str → Option Value} {x : Str} {st : Stmt} {ps : List Str} {k : Nat} {sp : Sp} (D : Df K x st ps) (X : K.In h) (G : h.Ns mainGlobals mg)
    (F : ∀ (f : Addr) (fd : FuncData), Fun K x x st f fd → FnG P w K mg base k f fd ps sp) : Dc P w K mg base x k ps sp := by
  obtain ⟨f, fd, h1, h2, _, h4⟩ := D
  exact ⟨f, fd, F f fd h1, PySem.W.mg_of X G h2, h1.kp, h4⟩
theorem all_mk {P : Program} {w : World} {K : PySem.W.Frag} {h : Heap} {mg : Str → Option Value} {fa : Addr} (X : K.In h) (G : h.Ns mainGlobals mg) (hfa : mg "law" = some (.ref fa))
    (d6 : Df K "dyed" (topS 6) ["table"]) (d10 : Df K "written" (topS 10) ["dyeing"]) (d11 : Df K "read_dyeing" (topS 11) ["text"]) (d12 : Df K "read_row" (topS 12) ["text", "start", "most"]) (d13 : Df K "entry_end" (topS 13) ["text", "start"])
    (d15 : Df K "_law_begun" (topS 15) ["script", "k"]) (d16 : Df K "_law_draw" (topS 16) ["m", "bound"]) (d17 : Df K "_law_of" (topS 17) ["m", "some"]) (d18 : Df K "_law_shuffled" (topS 18) ["m", "count"]) (d19 : Df K "_law_dyed" (topS 19) ["rows"])
    (d20 : Df K "_law_many" (topS 20) ["dyeing"]) (d21 : Df K "_law_drawn" (topS 21) ["m", "most"]) (d22 : Df K "_law_like" (topS 22) ["got", "due"]) (d23 : Df K "_law_text" (topS 23) ["table"]) (d24 : Df K "_law_texts_right" (topS 24) ["m", "table"])
    (d25 : Df K "_law_hand_right" (topS 25) []) (d26 : Df K "law" (topS 26) ["script"])
    {t1 t2 t3 : Tok} (g1 : PySem.W.nsIn K mainGlobals "MOST_PLACES" = some (some (.int 16 t1))) (g2 : PySem.W.nsIn K mainGlobals "MOST_DIGITS" = some (some (.int 3 t2))) (g3 : PySem.W.nsIn K mainGlobals "DIGITS" = some (some (.str "0123456789" t3)))
    (z1 : PySem.W.nsIn K mainGlobals "int" = some none) (z2 : PySem.W.nsIn K mainGlobals "len" = some none) (z3 : PySem.W.nsIn K mainGlobals "tuple" = some none) (z4 : PySem.W.nsIn K mainGlobals "list" = some none) (z5 : PySem.W.nsIn K mainGlobals "range" = some none)
    (z6 : PySem.W.nsIn K mainGlobals "min" = some none) (z7 : PySem.W.nsIn K mainGlobals "max" = some none) (z8 : PySem.W.nsIn K mainGlobals "repr" = some none) (z9 : PySem.W.nsIn K mainGlobals "str" = some none) :
    ∃ fd : FuncData, (∀ (s : Shared) (u : Value), BindsTo s fd ⟨[u], []⟩ [("script", u)]) ∧ ∀ base : Heap, K.In base → base.Ns mainGlobals mg → FnG P w K mg base 5 fa fd ["script"] (spL K) := by
  obtain ⟨f26, fd26, F26, a26, b26, _⟩ := d26
  have e := hfa.symm.trans (PySem.W.mg_of X G a26)
  cases e
  refine ⟨fd26, fun s u => b26 s [u] rfl, fun base _ _ => ?_⟩
  have m1 := PySem.W.mg_none_of X G z1
  have m2 := PySem.W.mg_none_of X G z2
  have m3 := PySem.W.mg_none_of X G z3
  have m4 := PySem.W.mg_none_of X G z4
  have m5 := PySem.W.mg_none_of X G z5
  have m6 := PySem.W.mg_none_of X G z6
  have m7 := PySem.W.mg_none_of X G z7
  have m8 := PySem.W.mg_none_of X G z8
  have m9 := PySem.W.mg_none_of X G z9
  have c1 := PySem.W.mg_of X G g1
  have c2 := PySem.W.mg_of X G g2
  have c3 := PySem.W.mg_of X G g3
  have DD : Dc P w K mg base "_law_draw" 1 ["m", "bound"] (spM 1 preD postD) := d16.dc X G fun f fd F => ok_draw F m1 m2
  have DY : Dc P w K mg base "_law_dyed" 1 ["rows"] (spP preDy postDy) := d19.dc X G fun f fd F => ok_dyed F m2 m3
  have DO : Dc P w K mg base "_law_of" 2 ["m", "some"] (spM 1 preOf postOf) := d17.dc X G fun f fd F => ok_of F m2 DD
  have DS : Dc P w K mg base "_law_shuffled" 3 ["m", "count"] (spM 1000 preSh postSh) := d18.dc X G fun f fd F => ok_shuf F m4 m5 m3 DO
  have DR0 : Dc P w K mg base "_law_drawn" 2 ["m", "most"] (spM 1000 preDr postDr) := d21.dc X G fun f fd F => ok_drawn F m5 m6 m7 m1 DD DY
  have DM : Dc P w K mg base "_law_many" 1 ["dyeing"] (spP preMy postMy) := d20.dc X G fun f fd F => ok_many F m7
  have DL : Dc P w K mg base "_law_like" 1 ["got", "due"] (spP preLk postLk) := d22.dc X G fun f fd F => ok_like F m8
  have DT : Dc P w K mg base "_law_text" 1 ["table"] (spP preTx postTx) := d23.dc X G fun f fd F => ok_text F m9
  have DW : Dc P w K mg base "written" 1 ["dyeing"] (spP preTx postTx) := d10.dc X G fun f fd F => ok_writ F m9
  have DP : Dc P w K mg base "dyed" 1 ["table"] (spP preDy postDy) := d6.dc X G fun f fd F => ok_pd F m2 m3 c1
  have DE : Dc P w K mg base "entry_end" 1 ["text", "start"] (spP preEe postEe) := d13.dc X G fun f fd F => ok_ee F m2 c2 c3
  have DRr : ∀ g, Dc P w K mg base "read_row" 2 ["text", "start", "most"] (spP (preRg g) (postRg g)) := fun g => d12.dc X G fun f fd F => ok_rr g F m2 m1 DE
  have DRe : ∀ t, Dc P w K mg base "read_dyeing" 3 ["text"] (spP (preRe t) (postRe t)) := fun t => d11.dc X G fun f fd F => ok_re t F m2 c1 DRr DP
  have DB : Dc P w K mg base "_law_begun" 1 ["script", "k"] (spB K) := d15.dc X G fun f fd F => ok_beg F m1
  have DTr : Dc P w K mg base "_law_texts_right" 4 ["m", "table"] (spM 2000 preTr postTr) := d24.dc X G fun f fd F => ok_tr F DT DM DL DW DRe DO DD DS DY
  have DH : Dc P w K mg base "_law_hand_right" 4 [] (spP preHr postHr) := d25.dc X G fun f fd F => ok_hr F m3 m5 DT DL DW DRe
  exact ok_lw F26 m5 m7 m6 m2 DH DB DO DR0 DTr
theorem bd0 {x : Str} {st : Stmt} (e : ∀ (kV doc pm : Value) (an : Option Addr) (cdv ct : Value), bindArgs (PySem.W.fnOf x x (defArgs st) (defBody st) (defScope st) .none kV doc pm an cdv ct) ⟨[], []⟩ = pure []) (kV doc pm : Value) (an : Option Addr) (cdv ct : Value) (us : List Value) (h : us.length = ([] : List Str).length) : bindArgs (PySem.W.fnOf x x (defArgs st) (defBody st) (defScope st) .none kV doc pm an cdv ct) ⟨us, []⟩ = pure (([] : List Str).zip us) := by
  match us, h with
  | [], _ => exact e kV doc pm an cdv ct
end K03

open PySem PySem.W PyProof.Rows
set_option maxHeartbeats 0 in
theorem PySem.Challenge.cw_pairdyes_k03_whole_texts_holds : PySem.Challenge.rw_pairdyes_k03_whole_texts.Holds := by
  w_on; o_law; k_head; (case hw => w_witness2)
  k_fill
  refine TL.walk_ofG (l := PySem.Challenge.rw_pairdyes_k03_whole_texts) (n := 63) (k := 5) (x := "script") (sp := fun K => TL.spL K) rfl (by decide) rfl ⟨rfl, by decide, by decide⟩ (fun w h Y => PySem.W.kIn_of Y) ?F (fun K H a ns hl _ hS => ⟨a, ns, rfl, hS, hl, fun _ => rfl⟩)
  case F =>
    intro w mg fa h KX G hmg
    refine' K03.all_mk KX G hmg ?d6 ?d10 ?d11 ?d12 ?d13 ?d15 ?d16 ?d17 ?d18 ?d19 ?d20 ?d21 ?d22 ?d23 ?d24 ?d25 ?d26 ?g1 ?g2 ?g3 ?z1 ?z2 ?z3 ?z4 ?z5 ?z6 ?z7 ?z8 ?z9
    case d6 =>
      refine' K03.df_mk (st := K03.topS 6) (fun _ _ _ _ _ _ us hl => match us, hl with | [_], _ => rfl) ?a ?l ?c ?k
      (case a => k_is); (case l => k_is); (case c => k_is); (case k => k_is)
    case d10 =>
      refine' K03.df_mk (st := K03.topS 10) (fun _ _ _ _ _ _ us hl => match us, hl with | [_], _ => rfl) ?a ?l ?c ?k
      (case a => k_is); (case l => k_is); (case c => k_is); (case k => k_is)
    case d11 =>
      refine' K03.df_mk (st := K03.topS 11) (fun _ _ _ _ _ _ us hl => match us, hl with | [_], _ => rfl) ?a ?l ?c ?k
      (case a => k_is); (case l => k_is); (case c => k_is); (case k => k_is)
    case d12 =>
      refine' K03.df_mk (st := K03.topS 12) (fun _ _ _ _ _ _ us hl => match us, hl with | [_, _, _], _ => rfl) ?a ?l ?c ?k
      (case a => k_is); (case l => k_is); (case c => k_is); (case k => k_is)
    case d13 =>
      refine' K03.df_mk (st := K03.topS 13) (fun _ _ _ _ _ _ us hl => match us, hl with | [_, _], _ => rfl) ?a ?l ?c ?k
      (case a => k_is); (case l => k_is); (case c => k_is); (case k => k_is)
    case d15 =>
      refine' K03.df_mk (st := K03.topS 15) (fun _ _ _ _ _ _ us hl => match us, hl with | [_, _], _ => rfl) ?a ?l ?c ?k
      (case a => k_is); (case l => k_is); (case c => k_is); (case k => k_is)
    case d16 =>
      refine' K03.df_mk (st := K03.topS 16) (fun _ _ _ _ _ _ us hl => match us, hl with | [_, _], _ => rfl) ?a ?l ?c ?k
      (case a => k_is); (case l => k_is); (case c => k_is); (case k => k_is)
    case d17 =>
      refine' K03.df_mk (st := K03.topS 17) (fun _ _ _ _ _ _ us hl => match us, hl with | [_, _], _ => rfl) ?a ?l ?c ?k
      (case a => k_is); (case l => k_is); (case c => k_is); (case k => k_is)
    case d18 =>
      refine' K03.df_mk (st := K03.topS 18) (fun _ _ _ _ _ _ us hl => match us, hl with | [_, _], _ => rfl) ?a ?l ?c ?k
      (case a => k_is); (case l => k_is); (case c => k_is); (case k => k_is)
    case d19 =>
      refine' K03.df_mk (st := K03.topS 19) (fun _ _ _ _ _ _ us hl => match us, hl with | [_], _ => rfl) ?a ?l ?c ?k
      (case a => k_is); (case l => k_is); (case c => k_is); (case k => k_is)
    case d20 =>
      refine' K03.df_mk (st := K03.topS 20) (fun _ _ _ _ _ _ us hl => match us, hl with | [_], _ => rfl) ?a ?l ?c ?k
      (case a => k_is); (case l => k_is); (case c => k_is); (case k => k_is)
    case d21 =>
      refine' K03.df_mk (st := K03.topS 21) (fun _ _ _ _ _ _ us hl => match us, hl with | [_, _], _ => rfl) ?a ?l ?c ?k
      (case a => k_is); (case l => k_is); (case c => k_is); (case k => k_is)
    case d22 =>
      refine' K03.df_mk (st := K03.topS 22) (fun _ _ _ _ _ _ us hl => match us, hl with | [_, _], _ => rfl) ?a ?l ?c ?k
      (case a => k_is); (case l => k_is); (case c => k_is); (case k => k_is)
    case d23 =>
      refine' K03.df_mk (st := K03.topS 23) (fun _ _ _ _ _ _ us hl => match us, hl with | [_], _ => rfl) ?a ?l ?c ?k
      (case a => k_is); (case l => k_is); (case c => k_is); (case k => k_is)
    case d24 =>
      refine' K03.df_mk (st := K03.topS 24) (fun _ _ _ _ _ _ us hl => match us, hl with | [_, _], _ => rfl) ?a ?l ?c ?k
      (case a => k_is); (case l => k_is); (case c => k_is); (case k => k_is)
    case d25 =>
      refine' K03.df_mk (st := K03.topS 25) (fun _ _ _ _ _ _ us hl => match us, hl with | [], _ => rfl) ?a ?l ?c ?k
      (case a => k_is); (case l => k_is); (case c => k_is); (case k => k_is)
    case d26 =>
      refine' K03.df_mk (st := K03.topS 26) (fun _ _ _ _ _ _ us hl => match us, hl with | [_], _ => rfl) ?a ?l ?c ?k
      (case a => k_is); (case l => k_is); (case c => k_is); (case k => k_is)
    (case g1 => k_is); (case g2 => k_is); (case g3 => k_is)
    (case z1 => k_is); (case z2 => k_is); (case z3 => k_is); (case z4 => k_is); (case z5 => k_is); (case z6 => k_is); (case z7 => k_is); (case z8 => k_is); (case z9 => k_is)
