import PyProof.Rows.All
import Wide.All
import OpenK.AllK
import Wide.FinOn
import HandS.ForMost
import HandS.IsInst
import HandS.Exc
import HandS.ExcOwn
import HandS.WordsExc
import HandS.Style
import HandS.Wide
import HandS.Deep
import HandS.Walk
import HandS.RaiseMore
import HandS.Property
import HandS.ExcSuper
import HandS.Defaults
import PySem.Challenge.RW_rowsmeet_k01_names_sales_and_stretches
set_option Elab.async false
set_option linter.all false
set_option autoImplicit false
set_option maxRecDepth 100000
set_option maxHeartbeats 4000000
/-! Data without a heap: what a value is worth (D), that it is so in a heap (Rep), and readings over data. -/
namespace DL
open PySem PySem.Spec PyProof.Rows L2

inductive D where
  | non | bl (b : Bool) | int (i : Int) | str (x : Str)
  | lst (xs : List D) | tup (xs : List D) | dic (ks : List Key) (vs : List D)
  | ins (C : Addr) (ns : List Str) (vs : List D) | ref (a : Addr) | ty (n : String)
  | scr (ns : List Int) | fix (zs : List Str)

/-- a tuple of the written part -/
def KTup (K : PySem.W.Frag) (a : Addr) (xs : List V) : Prop :=
  ∃ (o : Obj) (its : Array Value) (n : Nat), K.lookup a = some o ∧ o.cls = .type "tuple" ∧ o.data = .seq its n ∧ its.size ≤ sizeLine ∧ Vals xs its.toList

mutual
def Rep (K : PySem.W.Frag) (A : Addr → Prop) (H : Hp) : D → V → Prop
  | .non, v => v = .non
  | .bl b, v => v = .bl b
  | .int i, v => v = .int i
  | .str x, v => v = .str x
  | .ref a, v => v = .ref a
  | .ty n, v => v = .ty n
  | .scr ns, v => ∃ a, v = .ref a ∧ ((∃ o, ¬ A a ∧ H a = some (.frz o (.lst (ns.map V.int)))) ∨ ∃ (o : Obj) (its : Array Value) (n : Nat), K.lookup a = some o ∧ o.cls = .type "list" ∧ o.dict = none ∧ o.data = .seq its n ∧ its.size ≤ sizeLine ∧ Vals (ns.map V.int) its.toList)
  | .fix zs, v => ∃ a o, v = .ref a ∧ ¬ A a ∧ H a = some (.frz o (.tup (zs.map V.str))) ∧ o.dict = none
  | .lst xs, v => ∃ a vs, v = .ref a ∧ ¬ A a ∧ H a = some (.lst vs) ∧ RepL K A H xs vs
  | .tup xs, v => ∃ a vs, v = .ref a ∧ ((¬ A a ∧ H a = some (.tup vs)) ∨ KTup K a vs) ∧ RepL K A H xs vs
  | .dic ks xs, v => ∃ a vs, v = .ref a ∧ ¬ A a ∧ H a = some (.dK (ks.zip vs)) ∧ ks.length = vs.length ∧ RepL K A H xs vs
  | .ins C ns xs, v => ∃ a dx vs, v = .ref a ∧ ¬ A a ∧ H a = some (.ins C dx (ns.zip vs)) ∧ RepL K A H xs vs
def RepL (K : PySem.W.Frag) (A : Addr → Prop) (H : Hp) : List D → List V → Prop
  | [], vs => vs = []
  | d :: ds, vs => ∃ v r, vs = v :: r ∧ Rep K A H d v ∧ RepL K A H ds r
end

section
variable {K : PySem.W.Frag} {A A' : Addr → Prop} {H H' : Hp}
mutual
theorem Rep.imp (h : ∀ a o, ¬ A a → H a = some o → ¬ A' a ∧ H' a = some o) : ∀ (d : D) (v : V), Rep K A H d v → Rep K A' H' d v
  | .non, _, r => r
  | .bl _, _, r => r
  | .int _, _, r => r
  | .str _, _, r => r
  | .ref _, _, r => r
  | .ty _, _, r => r
  | .scr _, _, ⟨a, e, r⟩ => ⟨a, e, r.elim (fun ⟨o, n, q⟩ => .inl ⟨o, (h a _ n q).1, (h a _ n q).2⟩) .inr⟩
  | .fix _, _, ⟨a, o, e, n, q, d⟩ => ⟨a, o, e, (h a _ n q).1, (h a _ n q).2, d⟩
  | .lst xs, _, ⟨a, vs, e, n, q, r⟩ => ⟨a, vs, e, (h a _ n q).1, (h a _ n q).2, RepL.imp h xs vs r⟩
  | .tup xs, _, ⟨a, vs, e, q, r⟩ => ⟨a, vs, e, q.elim (fun ⟨n, q⟩ => .inl (h a _ n q)) .inr, RepL.imp h xs vs r⟩
  | .dic ks xs, _, ⟨a, vs, e, n, q, l, r⟩ => ⟨a, vs, e, (h a _ n q).1, (h a _ n q).2, l, RepL.imp h xs vs r⟩
  | .ins C ns xs, _, ⟨a, dx, vs, e, n, q, r⟩ => ⟨a, dx, vs, e, (h a _ n q).1, (h a _ n q).2, RepL.imp h xs vs r⟩
theorem RepL.imp (h : ∀ a o, ¬ A a → H a = some o → ¬ A' a ∧ H' a = some o) : ∀ (ds : List D) (vs : List V), RepL K A H ds vs → RepL K A' H' ds vs
  | [], _, r => r
  | d :: ds, _, ⟨v, r, e, q, t⟩ => ⟨v, r, e, Rep.imp h d v q, RepL.imp h ds r t⟩
end
theorem RepL.length : ∀ {ds : List D} {vs : List V}, RepL K A H ds vs → vs.length = ds.length
  | [], _, r => by cases r; rfl
  | _ :: _, _, ⟨_, _, e, _, t⟩ => by subst e; exact congrArg (· + 1) t.length
theorem RepL.get : ∀ {ds : List D} {vs : List V} {i : Nat} {d : D}, RepL K A H ds vs → ds[i]? = some d → ∃ v, vs[i]? = some v ∧ Rep K A H d v
  | [], _, _, _, _, e => by simp at e
  | _ :: _, _, 0, _, ⟨v, r, e, q, _⟩, h => by
    have h' := Option.some.inj h
    subst e; subst h'
    exact ⟨v, rfl, q⟩
  | _ :: ds, _, i + 1, d, ⟨v, r, e, _, t⟩, h => by
    subst e
    exact RepL.get (i := i) t h
theorem RepL.getV : ∀ {ds : List D} {vs : List V} {i : Nat} {v : V}, RepL K A H ds vs → vs[i]? = some v → ∃ d, ds[i]? = some d ∧ Rep K A H d v
  | [], _, _, _, r, e => by cases r; simp at e
  | d :: _, _, 0, _, ⟨v, r, e, q, _⟩, h => by
    subst e
    have h' := Option.some.inj h
    subst h'
    exact ⟨d, rfl, q⟩
  | _ :: ds, _, i + 1, w, ⟨v, r, e, _, t⟩, h => by
    subst e
    exact RepL.getV (i := i) t h
theorem RepL.append : ∀ {ds es : List D} {vs ws : List V}, RepL K A H ds vs → RepL K A H es ws → RepL K A H (ds ++ es) (vs ++ ws)
  | [], _, _, _, r, s => by cases r; exact s
  | _ :: _, _, _, _, ⟨v, r, e, q, t⟩, s => by subst e; exact ⟨v, _, rfl, q, t.append s⟩
theorem RepL.set : ∀ {ds : List D} {vs : List V} {d : D} {v : V} (i : Nat), RepL K A H ds vs → Rep K A H d v → RepL K A H (ds.set i d) (vs.set i v)
  | [], _, _, _, _, r, _ => by cases r; rfl
  | _ :: _, _, _, _, 0, ⟨v, r, e, q, t⟩, s => by subst e; exact ⟨_, r, rfl, s, t⟩
  | _ :: _, _, _, _, i + 1, ⟨v, r, e, q, t⟩, s => by subst e; exact ⟨v, _, rfl, q, t.set i s⟩
theorem RepL.eraseIdx : ∀ {ds : List D} {vs : List V} (i : Nat), RepL K A H ds vs → RepL K A H (ds.eraseIdx i) (vs.eraseIdx i)
  | [], _, _, r => by cases r; rfl
  | _ :: _, _, 0, ⟨v, r, e, q, t⟩ => by subst e; exact t
  | _ :: _, _, i + 1, ⟨v, r, e, q, t⟩ => by subst e; exact ⟨v, _, rfl, q, t.eraseIdx i⟩
theorem RepL.take : ∀ {ds : List D} {vs : List V} (i : Nat), RepL K A H ds vs → RepL K A H (ds.take i) (vs.take i)
  | _, _, 0, _ => by rw [List.take_zero, List.take_zero]; rfl
  | [], _, _ + 1, r => by cases r; rfl
  | _ :: _, _, i + 1, ⟨v, r, e, q, t⟩ => by subst e; exact ⟨v, _, rfl, q, t.take i⟩
theorem RepL.drop : ∀ {ds : List D} {vs : List V} (i : Nat), RepL K A H ds vs → RepL K A H (ds.drop i) (vs.drop i)
  | _, _, 0, r => r
  | [], _, _ + 1, r => by cases r; rfl
  | _ :: _, _, i + 1, ⟨v, r, e, q, t⟩ => by subst e; exact t.drop i
theorem RepL.rep {ds : List D} {vs : List V} (r : RepL K A H ds vs) : ∀ k : Nat, RepL K A H (List.replicate k ds).flatten (List.replicate k vs).flatten
  | 0 => rfl
  | k + 1 => by
    rw [List.replicate_succ, List.replicate_succ, List.flatten_cons, List.flatten_cons]
    exact r.append (r.rep k)
theorem RepL.ints : ∀ (ns : List Int), RepL K A H (ns.map D.int) (ns.map V.int)
  | [] => rfl
  | n :: ns => ⟨_, _, rfl, rfl, RepL.ints ns⟩
end

/-- the law's source of draws, as it may change: the addresses, what is so behind n draws -/
structure Wd where
  core : Addr → Prop
  good : Nat → Hp → Prop
  a : Addr
  stay : ∀ {n : Nat} {H H' : Hp}, good n H → (∀ b, core b → H' b = H b) → good n H'
  trk : ∀ {n : Nat} {H : Hp} {b : Addr}, good n H → core b → ∃ o, H b = some o
/-- where nothing may change -/
def Wd.none : Wd := ⟨fun _ => False, fun _ _ => True, 0, fun _ _ => trivial, fun _ z => z.elim⟩

/-- all that was tracked stays, but the source -/
def Gr (W : Wd) (H H' : Hp) : Prop := ∀ b o, ¬ W.core b → H b = some o → H' b = some o
theorem Gr.refl {W : Wd} (H : Hp) : Gr W H H := fun _ _ _ h => h
theorem Gr.trans {W : Wd} {H H1 H2 : Hp} (a : Gr W H H1) (b : Gr W H1 H2) : Gr W H H2 := fun c o n h => b c o n (a c o n h)
theorem Gr.new {W : Wd} {H : Hp} {p : Addr} {o : HO} (h : H p = .none) : Gr W H (upd H p o) := fun b u _ e => by rw [upd_ne (ne_of_none e h)]; exact e

inductive E where
  | emp | val (d : D) | own (ds : List D)

/-- the slots -/
structure EnvOk (K : PySem.W.Frag) (B O : Addr → Prop) (σ : L2.St) (δ : List E) (H : Hp) : Prop where
  len : σ.length = δ.length
  val : ∀ (i : Nat) (d : D), δ[i]? = some (E.val d) → ∃ v, σ[i]? = some (some v) ∧ Rep K (fun b => B b ∨ O b) H d v
  own : ∀ (i : Nat) (ds : List D), δ[i]? = some (E.own ds) → ∃ (p : Addr) (vs : List V), σ[i]? = some (some (V.ref p)) ∧ O p ∧ H p = some (.lst vs) ∧ RepL K (fun b => B b ∨ O b) H ds vs
  dis : ∀ (i j : Nat) (ds es : List D) (p : Addr), δ[i]? = some (E.own ds) → δ[j]? = some (E.own es) → σ[i]? = some (some (V.ref p)) → σ[j]? = some (some (V.ref p)) → i = j
/-- what is known ahead of a step: B what stays untouched and unnamed (the source, the callers' own lists), O one's own lists -/
structure Pre (W : Wd) (K : PySem.W.Frag) (B O : Addr → Prop) (σ : L2.St) (δ : List E) (H : Hp) (n : Nat) : Prop where
  core : ∀ b, W.core b → B b
  trk : ∀ b, B b ∨ O b → ∃ o, H b = some o
  dj : ∀ b, O b → ¬ B b
  env : EnvOk K B O σ δ H
  good : W.good n H
abbrev AV (B O : Addr → Prop) : Addr → Prop := fun b => B b ∨ O b

section
variable {W : Wd} {K : PySem.W.Frag} {B O : Addr → Prop} {σ : L2.St} {δ : List E} {H H' : Hp} {n n' : Nat}
theorem Pre.noc (p : Pre W K B O σ δ H n) : ∀ b, O b → ¬ W.core b := fun b h c => p.dj b h (p.core b c)
theorem Pre.avc (p : Pre W K B O σ δ H n) : ∀ b, W.core b → AV B O b := fun b c => .inl (p.core b c)
theorem Pre.rep (p : Pre W K B O σ δ H n) (g : Gr W H H') : ∀ {d : D} {v : V}, Rep K (AV B O) H d v → Rep K (AV B O) H' d v := fun {d v} => Rep.imp (fun a o na h => ⟨na, g a o (fun c => na (p.avc a c)) h⟩) d v
theorem Pre.repL (p : Pre W K B O σ δ H n) (g : Gr W H H') : ∀ {d : List D} {v : List V}, RepL K (AV B O) H d v → RepL K (AV B O) H' d v := fun {d v} => RepL.imp (fun a o na h => ⟨na, g a o (fun c => na (p.avc a c)) h⟩) d v
/-- behind an expression -/
theorem Pre.step (p : Pre W K B O σ δ H n) (g : Gr W H H') (q : W.good n' H') : Pre W K B O σ δ H' n' := by
  refine ⟨p.core, fun b hb => ?_, p.dj, ⟨p.env.len, fun i d e => ?_, fun i ds e => ?_, p.env.dis⟩, q⟩
  · by_cases c : W.core b
    · exact W.trk q c
    · obtain ⟨o, h⟩ := p.trk b hb
      exact ⟨o, g b o c h⟩
  · obtain ⟨v, h1, h2⟩ := p.env.val i d e
    exact ⟨v, h1, p.rep g h2⟩
  · obtain ⟨a, vs, h1, h2, h3, h4⟩ := p.env.own i ds e
    exact ⟨a, vs, h1, h2, g a _ (p.noc a h2) h3, p.repL g h4⟩
theorem Pre.fresh (p : Pre W K B O σ δ H n) {b : Addr} (h : H b = .none) : ¬ AV B O b := fun z => by
  obtain ⟨o, e⟩ := p.trk b z
  rw [h] at e; cases e
/-- a new object leaves the source as it was -/
theorem Wd.new {W : Wd} {H : Hp} {p : Addr} {o : HO} (g : W.good n H) (h : H p = .none) : W.good n (upd H p o) := W.stay g fun b c => by
  obtain ⟨u, e⟩ := W.trk g c
  exact upd_ne (ne_of_none e h)
end

abbrev TD := List E → Nat → (D → Nat → Prop) → Prop
abbrev TDT := List E → Nat → (Bool → Nat → Prop) → Prop
abbrev TDA := List E → Nat → (List D → Nat → Prop) → Prop
/-- a reading over data serves a reading over the heap -/
def DER (W : Wd) (K : PySem.W.Frag) (te : TE) (t : TD) : Prop := ∀ (B O : Addr → Prop) (σ : L2.St) (δ : List E) (H : Hp) (n : Nat) (Q : D → Nat → Prop) (R : VK), Pre W K B O σ δ H n → t δ n Q →
  (∀ v d H' n', Gr W H H' → W.good n' H' → Rep K (AV B O) H' d v → Q d n' → R v H') → te σ H R
/-- .. whose value is a list that nobody else holds -/
def DLR (W : Wd) (K : PySem.W.Frag) (te : TE) (t : TDA) : Prop := ∀ (B O : Addr → Prop) (σ : L2.St) (δ : List E) (H : Hp) (n : Nat) (Q : List D → Nat → Prop) (R : VK), Pre W K B O σ δ H n → t δ n Q →
  (∀ p vs ds H' n', H p = .none → Gr W H H' → W.good n' H' → H' p = some (.lst vs) → RepL K (fun b => AV B O b ∨ b = p) H' ds vs → Q ds n' → R (.ref p) H') → te σ H R
def DTR (W : Wd) (K : PySem.W.Frag) (te : TT) (t : TDT) : Prop := ∀ (B O : Addr → Prop) (σ : L2.St) (δ : List E) (H : Hp) (n : Nat) (Q : Bool → Nat → Prop) (R : Bool → Hp → Prop), Pre W K B O σ δ H n → t δ n Q →
  (∀ c H' n', Gr W H H' → W.good n' H' → Q c n' → R c H') → te σ H R
def DAR (W : Wd) (K : PySem.W.Frag) (te : TA) (t : TDA) : Prop := ∀ (B O : Addr → Prop) (σ : L2.St) (δ : List E) (H : Hp) (n : Nat) (Q : List D → Nat → Prop) (R : List V → Hp → Prop), Pre W K B O σ δ H n → t δ n Q →
  (∀ vs ds H' n', Gr W H H' → W.good n' H' → RepL K (AV B O) H' ds vs → Q ds n' → R vs H') → te σ H R
def DE (W : Wd) (X : Cx) (e : Expr) (t : TD) : Prop := ∃ te, PE X e te ∧ DER W X.K te t
def DL (W : Wd) (X : Cx) (e : Expr) (t : TDA) : Prop := ∃ te, PE X e te ∧ DLR W X.K te t
def DT (W : Wd) (X : Cx) (e : Expr) (t : TDT) : Prop := ∃ te, PT X e te ∧ DTR W X.K te t
def DA (W : Wd) (X : Cx) (es : List Expr) (t : TDA) : Prop := ∃ te, PA X es te ∧ DAR W X.K te t
/-- a fresh list as a value -/
def dLst (t : TDA) : TD := fun δ n Q => t δ n fun ds n1 => Q (.lst ds) n1
theorem DL.de {W : Wd} {X : Cx} {e : Expr} {t : TDA} (h : DL W X e t) : DE W X e (dLst t) := by
  obtain ⟨te, pe, r⟩ := h
  refine ⟨te, pe, fun B O σ δ H n Q R p ht hR => ?_⟩
  refine r B O σ δ H n _ R p ht fun a vs ds H' n' hn g q ha hr hQ => ?_
  refine hR _ (.lst ds) H' n' g q ⟨a, vs, rfl, p.fresh hn, ha, ?_⟩ hQ
  exact RepL.imp (fun b o nb h => ⟨fun z => nb (.inl z), h⟩) ds vs hr

theorem RepL.ints_eq {K : PySem.W.Frag} {A : Addr → Prop} {H : Hp} : ∀ {ns : List Int} {vs : List V}, RepL K A H (ns.map D.int) vs → vs = ns.map V.int
  | [], _, r => by cases r; rfl
  | n :: ns, _, ⟨v, r, e, q, t⟩ => by
    subst e
    cases q
    rw [RepL.ints_eq t]
    rfl
end DL

set_option Elab.async false
set_option linter.all false
set_option autoImplicit false
set_option maxRecDepth 100000
set_option maxHeartbeats 4000000
namespace DL
open PySem PySem.Spec PyProof.Rows L2
/-- what an operation on values may lean on -/
structure Cn (W : Wd) (A : Addr → Prop) (H : Hp) (n : Nat) : Prop where
  core : ∀ b, W.core b → A b
  trk : ∀ b, A b → ∃ o, H b = some o
  good : W.good n H
theorem Pre.cn {W : Wd} {K : PySem.W.Frag} {B O : Addr → Prop} {σ : L2.St} {δ : List E} {H : Hp} {n : Nat} (p : Pre W K B O σ δ H n) : Cn W (AV B O) H n := ⟨p.avc, p.trk, p.good⟩
theorem Cn.fresh {W : Wd} {A : Addr → Prop} {H : Hp} {n : Nat} (c : Cn W A H n) {b : Addr} (h : H b = .none) : ¬ A b := fun z => by
  obtain ⟨o, e⟩ := c.trk b z
  rw [h] at e; cases e
theorem Cn.rep {W : Wd} {K : PySem.W.Frag} {A : Addr → Prop} {H H' : Hp} {n : Nat} (c : Cn W A H n) (g : Gr W H H') {d : D} {v : V} (r : Rep K A H d v) : Rep K A H' d v := Rep.imp (fun a o na h => ⟨na, g a o (fun z => na (c.core a z)) h⟩) d v r
theorem Cn.repL {W : Wd} {K : PySem.W.Frag} {A : Addr → Prop} {H H' : Hp} {n : Nat} (c : Cn W A H n) (g : Gr W H H') {d : List D} {v : List V} (r : RepL K A H d v) : RepL K A H' d v := RepL.imp (fun a o na h => ⟨na, g a o (fun z => na (c.core a z)) h⟩) d v r
theorem Gr.free {W : Wd} {H H' : Hp} {n : Nat} {a : Addr} (g : Gr W H H') (q : W.good n H') (ha : H' a = .none) : H a = .none := by
  by_cases c : W.core a
  · obtain ⟨o, e⟩ := W.trk q c
    rw [ha] at e; cases e
  · cases e : H a with
    | none => rfl
    | some o => rw [g a o c e] at ha; cases ha
theorem RepL.new {K : PySem.W.Frag} {A : Addr → Prop} {H : Hp} {a : Addr} {o : HO} {ds : List D} {vs : List V} (ha : H a = .none) (r : RepL K A H ds vs) : RepL K (fun b => A b ∨ b = a) (upd H a o) ds vs :=
  RepL.imp (fun b u nb e => ⟨fun z => z.elim nb fun z => (ne_of_none e ha) z, (upd_ne (ne_of_none e ha)).trans e⟩) ds vs r
/-- what is wanted of an answer -/
abbrev Ans (W : Wd) (K : PySem.W.Frag) (A : Addr → Prop) (H : Hp) (Q : D → Nat → Prop) (R : VK) : Prop := ∀ v d H' n', Gr W H H' → W.good n' H' → Rep K A H' d v → Q d n' → R v H'
theorem Ans.here {W : Wd} {K : PySem.W.Frag} {A : Addr → Prop} {H : Hp} {n : Nat} {Q : D → Nat → Prop} {R : VK} (h : Ans W K A H Q R) (c : Cn W A H n) {d : D} {v : V} (r : Rep K A H d v) (q : Q d n) : R v H := h v d H n (Gr.refl H) c.good r q
/-- a new list, a new tuple -/
theorem Ans.lst {W : Wd} {K : PySem.W.Frag} {A : Addr → Prop} {H : Hp} {n : Nat} {Q : D → Nat → Prop} {R : VK} (h : Ans W K A H Q R) (c : Cn W A H n) {ds : List D} {vs : List V} (r : RepL K A H ds vs) (q : Q (.lst ds) n) {p : Addr} (hp : H p = .none) : R (.ref p) (upd H p (.lst vs)) :=
  h (.ref p) (.lst ds) _ n (Gr.new hp) (Wd.new c.good hp) ⟨p, vs, rfl, c.fresh hp, upd_same, c.repL (Gr.new hp) r⟩ q
theorem Ans.tup {W : Wd} {K : PySem.W.Frag} {A : Addr → Prop} {H : Hp} {n : Nat} {Q : D → Nat → Prop} {R : VK} (h : Ans W K A H Q R) (c : Cn W A H n) {ds : List D} {vs : List V} (r : RepL K A H ds vs) (q : Q (.tup ds) n) {p : Addr} (hp : H p = .none) : R (.ref p) (upd H p (.tup vs)) :=
  h (.ref p) (.tup ds) _ n (Gr.new hp) (Wd.new c.good hp) ⟨p, vs, rfl, .inl ⟨c.fresh hp, upd_same⟩, c.repL (Gr.new hp) r⟩ q

def OpS2 (K : PySem.W.Frag) (r : R2) (op : D → D → Nat → (D → Nat → Prop) → Prop) : Prop := ∀ (W : Wd) (A : Addr → Prop) (H : Hp) (n : Nat) (x y : D) (v u : V) (Q : D → Nat → Prop) (R : VK), Cn W A H n → Rep K A H x v → Rep K A H y u → op x y n Q → Ans W K A H Q R → r v u H R
def OpS1 (K : PySem.W.Frag) (r : V → Hp → VK → Prop) (op : D → Nat → (D → Nat → Prop) → Prop) : Prop := ∀ (W : Wd) (A : Addr → Prop) (H : Hp) (n : Nat) (x : D) (v : V) (Q : D → Nat → Prop) (R : VK), Cn W A H n → Rep K A H x v → op x n Q → Ans W K A H Q R → r v H R
def OpSL (K : PySem.W.Frag) (r : List V → Hp → VK → Prop) (op : List D → Nat → (D → Nat → Prop) → Prop) : Prop := ∀ (W : Wd) (A : Addr → Prop) (H : Hp) (n : Nat) (x : List D) (v : List V) (Q : D → Nat → Prop) (R : VK), Cn W A H n → RepL K A H x v → op x n Q → Ans W K A H Q R → r v H R

def d2 (op : D → D → Nat → (D → Nat → Prop) → Prop) (ta tb : TD) : TD := fun δ n Q => ta δ n fun x n1 => tb δ n1 fun y n2 => op x y n2 Q
def d1 (op : D → Nat → (D → Nat → Prop) → Prop) (ta : TD) : TD := fun δ n Q => ta δ n fun x n1 => op x n1 Q
def dL (op : List D → Nat → (D → Nat → Prop) → Prop) (ta : TDA) : TD := fun δ n Q => ta δ n fun x n1 => op x n1 Q
section
variable {W : Wd} {X : Cx}
theorem der2 {K : PySem.W.Frag} {ta tb : TE} {da db : TD} {r : R2} {op : D → D → Nat → (D → Nat → Prop) → Prop} (hs : OpS2 K r op) (ha : DER W K ta da) (hb : DER W K tb db) : DER W K (tOp r ta tb) (d2 op da db) := by
  intro B O σ δ H n Q R p ht hR
  refine ha B O σ δ H n _ _ p ht fun v x H1 n1 g1 q1 r1 h1 => ?_
  have p1 := p.step g1 q1
  refine hb B O σ δ H1 n1 _ _ p1 h1 fun u y H2 n2 g2 q2 r2 h2 => ?_
  have p2 := p1.step g2 q2
  exact hs W _ H2 n2 x y v u Q R p2.cn (p1.rep g2 r1) r2 h2 fun w d H' n' g q r h => hR w d H' n' (g1.trans (g2.trans g)) q r h
theorem der1 {K : PySem.W.Frag} {ta : TE} {da : TD} {r : V → Hp → VK → Prop} {op : D → Nat → (D → Nat → Prop) → Prop} (hs : OpS1 K r op) (ha : DER W K ta da) : DER W K (fun σ H Q => ta σ H fun x H1 => r x H1 Q) (d1 op da) := by
  intro B O σ δ H n Q R p ht hR
  refine ha B O σ δ H n _ _ p ht fun v x H1 n1 g1 q1 r1 h1 => ?_
  exact hs W _ H1 n1 x v Q R (p.step g1 q1).cn r1 h1 fun w d H' n' g q r h => hR w d H' n' (g1.trans g) q r h
theorem derL {K : PySem.W.Frag} {ta : TA} {da : TDA} {r : List V → Hp → VK → Prop} {op : List D → Nat → (D → Nat → Prop) → Prop} (hs : OpSL K r op) (ha : DAR W K ta da) : DER W K (tCB r ta) (dL op da) := by
  intro B O σ δ H n Q R p ht hR
  refine ha B O σ δ H n _ _ p ht fun v x H1 n1 g1 q1 r1 h1 => ?_
  exact hs W _ H1 n1 x v Q R (p.step g1 q1).cn r1 h1 fun w d H' n' g q r h => hR w d H' n' (g1.trans g) q r h

/-! ### names, constants -/
def dVar (i : Nat) : TD := fun δ n Q => match δ[i]? with
  | some (.val d) => Q d n
  | _ => False
def dC (d : D) : TD := fun _ n Q => Q d n
theorem de_var (i : Nat) {e : Expr} (h : PE X e (tVar i)) : DE W X e (dVar i) := by
  refine ⟨_, h, fun B O σ δ H n Q R p ht hR => ?_⟩
  unfold dVar at ht
  split at ht
  · rename_i d hd
    obtain ⟨v, h1, h2⟩ := p.env.val i d hd
    exact ⟨v, h1, hR v d H n (Gr.refl H) p.good h2 ht⟩
  · exact ht.elim
theorem de_c {e : Expr} {v : V} {d : D} (h : PE X e (tC v)) (r : ∀ A H, Rep X.K A H d v) : DE W X e (dC d) := by
  refine ⟨_, h, fun B O σ δ H n Q R p ht hR => ?_⟩
  exact hR v d H n (Gr.refl H) p.good (r _ _) ht
section
variable {i : Int} {b : Bool} {x : Str} {j : Nat} {pos : Pos}
theorem de_int {k : _} : DE W X (.Constant (.int i) k pos) (dC (.int i)) := de_c pe_int fun _ _ => rfl
theorem de_bl {k : _} : DE W X (.Constant (.bool b) k pos) (dC (.bl b)) := de_c pe_bl fun _ _ => rfl
theorem de_non {k : _} : DE W X (.Constant .none k pos) (dC .non) := de_c pe_non fun _ _ => rfl
theorem de_str {k : _} : DE W X (.Constant (.str x) k pos) (dC (.str x)) := de_c pe_str fun _ _ => rfl
end
/-- a built-in class, an own class, by its name -/
theorem de_ty {x : Str} {nm : String} {pos : Pos} (hg : Gl X x) (hm : X.mg x = none) (hv : bootBuiltins x = some (.type nm)) (hn : x ≠ "__name__" := by decide) (hd : (x == ("__debug__" : Str)) = false := by decide) : DE W X (.Name x pos) (dC (.ty nm)) :=
  de_c (pe_bltn (v := .ty nm) hg hm hv rfl hn hd) fun _ _ => rfl
theorem de_cls {x : Str} {C : Addr} {pos : Pos} (hg : Gl X x) (hm : X.mg x = some (.ref C)) (hd : (x == ("__debug__" : Str)) = false := by decide) : DE W X (.Name x pos) (dC (.ref C)) :=
  de_c (pe_glob (v := .ref C) hg hm rfl hd) fun _ _ => rfl

/-! ### argument lists, displays -/
def daNil : TDA := fun _ n Q => Q [] n
def daCons (ta : TD) (tr : TDA) : TDA := fun δ n Q => ta δ n fun x n1 => tr δ n1 fun xs n2 => Q (x :: xs) n2
theorem da_nil : DA W X [] daNil := ⟨_, pa_nil, fun B O σ δ H n Q R p ht hR => hR [] [] H n (Gr.refl H) p.good rfl ht⟩
theorem da_cons {e : Expr} {es : List Expr} {ta : TD} {tr : TDA} (ha : DE W X e ta) (hr : DA W X es tr) (hs : starEach (e :: es) X.env = (false, eval e X.env) :: starEach es X.env := by rfl) : DA W X (e :: es) (daCons ta tr) := by
  obtain ⟨te, pe, re⟩ := ha
  obtain ⟨ts, ps, rs⟩ := hr
  refine ⟨_, pa_cons pe ps hs, fun B O σ δ H n Q R p ht hR => ?_⟩
  refine re B O σ δ H n _ _ p ht fun v x H1 n1 g1 q1 r1 h1 => ?_
  have p1 := p.step g1 q1
  exact rs B O σ δ H1 n1 _ _ p1 h1 fun vs ds H2 n2 g2 q2 r2 h2 => hR (v :: vs) (x :: ds) H2 n2 (g1.trans g2) q2 ⟨v, vs, rfl, p1.rep g2 r1, r2⟩ h2
def dTup (t : TDA) : TD := fun δ n Q => t δ n fun ds n1 => ds.length ≤ sizeLine ∧ Q (.tup ds) n1
def dDisp (t : TDA) : TDA := fun δ n Q => t δ n fun ds n1 => ds.length ≤ sizeLine ∧ Q ds n1
theorem de_tup {es : List Expr} {t : TDA} {x1 : _} {pos : Pos} (h : DA W X es t) : DE W X (.Tuple es x1 pos) (dTup t) := by
  obtain ⟨ta, pa, ra⟩ := h
  refine ⟨_, pe_tup pa, fun B O σ δ H n Q R p ht hR => ?_⟩
  refine ra B O σ δ H n _ _ p ht fun vs ds H1 n1 g1 q1 r1 ⟨hl, h1⟩ => ⟨by rw [r1.length]; exact hl, fun a ha => ?_⟩
  have p1 := p.step g1 q1
  exact Ans.tup (fun v d H' n' g q r hq => hR v d H' n' (g1.trans g) q r hq) p1.cn r1 h1 ha
theorem dl_lst {es : List Expr} {t : TDA} {pos : Pos} (h : DA W X es t) : DL W X (.List es pos) (dDisp t) := by
  obtain ⟨ta, pa, ra⟩ := h
  refine ⟨_, pe_lst pa, fun B O σ δ H n Q R p ht hR => ?_⟩
  refine ra B O σ δ H n _ _ p ht fun vs ds H1 n1 g1 q1 r1 ⟨hl, h1⟩ => ⟨by rw [r1.length]; exact hl, fun a ha => ?_⟩
  have h0 : H a = .none := g1.free q1 ha
  refine hR a vs ds _ n1 h0 (g1.trans (Gr.new ha)) (Wd.new q1 ha) upd_same ?_ h1
  exact RepL.new ha r1
end
end DL

set_option Elab.async false
set_option linter.all false
set_option autoImplicit false
set_option maxRecDepth 100000
set_option maxHeartbeats 4000000
namespace DL
open PySem PySem.Spec PyProof.Rows L2
section
variable {W : Wd} {X : Cx} {K : PySem.W.Frag}
/-! ### + - * // % ** - -/
def addD : D → D → Nat → (D → Nat → Prop) → Prop
  | .int i, .int j, n, Q => Q (.int (i + j)) n
  | .str a, .str b, n, Q => a.length + b.length ≤ sizeLine ∧ Q (.str (a ++ b)) n
  | .lst a, .lst b, n, Q => a.length + b.length ≤ sizeLine ∧ Q (.lst (a ++ b)) n
  | _, _, _, _ => False
theorem s_add {r r' r'' : R2} (h1 : r = rI0 fun i j => .int (i + j)) (h2 : r' = fun x y H Q => ∃ i j, x = .str i ∧ y = .str j ∧ i.length + j.length ≤ sizeLine ∧ Q (.str (i ++ j)) H) (h3 : r'' = rCat) :
    OpS2 K (fun x y H Q => r x y H Q ∨ r' x y H Q ∨ r'' x y H Q) addD := by
  subst h1; subst h2; subst h3
  intro W A H n x y v u Q R c rx ry h hR
  cases x with
  | int i =>
    cases y with
    | int j =>
      cases rx; cases ry
      exact .inl ⟨i, j, rfl, rfl, hR.here c (d := .int (i + j)) rfl h⟩
    | _ => exact h.elim
  | str a =>
    cases y with
    | str b =>
      cases rx; cases ry
      exact .inr (.inl ⟨a, b, rfl, rfl, h.1, hR.here c (d := .str (a ++ b)) rfl h.2⟩)
    | _ => exact h.elim
  | lst xs =>
    cases y with
    | lst ys =>
      obtain ⟨a, vs, rfl, na, ha, ra⟩ := rx
      obtain ⟨b, ws, rfl, nb, hb, rb⟩ := ry
      exact .inr (.inr ⟨a, b, vs, ws, rfl, rfl, ha, hb, by rw [ra.length, rb.length]; exact h.1, fun p hp => hR.lst c (ra.append rb) h.2 hp⟩)
    | _ => exact h.elim
  | _ => exact h.elim
section
variable {a b : Expr} {ta tb : TD} {pos : Pos}
theorem de_add (ha : DE W X a ta) (hb : DE W X b tb) : DE W X (.BinOp a .Add b pos) (d2 addD ta tb) := by
  obtain ⟨te, pe, re⟩ := ha
  obtain ⟨tf, pf, rf⟩ := hb
  exact ⟨_, pe_op (op_add.or (op_add_str.or op_cat)) pe pf, der2 (s_add rfl rfl rfl) re rf⟩
def subD : D → D → Nat → (D → Nat → Prop) → Prop
  | .int i, .int j, n, Q => Q (.int (i - j)) n
  | _, _, _, _ => False
theorem de_sub (ha : DE W X a ta) (hb : DE W X b tb) : DE W X (.BinOp a .Sub b pos) (d2 subD ta tb) := by
  obtain ⟨te, pe, re⟩ := ha
  obtain ⟨tf, pf, rf⟩ := hb
  refine ⟨_, pe_op op_sub pe pf, der2 ?_ re rf⟩
  intro W A H n x y v u Q R c rx ry h hR
  cases x with
  | int i =>
    cases y with
    | int j => cases rx; cases ry; exact ⟨i, j, rfl, rfl, hR.here c (d := .int (i - j)) rfl h⟩
    | _ => exact h.elim
  | _ => exact h.elim
/-- % of ints by a positive one, // by one below 2^30, products below 2^64 -/
def modD : D → D → Nat → (D → Nat → Prop) → Prop
  | .int i, .int j, n, Q => 0 < j ∧ Q (.int (i % j)) n
  | _, _, _, _ => False
theorem de_mod (ha : DE W X a ta) (hb : DE W X b tb) : DE W X (.BinOp a .Mod b pos) (d2 modD ta tb) := by
  obtain ⟨te, pe, re⟩ := ha
  obtain ⟨tf, pf, rf⟩ := hb
  refine ⟨_, pe_op op_mod pe pf, der2 ?_ re rf⟩
  intro W A H n x y v u Q R c rx ry h hR
  cases x with
  | int i =>
    cases y with
    | int j => cases rx; cases ry; exact ⟨i, j, rfl, rfl, h.1, hR.here c (d := .int (i % j)) rfl h.2⟩
    | _ => exact h.elim
  | _ => exact h.elim
def fdivD : D → D → Nat → (D → Nat → Prop) → Prop
  | .int i, .int j, n, Q => CDivW i j ∧ Q (.int (i / j)) n
  | _, _, _, _ => False
theorem de_fdiv (ha : DE W X a ta) (hb : DE W X b tb) : DE W X (.BinOp a .FloorDiv b pos) (d2 fdivD ta tb) := by
  obtain ⟨te, pe, re⟩ := ha
  obtain ⟨tf, pf, rf⟩ := hb
  refine ⟨_, pe_op op_fdivW pe pf, der2 ?_ re rf⟩
  intro W A H n x y v u Q R c rx ry h hR
  cases x with
  | int i =>
    cases y with
    | int j => cases rx; cases ry; exact ⟨i, j, rfl, rfl, h.1, hR.here c (d := .int (i / j)) rfl h.2⟩
    | _ => exact h.elim
  | _ => exact h.elim
def powD : D → D → Nat → (D → Nat → Prop) → Prop
  | .int i, .int j, n, Q => CPow i j ∧ Q (.int (i ^ j.toNat)) n
  | _, _, _, _ => False
theorem de_pow (ha : DE W X a ta) (hb : DE W X b tb) : DE W X (.BinOp a .Pow b pos) (d2 powD ta tb) := by
  obtain ⟨te, pe, re⟩ := ha
  obtain ⟨tf, pf, rf⟩ := hb
  refine ⟨_, pe_op op_pow pe pf, der2 ?_ re rf⟩
  intro W A H n x y v u Q R c rx ry h hR
  cases x with
  | int i =>
    cases y with
    | int j => cases rx; cases ry; exact ⟨i, j, rfl, rfl, h.1, hR.here c (d := .int (i ^ j.toNat)) rfl h.2⟩
    | _ => exact h.elim
  | _ => exact h.elim
def mulD : D → D → Nat → (D → Nat → Prop) → Prop
  | .int i, .int j, n, Q => CMul i j ∧ Q (.int (i * j)) n
  | .lst xs, .int k, n, Q => -(2 ^ 63) ≤ k ∧ k < 2 ^ 63 ∧ xs.length * k.toNat ≤ sizeLine ∧ Q (.lst (List.replicate k.toNat xs).flatten) n
  | _, _, _, _ => False
theorem de_mul (ha : DE W X a ta) (hb : DE W X b tb) : DE W X (.BinOp a .Mult b pos) (d2 mulD ta tb) := by
  obtain ⟨te, pe, re⟩ := ha
  obtain ⟨tf, pf, rf⟩ := hb
  refine ⟨_, pe_op (op_mul.or op_rep) pe pf, der2 ?_ re rf⟩
  intro W A H n x y v u Q R c rx ry h hR
  cases x with
  | int i =>
    cases y with
    | int j => cases rx; cases ry; exact .inl ⟨i, j, rfl, rfl, h.1, hR.here c (d := .int (i * j)) rfl h.2⟩
    | _ => exact h.elim
  | lst xs =>
    cases y with
    | int k =>
      cases ry
      obtain ⟨a, vs, rfl, na, ha, ra⟩ := rx
      obtain ⟨h1, h2, h3, h4⟩ := h
      exact .inr ⟨a, k, vs, rfl, rfl, ha, h1, h2, by rw [ra.length]; exact h3, fun p hp => hR.lst c (ra.rep k.toNat) h4 hp⟩
    | _ => exact h.elim
  | _ => exact h.elim
def negD : D → Nat → (D → Nat → Prop) → Prop
  | .int i, n, Q => Q (.int (-i)) n
  | _, _, _ => False
theorem de_neg (ha : DE W X a ta) : DE W X (.UnaryOp .USub a pos) (d1 negD ta) := by
  obtain ⟨te, pe, re⟩ := ha
  refine ⟨_, pe_un un_neg pe, der1 (r := rU fun i => .int (-i)) ?_ re⟩
  intro W A H n x v Q R c rx h hR
  cases x with
  | int i => cases rx; exact ⟨i, rfl, hR.here c (d := .int (-i)) rfl h⟩
  | _ => exact h.elim
end

/-! ### data -/
mutual
def D.py : D → Option PyData
  | .non => some .none
  | .bl b => some (.bool b)
  | .int i => some (.int i)
  | .str x => some (.str x)
  | .lst xs => (D.pys xs).map .list
  | .tup xs => (D.pys xs).map .tuple
  | _ => none
def D.pys : List D → Option (List PyData)
  | [] => some []
  | x :: xs => match D.py x, D.pys xs with
    | some p, some ps => some (p :: ps)
    | _, _ => none
end
mutual
theorem dp_of {A : Addr → Prop} {H : Hp} : ∀ (d : D) (v : V) (p : PyData), Rep K A H d v → d.py = some p → Dp K H v p
  | .non, _, _, r, e => by cases r; cases e; exact .non
  | .bl b, _, _, r, e => by cases r; cases e; exact .bl b
  | .int i, _, _, r, e => by cases r; cases e; exact .int i
  | .str x, _, _, r, e => by cases r; cases e; exact .str x
  | .lst xs, _, _, ⟨a, vs, rfl, _, ha, ra⟩, e => by
    unfold D.py at e
    cases h : D.pys xs with
    | none => rw [h] at e; cases e
    | some ps => rw [h] at e; cases e; exact .lst (SqL.of ha) (dp_ofs xs vs ps ra h)
  | .tup xs, _, _, ⟨a, vs, rfl, ha, ra⟩, e => by
    unfold D.py at e
    cases h : D.pys xs with
    | none => rw [h] at e; cases e
    | some ps =>
      rw [h] at e; cases e
      exact .tup (ha.elim (fun z => SqT.of z.2) fun z => .inr z) (dp_ofs xs vs ps ra h)
  | .dic _ _, _, _, _, e => by unfold D.py at e; cases e
  | .ins _ _ _, _, _, _, e => by unfold D.py at e; cases e
  | .ref _, _, _, _, e => by unfold D.py at e; cases e
  | .ty _, _, _, _, e => by unfold D.py at e; cases e
  | .scr _, _, _, _, e => by unfold D.py at e; cases e
  | .fix _, _, _, _, e => by unfold D.py at e; cases e
theorem dp_ofs {A : Addr → Prop} {H : Hp} : ∀ (ds : List D) (vs : List V) (ps : List PyData), RepL K A H ds vs → D.pys ds = some ps → DpAll K H vs ps
  | [], _, _, r, e => by cases r; cases e; exact .nil
  | d :: ds, _, ps, ⟨v, r, rfl, q, t⟩, e => by
    unfold D.pys at e
    cases h1 : d.py with
    | none => rw [h1] at e; cases e
    | some p =>
      cases h2 : D.pys ds with
      | none => rw [h1, h2] at e; cases e
      | some qs => rw [h1, h2] at e; cases e; exact .cons (dp_of d v p q h1) (dp_ofs ds r qs t h2)
end
def D.sv : D → Option V
  | .non => some .non
  | .bl b => some (.bl b)
  | .int i => some (.int i)
  | .str x => some (.str x)
  | _ => none
theorem sv_of {A : Addr → Prop} {H : Hp} {d : D} {v u : V} (r : Rep K A H d v) (h : d.sv = some u) : v = u := by
  cases d with
  | non => cases r; exact Option.some.inj h
  | bl _ => cases r; exact Option.some.inj h
  | int _ => cases r; exact Option.some.inj h
  | str _ => cases r; exact Option.some.inj h
  | _ => cases h
/-- == of scalars by value, of other data by the data's own equality; k turns the answer about -/
def eqD (k : Bool) (x y : D) (n : Nat) (Q : D → Nat → Prop) : Prop := match x.sv, y.sv with
  | some v, some u => if scal v u = true then Q (.bl (k ^^ decide (v = u))) n else match x.py, y.py with
    | some p, some q => SeqAt.shaped p = true ∧ SeqAt.shaped q = true ∧ Q (.bl (k ^^ PyData.eqv p q)) n
    | _, _ => False
  | _, _ => match x.py, y.py with
    | some p, some q => SeqAt.shaped p = true ∧ SeqAt.shaped q = true ∧ Q (.bl (k ^^ PyData.eqv p q)) n
    | _, _ => False
def eqDp (k : Bool) (x y : D) (n : Nat) (Q : D → Nat → Prop) : Prop := match x.py, y.py with
    | some p, some q => SeqAt.shaped p = true ∧ SeqAt.shaped q = true ∧ Q (.bl (k ^^ PyData.eqv p q)) n
    | _, _ => False
theorem eqD_or {k : Bool} {x y : D} {n : Nat} {Q : D → Nat → Prop} (h : eqD k x y n Q) : (∃ v u, x.sv = some v ∧ y.sv = some u ∧ scal v u = true ∧ Q (.bl (k ^^ decide (v = u))) n) ∨ ∃ p q, x.py = some p ∧ y.py = some q ∧ SeqAt.shaped p = true ∧ SeqAt.shaped q = true ∧ Q (.bl (k ^^ PyData.eqv p q)) n := by
  have go : eqDp k x y n Q → ∃ p q, x.py = some p ∧ y.py = some q ∧ SeqAt.shaped p = true ∧ SeqAt.shaped q = true ∧ Q (.bl (k ^^ PyData.eqv p q)) n := fun h => by
    unfold eqDp at h
    split at h
    · rename_i p q e1 e2
      exact ⟨p, q, e1, e2, h⟩
    · exact h.elim
  unfold eqD at h
  split at h
  · rename_i v u e1 e2
    by_cases c : scal v u = true
    · rw [if_pos c] at h
      exact .inl ⟨v, u, e1, e2, c, h⟩
    · rw [if_neg c] at h
      exact .inr (go h)
  · exact .inr (go h)
section
variable {a b : Expr} {ta tb : TD} {pos : Pos}
theorem s_eq : OpS2 K (fun x y H Q => rEq x y H Q ∨ rEqD K x y H Q) (eqD false) := by
  intro W A H n x y v u Q R c rx ry h hR
  rcases eqD_or h with ⟨v', u', e1, e2, hs, h⟩ | ⟨p, q, e1, e2, h1, h2, h⟩
  · rw [sv_of rx e1, sv_of ry e2]
    exact .inl ⟨hs, hR.here c (d := .bl _) rfl (by simpa using h)⟩
  · exact .inr ⟨p, q, dp_of x v p rx e1, dp_of y u q ry e2, h1, h2, hR.here c (d := .bl _) rfl (by simpa using h)⟩
theorem s_ne : OpS2 K (fun x y H Q => rNe x y H Q ∨ rNeD K x y H Q) (eqD true) := by
  intro W A H n x y v u Q R c rx ry h hR
  rcases eqD_or h with ⟨v', u', e1, e2, hs, h⟩ | ⟨p, q, e1, e2, h1, h2, h⟩
  · rw [sv_of rx e1, sv_of ry e2]
    exact .inl ⟨hs, hR.here c (d := .bl _) rfl (by simpa using h)⟩
  · exact .inr ⟨p, q, dp_of x v p rx e1, dp_of y u q ry e2, h1, h2, hR.here c (d := .bl _) rfl (by simpa using h)⟩
/-! ### comparisons of ints, of texts -/
def ltD (f : Int → Int → Bool) (g : List Nat → List Nat → Bool) : D → D → Nat → (D → Nat → Prop) → Prop
  | .int i, .int j, n, Q => Q (.bl (f i j)) n
  | .str i, .str j, n, Q => Q (.bl (g i.cps.toList j.cps.toList)) n
  | _, _, _, _ => False
abbrev ltd := ltD (fun i j => decide (i < j)) fun a b => decide (a < b)
abbrev led := ltD (fun i j => decide (i ≤ j)) fun a b => !decide (b < a)
abbrev gtd := ltD (fun i j => decide (j < i)) fun a b => decide (b < a)
abbrev ged := ltD (fun i j => decide (j ≤ i)) fun a b => !decide (a < b)
theorem s_lt {f : Int → Int → Bool} {g : List Nat → List Nat → Bool} : OpS2 K (fun x y H Q => rI0 (fun i j => .bl (f i j)) x y H Q ∨ ∃ i j, x = .str i ∧ y = .str j ∧ Q (.bl (g i.cps.toList j.cps.toList)) H) (ltD f g) := by
  intro W A H n x y v u Q R c rx ry h hR
  cases x with
  | int i =>
    cases y with
    | int j => cases rx; cases ry; exact .inl ⟨i, j, rfl, rfl, hR.here c (d := .bl (f i j)) rfl h⟩
    | _ => exact h.elim
  | str i =>
    cases y with
    | str j => cases rx; cases ry; exact .inr ⟨i, j, rfl, rfl, hR.here c (d := .bl _) rfl h⟩
    | _ => exact h.elim
  | _ => exact h.elim
end
end
end DL

set_option Elab.async false
set_option linter.all false
set_option autoImplicit false
set_option maxRecDepth 100000
set_option maxHeartbeats 4000000
namespace DL
open PySem PySem.Spec PyProof.Rows L2
section
variable {W : Wd} {X : Cx} {K : PySem.W.Frag}
/-! ### tests -/
def dtB (t : TD) : TDT := fun δ n Q => t δ n fun x n1 => match x with
  | .bl c => Q c n1
  | _ => False
theorem dtr_val {te : TE} {t : TD} (h : DER W K te t) : DTR W K (tTest te) (dtB t) := by
  intro B O σ δ H n Q R p ht hR
  refine h B O σ δ H n _ _ p ht fun v d H1 n1 g1 q1 r1 h1 => ?_
  cases d with
  | bl c => cases r1; exact ⟨c, rfl, hR c H1 n1 g1 q1 h1⟩
  | _ => exact h1.elim
theorem dt_val {e : Expr} {t : TD} (h : DE W X e t) (he : ∀ whole, isTrue e X.env whole = (do let v ← whole; standAt e.pos; holding [v] (truthy v)) := by intro _; rfl) : DT W X e (dtB t) := by
  obtain ⟨te, pe, re⟩ := h
  exact ⟨_, pt_val pe he, dtr_val re⟩
def dtNot (t : TDT) : TDT := fun δ n Q => t δ n fun c n1 => Q (!c) n1
def dtAnd (t u : TDT) : TDT := fun δ n Q => t δ n fun c n1 => if c = true then u δ n1 Q else Q false n1
def dtOr (t u : TDT) : TDT := fun δ n Q => t δ n fun c n1 => if c = true then Q true n1 else u δ n1 Q
section
variable {a b c : Expr} {rest : List Expr} {ta tb tc : TDT} {pos : Pos}
theorem dt_not (h : DT W X a ta) : DT W X (.UnaryOp .Not a pos) (dtNot ta) := by
  obtain ⟨te, pe, re⟩ := h
  refine ⟨_, pt_not pe, fun B O σ δ H n Q R p ht hR => ?_⟩
  exact re B O σ δ H n _ _ p ht fun c H1 n1 g1 q1 h1 => hR (!c) H1 n1 g1 q1 h1
/-- a chain of and, or: its tail -/
def DW (W : Wd) (X : Cx) (e : Expr) (t : TDT) : Prop := ∃ te, PW X e te ∧ DTR W X.K te t
theorem dw_and1 (h : DT W X a ta) : DW W X (.BoolOp .And [a] pos) ta := by
  obtain ⟨te, pe, re⟩ := h
  exact ⟨_, pw_and1 pe, re⟩
theorem dw_or1 (h : DT W X a ta) : DW W X (.BoolOp .Or [a] pos) ta := by
  obtain ⟨te, pe, re⟩ := h
  exact ⟨_, pw_or1 pe, re⟩
theorem dw_and (h : DT W X a ta) (h' : DW W X (.BoolOp .And (b :: rest) pos) tb) : DW W X (.BoolOp .And (a :: b :: rest) pos) (dtAnd ta tb) := by
  obtain ⟨te, pe, re⟩ := h
  obtain ⟨tf, pf, rf⟩ := h'
  refine ⟨_, pw_and pe pf, fun B O σ δ H n Q R p ht hR => ?_⟩
  refine re B O σ δ H n _ _ p ht fun c H1 n1 g1 q1 h1 => ?_
  cases c with
  | true => exact iteT (rf B O σ δ H1 n1 _ _ (p.step g1 q1) (by simpa using h1) fun d H2 n2 g2 q2 h2 => hR d H2 n2 (g1.trans g2) q2 h2)
  | false => exact iteF (hR false H1 n1 g1 q1 (by simpa using h1))
theorem dw_or (h : DT W X a ta) (h' : DW W X (.BoolOp .Or (b :: rest) pos) tb) : DW W X (.BoolOp .Or (a :: b :: rest) pos) (dtOr ta tb) := by
  obtain ⟨te, pe, re⟩ := h
  obtain ⟨tf, pf, rf⟩ := h'
  refine ⟨_, pw_or pe pf, fun B O σ δ H n Q R p ht hR => ?_⟩
  refine re B O σ δ H n _ _ p ht fun c H1 n1 g1 q1 h1 => ?_
  cases c with
  | false => exact iteF (rf B O σ δ H1 n1 _ _ (p.step g1 q1) (by simpa using h1) fun d H2 n2 g2 q2 h2 => hR d H2 n2 (g1.trans g2) q2 h2)
  | true => exact iteT (hR true H1 n1 g1 q1 (by simpa using h1))
theorem DW.dt {e : Expr} (h : DW W X e ta) : DT W X e ta := by
  obtain ⟨te, pe, re⟩ := h
  exact ⟨_, pe.pt, re⟩
end
/-! ### comparisons, as values and as tests -/
section
variable {a b c : Expr} {ta tb tc : TD} {pos : Pos} {op op' : CmpOp} {r r' : R2} {f g : D → D → Nat → (D → Nat → Prop) → Prop}
/-- an operator's rule with its meaning over data -/
structure CmpD (X : Cx) (op : CmpOp) (f : D → D → Nat → (D → Nat → Prop) → Prop) : Prop where
  ex : ∃ r, OpR X (compareOp op) r ∧ OpS2 X.K r f
theorem c_lt : CmpD X .Lt ltd := ⟨_, op_lt.or op_lt_str, s_lt⟩
theorem c_le : CmpD X .LtE led := ⟨_, op_le.or op_le_str, s_lt⟩
theorem c_gt : CmpD X .Gt gtd := ⟨_, op_gt.or op_gt_str, s_lt⟩
theorem c_ge : CmpD X .GtE ged := ⟨_, op_ge.or op_ge_str, s_lt⟩
theorem c_eq (hu : X.A.units + 64 < cLine) : CmpD X .Eq (eqD false) := ⟨_, op_eq.or (op_eqD hu), s_eq⟩
theorem c_ne (hu : X.A.units + 64 < cLine) : CmpD X .NotEq (eqD true) := ⟨_, op_ne.or (op_neD hu), s_ne⟩
def D.isNon : D → Bool
  | .non => true
  | _ => false
theorem isNon_iff {A : Addr → Prop} {H : Hp} {d : D} {v : V} (r : Rep K A H d v) : decide (v = .non) = d.isNon := by
  cases d with
  | non => cases r; rfl
  | bl _ => cases r; rfl
  | int _ => cases r; rfl
  | str _ => cases r; rfl
  | ref _ => cases r; rfl
  | ty _ => cases r; rfl
  | scr _ => obtain ⟨a, rfl, _⟩ := r; rfl
  | fix _ => obtain ⟨a, o, rfl, _⟩ := r; rfl
  | lst _ => obtain ⟨a, _, rfl, _⟩ := r; rfl
  | tup _ => obtain ⟨a, _, rfl, _⟩ := r; rfl
  | dic _ _ => obtain ⟨a, _, rfl, _⟩ := r; rfl
  | ins _ _ _ => obtain ⟨a, _, _, rfl, _⟩ := r; rfl
def isD (k : Bool) (x y : D) (n : Nat) (Q : D → Nat → Prop) : Prop := y.isNon = true ∧ Q (.bl (k ^^ x.isNon)) n
theorem c_is : CmpD X .Is (isD false) := ⟨_, op_isN, fun W A H n x y v u Q R c rx ry h hR => by
  have e : u = V.non := of_decide_eq_true ((isNon_iff ry).trans h.1)
  exact ⟨e, by rw [isNon_iff rx]; exact hR.here c (d := .bl x.isNon) rfl (by simpa using h.2)⟩⟩
theorem c_isnot : CmpD X .IsNot (isD true) := ⟨_, op_notN, fun W A H n x y v u Q R c rx ry h hR => by
  have e : u = V.non := of_decide_eq_true ((isNon_iff ry).trans h.1)
  exact ⟨e, by rw [isNon_iff rx]; exact hR.here c (d := .bl (!x.isNon)) rfl (by simpa using h.2)⟩⟩
theorem de_cmp (hc : CmpD X op f) (ha : DE W X a ta) (hb : DE W X b tb) (hm : behindInMarks op b = false := by first | exact nomark _ | rfl) : DE W X (.Compare a [op] [b] pos) (d2 f ta tb) := by
  obtain ⟨te, pe, re⟩ := ha
  obtain ⟨tf, pf, rf⟩ := hb
  obtain ⟨r, ho, hs⟩ := hc.ex
  exact ⟨_, pe_cmpR ho pe pf hm, der2 hs re rf⟩
theorem dt_cmp (hc : CmpD X op f) (ha : DE W X a ta) (hb : DE W X b tb) (hm : behindInMarks op b = false := by first | exact nomark _ | rfl) : DT W X (.Compare a [op] [b] pos) (dtB (d2 f ta tb)) := by
  obtain ⟨te, pe, re⟩ := ha
  obtain ⟨tf, pf, rf⟩ := hb
  obtain ⟨r, ho, hs⟩ := hc.ex
  exact ⟨_, pt_cmpR ho pe pf hm, dtr_val (der2 hs re rf)⟩
def dChain (f g : D → D → Nat → (D → Nat → Prop) → Prop) (ta tb tc : TD) : TD := fun δ n Q => ta δ n fun x n1 => tb δ n1 fun y n2 => f x y n2 fun z n3 => match z with
  | .bl k => if k = true then tc δ n3 fun w n4 => g y w n4 Q else Q (.bl false) n3
  | _ => False
theorem der_chain {ka kb kc : TE} (hf : OpS2 K r f) (hg : OpS2 K r' g) (ha : DER W K ka ta) (hb : DER W K kb tb) (hc : DER W K kc tc) : DER W K (tChain r r' ka kb kc) (dChain f g ta tb tc) := by
  intro B O σ δ H n Q R p ht hR
  refine ha B O σ δ H n _ _ p ht fun v x H1 n1 g1 q1 r1 h1 => ?_
  have p1 := p.step g1 q1
  refine hb B O σ δ H1 n1 _ _ p1 h1 fun u y H2 n2 g2 q2 r2 h2 => ?_
  have p2 := p1.step g2 q2
  refine hf W _ H2 n2 x y v u _ _ p2.cn (p1.rep g2 r1) r2 h2 fun w d H3 n3 g3 q3 r3 h3 => ?_
  have p3 := p2.step g3 q3
  cases d with
  | bl k =>
    cases r3
    refine ⟨k, rfl, ?_⟩
    cases k with
    | false => exact iteF (hR _ (.bl false) H3 n3 (g1.trans (g2.trans g3)) q3 rfl (by simpa using h3))
    | true =>
      refine iteT (hc B O σ δ H3 n3 _ _ p3 (by simpa using h3) fun w e H4 n4 g4 q4 r4 h4 => ?_)
      have p4 := p3.step g4 q4
      exact hg W _ H4 n4 y e u w Q R p4.cn (p3.rep g4 (p2.rep g3 r2)) r4 h4 fun w' d' H5 n5 g5 q5 r5 h5 => hR w' d' H5 n5 (g1.trans (g2.trans (g3.trans (g4.trans g5)))) q5 r5 h5
  | _ => exact h3.elim
theorem de_chain (hf : CmpD X op f) (hg : CmpD X op' g) (ha : DE W X a ta) (hb : DE W X b tb) (hc : DE W X c tc) (hm : lastMarks [op, op'] [b, c] = false := by with_unfolding_all rfl) : DE W X (.Compare a [op, op'] [b, c] pos) (dChain f g ta tb tc) := by
  obtain ⟨te, pe, re⟩ := ha
  obtain ⟨tf, pf, rf⟩ := hb
  obtain ⟨tg, pg, rg⟩ := hc
  obtain ⟨r, ho, hs⟩ := hf.ex
  obtain ⟨r', ho', hs'⟩ := hg.ex
  exact ⟨_, pe_chain ho ho' pe pf pg hm, der_chain hs hs' re rf rg⟩
theorem dt_chain (hf : CmpD X op f) (hg : CmpD X op' g) (ha : DE W X a ta) (hb : DE W X b tb) (hc : DE W X c tc) (hm : lastMarks [op, op'] [b, c] = false := by with_unfolding_all rfl) : DT W X (.Compare a [op, op'] [b, c] pos) (dtB (dChain f g ta tb tc)) := by
  obtain ⟨te, pe, re⟩ := ha
  obtain ⟨tf, pf, rf⟩ := hb
  obtain ⟨tg, pg, rg⟩ := hc
  obtain ⟨r, ho, hs⟩ := hf.ex
  obtain ⟨r', ho', hs'⟩ := hg.ex
  exact ⟨_, pt_chain ho ho' pe pf pg hm, dtr_val (der_chain hs hs' re rf rg)⟩
end
/-! ### and, or, not, if .. else, as values -/
section
variable {a b c : Expr} {rest : List Expr} {ta tb : TD} {tt : TDT} {pos : Pos}
def dAndV (ta tb : TD) : TD := fun δ n Q => ta δ n fun x n1 => match x with
  | .bl c => if c = true then tb δ n1 Q else Q (.bl false) n1
  | _ => False
def dOrV (ta tb : TD) : TD := fun δ n Q => ta δ n fun x n1 => match x with
  | .bl c => if c = true then Q (.bl true) n1 else tb δ n1 Q
  | _ => False
def dNotV (ta : TD) : TD := fun δ n Q => ta δ n fun x n1 => match x with
  | .bl c => Q (.bl (!c)) n1
  | _ => False
theorem de_one {op : _} (h : DE W X a ta) : DE W X (.BoolOp op [a] pos) ta := by
  obtain ⟨te, pe, re⟩ := h
  exact ⟨_, pe_one pe, re⟩
theorem de_and (ha : DE W X a ta) (hb : DE W X (.BoolOp .And (b :: rest) pos) tb) : DE W X (.BoolOp .And (a :: b :: rest) pos) (dAndV ta tb) := by
  obtain ⟨te, pe, re⟩ := ha
  obtain ⟨tf, pf, rf⟩ := hb
  refine ⟨_, pe_and pe pf, fun B O σ δ H n Q R p ht hR => ?_⟩
  refine re B O σ δ H n _ _ p ht fun v x H1 n1 g1 q1 r1 h1 => ?_
  cases x with
  | bl c =>
    cases r1
    refine ⟨c, rfl, ?_⟩
    cases c with
    | true => exact iteT (rf B O σ δ H1 n1 _ _ (p.step g1 q1) (by simpa using h1) fun v d H2 n2 g2 q2 r2 h2 => hR v d H2 n2 (g1.trans g2) q2 r2 h2)
    | false => exact iteF (hR _ (.bl false) H1 n1 g1 q1 rfl (by simpa using h1))
  | _ => exact h1.elim
theorem de_or (ha : DE W X a ta) (hb : DE W X (.BoolOp .Or (b :: rest) pos) tb) : DE W X (.BoolOp .Or (a :: b :: rest) pos) (dOrV ta tb) := by
  obtain ⟨te, pe, re⟩ := ha
  obtain ⟨tf, pf, rf⟩ := hb
  refine ⟨_, pe_or pe pf, fun B O σ δ H n Q R p ht hR => ?_⟩
  refine re B O σ δ H n _ _ p ht fun v x H1 n1 g1 q1 r1 h1 => ?_
  cases x with
  | bl c =>
    cases r1
    refine ⟨c, rfl, ?_⟩
    cases c with
    | false => exact iteF (rf B O σ δ H1 n1 _ _ (p.step g1 q1) (by simpa using h1) fun v d H2 n2 g2 q2 r2 h2 => hR v d H2 n2 (g1.trans g2) q2 r2 h2)
    | true => exact iteT (hR _ (.bl true) H1 n1 g1 q1 rfl (by simpa using h1))
  | _ => exact h1.elim
theorem de_not (ha : DE W X a ta) : DE W X (.UnaryOp .Not a pos) (dNotV ta) := by
  obtain ⟨te, pe, re⟩ := ha
  refine ⟨_, pe_not pe, fun B O σ δ H n Q R p ht hR => ?_⟩
  refine re B O σ δ H n _ _ p ht fun v x H1 n1 g1 q1 r1 h1 => ?_
  cases x with
  | bl c => cases r1; exact ⟨c, rfl, hR _ (.bl (!c)) H1 n1 g1 q1 rfl h1⟩
  | _ => exact h1.elim
def dIf (t : TDT) (ta tb : TD) : TD := fun δ n Q => t δ n fun c n1 => if c = true then ta δ n1 Q else tb δ n1 Q
theorem de_if (hc : DT W X c tt) (ha : DE W X a ta) (hb : DE W X b tb) : DE W X (.IfExp c a b pos) (dIf tt ta tb) := by
  obtain ⟨tc, pc, rc⟩ := hc
  obtain ⟨te, pe, re⟩ := ha
  obtain ⟨tf, pf, rf⟩ := hb
  refine ⟨_, pe_ifExp pc pe pf, fun B O σ δ H n Q R p ht hR => ?_⟩
  refine rc B O σ δ H n _ _ p ht fun c H1 n1 g1 q1 h1 => ?_
  cases c with
  | true => exact iteT (re B O σ δ H1 n1 _ _ (p.step g1 q1) (by simpa using h1) fun v d H2 n2 g2 q2 r2 h2 => hR v d H2 n2 (g1.trans g2) q2 r2 h2)
  | false => exact iteF (rf B O σ δ H1 n1 _ _ (p.step g1 q1) (by simpa using h1) fun v d H2 n2 g2 q2 r2 h2 => hR v d H2 n2 (g1.trans g2) q2 r2 h2)
end
/-! ### items, slices -/
section
variable {a b : Expr} {ta tb : TD} {pos : Pos}
def someD {α : Type} (o : Option α) (k : α → Prop) : Prop := match o with
  | some d => k d
  | none => False
theorem someD_elim {α : Type} {o : Option α} {k : α → Prop} (h : someD o k) : ∃ d, o = some d ∧ k d := by
  cases o with
  | none => exact h.elim
  | some d => exact ⟨d, rfl, h⟩
def ixD : D → D → Nat → (D → Nat → Prop) → Prop
  | .lst xs, .int i, n, Q => someD (atI xs i) fun d => Q d n
  | .tup xs, .int i, n, Q => someD (atI xs i) fun d => Q d n
  | .str z, .int i, n, Q => z.length ≤ sizeLine ∧ someD (atI z.cps.toList i) fun c => Q (.str ⟨#[c]⟩) n
  | _, _, _, _ => False
theorem atI_rep {A : Addr → Prop} {H : Hp} {xs : List D} {vs : List V} {i : Int} {d : D} (r : RepL K A H xs vs) (h : atI xs i = some d) : ∃ v, atI vs i = some v ∧ Rep K A H d v := by
  unfold atI at h ⊢
  rw [r.length]
  cases e : ixN xs.length i with
  | none => rw [e] at h; cases h
  | some j =>
    rw [e] at h
    exact r.get h
theorem s_ix : OpS2 K (rIx K) ixD := by
  intro W A H n x y v u Q R c rx ry h hR
  cases x with
  | lst xs =>
    cases y with
    | int i =>
      cases ry
      obtain ⟨a, vs, rfl, na, ha, ra⟩ := rx
      obtain ⟨d, hd, h⟩ := someD_elim h
      obtain ⟨w, h1, h2⟩ := atI_rep ra hd
      exact .inl ⟨a, vs, i, w, rfl, rfl, SqL.of ha, h1, hR.here c h2 h⟩
    | _ => exact h.elim
  | tup xs =>
    cases y with
    | int i =>
      cases ry
      obtain ⟨a, vs, rfl, ha, ra⟩ := rx
      obtain ⟨d, hd, h⟩ := someD_elim h
      obtain ⟨w, h1, h2⟩ := atI_rep ra hd
      exact .inr (.inl ⟨a, vs, i, w, rfl, rfl, ha.elim (fun z => SqT.of z.2) .inr, h1, hR.here c h2 h⟩)
    | _ => exact h.elim
  | str z =>
    cases y with
    | int i =>
      cases rx; cases ry
      obtain ⟨hz, h⟩ := h
      obtain ⟨d, hd, h⟩ := someD_elim h
      exact .inr (.inr ⟨z, i, d, rfl, rfl, hz, hd, hR.here c (d := .str ⟨#[d]⟩) rfl h⟩)
    | _ => exact h.elim
  | _ => exact h.elim
theorem de_ix (ha : DE W X a ta) (hb : DE W X b tb) (hs : PlainIx b := by exact fun _ _ => rfl) : DE W X (.Subscript a b pos) (d2 ixD ta tb) := by
  obtain ⟨te, pe, re⟩ := ha
  obtain ⟨tf, pf, rf⟩ := hb
  exact ⟨_, pe_ix ix_seq pe pf hs, der2 s_ix re rf⟩
end
end
end DL

set_option Elab.async false
set_option linter.all false
set_option autoImplicit false
set_option maxRecDepth 100000
set_option maxHeartbeats 4000000
namespace DL
open PySem PySem.Spec PyProof.Rows L2
theorem no_both {α : Type} {x : Option α} {o : α} {P : Prop} (h : x = some o) (z : x = .none) : P := by rw [h] at z; cases z
structure Gn (W : Wd) (O : Addr → Prop) (H : Hp) (O' : Addr → Prop) (H' : Hp) : Prop where
  keep : ∀ b o, ¬ W.core b → ¬ O b → H b = some o → H' b = some o
  new : ∀ b, O' b → O b ∨ H b = .none
section
variable {W : Wd} {K : PySem.W.Frag} {B O O1 O2 : Addr → Prop} {σ : L2.St} {δ : List E} {H H1 H2 : Hp} {n : Nat}
theorem Gn.refl : Gn W O H O H := ⟨fun _ _ _ _ h => h, fun _ h => .inl h⟩
theorem Gn.trans (a : Gn W O H O1 H1) (g : W.good n H1) (b : Gn W O1 H1 O2 H2) : Gn W O H O2 H2 := by
  have back : ∀ c, H1 c = .none → O c ∨ H c = .none := fun c e => by
    by_cases k : W.core c
    · obtain ⟨o, e'⟩ := W.trk g k
      rw [e] at e'; cases e'
    · by_cases q : O c
      · exact .inl q
      · cases h : H c with
        | none => exact .inr rfl
        | some o => rw [a.keep c o k q h] at e; cases e
  refine ⟨fun c o k q h => b.keep c o k (fun z => ?_) (a.keep c o k q h), fun c z => ?_⟩
  · rcases a.new c z with z | z
    · exact q z
    · rw [h] at z; cases z
  · rcases b.new c z with z | z
    · exact a.new c z
    · exact back c z
theorem Gn.of (g : Gr W H H1) : Gn W O H O H1 := ⟨fun b o k _ h => g b o k h, fun _ h => .inl h⟩
/-- what was known of a value is known behind it -/
theorem Pre.later (p : Pre W K B O σ δ H n) (g : Gn W O H O1 H1) {d : D} {v : V} (r : Rep K (AV B O) H d v) : Rep K (AV B O1) H1 d v :=
  Rep.imp (fun a o na h => ⟨fun z => z.elim (fun z => na (.inl z)) fun z => (g.new a z).elim (fun z => na (.inr z)) fun z => no_both h z,
    g.keep a o (fun c => na (.inl (p.core a c))) (fun c => na (.inr c)) h⟩) d v r
theorem Pre.laterL (p : Pre W K B O σ δ H n) (g : Gn W O H O1 H1) {d : List D} {v : List V} (r : RepL K (AV B O) H d v) : RepL K (AV B O1) H1 d v :=
  RepL.imp (fun a o na h => ⟨fun z => z.elim (fun z => na (.inl z)) fun z => (g.new a z).elim (fun z => na (.inr z)) fun z => no_both h z,
    g.keep a o (fun c => na (.inl (p.core a c))) (fun c => na (.inr c)) h⟩) d v r
end

structure DEnds where
  nx : List E → Nat → Prop
  rt : D → Nat → Prop
  bk : List E → Nat → Prop := fun _ _ => False
  ct : List E → Nat → Prop := fun _ _ => False
abbrev TDS := DEnds → List E → Nat → Prop
structure SPost (W : Wd) (K : PySem.W.Frag) (B O : Addr → Prop) (H : Hp) (D : DEnds) (F : Ends) : Prop where
  nx : ∀ O' σ' δ' H' n', Pre W K B O' σ' δ' H' n' → Gn W O H O' H' → D.nx δ' n' → F.nx σ' H'
  bk : ∀ O' σ' δ' H' n', Pre W K B O' σ' δ' H' n' → Gn W O H O' H' → D.bk δ' n' → F.bk σ' H'
  ct : ∀ O' σ' δ' H' n', Pre W K B O' σ' δ' H' n' → Gn W O H O' H' → D.ct δ' n' → F.ct σ' H'
  rt : ∀ v d H' n', (∀ b o, ¬ W.core b → ¬ O b → H b = some o → H' b = some o) → W.good n' H' → Rep K B H' d v → D.rt d n' → F.rt v H'
theorem SPost.from {W : Wd} {K : PySem.W.Frag} {B O O1 : Addr → Prop} {H H1 : Hp} {n : Nat} {D : DEnds} {F : Ends} (s : SPost W K B O H D F) (g : Gn W O H O1 H1) (q : W.good n H1) : SPost W K B O1 H1 D F :=
  ⟨fun O' σ' δ' H' n' p g' h => s.nx O' σ' δ' H' n' p (g.trans q g') h, fun O' σ' δ' H' n' p g' h => s.bk O' σ' δ' H' n' p (g.trans q g') h, fun O' σ' δ' H' n' p g' h => s.ct O' σ' δ' H' n' p (g.trans q g') h,
    fun v d H' n' k g' r h => s.rt v d H' n' (fun b o c nO e => k b o c (fun z => (g.new b z).elim nO fun z => by rw [e] at z; cases z) (g.keep b o c nO e)) g' r h⟩
def DSR (W : Wd) (K : PySem.W.Frag) (ts : TS) (t : TDS) : Prop := ∀ (B O : Addr → Prop) (σ : L2.St) (δ : List E) (H : Hp) (n : Nat) (D : DEnds) (F : Ends), Pre W K B O σ δ H n → t D δ n → SPost W K B O H D F → ts F σ H
def DS (W : Wd) (X : Cx) (st : Stmt) (t : TDS) : Prop := ∃ ts, PS X st ts ∧ DSR W X.K ts t
def DSs (W : Wd) (X : Cx) (st : List Stmt) (t : TDS) : Prop := ∃ ts, PSs X st ts ∧ DSR W X.K ts t
section
variable {W : Wd} {X : Cx} {K : PySem.W.Frag} {st : Stmt} {rest : List Stmt} {t u : TDS} {e : Expr} {te : TD} {pos : Pos}
def dsNil : TDS := fun D δ n => D.nx δ n
def dsSeq (t u : TDS) : TDS := fun D δ n => t { D with nx := u D } δ n
theorem dss_nil : DSs W X [] dsNil := ⟨_, pss_nil, fun B O σ δ H n D F p h s => s.nx O σ δ H n p Gn.refl h⟩
theorem dss_cons (h1 : DS W X st t) (h2 : DSs W X rest u) : DSs W X (st :: rest) (dsSeq t u) := by
  obtain ⟨ts, ps, rs⟩ := h1
  obtain ⟨us, pu, ru⟩ := h2
  refine ⟨_, pss_cons ps pu, fun B O σ δ H n D F p h s => rs B O σ δ H n _ _ p h ⟨fun O' σ' δ' H' n' p' g q => ?_, s.bk, s.ct, s.rt⟩⟩
  exact ru B O' σ' δ' H' n' D F p' q (s.from g p'.good)
theorem dss_one (h1 : DS W X st t) : DSs W X [st] t := by
  obtain ⟨ts, ps, rs⟩ := h1
  exact ⟨_, pss_one ps, rs⟩
theorem ds_pass : DS W X (.Pass pos) dsNil := ⟨_, ps_pass, fun B O σ δ H n D F p h s => s.nx O σ δ H n p Gn.refl h⟩
def dsBrk : TDS := fun D δ n => D.bk δ n
def dsCnt : TDS := fun D δ n => D.ct δ n
theorem ds_break : DS W X (.Break pos) dsBrk := ⟨_, ps_break, fun B O σ δ H n D F p h s => s.bk O σ δ H n p Gn.refl h⟩
theorem ds_continue : DS W X (.Continue pos) dsCnt := ⟨_, ps_continue, fun B O σ δ H n D F p h s => s.ct O σ δ H n p Gn.refl h⟩
def dsNever : TDS := fun _ _ _ => False
theorem ds_never : DS W X st dsNever := ⟨_, ps_never, fun _ _ _ _ _ _ _ _ _ h _ => h.elim⟩
theorem dss_never : DSs W X rest dsNever := ⟨_, pss_never, fun _ _ _ _ _ _ _ _ _ h _ => h.elim⟩
def dsRet (te : TD) : TDS := fun D δ n => te δ n D.rt
theorem ds_ret (he : DE W X e te) : DS W X (.Return (some e) pos) (dsRet te) := by
  obtain ⟨tt, pe, re⟩ := he
  refine ⟨_, ps_ret pe, fun B O σ δ H n D F p h s => re B O σ δ H n _ _ p h fun v d H1 n1 g1 q1 r1 h1 => ?_⟩
  exact s.rt v d H1 n1 (fun b o c _ e => g1 b o c e) q1 (Rep.imp (fun a o na h => ⟨fun z => na (.inl z), h⟩) d v r1) h1
def dsRetN : TDS := fun D _ n => D.rt .non n
theorem ds_retN : DS W X (.Return none pos) dsRetN := ⟨_, ps_retN, fun B O σ δ H n D F p h s => s.rt .non .non H n (fun b o _ _ e => e) p.good rfl h⟩
def dsIf (c : TDT) (t u : TDS) : TDS := fun D δ n => c δ n fun b n1 => if b = true then t D δ n1 else u D δ n1
theorem ds_if {c : Expr} {a b : List Stmt} {tc : TDT} (hc : DT W X c tc) (ha : DSs W X a t) (hb : DSs W X b u) : DS W X (.If c a b pos) (dsIf tc t u) := by
  obtain ⟨tt, pc, rc⟩ := hc
  obtain ⟨ts, ps, rs⟩ := ha
  obtain ⟨us, pu, ru⟩ := hb
  refine ⟨_, ps_if pc ps pu, fun B O σ δ H n D F p h s => rc B O σ δ H n _ _ p h fun k H1 n1 g1 q1 h1 => ?_⟩
  have p1 := p.step g1 q1
  have s1 := s.from (Gn.of (O := O) g1) q1
  cases k with
  | true => exact iteT (rs B O σ δ H1 n1 D F p1 (by simpa using h1) s1)
  | false => exact iteF (ru B O σ δ H1 n1 D F p1 (by simpa using h1) s1)
def dsDrop (te : TD) : TDS := fun D δ n => te δ n fun _ n1 => D.nx δ n1
theorem ds_expr (he : DE W X e te) (hs : swapsWith e none pos.line X.env = pure false := by rfl) : DS W X (.Expr e pos) (dsDrop te) := by
  obtain ⟨tt, pe, re⟩ := he
  refine ⟨_, ps_expr pe hs, fun B O σ δ H n D F p h s => re B O σ δ H n _ _ p h fun v d H1 n1 g1 q1 r1 h1 => ?_⟩
  exact s.nx O σ δ H1 n1 (p.step g1 q1) (Gn.of g1) h1

/-! ### stores -/
theorem set_lookup {α : Type} {l : List α} {i j : Nat} {x y : α} (h : (l.set i x)[j]? = some y) : (j = i ∧ i < l.length ∧ y = x) ∨ (j ≠ i ∧ l[j]? = some y) := by
  by_cases e : i = j
  · subst e
    by_cases hl : i < l.length
    · rw [List.getElem?_set_self hl] at h
      exact .inl ⟨rfl, hl, (Option.some.inj h).symm⟩
    · rw [List.getElem?_eq_none (by simpa using hl)] at h; cases h
  · rw [List.getElem?_set_ne e] at h
    exact .inr ⟨fun z => e z.symm, h⟩
variable {B O : Addr → Prop} {σ : L2.St} {δ : List E} {H : Hp} {n : Nat}
theorem Pre.set (p : Pre W K B O σ δ H n) (i : Nat) {d : D} {v : V} (r : Rep K (AV B O) H d v) : Pre W K B O (σ.set i (some v)) (δ.set i (.val d)) H n := by
  have hlen := p.env.len
  refine ⟨p.core, p.trk, p.dj, ⟨by simpa using hlen, fun j x e => ?_, fun j ds e => ?_, fun j l ds es a e1 e2 e3 e4 => ?_⟩, p.good⟩
  · rcases set_lookup e with ⟨rfl, hl, e⟩ | ⟨ne, e⟩
    · cases e
      exact ⟨v, by rw [List.getElem?_set_self (by omega)], r⟩
    · obtain ⟨w, h1, h2⟩ := p.env.val j x e
      exact ⟨w, by rw [List.getElem?_set_ne (Ne.symm ne)]; exact h1, h2⟩
  · rcases set_lookup e with ⟨rfl, hl, e⟩ | ⟨ne, e⟩
    · cases e
    · obtain ⟨a, vs, h1, h2⟩ := p.env.own j ds e
      exact ⟨a, vs, by rw [List.getElem?_set_ne (Ne.symm ne)]; exact h1, h2⟩
  · rcases set_lookup e1 with ⟨rfl, hl, e⟩ | ⟨ne1, e1⟩
    · cases e
    · rcases set_lookup e2 with ⟨rfl, hl, e⟩ | ⟨ne2, e2⟩
      · cases e
      · rw [List.getElem?_set_ne (Ne.symm ne1)] at e3
        rw [List.getElem?_set_ne (Ne.symm ne2)] at e4
        exact p.env.dis j l ds es a e1 e2 e3 e4
/-- a slot forgotten -/
theorem Pre.wipe (p : Pre W K B O σ δ H n) (i : Nat) : Pre W K B O (σ.set i .none) (δ.set i .emp) H n := by
  have hlen := p.env.len
  refine ⟨p.core, p.trk, p.dj, ⟨by simpa using hlen, fun j x e => ?_, fun j ds e => ?_, fun j l ds es a e1 e2 e3 e4 => ?_⟩, p.good⟩
  · rcases set_lookup e with ⟨rfl, hl, e⟩ | ⟨ne, e⟩
    · cases e
    · obtain ⟨w, h1, h2⟩ := p.env.val j x e
      exact ⟨w, by rw [List.getElem?_set_ne (Ne.symm ne)]; exact h1, h2⟩
  · rcases set_lookup e with ⟨rfl, hl, e⟩ | ⟨ne, e⟩
    · cases e
    · obtain ⟨a, vs, h1, h2⟩ := p.env.own j ds e
      exact ⟨a, vs, by rw [List.getElem?_set_ne (Ne.symm ne)]; exact h1, h2⟩
  · rcases set_lookup e1 with ⟨rfl, hl, e⟩ | ⟨ne1, e1⟩
    · cases e
    · rcases set_lookup e2 with ⟨rfl, hl, e⟩ | ⟨ne2, e2⟩
      · cases e
      · rw [List.getElem?_set_ne (Ne.symm ne1)] at e3
        rw [List.getElem?_set_ne (Ne.symm ne2)] at e4
        exact p.env.dis j l ds es a e1 e2 e3 e4
/-- a new list of one's own, under no name -/
theorem Pre.mine (p : Pre W K B O σ δ H n) {a : Addr} {u : HO} (ha : H a = .none) : Pre W K B (fun b => O b ∨ b = a) σ δ (upd H a u) n := by
  have keep : ∀ b o, H b = some o → upd H a u b = some o := fun b o e => (upd_ne (ne_of_none e ha)).trans e
  have im : ∀ b o, ¬ AV B O b → H b = some o → ¬ AV B (fun b => O b ∨ b = a) b ∧ upd H a u b = some o := fun b o nb e =>
    ⟨fun z => z.elim (fun z => nb (.inl z)) fun z => z.elim (fun z => nb (.inr z)) fun z => ne_of_none e ha z, keep b o e⟩
  refine ⟨p.core, fun b hb => ?_, fun b hb => ?_, ⟨p.env.len, fun j x e => ?_, fun j ds e => ?_, p.env.dis⟩, Wd.new p.good ha⟩
  · by_cases q : b = a
    · exact ⟨_, by rw [q]; exact upd_same⟩
    · obtain ⟨o, e⟩ := p.trk b (hb.elim .inl fun z => z.elim .inr fun z => (q z).elim)
      exact ⟨o, keep b o e⟩
  · rcases hb with z | z
    · exact p.dj b z
    · intro c
      obtain ⟨o, e⟩ := p.trk b (.inl c)
      rw [z, ha] at e; cases e
  · obtain ⟨w, h1, h2⟩ := p.env.val j x e
    exact ⟨w, h1, Rep.imp im x w h2⟩
  · obtain ⟨c, ws, h1, h2, h3, h4⟩ := p.env.own j ds e
    exact ⟨c, ws, h1, .inl h2, keep c _ h3, RepL.imp im ds ws h4⟩
/-- .. changed: nothing else is -/
theorem Pre.write (p : Pre W K B O σ δ H n) {a : Addr} {vs : List V} (ha : O a) (hno : ∀ (i : Nat) (ds : List D), δ[i]? = some (E.own ds) → σ[i]? ≠ some (some (V.ref a))) : Pre W K B O σ δ (upd H a (.lst vs)) n := by
  have im : ∀ b o, ¬ AV B O b → H b = some o → ¬ AV B O b ∧ upd H a (.lst vs) b = some o := fun b o nb e => ⟨nb, (upd_ne fun z => nb (.inr (by rw [z]; exact ha))).trans e⟩
  refine ⟨p.core, fun b hb => ?_, p.dj, ⟨p.env.len, fun j x e => ?_, fun j ds e => ?_, p.env.dis⟩, W.stay p.good fun b c => upd_ne fun z => p.noc a ha (by rw [← z]; exact c)⟩
  · by_cases q : b = a
    · exact ⟨_, by rw [q]; exact upd_same⟩
    · obtain ⟨o, e⟩ := p.trk b hb
      exact ⟨o, (upd_ne q).trans e⟩
  · obtain ⟨w, h1, h2⟩ := p.env.val j x e
    exact ⟨w, h1, Rep.imp im x w h2⟩
  · obtain ⟨c, ws, h1, h2, h3, h4⟩ := p.env.own j ds e
    refine ⟨c, ws, h1, h2, (upd_ne fun z => ?_).trans h3, RepL.imp im ds ws h4⟩
    rw [z] at h1
    exact hno j ds e h1
/-- a list of one's own comes under a name -/
theorem Pre.name (p : Pre W K B O σ δ H n) (i : Nat) {a : Addr} {vs : List V} {ds : List D} (ha : O a) (hv : H a = some (.lst vs)) (r : RepL K (AV B O) H ds vs) (hno : ∀ (j : Nat) (es : List D), δ[j]? = some (E.own es) → j ≠ i → σ[j]? ≠ some (some (V.ref a))) : Pre W K B O (σ.set i (some (.ref a))) (δ.set i (.own ds)) H n := by
  have hlen := p.env.len
  refine ⟨p.core, p.trk, p.dj, ⟨by simpa using hlen, fun j x e => ?_, fun j es e => ?_, fun j l es fs c e1 e2 e3 e4 => ?_⟩, p.good⟩
  · rcases set_lookup e with ⟨rfl, hl, e⟩ | ⟨ne, e⟩
    · cases e
    · obtain ⟨w, h1, h2⟩ := p.env.val j x e
      exact ⟨w, by rw [List.getElem?_set_ne (Ne.symm ne)]; exact h1, h2⟩
  · rcases set_lookup e with ⟨rfl, hl, e⟩ | ⟨ne, e⟩
    · cases e
      exact ⟨a, vs, by rw [List.getElem?_set_self (by omega)], ha, hv, r⟩
    · obtain ⟨a, vs, h1, h2⟩ := p.env.own j es e
      exact ⟨a, vs, by rw [List.getElem?_set_ne (Ne.symm ne)]; exact h1, h2⟩
  · rcases set_lookup e1 with ⟨q1, hl, e⟩ | ⟨ne1, f1⟩
    · rcases set_lookup e2 with ⟨q2, hl2, e'⟩ | ⟨ne2, f2⟩
      · exact q1.trans q2.symm
      · subst q1
        rw [List.getElem?_set_self (by omega)] at e3
        rw [List.getElem?_set_ne (Ne.symm ne2)] at e4
        cases e3
        exact absurd e4 (hno l fs f2 ne2)
    · rcases set_lookup e2 with ⟨q2, hl2, e'⟩ | ⟨ne2, f2⟩
      · subst q2
        rw [List.getElem?_set_self (by omega)] at e4
        rw [List.getElem?_set_ne (Ne.symm ne1)] at e3
        cases e4
        exact absurd e3 (hno j es f1 ne1)
      · rw [List.getElem?_set_ne (Ne.symm ne1)] at e3
        rw [List.getElem?_set_ne (Ne.symm ne2)] at e4
        exact p.env.dis j l es fs c f1 f2 e3 e4
end
end DL

set_option Elab.async false
set_option linter.all false
set_option autoImplicit false
set_option maxRecDepth 100000
set_option maxHeartbeats 4000000
namespace DL
open PySem PySem.Spec PyProof.Rows L2
section
variable {W : Wd} {X : Cx} {K : PySem.W.Frag} {st : Stmt} {rest : List Stmt} {t u : TDS} {e : Expr} {te : TD} {pos : Pos}
variable {B O : Addr → Prop} {σ : L2.St} {δ : List E} {H : Hp} {n : Nat}
/-! ### a list of one's own -/
theorem Pre.fresh_own (p : Pre W K B O σ δ H n) {a : Addr} (ha : H a = .none) : ∀ (i : Nat) (ds : List D), δ[i]? = some (E.own ds) → σ[i]? ≠ some (some (V.ref a)) := fun i ds e z => by
  obtain ⟨c, vs, h1, h2, h3, h4⟩ := p.env.own i ds e
  rw [h1] at z
  cases z
  exact no_both h3 ha
/-- the state behind a fresh list that comes under a name -/
theorem Pre.put (p : Pre W K B O σ δ H n) (i : Nat) {H1 : Hp} {n1 : Nat} {a : Addr} {vs : List V} {ds : List D} (ha : H a = .none) (g : Gr W H H1) (q : W.good n1 H1) (hv : H1 a = some (.lst vs)) (r : RepL K (fun b => AV B O b ∨ b = a) H1 ds vs) :
    Pre W K B (fun b => O b ∨ b = a) (σ.set i (some (.ref a))) (δ.set i (.own ds)) H1 n1 ∧ Gn W O H (fun b => O b ∨ b = a) H1 := by
  have p1 := p.step g q
  have im : ∀ b o, ¬ AV B O b → H b = some o → ¬ AV B (fun b => O b ∨ b = a) b ∧ H1 b = some o := fun b o nb e =>
    ⟨fun z => z.elim (fun z => nb (.inl z)) fun z => z.elim (fun z => nb (.inr z)) fun z => no_both e (z ▸ ha), g b o (fun c => nb (.inl (p.core b c))) e⟩
  have p2 : Pre W K B (fun b => O b ∨ b = a) σ δ H1 n1 := by
    refine ⟨p.core, fun b hb => ?_, fun b hb => ?_, ⟨p.env.len, fun j x e => ?_, fun j es e => ?_, p.env.dis⟩, q⟩
    · by_cases z : b = a
      · exact ⟨_, z ▸ hv⟩
      · exact p1.trk b (hb.elim .inl fun z' => z'.elim .inr fun z' => (z z').elim)
    · rcases hb with z | z
      · exact p.dj b z
      · intro c
        obtain ⟨o, e⟩ := p.trk b (.inl c)
        exact no_both e (z ▸ ha)
    · obtain ⟨w, h1, h2⟩ := p.env.val j x e
      exact ⟨w, h1, Rep.imp im x w h2⟩
    · obtain ⟨c, ws, h1, h2, h3, h4⟩ := p.env.own j es e
      exact ⟨c, ws, h1, .inl h2, g c _ (p.noc c h2) h3, RepL.imp im es ws h4⟩
  refine ⟨p2.name i (.inr rfl) hv (RepL.imp (fun b o nb h => ⟨fun z => nb (z.elim (fun z => .inl (.inl z)) fun z => z.elim (fun z => .inl (.inr z)) .inr), h⟩) ds vs r) fun j es e _ => p.fresh_own ha j es e, ⟨fun b o c _ e => g b o c e, fun b z => z.elim .inl fun z => .inr (z ▸ ha)⟩⟩
/-- own to plain: the list is not changed any more -/
theorem Pre.freeze (p : Pre W K B O σ δ H n) {i : Nat} {ds : List D} (h : δ[i]? = some (.own ds)) : ∃ a, Pre W K B (fun b => O b ∧ b ≠ a) σ (δ.set i (.val (.lst ds))) H n ∧ Gn W O H (fun b => O b ∧ b ≠ a) H ∧ O a := by
  obtain ⟨a, vs, h1, h2, h3, h4⟩ := p.env.own i ds h
  have im : ∀ b o, ¬ AV B O b → H b = some o → ¬ AV B (fun b => O b ∧ b ≠ a) b ∧ H b = some o := fun b o nb e => ⟨fun z => nb (z.elim .inl fun z => .inr z.1), e⟩
  have hBa : ¬ B a := p.dj a h2
  refine ⟨a, ⟨p.core, fun b hb => p.trk b (hb.elim .inl fun z => .inr z.1), fun b z => p.dj b z.1, ⟨by simpa using p.env.len, fun j x e => ?_, fun j es e => ?_, fun j l es fs c e1 e2 e3 e4 => ?_⟩, p.good⟩, ⟨fun _ _ _ _ e => e, fun b z => .inl z.1⟩, h2⟩
  · rcases set_lookup e with ⟨rfl, hl, e⟩ | ⟨ne, e⟩
    · cases e
      exact ⟨.ref a, h1, a, vs, rfl, fun z => z.elim hBa fun z => z.2 rfl, h3, RepL.imp im ds vs h4⟩
    · obtain ⟨w, h1, h2⟩ := p.env.val j x e
      exact ⟨w, h1, Rep.imp im x w h2⟩
  · rcases set_lookup e with ⟨rfl, hl, e⟩ | ⟨ne, e⟩
    · cases e
    · obtain ⟨c, ws, k1, k2, k3, k4⟩ := p.env.own j es e
      refine ⟨c, ws, k1, ⟨k2, fun z => ne ?_⟩, k3, RepL.imp im es ws k4⟩
      subst z
      exact p.env.dis j i es ds c e h k1 h1
  · rcases set_lookup e1 with ⟨_, hl, e⟩ | ⟨ne1, f1⟩
    · cases e
    · rcases set_lookup e2 with ⟨_, hl, e⟩ | ⟨ne2, f2⟩
      · cases e
      · exact p.env.dis j l es fs c f1 f2 e3 e4
end
end DL

set_option Elab.async false
set_option linter.all false
set_option autoImplicit false
set_option maxRecDepth 100000
set_option maxHeartbeats 4000000
namespace DL
open PySem PySem.Spec PyProof.Rows L2
section
variable {W : Wd} {X : Cx} {K : PySem.W.Frag} {pos : Pos}
variable {B O : Addr → Prop} {σ : L2.St} {δ : List E} {H : Hp} {n : Nat}
/-! ### targets -/
abbrev TDG := D → List E → (List E → Prop) → Prop
def DGR (W : Wd) (K : PySem.W.Frag) (vs : List Nat) (g : TG) (t : TDG) : Prop := ∀ (B O : Addr → Prop) (σ : L2.St) (δ : List E) (H : Hp) (n : Nat) (v : V) (d : D) (Q : List E → Prop) (R : L2.St → Hp → Prop), Pre W K B O σ δ H n → Rep K (AV B O) H d v → t d δ Q →
  (∀ σ' δ', Pre W K B O σ' δ' H n → (∀ ws, (∀ i ∈ vs, i ∈ ws) → L2.wipe σ' ws = L2.wipe σ ws) → Q δ' → R σ' H) → g v σ H R
def DG (W : Wd) (X : Cx) (tg : Expr) (vs : List Nat) (t : TDG) : Prop := ∃ g, PG X tg g ∧ DGR W X.K vs g t
theorem wipe_set {i : Nat} {x : Option V} : ∀ {ws : List Nat} {σ : L2.St}, i ∈ ws → L2.wipe (σ.set i x) ws = L2.wipe σ ws
  | [], _, h => by cases h
  | w :: ws, σ, h => by
    unfold L2.wipe
    rcases List.mem_cons.mp h with e | e
    · subst e
      by_cases q : i ∈ ws
      · rw [wipe_set q]
      · have r : ∀ {us : List Nat} {τ : L2.St}, i ∉ us → L2.wipe (τ.set i x) us = (L2.wipe τ us).set i x := by
          intro us
          induction us with
          | nil => intro τ _; rfl
          | cons u us ih =>
            intro τ hu
            unfold L2.wipe
            rw [ih (fun z => hu (List.mem_cons_of_mem _ z)), List.set_comm _ _ (fun z => hu (by rw [z]; exact List.mem_cons_self))]
        rw [r q, List.set_set]
    · rw [wipe_set e]
def gdName (i : Nat) : TDG := fun d δ Q => Q (δ.set i (.val d))
theorem dgr_name (i : Nat) : DGR W K [i] (gName i) (gdName i) := fun B O σ δ H n v d Q R p r h hR =>
  hR _ _ (p.set i r) (fun ws hw => wipe_set (hw i (by simp))) h
theorem dg_name (i : Nat) {e : Expr} (h : PG X e (gName i)) : DG W X e [i] (gdName i) := ⟨_, h, dgr_name i⟩
abbrev TDGs := List D → List E → (List E → Prop) → Prop
def DGRs (W : Wd) (K : PySem.W.Frag) (vs : List Nat) (g : TGs) (t : TDGs) : Prop := ∀ (B O : Addr → Prop) (σ : L2.St) (δ : List E) (H : Hp) (n : Nat) (us : List V) (ds : List D) (Q : List E → Prop) (R : L2.St → Hp → Prop), Pre W K B O σ δ H n → RepL K (AV B O) H ds us → t ds δ Q →
  (∀ σ' δ', Pre W K B O σ' δ' H n → (∀ ws, (∀ i ∈ vs, i ∈ ws) → L2.wipe σ' ws = L2.wipe σ ws) → Q δ' → R σ' H) → g us σ H R
def DGs (W : Wd) (X : Cx) (tg : List Expr) (vs : List Nat) (t : TDGs) : Prop := ∃ g, PGs X tg g ∧ DGRs W X.K vs g t
def gdNil : TDGs
  | [], δ, Q => Q δ
  | _ :: _, _, _ => False
def gdCons (t : TDG) (u : TDGs) : TDGs
  | d :: ds, δ, Q => t d δ fun δ1 => u ds δ1 Q
  | [], _, _ => False
theorem dgs_nil : DGs W X [] [] gdNil := ⟨_, pgs_nil, fun B O σ δ H n us ds Q R p r h hR => by
  cases ds with
  | nil => cases r; exact ⟨rfl, hR σ δ p (fun _ _ => rfl) h⟩
  | cons _ _ => exact h.elim⟩
theorem dgs_cons {e : Expr} {es : List Expr} {vs ws : List Nat} {t : TDG} {u : TDGs} (h1 : DG W X e vs t) (h2 : DGs W X es ws u) (hs : (assignEach (e :: es) X.env).map (·.2) = assign e X.env :: (assignEach es X.env).map (·.2) := by rfl) : DGs W X (e :: es) (vs ++ ws) (gdCons t u) := by
  obtain ⟨g, pg, rg⟩ := h1
  obtain ⟨gs, pgs, rgs⟩ := h2
  refine ⟨_, pgs_cons pg pgs hs, fun B O σ δ H n us ds Q R p r h hR => ?_⟩
  cases ds with
  | nil => exact h.elim
  | cons d ds =>
    obtain ⟨v, vr, rfl, r1, r2⟩ := r
    refine ⟨v, vr, rfl, rg B O σ δ H n v d _ _ p r1 h fun σ1 δ1 p1 w1 h1 => ?_⟩
    exact rgs B O σ1 δ1 H n vr ds _ _ p1 r2 h1 fun σ2 δ2 p2 w2 h2 => hR σ2 δ2 p2 (fun xs hx => (w2 xs fun i hi => hx i (List.mem_append_right _ hi)).trans (w1 xs fun i hi => hx i (List.mem_append_left _ hi))) h2
def gdTup (k : Nat) (t : TDGs) : TDG := fun d δ Q => match d with
  | .tup ds => ds.length = k ∧ t ds δ Q
  | _ => False
theorem dg_tup {es : List Expr} {kk k : Nat} {vs : List Nat} {t : TDGs} (hc : X.calm = true) (h : DGs W X es vs t) (hn : (assignEach es X.env).length = k := by rfl) (hst : (assignEach es X.env).findIdx? (·.1) = none := by rfl) : DG W X (.Tuple es kk pos) vs (gdTup k t) := by
  obtain ⟨g, pg, rg⟩ := h
  refine ⟨_, pg_tup hc pg hn hst, fun B O σ δ H n v d Q R p r h hR => ?_⟩
  cases d with
  | tup ds =>
    obtain ⟨a, us, rfl, ha, ru⟩ := r
    exact ⟨a, us, rfl, ha.elim (fun z => SqT.of z.2) .inr, by rw [ru.length]; exact h.1, rg B O σ δ H n us ds Q R p ru h.2 hR⟩
  | _ => exact h.elim
/-! ### what is walked -/
/-- from H0 on J yields the values ds -/
def Src (W : Wd) (K : PySem.W.Frag) (B O : Addr → Prop) (H0 : Hp) (J : It) (ds : List D) : Prop := ∃ (G : Hp → Prop) (Y : Nat → Hp → V → Hp → Prop), Walk J ds.length G Y ∧
  ∀ (O' : Addr → Prop) (σ' : L2.St) (δ' : List E) (H : Hp) (n' : Nat), Pre W K B O' σ' δ' H n' → Gn W O H0 O' H → G H ∧ ∀ (i : Nat) (x : V) (H' : Hp), i < ds.length → Y i H x H' → Gr W H H' ∧ W.good n' H' ∧ ∃ d, ds[i]? = some d ∧ Rep K (AV B O') H' d x
def DIR (W : Wd) (K : PySem.W.Frag) (wi : TI) (t : TDA) : Prop := ∀ (B O : Addr → Prop) (σ : L2.St) (δ : List E) (H : Hp) (n : Nat) (Q : List D → Nat → Prop) (R : It → Hp → Prop), Pre W K B O σ δ H n → t δ n Q →
  (∀ J H' n' ds, Gr W H H' → W.good n' H' → Src W K B O H' J ds → Q ds n' → R J H') → wi σ H R
def DI (W : Wd) (X : Cx) (tg iter : Expr) (t : TDA) : Prop := ∃ wi, PI X tg iter wi ∧ DIR W X.K wi t

/-! ### for -/
def forD (g : TDG) (tb : TDS) : List D → DEnds → List E → Nat → Prop
  | [], D, δ, n => D.nx δ n
  | x :: r, D, δ, n => g x δ fun δ1 => tb { nx := forD g tb r D, ct := forD g tb r D, bk := D.nx, rt := D.rt } δ1 n
def dsFor (ti : TDA) (g : TDG) (tb : TDS) : TDS := fun D δ n => ti δ n fun ds n1 => forD g tb ds D δ n1
theorem ds_for {tg iter : Expr} {body : List Stmt} {ti : TDA} {vs : List Nat} {g : TDG} {tb : TDS} (hp : PassesOwn (model X.prog X.w) X.A X.env X.xe) (hc : X.calm = true) (hi : DI W X tg iter ti) (hg : DG W X tg vs g) (hb : DSs W X body tb)
    (hs : ∀ x, foldedSetIterable iter X.env x = pure x := by intro _; rfl) : DS W X (.For tg iter body [] pos) (dsFor ti g tb) := by
  obtain ⟨wi, pi, ri⟩ := hi
  obtain ⟨gg, pg, rg⟩ := hg
  obtain ⟨ts, ps, rs⟩ := hb
  refine ⟨_, ps_for hp hc pi pg ps hs, fun B O σ δ H n D F p h s => ?_⟩
  refine ri B O σ δ H n _ _ p h fun J H1 n1 ds g1 q1 src h1 => ?_
  have p1 := p.step g1 q1
  have s1 := s.from (Gn.of (O := O) g1) q1
  obtain ⟨G, Y, wk, src⟩ := src
  refine for_it wk (fun i σ' H' => ∃ O' δ' n', Pre W X.K B O' σ' δ' H' n' ∧ Gn W O H1 O' H' ∧ forD g tb (ds.drop i) D δ' n') ⟨O, δ, n1, p1, Gn.refl, h1⟩ (fun i σ' H' _ ⟨O', δ', n', p', g', _⟩ => (src O' σ' δ' H' n' p' g').1) ?_ ?_
  · rintro i x σ' H' H2 hi ⟨O', δ', n', p', g', h'⟩ y
    obtain ⟨g2, q2, d, hd, r2⟩ := (src O' σ' δ' H' n' p' g').2 i x H2 hi y
    have p2 := p'.step g2 q2
    have gg2 := g'.trans p'.good (Gn.of (O := O') g2)
    have e : ds.drop i = d :: ds.drop (i + 1) := by
      obtain ⟨hl, e⟩ := List.getElem?_eq_some_iff.mp hd
      rw [← e]
      exact List.drop_eq_getElem_cons hl
    rw [e] at h'
    refine rg B O' σ' δ' H2 n' x d _ _ p2 r2 h' fun σ3 δ3 p3 _ h3 => ?_
    refine rs B O' σ3 δ3 H2 n' _ _ p3 h3 ⟨fun O4 σ4 δ4 H4 n4 p4 g4 h4 => ⟨O4, δ4, n4, p4, gg2.trans p2.good g4, h4⟩, fun O4 σ4 δ4 H4 n4 p4 g4 h4 => s1.nx O4 σ4 δ4 H4 n4 p4 (gg2.trans p2.good g4) h4,
      fun O4 σ4 δ4 H4 n4 p4 g4 h4 => ⟨O4, δ4, n4, p4, gg2.trans p2.good g4, h4⟩, (s1.from gg2 p2.good).rt⟩
  · rintro σ' H' ⟨O', δ', n', p', g', h'⟩
    rw [List.drop_eq_nil_of_le (Nat.le_refl _)] at h'
    exact s1.nx O' σ' δ' H' n' p' g' h'
/-- how a loop is read: by what holds ahead of each turn -/
theorem forD_inv {g : TDG} {tb : TDS} {Dn : DEnds} (ds : List D) (P : Nat → List E → Nat → Prop) (hs : ∀ (i : Nat) (d : D) (δ : List E) (n : Nat) (D' : DEnds), ds[i]? = some d → P i δ n → (∀ δ n, P (i + 1) δ n → D'.nx δ n) → (∀ δ n, P (i + 1) δ n → D'.ct δ n) → D'.bk = Dn.nx → D'.rt = Dn.rt → g d δ fun δ1 => tb D' δ1 n)
    (hd : ∀ δ n, P ds.length δ n → Dn.nx δ n) : ∀ {δ : List E} {n : Nat}, P 0 δ n → forD g tb ds Dn δ n := by
  have go : ∀ (r : List D) (i : Nat), ds.drop i = r → i ≤ ds.length → ∀ δ n, P i δ n → forD g tb r Dn δ n := by
    intro r
    induction r with
    | nil =>
      intro i e hi δ n h
      have hl : ds.length ≤ i := by
        have := congrArg List.length e
        rw [List.length_drop, List.length_nil] at this
        omega
      have e2 : i = ds.length := by omega
      subst e2
      exact hd δ n h
    | cons d r ih =>
      intro i e hi δ n h
      have hlt : i < ds.length := by
        have := congrArg List.length e
        rw [List.length_drop, List.length_cons] at this
        omega
      have e2 : ds.drop i = ds[i] :: ds.drop (i + 1) := List.drop_eq_getElem_cons hlt
      rw [e] at e2
      injection e2 with e3 e4
      have nx := ih (i + 1) e4.symm hlt
      exact hs i d δ n _ (by rw [e3]; exact List.getElem?_eq_getElem hlt) h nx nx rfl rfl
  intro δ n h
  exact go ds 0 rfl (Nat.zero_le _) δ n h
end
end DL

set_option Elab.async false
set_option linter.all false
set_option autoImplicit false
set_option maxRecDepth 100000
set_option maxHeartbeats 4000000
namespace DL
open PySem PySem.Spec PyProof.Rows L2
section
variable {W : Wd} {X : Cx} {K : PySem.W.Frag} {pos : Pos}
variable {B O : Addr → Prop} {σ : L2.St} {δ : List E} {H : Hp} {n : Nat}
/-! ### sources -/
theorem Pre.stays (p : Pre W K B O σ δ H n) {O' : Addr → Prop} {H' : Hp} (g : Gn W O H O' H') {a : Addr} {o : HO} (na : ¬ AV B O a) (e : H a = some o) : H' a = some o := g.keep a o (fun c => na (.inl (p.core a c))) (fun c => na (.inr c)) e
theorem src_list (p : Pre W K B O σ δ H n) {a : Addr} {vs : List V} {ds : List D} (na : ¬ AV B O a) (ha : H a = some (.lst vs)) (r : RepL K (AV B O) H ds vs) : Src W K B O H (Itl K a) ds := by
  refine ⟨fun H => SqL K H a vs, YAt vs, by rw [← r.length]; exact walk_list, fun O' σ' δ' H' n' p' g => ⟨SqL.of (p.stays g na ha), fun i x H2 hi y => ?_⟩⟩
  obtain ⟨rfl, hx⟩ := y
  obtain ⟨d, hd, rd⟩ := (p.laterL g r).getV hx
  exact ⟨Gr.refl _, p'.good, d, hd, rd⟩
theorem src_tup (p : Pre W K B O σ δ H n) {a : Addr} {vs : List V} {ds : List D} (ha : (¬ AV B O a ∧ H a = some (.tup vs)) ∨ KTup K a vs) (r : RepL K (AV B O) H ds vs) : Src W K B O H (Itt K a) ds := by
  refine ⟨fun H => SqT K H a vs, YAt vs, by rw [← r.length]; exact walk_tup, fun O' σ' δ' H' n' p' g => ⟨ha.elim (fun z => SqT.of (p.stays g z.1 z.2)) .inr, fun i x H2 hi y => ?_⟩⟩
  obtain ⟨rfl, hx⟩ := y
  obtain ⟨d, hd, rd⟩ := (p.laterL g r).getV hx
  exact ⟨Gr.refl _, p'.good, d, hd, rd⟩
def dRng (lo : Int) (n : Nat) : List D := (List.range n).map fun i => D.int (lo + (i : Nat))
theorem dRng_len (lo : Int) (n : Nat) : (dRng lo n).length = n := by unfold dRng; rw [List.length_map, List.length_range]
theorem dRng_at (lo : Int) {n i : Nat} (h : i < n) : (dRng lo n)[i]? = some (D.int (lo + (i : Nat))) := by
  unfold dRng
  rw [List.getElem?_map, List.getElem?_range h]
  rfl
theorem src_range (lo : Int) (m : Nat) : Src W K B O H (Itr lo m) (dRng lo m) := by
  refine ⟨fun _ => True, YFn fun i => .int (lo + (i : Nat)), by rw [dRng_len]; exact walk_range, fun O' σ' δ' H' n' p' g => ⟨trivial, fun i x H2 hi y => ?_⟩⟩
  obtain ⟨rfl, rfl⟩ := y
  rw [dRng_len] at hi
  exact ⟨Gr.refl _, p'.good, _, dRng_at lo hi, rfl⟩
def dSigns (z : Str) : List D := z.cps.toList.map fun c => D.str ⟨#[c]⟩
theorem src_str (z : Str) : Src W K B O H (Its z) (dSigns z) := by
  have hl : (dSigns z).length = z.cps.size := by unfold dSigns; rw [List.length_map, Array.length_toList]
  refine ⟨fun _ => True, fun i H v H' => H' = H ∧ ∃ c, z.cps[i]? = some c ∧ v = .str ⟨#[c]⟩, by rw [hl]; exact walk_str, fun O' σ' δ' H' n' p' g => ⟨trivial, fun i x H2 hi y => ?_⟩⟩
  obtain ⟨rfl, c, hc, rfl⟩ := y
  refine ⟨Gr.refl _, p'.good, .str ⟨#[c]⟩, ?_, rfl⟩
  unfold dSigns
  rw [List.getElem?_map, Array.getElem?_toList, hc]
  rfl
def diLst (t : TD) : TDA := fun δ n Q => t δ n fun x n1 => match x with
  | .lst ds => Q ds n1
  | _ => False
def diTup (t : TD) : TDA := fun δ n Q => t δ n fun x n1 => match x with
  | .tup ds => Q ds n1
  | _ => False
def diStr (t : TD) : TDA := fun δ n Q => t δ n fun x n1 => match x with
  | .str z => Q (dSigns z) n1
  | _ => False
def diScr (t : TD) : TDA := fun δ n Q => t δ n fun x n1 => match x with
  | .scr ns => Q (ns.map D.int) n1
  | _ => False
section
variable {tg e : Expr} {t : TD}
theorem di_list (h : DE W X e t) : DI W X tg e (diLst t) := by
  obtain ⟨te, pe, re⟩ := h
  refine ⟨_, pi_list pe, fun B O σ δ H n Q R p ht hR => re B O σ δ H n _ _ p ht fun v d H1 n1 g1 q1 r1 h1 => ?_⟩
  cases d with
  | lst ds =>
    obtain ⟨a, vs, rfl, na, ha, ra⟩ := r1
    exact ⟨a, rfl, ⟨vs, SqL.of ha⟩, hR _ H1 n1 ds g1 q1 (src_list (p.step g1 q1) na ha ra |> fun s => s) h1⟩
  | _ => exact h1.elim
theorem di_tup (h : DE W X e t) : DI W X tg e (diTup t) := by
  obtain ⟨te, pe, re⟩ := h
  refine ⟨_, pi_tup pe, fun B O σ δ H n Q R p ht hR => re B O σ δ H n _ _ p ht fun v d H1 n1 g1 q1 r1 h1 => ?_⟩
  cases d with
  | tup ds =>
    obtain ⟨a, vs, rfl, ha, ra⟩ := r1
    exact ⟨a, rfl, ⟨vs, ha.elim (fun z => SqT.of z.2) .inr⟩, hR _ H1 n1 ds g1 q1 (src_tup (p.step g1 q1) ha ra) h1⟩
  | _ => exact h1.elim
theorem di_str (h : DE W X e t) : DI W X tg e (diStr t) := by
  obtain ⟨te, pe, re⟩ := h
  refine ⟨_, pi_str pe, fun B O σ δ H n Q R p ht hR => re B O σ δ H n _ _ p ht fun v d H1 n1 g1 q1 r1 h1 => ?_⟩
  cases d with
  | str z =>
    cases r1
    exact ⟨z, rfl, hR _ H1 n1 _ g1 q1 (src_str z) h1⟩
  | _ => exact h1.elim
theorem di_scr (h : DE W X e t) : DI W X tg e (diScr t) := by
  obtain ⟨te, pe, re⟩ := h
  refine ⟨_, pi_list pe, fun B O σ δ H n Q R p ht hR => re B O σ δ H n _ _ p ht fun v d H1 n1 g1 q1 r1 h1 => ?_⟩
  cases d with
  | scr ns =>
    obtain ⟨a, rfl, ha⟩ := r1
    have hs : ∀ {O' : Addr → Prop} {H' : Hp}, Gn W O H1 O' H' → SqL X.K H' a (ns.map V.int) := fun {O' H'} g => by
      rcases ha with ⟨o, na, ha⟩ | ha
      · exact .inl (.inr ⟨o, (p.step g1 q1).stays g na ha⟩)
      · exact .inr ha
    refine ⟨a, rfl, ⟨_, hs (Gn.refl (O := O))⟩, hR _ H1 n1 (ns.map D.int) g1 q1 ⟨fun H => SqL X.K H a (ns.map V.int), YAt (ns.map V.int), by rw [List.length_map, ← List.length_map (f := V.int)]; exact walk_list, fun O' σ' δ' H' n' p' g => ⟨hs g, fun i x H2 hi y => ?_⟩⟩ h1⟩
    obtain ⟨rfl, hx⟩ := y
    rw [List.getElem?_map] at hx
    obtain ⟨k, hk, rfl⟩ := Option.map_eq_some_iff.mp hx
    exact ⟨Gr.refl _, p'.good, .int k, by rw [List.getElem?_map, hk]; rfl, rfl⟩
  | _ => exact h1.elim
/-- range(a), range(a, b) -/
def diR1 (t : TD) : TDA := fun δ n Q => t δ n fun x n1 => match x with
  | .int j => -(2 ^ 62) ≤ j ∧ j < 2 ^ 62 ∧ Q (dRng 0 j.toNat) n1
  | _ => False
theorem di_range1 {p : Pos} (hg : Gl X "range") (hm : X.mg "range" = none) (h : DE W X e t) (hs : starEach [e] X.env = [(false, eval e X.env)] := by rfl) : DI W X tg (.Call (.Name "range" p) [e] [] pos) (diR1 t) := by
  obtain ⟨te, pe, re⟩ := h
  refine ⟨_, pi_range1 hg hm (pa_cons pe pa_nil (by rw [hs]; rfl)) hs, fun B O σ δ H n Q R p ht hR => re B O σ δ H n _ _ p ht fun v d H1 n1 g1 q1 r1 h1 => ?_⟩
  cases d with
  | int j =>
    cases r1
    exact ⟨j, rfl, h1.1, h1.2.1, hR _ H1 n1 _ g1 q1 (src_range 0 _) h1.2.2⟩
  | _ => exact h1.elim
def diR2 (t u : TD) : TDA := fun δ n Q => t δ n fun x n1 => u δ n1 fun y n2 => match x, y with
  | .int i, .int j => (-(2 ^ 62) ≤ i ∧ i < 2 ^ 62 ∧ -(2 ^ 62) ≤ j ∧ j < 2 ^ 62) ∧ Q (dRng i (j - i).toNat) n2
  | _, _ => False
theorem di_range2 {e2 : Expr} {t2 : TD} {p : Pos} (hg : Gl X "range") (hm : X.mg "range" = none) (h : DE W X e t) (h2 : DE W X e2 t2) (hs : starEach [e, e2] X.env = [(false, eval e X.env), (false, eval e2 X.env)] := by rfl) (hs2 : starEach [e2] X.env = [(false, eval e2 X.env)] := by rfl) :
    DI W X tg (.Call (.Name "range" p) [e, e2] [] pos) (diR2 t t2) := by
  obtain ⟨te, pe, re⟩ := h
  obtain ⟨tf, pf, rf⟩ := h2
  refine ⟨_, pi_range2 hg hm (pa_cons pe (pa_cons pf pa_nil (by rw [hs2]; rfl)) (by rw [hs, hs2])) hs hs2, fun B O σ δ H n Q R p ht hR => re B O σ δ H n _ _ p ht fun v d H1 n1 g1 q1 r1 h1 => ?_⟩
  refine rf B O σ δ H1 n1 _ _ (p.step g1 q1) h1 fun u d2 H2 n2 g2 q2 r2 h2 => ?_
  cases d with
  | int i =>
    cases d2 with
    | int j =>
      cases r1; cases r2
      exact ⟨i, j, rfl, h2.1, hR _ H2 n2 _ (g1.trans g2) q2 (src_range i _) h2.2⟩
    | _ => exact h2.elim
  | _ => exact h2.elim
end
/-! ### comprehensions -/
def wipeD (δ : List E) : List Nat → List E
  | [] => δ
  | v :: vs => (wipeD δ vs).set v .emp
theorem Pre.wipes (p : Pre W K B O σ δ H n) : ∀ vs : List Nat, Pre W K B O (L2.wipe σ vs) (wipeD δ vs) H n
  | [] => p
  | v :: vs => (p.wipes vs).wipe v
theorem wipe_sub {ws : List Nat} : ∀ {us : List Nat} {σ : L2.St}, (∀ i ∈ us, i ∈ ws) → L2.wipe (L2.wipe σ us) ws = L2.wipe σ ws
  | [], _, _ => rfl
  | u :: us, σ, h => by
    show L2.wipe ((L2.wipe σ us).set u .none) ws = _
    rw [wipe_set (h u List.mem_cons_self), wipe_sub fun i hi => h i (List.mem_cons_of_mem _ hi)]
/-- the reading over the heap that a reading over data stands for -/
def TEof (W : Wd) (K : PySem.W.Frag) (t : TD) : TE := fun σ H R => ∃ (B O : Addr → Prop) (δ : List E) (n : Nat) (Q : D → Nat → Prop), Pre W K B O σ δ H n ∧ t δ n Q ∧ ∀ v d H' n', Gr W H H' → W.good n' H' → Rep K (AV B O) H' d v → Q d n' → R v H'
theorem DE.canon {e : Expr} {t : TD} (h : DE W X e t) : PE X e (TEof W X.K t) := by
  obtain ⟨te, pe, re⟩ := h
  exact ⟨fun pins s σ H R I ⟨B, O, δ, n, Q, p, ht, hR⟩ => pe.run pins s σ H R I (re B O σ δ H n Q R p ht hR)⟩
theorem TEof.der {t : TD} : DER W K (TEof W K t) t := fun B O σ δ H n Q R p ht hR => ⟨B, O, δ, n, Q, p, ht, hR⟩
def TTof (W : Wd) (K : PySem.W.Frag) (t : TDT) : TT := fun σ H R => ∃ (B O : Addr → Prop) (δ : List E) (n : Nat) (Q : Bool → Nat → Prop), Pre W K B O σ δ H n ∧ t δ n Q ∧ ∀ v H' n', Gr W H H' → W.good n' H' → Q v n' → R v H'
def DTs (W : Wd) (X : Cx) (ifs : List Expr) (t : TDT) : Prop := ∃ te, PTs X ifs te ∧ DTR W X.K te t
theorem DTs.canon {e : List Expr} {t : TDT} (h : DTs W X e t) : PTs X e (TTof W X.K t) := by
  obtain ⟨te, pe, re⟩ := h
  exact ⟨fun pins s σ H R I ⟨B, O, δ, n, Q, p, ht, hR⟩ => pe.run pins s σ H R I (re B O σ δ H n Q R p ht hR)⟩
theorem TTof.dtr {t : TDT} : DTR W K (TTof W K t) t := fun B O σ δ H n Q R p ht hR => ⟨B, O, δ, n, Q, p, ht, hR⟩
def TGof (W : Wd) (K : PySem.W.Frag) (vs : List Nat) (t : TDG) : TG := fun v σ H R => ∃ (B O : Addr → Prop) (δ : List E) (n : Nat) (d : D) (Q : List E → Prop), Pre W K B O σ δ H n ∧ Rep K (AV B O) H d v ∧ t d δ Q ∧
  ∀ σ' δ', Pre W K B O σ' δ' H n → (∀ ws, (∀ i ∈ vs, i ∈ ws) → L2.wipe σ' ws = L2.wipe σ ws) → Q δ' → R σ' H
theorem DG.canon {e : Expr} {vs : List Nat} {t : TDG} (h : DG W X e vs t) : PG X e (TGof W X.K vs t) := by
  obtain ⟨g, pg, rg⟩ := h
  exact ⟨fun pins s σ H v u R I r ⟨B, O, δ, n, d, Q, p, rr, ht, hR⟩ => pg.run pins s σ H v u R I r (rg B O σ δ H n v d Q R p rr ht hR)⟩
theorem TGof.dgr {vs : List Nat} {t : TDG} : DGR W K vs (TGof W K vs t) t := fun B O σ δ H n v d Q R p r ht hR => ⟨B, O, δ, n, d, Q, p, r, ht, hR⟩
abbrev TDQ := List E → Nat → (Bool → Nat → Prop) → Prop
def compD (g : TDG) (tt : TDT) (te : TD) : List D → List D → List E → Nat → (List D → Nat → Prop) → Prop
  | [], acc, _, n, Q => Q acc n
  | x :: r, acc, δ, n, Q => g x δ fun δ1 => tt δ1 n fun b n1 => if b = true then te δ1 n1 fun y n2 => acc.length < sizeLine ∧ compD g tt te r (acc ++ [y]) δ n2 Q else compD g tt te r acc δ n1 Q
def dComp (ti : TDA) (g : TDG) (tt : TDT) (te : TD) (vs : List Nat) : TDA := fun δ n Q => ti δ n fun ds n1 => compD g tt te ds [] (wipeD δ vs) n1 Q
theorem dlr_comp {wi : TI} {ti : TDA} {gg : TG} {g : TDG} {tt : TT} {td : TDT} {te : TE} {t : TD} {vs ws : List Nat} (ri : DIR W K wi ti) (rg : DGR W K ws gg g) (rt : DTR W K tt td) (re : DER W K te t) (hv : ∀ i ∈ ws, i ∈ vs) : DLR W K (tLc wi gg tt te vs) (dComp ti g td t vs) := by
  intro B O σ δ H n Q R p h hR
  refine ri B O σ δ H n _ _ p h fun J H1 n1 ds g1 q1 src h1 => ?_
  have p1 := p.step g1 q1
  intro a ha
  have h0 : H a = .none := g1.free q1 ha
  obtain ⟨G, Y, wk, src⟩ := src
  have pw := (p1.wipes vs).mine (u := .lst []) ha
  have gn0 : Gn W O H1 (fun b => O b ∨ b = a) (upd H1 a (.lst [])) := ⟨fun b o _ _ e => (upd_ne (ne_of_none e ha)).trans e, fun b z => z.elim .inl fun z => .inr (by rw [z]; exact ha)⟩
  have noown : ∀ (σ' : L2.St) (δ' : List E) (H' : Hp) (n' : Nat), True := fun _ _ _ _ => trivial
  refine lc_it wk (fun i H' => ∃ acc us n', Pre W K B (fun b => O b ∨ b = a) (L2.wipe σ vs) (wipeD δ vs) H' n' ∧ Gr W H1 H' ∧ H' a = some (.lst us) ∧ RepL K (AV B fun b => O b ∨ b = a) H' acc us ∧ compD g td t (ds.drop i) acc (wipeD δ vs) n' Q)
    ⟨[], [], n1, pw, Gr.new ha, upd_same, rfl, h1⟩ (fun i H' _ ⟨acc, us, n', p', g', _⟩ => ?_) ?_ ?_
  · exact (src _ _ _ H' n' p' ⟨fun b o c _ e => g' b o c e, gn0.new⟩).1
  · rintro i x H' H2 hi ⟨acc, us, n', p', g', hA, rA, hC⟩ y
    obtain ⟨g2, q2, d, hd, r2⟩ := (src _ _ _ H' n' p' ⟨fun b o c _ e => g' b o c e, gn0.new⟩).2 i x H2 hi y
    have p2 := p'.step g2 q2
    have e : ds.drop i = d :: ds.drop (i + 1) := by
      obtain ⟨hl, e⟩ := List.getElem?_eq_some_iff.mp hd
      rw [← e]
      exact List.drop_eq_getElem_cons hl
    rw [e] at hC
    have nca : ¬ W.core a := p'.noc a (.inr rfl)
    refine rg B _ _ _ H2 n' x d _ _ p2 r2 hC fun σ3 δ3 p3 w3 h3 => ⟨?_, ?_⟩
    · exact (w3 vs hv).trans (wipe_sub fun _ h => h)
    refine rt B _ σ3 δ3 H2 n' _ _ p3 h3 fun b H3 n3 g3 q3 h3 => ?_
    have p4 := p3.step g3 q3
    have hno : ∀ (i : Nat) (ds : List D), (wipeD δ vs)[i]? = some (E.own ds) → (L2.wipe σ vs)[i]? ≠ some (some (V.ref a)) := fun i ds e z => by
      obtain ⟨c, ws, k1, _, k3, _⟩ := (p1.wipes vs).env.own i ds e
      rw [k1] at z; cases z
      exact no_both k3 ha
    cases b with
    | true =>
      refine iteT (re B _ σ3 δ3 H3 n3 _ _ p4 (by simpa using h3) fun v yd H4 n4 g4 q4 r4 h4 => ?_)
      have gA : Gr W H' H4 := g2.trans (g3.trans g4)
      have hA4 : H4 a = some (.lst us) := gA a _ nca hA
      refine ⟨us, hA4, by rw [rA.length]; exact h4.1, ?_⟩
      have p5 := p'.step gA q4
      have p6 := p5.write (vs := us ++ [v]) (.inr rfl) hno
      have im : ∀ b o, ¬ AV B (fun b => O b ∨ b = a) b → H4 b = some o → ¬ AV B (fun b => O b ∨ b = a) b ∧ upd H4 a (.lst (us ++ [v])) b = some o := fun b o nb e => ⟨nb, (upd_ne fun z => nb (.inr (.inr z))).trans e⟩
      refine ⟨acc ++ [yd], us ++ [v], n4, p6, fun b o c e => ?_, upd_same, RepL.imp im _ _ ((p'.repL gA rA).append ⟨v, [], rfl, r4, rfl⟩), h4.2⟩
      rw [upd_ne (ne_of_none e ha)]
      exact gA b o c (g' b o c e)
    | false =>
      refine iteF ?_
      have gA : Gr W H' H3 := g2.trans g3
      exact ⟨acc, us, n3, p'.step gA q3, g'.trans gA, gA a _ nca hA, p'.repL gA rA, by simpa using h3⟩
  · rintro H' ⟨acc, us, n', p', g', hA, rA, hC⟩
    rw [List.drop_eq_nil_of_le (Nat.le_refl _)] at hC
    refine hR a us acc H' n' h0 (g1.trans g') p'.good hA (RepL.imp (fun b o nb e => ⟨fun z => nb ?_, e⟩) acc us rA) hC
    exact z.elim (fun z => z.elim .inl fun z => .inr (.inl z)) fun z => .inr (.inr z)
section
variable {elt tg iter : Expr} {ifs : List Expr} {scope : Scope} {own : List (Str × Nat)} {ti : TDA} {g : TDG} {tt : TDT} {te : TD} {ws : List Nat}
def dtYes : TDT := fun _ n Q => Q true n
theorem dts_nil : DTs W X [] dtYes := ⟨_, pts_nil, fun B O σ δ H n Q R p ht hR => hR true H n (Gr.refl H) p.good ht⟩
theorem dts_one {c : Expr} (h : DT W X c tt) : DTs W X [c] tt := by
  obtain ⟨te, pe, re⟩ := h
  exact ⟨_, pts_one pe, re⟩
theorem dl_comp (hc : X.calm = true) (hN : X.N.Nodup) (hi : DI W X tg iter ti) (ok : BlkOk X.N X.env.scope scope own)
    (hg : ∀ (s : Shared) (H : Hp) (C : Addr) (cl : List (Str × Addr)) (fp : List Addr), DG W (X.blk s H scope (compEnvC scope cl C X.env) fp) tg ws g)
    (ht : ∀ (s : Shared) (H : Hp) (C : Addr) (cl : List (Str × Addr)) (fp : List Addr), DTs W (X.blk s H scope (compEnvC scope cl C X.env) fp) ifs tt)
    (he : ∀ (s : Shared) (H : Hp) (C : Addr) (cl : List (Str × Addr)) (fp : List Addr), DE W (X.blk s H scope (compEnvC scope cl C X.env) fp) elt te)
    (hv : ∀ i ∈ ws, i ∈ own.map (·.2) := by decide) (hs : ∀ x, foldedSetIterable iter X.env x = pure x := by intro _; rfl) :
    DL W X (.ListComp elt [⟨tg, iter, ifs, 0⟩] scope pos) (dComp ti g tt te (own.map (·.2))) := by
  obtain ⟨wi, pi, ri⟩ := hi
  exact ⟨_, pe_lc hc hN pi ok (fun s H C cl fp => (hg s H C cl fp).canon) (fun s H C cl fp => (ht s H C cl fp).canon) (fun s H C cl fp => (he s H C cl fp).canon) hs, dlr_comp ri TGof.dgr TTof.dtr TEof.der hv⟩
end
/-! ### x = e -/
section
variable {x : Str} {e : Expr} {te : TD} {tl : TDA} {i : Nat} {pos' : Pos}
def dsSet (i : Nat) (te : TD) : TDS := fun D δ n => te δ n fun d n1 => D.nx (δ.set i (.val d)) n1
def dsOwn (i : Nat) (te : TDA) : TDS := fun D δ n => te δ n fun ds n1 => D.nx (δ.set i (.own ds)) n1
theorem dsr_set {t : TE} (re : DER W K t te) : DSR W K (tAsg t (gName i)) (dsSet i te) := fun B O σ δ H n D F p h s =>
  re B O σ δ H n _ _ p h fun v d H1 n1 g1 q1 r1 h1 => s.nx O _ _ H1 n1 ((p.step g1 q1).set i r1) (Gn.of g1) h1
theorem dsr_own {t : TE} (re : DLR W K t tl) : DSR W K (tAsg t (gName i)) (dsOwn i tl) := fun B O σ δ H n D F p h s =>
  re B O σ δ H n _ _ p h fun a vs ds H1 n1 ha g1 q1 hv r1 h1 => by
    obtain ⟨p1, gg⟩ := p.put i ha g1 q1 hv r1
    exact s.nx _ _ _ H1 n1 p1 gg h1
theorem ds_set (hN : X.N.Nodup) (hi : X.N[i]? = some x) (hx : Loc X.env.scope x) (he : DE W X e te) (hs : swapsWith e (some (.Name x pos')) pos.line X.env = pure false := by rfl) (hf : X.fn x = true ∨ X.env.scope.names.lookup x = some .local := by first | exact .inl rfl | exact .inr rfl | assumption) :
    DS W X (.Assign [.Name x pos'] e pos) (dsSet i te) := by
  obtain ⟨tt, pe, re⟩ := he
  exact ⟨_, L2.ps_set hN hi hx pe hs hf, dsr_set re⟩
theorem ds_own (hN : X.N.Nodup) (hi : X.N[i]? = some x) (hx : Loc X.env.scope x) (he : DL W X e tl) (hs : swapsWith e (some (.Name x pos')) pos.line X.env = pure false := by rfl) (hf : X.fn x = true ∨ X.env.scope.names.lookup x = some .local := by first | exact .inl rfl | exact .inr rfl | assumption) :
    DS W X (.Assign [.Name x pos'] e pos) (dsOwn i tl) := by
  obtain ⟨tt, pe, re⟩ := he
  exact ⟨_, L2.ps_set hN hi hx pe hs hf, dsr_own re⟩
end
/-- a, b = x, y; a, b, c = x, y, z -/
def dsPar (vs : List Nat) (ta : TDA) : TDS := fun D δ n => ta δ n fun ds n1 => match vs, ds with
  | [i, j], [a, b] => D.nx ((δ.set i (.val a)).set j (.val b)) n1
  | [i, j, l], [a, b, c] => D.nx (((δ.set i (.val a)).set j (.val b)).set l (.val c)) n1
  | _, _ => False
section
variable {i j l : Nat} {x y z : Str} {a b c : Expr} {ta : TDA} {px py pz pt : Pos} {kt k2 pt2 : _}
theorem ds_par (hc : X.calm = true) (hN : X.N.Nodup) (hi : X.N[i]? = some x) (hj : X.N[j]? = some y) (hij : i ≠ j)
    (hx : X.env.scope.names.lookup x = some .local) (hy : X.env.scope.names.lookup y = some .local) (ha : DA W X [a, b] ta)
    (hw : swappedStores [.Tuple [.Name x px, .Name y py] kt pt] (.Tuple [a, b] k2 pt2) X.env = pure (some [x, y]))
    (hs : swapsWithSole [.Tuple [.Name x px, .Name y py] kt pt] (.Tuple [a, b] k2 pt2) pos.line X.env = pure false := by rfl) :
    DS W X (.Assign [.Tuple [.Name x px, .Name y py] kt pt] (.Tuple [a, b] k2 pt2) pos) (dsPar [i, j] ta) := by
  obtain ⟨tt, pa, ra⟩ := ha
  refine ⟨_, L2.ps_par hc hN hi hj hij hx hy pa hw hs, fun B O σ δ H n D F p h s => ra B O σ δ H n _ _ p h fun vs ds H1 n1 g1 q1 r1 h1 => ?_⟩
  rcases ds with _ | ⟨a, _ | ⟨b, _ | ⟨c, t⟩⟩⟩ <;> try exact h1.elim
  obtain ⟨v, _, rfl, r2, w, _, rfl, r3, rfl⟩ := r1
  exact ⟨v, w, rfl, s.nx O _ _ H1 n1 (((p.step g1 q1).set i r2).set j r3) (Gn.of g1) h1⟩
theorem ds_par3 (hc : X.calm = true) (hN : X.N.Nodup) (hi : X.N[i]? = some x) (hj : X.N[j]? = some y) (hl : X.N[l]? = some z) (hij : i ≠ j) (hil : i ≠ l) (hjl : j ≠ l)
    (hx : X.env.scope.names.lookup x = some .local) (hy : X.env.scope.names.lookup y = some .local) (hz : X.env.scope.names.lookup z = some .local) (ha : DA W X [a, b, c] ta)
    (hw : swappedStores [.Tuple [.Name x px, .Name y py, .Name z pz] kt pt] (.Tuple [a, b, c] k2 pt2) X.env = pure (some [x, y, z]))
    (hs : swapsWithSole [.Tuple [.Name x px, .Name y py, .Name z pz] kt pt] (.Tuple [a, b, c] k2 pt2) pos.line X.env = pure false := by rfl) :
    DS W X (.Assign [.Tuple [.Name x px, .Name y py, .Name z pz] kt pt] (.Tuple [a, b, c] k2 pt2) pos) (dsPar [i, j, l] ta) := by
  obtain ⟨tt, pa, ra⟩ := ha
  refine ⟨_, L2.ps_par3 hc hN hi hj hl hij hil hjl hx hy hz pa hw hs, fun B O σ δ H n D F p h s => ra B O σ δ H n _ _ p h fun vs ds H1 n1 g1 q1 r1 h1 => ?_⟩
  rcases ds with _ | ⟨a, _ | ⟨b, _ | ⟨c, _ | ⟨d, t⟩⟩⟩⟩ <;> try exact h1.elim
  obtain ⟨v, _, rfl, r2, w, _, rfl, r3, u, _, rfl, r4, rfl⟩ := r1
  exact ⟨v, w, u, rfl, s.nx O _ _ H1 n1 ((((p.step g1 q1).set i r2).set j r3).set l r4) (Gn.of g1) h1⟩
end
/-- any target = e -/
def dsAsg (te : TD) (g : TDG) : TDS := fun D δ n => te δ n fun d n1 => g d δ fun δ1 => D.nx δ1 n1
theorem ds_asg {tg e : Expr} {te : TD} {vs : List Nat} {g : TDG} (he : DE W X e te) (hg : DG W X tg vs g) (hs : swapsWithSole [tg] e pos.line X.env = pure false := by rfl) (hw : swappedStores [tg] e X.env = pure none := by rfl)
    (h1 : (assignEach [tg] X.env).map (·.2) = [assign tg X.env] := by rfl) : DS W X (.Assign [tg] e pos) (dsAsg te g) := by
  obtain ⟨tt, pe, re⟩ := he
  obtain ⟨gg, pg, rg⟩ := hg
  refine ⟨_, L2.ps_asg pe pg hs hw h1, fun B O σ δ H n D F p h s => re B O σ δ H n _ _ p h fun v d H1 n1 g1 q1 r1 h1 => ?_⟩
  exact rg B O σ δ H1 n1 v d _ _ (p.step g1 q1) r1 h1 fun σ2 δ2 p2 _ h2 => s.nx O σ2 δ2 H1 n1 p2 (Gn.of g1) h2
/-- from here on a list of one's own is not changed any more -/
def dsFreeze (i : Nat) (t : TDS) : TDS := fun D δ n => match δ[i]? with
  | some (.own ds) => t D (δ.set i (.val (.lst ds))) n
  | _ => False
theorem dss_freeze {st : List Stmt} {t : TDS} (i : Nat) (h : DSs W X st t) : DSs W X st (dsFreeze i t) := by
  obtain ⟨ts, ps, rs⟩ := h
  refine ⟨ts, ps, fun B O σ δ H n D F p h s => ?_⟩
  unfold dsFreeze at h
  split at h
  · rename_i ds hd
    obtain ⟨a, p1, g1, _⟩ := p.freeze hd
    exact rs B _ σ _ H n D F p1 h (s.from g1 p.good)
  · exact h.elim
end
end DL

set_option Elab.async false
set_option linter.all false
set_option autoImplicit false
set_option maxRecDepth 100000
set_option maxHeartbeats 4000000
namespace DL
open PySem PySem.Spec PyProof.Rows L2
section
variable {W : Wd} {X : Cx} {K : PySem.W.Frag} {pos : Pos}
variable {B O : Addr → Prop} {σ : L2.St} {δ : List E} {H : Hp} {n : Nat}
/-! ### a list of one's own is changed -/
theorem Pre.forget (p : Pre W K B O σ δ H n) (i : Nat) : Pre W K B O σ (δ.set i .emp) H n := by
  refine ⟨p.core, p.trk, p.dj, ⟨by simpa using p.env.len, fun j x e => ?_, fun j ds e => ?_, fun j l ds es a e1 e2 e3 e4 => ?_⟩, p.good⟩
  · rcases set_lookup e with ⟨_, hl, e⟩ | ⟨ne, e⟩
    · cases e
    · exact p.env.val j x e
  · rcases set_lookup e with ⟨_, hl, e⟩ | ⟨ne, e⟩
    · cases e
    · exact p.env.own j ds e
  · rcases set_lookup e1 with ⟨_, hl, e⟩ | ⟨ne1, e1⟩
    · cases e
    · rcases set_lookup e2 with ⟨_, hl, e⟩ | ⟨ne2, e2⟩
      · cases e
      · exact p.env.dis j l ds es a e1 e2 e3 e4
theorem Pre.mutate (p : Pre W K B O σ δ H n) {i : Nat} {a : Addr} {ds es : List D} {us : List V} (h : δ[i]? = some (.own ds)) (hs : σ[i]? = some (some (.ref a))) (ha : O a) (r : RepL K (AV B O) H es us) :
    Pre W K B O σ (δ.set i (.own es)) (upd H a (.lst us)) n ∧ Gn W O H O (upd H a (.lst us)) := by
  have p1 := (p.forget i).write (vs := us) ha (fun j fs e z => by
    rcases set_lookup e with ⟨_, hl, e⟩ | ⟨ne, e⟩
    · cases e
    · exact ne (p.env.dis j i fs ds a e h z hs))
  have im : ∀ b o, ¬ AV B O b → H b = some o → ¬ AV B O b ∧ upd H a (.lst us) b = some o := fun b o nb e => ⟨nb, (upd_ne fun z => nb (.inr (by rw [z]; exact ha))).trans e⟩
  have p2 := p1.name i ha upd_same (RepL.imp im es us r) (fun j fs e ne z => by
    rcases set_lookup e with ⟨q, hl, e⟩ | ⟨_, e⟩
    · exact ne q
    · exact ne (p.env.dis j i fs ds a e h z hs))
  have e1 : σ.set i (some (.ref a)) = σ := by
    obtain ⟨hl, e⟩ := List.getElem?_eq_some_iff.mp hs
    rw [← e, List.set_getElem_self]
  rw [e1, List.set_set] at p2
  exact ⟨p2, ⟨fun b o _ nO e => (upd_ne fun z => nO (by rw [z]; exact ha)).trans e, fun _ z => .inl z⟩⟩
theorem Pre.ownAt (p : Pre W K B O σ δ H n) {i : Nat} {ds : List D} (h : δ[i]? = some (.own ds)) : ∃ a vs, σ[i]? = some (some (.ref a)) ∧ O a ∧ H a = some (.lst vs) ∧ RepL K (AV B O) H ds vs := p.env.own i ds h
def ownD (δ : List E) (i : Nat) (k : List D → Prop) : Prop := match δ[i]? with
  | some (.own ds) => k ds
  | _ => False
theorem ownD_elim {δ : List E} {i : Nat} {k : List D → Prop} (h : ownD δ i k) : ∃ ds, δ[i]? = some (.own ds) ∧ k ds := by
  unfold ownD at h
  split at h
  · rename_i ds e
    exact ⟨ds, e, h⟩
  · exact h.elim
def dsAppend (i : Nat) (te : TD) : TDS := fun D δ n => ownD δ i fun ds => te δ n fun d n1 => ds.length < sizeLine ∧ D.nx (δ.set i (.own (ds ++ [d]))) n1
theorem dsr_append {i : Nat} {tt : TE} {te : TD} (re : DER W K tt te) : DSR W K (tDrop (tBM K "list" rAppend (tVar i) (tCons tt tNil))) (dsAppend i te) := by
  intro B O σ δ H n D F p h s
  obtain ⟨ds, key, h⟩ := ownD_elim h
  obtain ⟨a, vs, h1, h2, h3, h4⟩ := p.ownAt key
  refine ⟨_, h1, .inl ⟨rfl, _, SqL.of h3⟩, re B O σ δ H n _ _ p h fun v d H1 n1 g1 q1 r1 ⟨hl, hq⟩ => ?_⟩
  have p1 := p.step g1 q1
  have r4 := p.repL g1 h4
  refine ⟨a, vs, v, rfl, rfl, g1 a _ (p.noc a h2) h3, by rw [r4.length]; exact hl, ?_⟩
  obtain ⟨p2, g2⟩ := p1.mutate key h1 h2 (r4.append (es := [d]) (ws := [v]) ⟨v, [], rfl, r1, rfl⟩)
  exact s.nx O σ _ _ n1 p2 ((Gn.of g1).trans q1 g2) hq
theorem ds_append {e o : Expr} {te : TD} {i : Nat} {apos cpos : Pos} (ho : PE X o (tVar i)) (he : DE W X e te)
    (hbase : attributeBase o "append" X.env (eval o X.env) = eval o X.env := by rfl)
    (hfew : ((backTo cpos (starEach [e] X.env)).all (fun x => !x.1) && (backToKw cpos (keywordEach [] X.env)).all (fun x => x.1.isSome)
      && decide ([e].length + ([] : List Keyword).length + (if ([] : List Keyword).isEmpty then 0 else 1) < 30)) = true := by rfl)
    (hline : (apos.endLine == cpos.line) = true := by rfl) (hst : starEach [e] X.env = (false, eval e X.env) :: starEach [] X.env := by rfl) (hplain : (backTo cpos (starEach [] X.env)).any (·.1) = false := by rfl)
    (hs : swapsWith (.Call (.Attribute o "append" apos) [e] [] cpos) none pos.line X.env = pure false := by rfl) : DS W X (.Expr (.Call (.Attribute o "append" apos) [e] [] cpos) pos) (dsAppend i te) := by
  obtain ⟨tt, pe, re⟩ := he
  exact ⟨_, ps_expr (pe_bm PySem.F.plainAttrs_list PySem.F.slot_list_append PySem.F.type_list_append mt_append ho (pa_cons pe pa_nil hst) hbase hfew hline hst hplain) hs, dsr_append re⟩
/-- x.pop(k), its value dropped -/
def dsPopAt (i : Nat) (te : TD) : TDS := fun D δ n => ownD δ i fun ds => te δ n fun d n1 => match d with
  | .int k => 0 ≤ k ∧ k < 2 ^ 63 ∧ k < (ds.length : Int) ∧ D.nx (δ.set i (.own (ds.eraseIdx k.toNat))) n1
  | _ => False
theorem seqIx {k : Int} {m : Nat} (h0 : 0 ≤ k) (h : k < (m : Int)) : seqIndex? k m = some k.toNat := (ixN_seq (show ixN m k = some k.toNat by unfold ixN; rw [if_pos h0, if_pos h])).1
theorem dsr_popAt {i : Nat} {tt : TE} {te : TD} (re : DER W K tt te) : DSR W K (tDrop (tBM K "list" rPopAt (tVar i) (tCons tt tNil))) (dsPopAt i te) := by
  intro B O σ δ H n D F p h s
  obtain ⟨ds, key, h⟩ := ownD_elim h
  obtain ⟨a, vs, h1, h2, h3, h4⟩ := p.ownAt key
  refine ⟨_, h1, .inl ⟨rfl, _, SqL.of h3⟩, re B O σ δ H n _ _ p h fun v d H1 n1 g1 q1 r1 hq => ?_⟩
  cases d with
  | int k =>
    cases r1
    obtain ⟨k0, k63, kl, hq⟩ := hq
    have p1 := p.step g1 q1
    have r4 := p.repL g1 h4
    have hl := r4.length
    have hk : k.toNat < vs.length := by omega
    refine ⟨a, vs, k, k.toNat, vs[k.toNat], rfl, rfl, g1 a _ (p.noc a h2) h3, by omega, k63, seqIx k0 (by omega), List.getElem?_eq_getElem hk, ?_⟩
    obtain ⟨p2, g2⟩ := p1.mutate key h1 h2 (r4.eraseIdx k.toNat)
    exact s.nx O σ _ _ n1 p2 ((Gn.of g1).trans q1 g2) hq
  | _ => exact hq.elim
theorem ds_popAt {e o : Expr} {te : TD} {i : Nat} {apos cpos : Pos} (ho : PE X o (tVar i)) (he : DE W X e te)
    (hbase : attributeBase o "pop" X.env (eval o X.env) = eval o X.env := by rfl)
    (hfew : ((backTo cpos (starEach [e] X.env)).all (fun x => !x.1) && (backToKw cpos (keywordEach [] X.env)).all (fun x => x.1.isSome)
      && decide ([e].length + ([] : List Keyword).length + (if ([] : List Keyword).isEmpty then 0 else 1) < 30)) = true := by rfl)
    (hline : (apos.endLine == cpos.line) = true := by rfl) (hst : starEach [e] X.env = (false, eval e X.env) :: starEach [] X.env := by rfl) (hplain : (backTo cpos (starEach [] X.env)).any (·.1) = false := by rfl)
    (hs : swapsWith (.Call (.Attribute o "pop" apos) [e] [] cpos) none pos.line X.env = pure false := by rfl) : DS W X (.Expr (.Call (.Attribute o "pop" apos) [e] [] cpos) pos) (dsPopAt i te) := by
  obtain ⟨tt, pe, re⟩ := he
  exact ⟨_, ps_expr (pe_bm PySem.F.plainAttrs_list PySem.F.slot_list_pop PySem.F.type_list_pop mt_popAt ho (pa_cons pe pa_nil hst) hbase hfew hline hst hplain) hs, dsr_popAt re⟩
/-- x[k] = e -/
def dsSetItem (i : Nat) (tk te : TD) : TDS := fun D δ n => ownD δ i fun ds => te δ n fun d n1 => tk δ n1 fun kk n2 => match kk with
  | .int k => 0 ≤ k ∧ k < (ds.length : Int) ∧ D.nx (δ.set i (.own (ds.set k.toNat d))) n2
  | _ => False
theorem ds_setItem {e o k : Expr} {te tk : TD} {i : Nat} {p2 : Pos} (ho : PE X o (tVar i)) (hk : DE W X k tk) (he : DE W X e te)
    (ha : ∀ v, assign (.Subscript o k p2) X.env v = (do
      let ov ← holding [v] (eval o X.env)
      let iv ← holding [v, ov] (eval k X.env)
      standAt p2
      holding [v, ov, iv] (setItem ov iv v)
      release [v, ov, iv] []) := by intro _; rfl)
    (hs : swapsWithSole [.Subscript o k p2] e pos.line X.env = pure false := by rfl) (hw : swappedStores [.Subscript o k p2] e X.env = pure none := by rfl)
    (h1 : (assignEach [.Subscript o k p2] X.env).map (·.2) = [assign (.Subscript o k p2) X.env] := by rfl) : DS W X (.Assign [.Subscript o k p2] e pos) (dsSetItem i tk te) := by
  obtain ⟨tt, pe, re⟩ := he
  obtain ⟨tu, pk, rk⟩ := hk
  refine ⟨_, L2.ps_asg pe (pg_sub ho pk set_list ha) hs hw h1, fun B O σ δ H n D F p h s => ?_⟩
  obtain ⟨ds, key, h⟩ := ownD_elim h
  obtain ⟨a, vs, k1, k2, k3, k4⟩ := p.ownAt key
  refine re B O σ δ H n _ _ p h fun v d H1 n1 g1 q1 r1 hq => ⟨_, k1, ?_⟩
  have p1 := p.step g1 q1
  refine rk B O σ δ H1 n1 _ _ p1 hq fun u dk H2 n2 g2 q2 r2 hq => ?_
  have p2 := p1.step g2 q2
  cases dk with
  | int k =>
    cases r2
    obtain ⟨k0, kl, hq⟩ := hq
    have g12 := g1.trans g2
    have r4 := p.repL g12 k4
    have hl := r4.length
    refine ⟨a, vs, k, k.toNat, rfl, rfl, g12 a _ (p.noc a k2) k3, ?_, ?_⟩
    · unfold ixN
      rw [if_pos k0, if_pos (by omega)]
    · obtain ⟨p3, g3⟩ := p2.mutate key k1 k2 (r4.set k.toNat (p1.rep g2 r1))
      exact s.nx O σ _ _ n2 p3 ((Gn.of g12).trans q2 g3) hq
  | _ => exact hq.elim

/-! ### a def over data -/
abbrev SpD := Wd → List D → Nat → (D → Nat → Prop) → Prop
/-- the promise over the heap that a promise over data stands for -/
def spD (K : PySem.W.Frag) (f : SpD) : Sp := fun vs H Q _ => ∃ (W : Wd) (B : Addr → Prop) (ds : List D) (n : Nat) (QD : D → Nat → Prop), Cn W B H n ∧ RepL K B H ds vs ∧ f W ds n QD ∧ Ans W K B H QD Q
theorem s_call {f : SpD} (W : Wd) {r : List V → Hp → VK → Prop} (h : ∀ vs H Q, spD K f vs H Q E0 → r vs H Q) : ∀ (A : Addr → Prop) (H : Hp) (n : Nat) (x : List D) (v : List V) (Q : D → Nat → Prop) (R : VK), Cn W A H n → RepL K A H x v → f W x n Q → Ans W K A H Q R → r v H R :=
  fun A H n x v Q R c r q hR => h v H R ⟨W, A, x, n, Q, c, r, q, hR⟩
def dCall (f : SpD) (W : Wd) (ta : TDA) : TD := fun δ n Q => ta δ n fun ds n1 => f W ds n1 Q
section
variable {k : Nat} {fa : Addr} {fd : FuncData} {ps : List Str} {f : SpD} {x : Str} {p : Pos} {e : Expr} {es : List Expr} {ta : TDA}
theorem de_call (F : FnOk X.prog X.w X.K X.mg X.base CX0 k fa fd ps (spD X.K f)) (hr : Room k X.A) (hg : Gl X x) (hm : X.mg x = some (.ref fa)) (hk : PySem.W.keepIn X.K (.ref fa) = true) (hb : Binds X.K fd ps []) (ha : DA W X (e :: es) ta)
    (hdb : (x == ("__debug__" : Str)) = false := by decide) (he : starEach (e :: es) X.env = (false, eval e X.env) :: starEach es X.env := by rfl) (hpl : (backTo pos (starEach es X.env)).any (·.1) = false := by rfl) :
    DE W X (.Call (.Name x p) (e :: es) [] pos) (dCall f W ta) := by
  obtain ⟨tt, pa, ra⟩ := ha
  refine ⟨_, pe_call F hr hg hm hk hb .nil pass0 pa hdb he hpl, fun B O σ δ H n Q R p ht hR => ra B O σ δ H n _ _ p ht fun vs ds H1 n1 g1 q1 r1 h1 => ?_⟩
  rw [List.append_nil]
  exact ⟨W, AV B O, ds, n1, Q, (p.step g1 q1).cn, r1, h1, fun v d H' n' g q r h => hR v d H' n' (g1.trans g) q r h⟩
theorem de_call0 (F : FnOk X.prog X.w X.K X.mg X.base CX0 k fa fd ps (spD X.K f)) (hr : Room k X.A) (hg : Gl X x) (hm : X.mg x = some (.ref fa)) (hk : PySem.W.keepIn X.K (.ref fa) = true) (hb : Binds X.K fd ps [])
    (hdb : (x == ("__debug__" : Str)) = false := by decide) : DE W X (.Call (.Name x p) [] [] pos) (dCall f W daNil) :=
  ⟨_, pe_call0 F hr hg hm hk hb .nil pass0 hdb, fun B O σ δ H n Q R p ht hR => ⟨W, AV B O, [], n, Q, p.cn, rfl, ht, hR⟩⟩
/-- f(k = v, ..): keywords alone, in the parameters' own order (g: how the values come to the parameters) -/
theorem de_callK {kws : List Keyword} {ks : List Str} {tk : TA} {g : List Value → List Value → List Value} {gV : List V → List V → List V} (F : FnOk X.prog X.w X.K X.mg X.base CX0 k fa fd ps (spD X.K f)) (hr : Room k X.A) (hg : Gl X x) (hm : X.mg x = some (.ref fa)) (hk : PySem.W.keepIn X.K (.ref fa) = true)
    (hb : KBinds X.K fd ps ks g gV) (hgV : ∀ zs, gV [] zs = zs) (hkw : PK X kws tk) (ra : DAR W X.K tk ta) (hall : (backToKw pos (keywordEach kws X.env)).all (·.1.isSome) = true := by rfl) (hks : (backToKw pos (keywordEach kws X.env)).filterMap (·.1) = ks := by rfl)
    (hdb : (x == ("__debug__" : Str)) = false := by decide) (hpl : ((backTo pos (starEach [] X.env)).any (·.1) || (backToKw pos (keywordEach kws X.env)).any (·.1.isNone)) = false := by rfl) :
    DE W X (.Call (.Name x p) [] kws pos) (dCall f W ta) := by
  refine ⟨fun σ H Q => tk σ H fun zs H2 => spD X.K f (gV [] zs) H2 Q E0, ⟨fun pins s σ H Q I h => ?_⟩, fun B O σ δ H n Q R p ht hR => ra B O σ δ H n _ _ p ht fun vs ds H1 n1 g1 q1 r1 h1 => ?_⟩
  · refine wpAny_Call_Name_kw (ld_glob I hg hm ?_ hdb)
    refine PySem.W.callWith_KW0 (h₀ := X.base) I.ok.mod.kin hk hall ?_ hpl
    refine thn (hkw.run pos pins s σ H _ I h) fun ws s2 ⟨zs, H2, I2, rz, q2⟩ => ⟨I2.kIn, ?_⟩
    rw [hks]
    exact run_fnk (us := []) (vs := []) F hr hb pass0 I2 .nil rz q2
  · rw [hgV]
    exact ⟨W, AV B O, ds, n1, Q, (p.step g1 q1).cn, r1, h1, fun v d H' n' g q r h => hR v d H' n' (g1.trans g) q r h⟩
end
/-- the slots at a def's entry -/
def startD (m : Nat) (ds : List D) : List E := ds.map E.val ++ List.replicate (m - ds.length) .emp
theorem pre_start {W : Wd} {A : Addr → Prop} {H : Hp} {n : Nat} {N : List Str} {ds : List D} {vs : List V} (c : Cn W A H n) (r : RepL K A H ds vs) : Pre W K A (fun _ => False) (L2.start N vs) (startD N.length ds) H n := by
  have hl := r.length
  refine ⟨c.core, fun b hb => hb.elim (c.trk b) fun z => z.elim, fun b z => z.elim, ⟨?_, fun i d e => ?_, fun i ds' e => ?_, fun i j ds' es a e1 _ _ _ => ?_⟩, c.good⟩
  · unfold L2.start startD
    simp only [List.length_append, List.length_map, List.length_replicate, hl]
  · unfold startD at e
    by_cases h : i < ds.length
    · rw [List.getElem?_append_left (by simpa using h), List.getElem?_map] at e
      obtain ⟨d', h1, h2⟩ := Option.map_eq_some_iff.mp e
      cases h2
      obtain ⟨v, h3, h4⟩ := r.get h1
      refine ⟨v, ?_, Rep.imp (fun a o na q => ⟨fun z => z.elim na fun z => z, q⟩) d v h4⟩
      unfold L2.start
      rw [List.getElem?_append_left (by rw [List.length_map, hl]; exact h), List.getElem?_map, h3]
      rfl
    · rw [List.getElem?_append_right (by simpa using h)] at e
      have e' := (List.mem_replicate.mp (List.mem_of_getElem? e)).2
      cases e'
  · exfalso
    unfold startD at e
    rcases List.mem_append.mp (List.mem_of_getElem? e) with z | z
    · obtain ⟨d, _, z⟩ := List.mem_map.mp z
      cases z
    · cases (List.mem_replicate.mp z).2
  · exfalso
    unfold startD at e1
    rcases List.mem_append.mp (List.mem_of_getElem? e1) with z | z
    · obtain ⟨d, _, z⟩ := List.mem_map.mp z
      cases z
    · cases (List.mem_replicate.mp z).2
section
variable {P : Program} {w : World} {mg : Str → Option Value} {base : Heap}
/-- THE RULE for a def over data -/
theorem fn_d {x qual : Str} {st : Stmt} {f : Addr} {fd : FuncData} {N ps : List Str} {k : Nat} {sp : SpD} (F : Fun K x qual st f fd) (S : FnScope N ps (defScope st)) (len : ∀ W ds n Q, sp W ds n Q → ds.length = ps.length)
    (hbody : ∀ (cdv : Value) (A : Around) (outer : List Env) (s : Shared) (H : Hp) (E : XK), Room k (A.deeper (envOfC qual (defScope st) s.heap.objs.size f cdv)) → ∀ W : Wd,
      ∃ t, DSs W (cxOf CX0 P w K mg base N qual (defScope st) f cdv A outer s H E).nox (defBody st) t ∧ ∀ ds n Q, sp W ds n Q → t ⟨fun _ n => Q .non n, Q, fun _ _ => False, fun _ _ => False⟩ (startD N.length ds) n) : FnOk P w K mg base CX0 (k + 1) f fd ps (spD K sp) := by
  refine F.ok S (fun vs H Q E h => ?_) (fun cdv A outer s H vs Q E hr h => ?_)
  · obtain ⟨W, B, ds, n, QD, _, r, h, _⟩ := h
    rw [r.length]
    exact len W ds n QD h
  · obtain ⟨W, B, ds, n, QD, c, r, h, hR⟩ := h
    obtain ⟨t, ⟨ts, ps, rs⟩, ht⟩ := hbody cdv A outer s H E hr W
    refine ⟨ts, ps, rs B (fun _ => False) _ _ H n _ _ (pre_start c r) (ht ds n QD h) ⟨fun O' σ' δ' H' n' p g q => ?_, fun _ _ _ _ _ _ _ z => z.elim, fun _ _ _ _ _ _ _ z => z.elim, fun v d H' n' k g r q => ?_⟩⟩
    · exact hR .non .non H' n' (fun b o nc e => g.keep b o nc (fun z => z) e) p.good rfl q
    · exact hR v d H' n' (fun b o nc e => k b o nc (fun z => z) e) g r q
end
end
end DL

set_option Elab.async false
set_option linter.all false
set_option autoImplicit false
set_option maxRecDepth 100000
set_option maxHeartbeats 4000000
namespace DL
open PySem PySem.Spec PyProof.Rows L2
section
variable {W : Wd} {X : Cx} {K : PySem.W.Frag} {pos : Pos}
variable {x : Str} {p : Pos} {e : Expr} {es : List Expr} {t : TD} {ta : TDA}
/-! ### built-ins by name -/
theorem de_callB {id : String} {r : List V → Hp → VK → Prop} {op : List D → Nat → (D → Nat → Prop) → Prop} (hc : CallR X (.builtin id) r) (hs : OpSL X.K r op) (hv : bootBuiltins x = some (.builtin id)) (hg : Gl X x) (hm : X.mg x = none) (ha : DA W X (e :: es) ta) (hn : x ≠ "__name__" := by decide) (hdb : (x == ("__debug__" : Str)) = false := by decide)
    (he : starEach (e :: es) X.env = (false, eval e X.env) :: starEach es X.env := by rfl) (hpl : (backTo pos (starEach es X.env)).any (·.1) = false := by rfl) : DE W X (.Call (.Name x p) (e :: es) [] pos) (dL op ta) := by
  obtain ⟨tt, pa, ra⟩ := ha
  exact ⟨_, pe_callB hc hg hm hv pa hn hdb he hpl, derL hs ra⟩
theorem de_callTy {T : String} {r : List V → Hp → VK → Prop} {op : List D → Nat → (D → Nat → Prop) → Prop} (hc : CallR X (.type T) r) (hs : OpSL X.K r op) (hv : bootBuiltins x = some (.type T)) (hg : Gl X x) (hm : X.mg x = none) (ha : DA W X (e :: es) ta) (hn : x ≠ "__name__" := by decide) (hdb : (x == ("__debug__" : Str)) = false := by decide)
    (he : starEach (e :: es) X.env = (false, eval e X.env) :: starEach es X.env := by rfl) (hpl : (backTo pos (starEach es X.env)).any (·.1) = false := by rfl) : DE W X (.Call (.Name x p) (e :: es) [] pos) (dL op ta) := by
  obtain ⟨tt, pa, ra⟩ := ha
  exact ⟨_, pe_callTy hc hg hm hv pa hn hdb he hpl, derL hs ra⟩
theorem scr_sql {A : Addr → Prop} {H : Hp} {ns : List Int} {a : Addr} (r : Rep K A H (.scr ns) (.ref a)) : SqL K H a (ns.map V.int) := by
  obtain ⟨b, e, r⟩ := r
  cases e
  rcases r with ⟨o, _, h⟩ | h
  · exact .inl (.inr ⟨o, h⟩)
  · exact .inr h
/-- len -/
def lenD : List D → Nat → (D → Nat → Prop) → Prop
  | [.lst xs], n, Q => Q (.int xs.length) n
  | [.tup xs], n, Q => Q (.int xs.length) n
  | [.str z], n, Q => z.length ≤ sizeLine ∧ Q (.int z.length) n
  | [.scr ns], n, Q => Q (.int ns.length) n
  | _, _, _ => False
theorem RepL.one {A : Addr → Prop} {H : Hp} {d : D} {vs : List V} (r : RepL K A H [d] vs) : ∃ v, vs = [v] ∧ Rep K A H d v := by
  obtain ⟨v, _, rfl, q, rfl⟩ := r
  exact ⟨v, rfl, q⟩
theorem RepL.two {A : Addr → Prop} {H : Hp} {d e : D} {vs : List V} (r : RepL K A H [d, e] vs) : ∃ v u, vs = [v, u] ∧ Rep K A H d v ∧ Rep K A H e u := by
  obtain ⟨v, _, rfl, q, u, _, rfl, q2, rfl⟩ := r
  exact ⟨v, u, rfl, q, q2⟩
theorem s_len : OpSL K (fun xs H Q => ∃ x n, xs = [x] ∧ LenV K x H n ∧ Q (.int n) H) lenD := by
  intro W A H n x v Q R c r h hR
  unfold lenD at h
  split at h
  · obtain ⟨v, rfl, a, vs, rfl, na, ha, ra⟩ := r.one
    exact ⟨.ref a, vs.length, rfl, .inl ⟨vs, SqL.of ha, rfl⟩, by rw [ra.length]; exact hR.here c (d := .int _) rfl h⟩
  · obtain ⟨v, rfl, a, vs, rfl, ha, ra⟩ := r.one
    exact ⟨.ref a, vs.length, rfl, .inr ⟨vs, ha.elim (fun z => SqT.of z.2) .inr, rfl⟩, by rw [ra.length]; exact hR.here c (d := .int _) rfl h⟩
  · obtain ⟨v, rfl, rfl⟩ := r.one
    exact ⟨_, _, rfl, ⟨h.1, rfl⟩, hR.here c (d := .int _) rfl h.2⟩
  · rename_i ns
    obtain ⟨v, rfl, r1⟩ := r.one
    obtain ⟨a, rfl, _⟩ := id r1
    refine ⟨.ref a, (ns.map V.int).length, rfl, .inl ⟨_, scr_sql r1, rfl⟩, ?_⟩
    rw [List.length_map]
    exact hR.here c (d := .int _) rfl h
  · exact h.elim
theorem de_len (hg : Gl X "len") (hm : X.mg "len" = none) (ha : DE W X e t) (he : starEach [e] X.env = (false, eval e X.env) :: starEach [] X.env := by rfl) (hpl : (backTo pos (starEach [] X.env)).any (·.1) = false := by rfl) : DE W X (.Call (.Name "len" p) [e] [] pos) (dL lenD (daCons t daNil)) :=
  de_callB call_len s_len boot_len hg hm (da_cons ha da_nil he) (by decide) (by decide) he hpl
/-- len of a list of one's own -/
def dLenOwn (i : Nat) : TD := fun δ n Q => ownD δ i fun ds => Q (.int ds.length) n
theorem de_lenOwn {i : Nat} (hg : Gl X "len") (hm : X.mg "len" = none) (ha : PE X e (tVar i)) (he : starEach [e] X.env = (false, eval e X.env) :: starEach [] X.env := by rfl) (hpl : (backTo pos (starEach [] X.env)).any (·.1) = false := by rfl) : DE W X (.Call (.Name "len" p) [e] [] pos) (dLenOwn i) := by
  refine ⟨_, pe_callB call_len hg hm boot_len (pa_cons ha pa_nil he) (by decide) (by decide) he hpl, fun B O σ δ H n Q R p ht hR => ?_⟩
  obtain ⟨ds, key, h⟩ := ownD_elim ht
  obtain ⟨a, vs, h1, h2, h3, h4⟩ := p.ownAt key
  exact ⟨_, h1, .ref a, vs.length, rfl, .inl ⟨vs, SqL.of h3, rfl⟩, by rw [h4.length]; exact hR _ (.int _) H n (Gr.refl H) p.good rfl h⟩
/-- abs, int -/
def absD : List D → Nat → (D → Nat → Prop) → Prop
  | [.int i], n, Q => Q (.int (if i < 0 then -i else i)) n
  | _, _, _ => False
theorem de_abs (hg : Gl X "abs") (hm : X.mg "abs" = none) (ha : DE W X e t) (he : starEach [e] X.env = (false, eval e X.env) :: starEach [] X.env := by rfl) (hpl : (backTo pos (starEach [] X.env)).any (·.1) = false := by rfl) : DE W X (.Call (.Name "abs" p) [e] [] pos) (dL absD (daCons t daNil)) := by
  refine de_callB call_abs ?_ (by decide +kernel) hg hm (da_cons ha da_nil he) (by decide) (by decide) he hpl
  intro W A H n x v Q R c r h hR
  unfold absD at h
  split at h
  · obtain ⟨v, rfl, rfl⟩ := r.one
    exact ⟨_, rfl, hR.here c (d := .int _) rfl h⟩
  · exact h.elim
def intD : List D → Nat → (D → Nat → Prop) → Prop
  | [.int i], n, Q => Q (.int i) n
  | _, _, _ => False
theorem de_intc (hg : Gl X "int") (hm : X.mg "int" = none) (ha : DE W X e t) (he : starEach [e] X.env = (false, eval e X.env) :: starEach [] X.env := by rfl) (hpl : (backTo pos (starEach [] X.env)).any (·.1) = false := by rfl) : DE W X (.Call (.Name "int" p) [e] [] pos) (dL intD (daCons t daNil)) := by
  refine de_callTy call_int1 ?_ (by decide +kernel) hg hm (da_cons ha da_nil he) (by decide) (by decide) he hpl
  intro W A H n x v Q R c r h hR
  unfold intD at h
  split at h
  · obtain ⟨v, rfl, rfl⟩ := r.one
    exact .inl ⟨_, rfl, hR.here c (d := .int _) rfl h⟩
  · exact h.elim
/-- min, max of two ints -/
def mmD (f : Int → Int → Int) : List D → Nat → (D → Nat → Prop) → Prop
  | [.int i, .int j], n, Q => Q (.int (f i j)) n
  | _, _, _ => False
abbrev minD := mmD fun i j => if j < i then j else i
abbrev maxD := mmD fun i j => if j > i then j else i
theorem s_mm {f : Int → Int → Int} : OpSL K (fun xs H Q => ∃ i j, xs = [.int i, .int j] ∧ Q (.int (f i j)) H) (mmD f) := by
  intro W A H n x v Q R c r h hR
  unfold mmD at h
  split at h
  · obtain ⟨v, u, rfl, rfl, rfl⟩ := r.two
    exact ⟨_, _, rfl, hR.here c (d := .int _) rfl h⟩
  · exact h.elim
theorem de_min (hc : X.calm = true) (hg : Gl X "min") (hm : X.mg "min" = none) (ha : DA W X (e :: es) ta) (he : starEach (e :: es) X.env = (false, eval e X.env) :: starEach es X.env := by rfl) (hpl : (backTo pos (starEach es X.env)).any (·.1) = false := by rfl) : DE W X (.Call (.Name "min" p) (e :: es) [] pos) (dL minD ta) :=
  de_callB (call_min2 hc) s_mm (by decide +kernel) hg hm ha (by decide) (by decide) he hpl
theorem de_max (hc : X.calm = true) (hg : Gl X "max") (hm : X.mg "max" = none) (ha : DA W X (e :: es) ta) (he : starEach (e :: es) X.env = (false, eval e X.env) :: starEach es X.env := by rfl) (hpl : (backTo pos (starEach es X.env)).any (·.1) = false := by rfl) : DE W X (.Call (.Name "max" p) (e :: es) [] pos) (dL maxD ta) :=
  de_callB (call_max2 hc) s_mm (by decide +kernel) hg hm ha (by decide) (by decide) he hpl
/-- list, tuple -/
def listD : List D → Nat → (List D → Nat → Prop) → Prop
  | [.lst xs], n, Q => Q xs n
  | [.tup xs], n, Q => Q xs n
  | _, _, _ => False
theorem dl_list (hg : Gl X "list") (hm : X.mg "list" = none) (ha : DE W X e t) (he : starEach [e] X.env = (false, eval e X.env) :: starEach [] X.env := by rfl) (hpl : (backTo pos (starEach [] X.env)).any (·.1) = false := by rfl) : DL W X (.Call (.Name "list" p) [e] [] pos) (fun δ n Q => t δ n fun d n1 => listD [d] n1 Q) := by
  obtain ⟨te, pe, re⟩ := ha
  refine ⟨_, pe_callTy call_list_of hg hm (by decide +kernel) (pa_cons pe pa_nil he) (by decide) (by decide) he hpl, fun B O σ δ H n Q R p ht hR => re B O σ δ H n _ _ p ht fun v d H1 n1 g1 q1 r1 h1 => ?_⟩
  have p1 := p.step g1 q1
  have key : ∀ (a : Addr) (vs : List V) (xs : List D), (SqL X.K H1 a vs ∨ SqT X.K H1 a vs) → RepL X.K (AV B O) H1 xs vs → Q xs n1 → ∃ (p : Addr) (ys : List V), [V.ref a] = [V.ref p] ∧ (SqL X.K H1 p ys ∨ SqT X.K H1 p ys) ∧ ∀ l, H1 l = none → R (.ref l) (upd H1 l (.lst ys)) := fun a vs xs hs rs hq =>
    ⟨a, vs, rfl, hs, fun l hl => hR l vs xs _ n1 (g1.free q1 hl) (g1.trans (Gr.new hl)) (Wd.new q1 hl) upd_same (RepL.new hl rs) hq⟩
  cases d with
  | lst xs =>
    obtain ⟨a, vs, rfl, na, ha, ra⟩ := r1
    exact key a vs xs (.inl (SqL.of ha)) ra h1
  | tup xs =>
    obtain ⟨a, vs, rfl, ha, ra⟩ := r1
    exact key a vs xs (.inr (ha.elim (fun z => SqT.of z.2) .inr)) ra h1
  | _ => exact h1.elim
def tupD : List D → Nat → (D → Nat → Prop) → Prop
  | [.lst xs], n, Q => Q (.tup xs) n
  | [.tup xs], n, Q => Q (.tup xs) n
  | _, _, _ => False
theorem de_tuple (hg : Gl X "tuple") (hm : X.mg "tuple" = none) (ha : DE W X e t) (he : starEach [e] X.env = (false, eval e X.env) :: starEach [] X.env := by rfl) (hpl : (backTo pos (starEach [] X.env)).any (·.1) = false := by rfl) : DE W X (.Call (.Name "tuple" p) [e] [] pos) (dL tupD (daCons t daNil)) := by
  refine de_callTy call_tuple_of ?_ (by decide +kernel) hg hm (da_cons ha da_nil he) (by decide) (by decide) he hpl
  intro W A H n x v Q R c r h hR
  unfold tupD at h
  split at h
  · obtain ⟨v, rfl, a, vs, rfl, na, ha, ra⟩ := r.one
    exact ⟨a, vs, rfl, .inl ⟨SqL.of ha, fun l hl => hR.tup c ra h hl⟩⟩
  · obtain ⟨v, rfl, a, vs, rfl, ha, ra⟩ := r.one
    exact ⟨a, vs, rfl, .inr ⟨ha.elim (fun z => SqT.of z.2) .inr, hR.here c (d := .tup _) ⟨a, vs, rfl, ha, ra⟩ h⟩⟩
  · exact h.elim
/-- all, any of a list of truth values -/
def D.bls : List D → Option (List Bool)
  | [] => some []
  | .bl b :: r => (D.bls r).map (b :: ·)
  | _ :: _ => none
theorem bls_of {A : Addr → Prop} {H : Hp} : ∀ {ds : List D} {vs : List V} {bs : List Bool}, RepL K A H ds vs → D.bls ds = some bs → vs = bs.map V.bl
  | [], _, _, r, e => by cases r; cases e; rfl
  | d :: ds, _, bs, ⟨v, r, rfl, q, t⟩, e => by
    cases d with
    | bl b =>
      cases q
      obtain ⟨cs, h1, h2⟩ := Option.map_eq_some_iff.mp (show (D.bls ds).map (b :: ·) = some bs from e)
      subst h2
      rw [bls_of t h1]
      rfl
    | _ => cases e
def allD (f : List Bool → Bool) : List D → Nat → (D → Nat → Prop) → Prop
  | [.lst xs], n, Q => someD (D.bls xs) fun bs => Q (.bl (f bs)) n
  | _, _, _ => False
theorem s_all {f : List Bool → Bool} : OpSL K (fun vs H Q => ∃ (a : Addr) (bs : List Bool), vs = [V.ref a] ∧ SqL K H a (bs.map V.bl) ∧ Q (.bl (f bs)) H) (allD f) := by
  intro W A H n x v Q R c r h hR
  unfold allD at h
  split at h
  · obtain ⟨v, rfl, a, vs, rfl, na, ha, ra⟩ := r.one
    obtain ⟨bs, hb, h⟩ := someD_elim h
    have e := bls_of ra hb
    subst e
    exact ⟨a, bs, rfl, SqL.of ha, hR.here c (d := .bl _) rfl h⟩
  · exact h.elim
theorem de_all (hc : X.calm = true) (hg : Gl X "all") (hm : X.mg "all" = none) (ha : DE W X e t) (he : starEach [e] X.env = (false, eval e X.env) :: starEach [] X.env := by rfl) (hpl : (backTo pos (starEach [] X.env)).any (·.1) = false := by rfl) : DE W X (.Call (.Name "all" p) [e] [] pos) (dL (allD fun bs => bs.all id) (daCons t daNil)) :=
  de_callB (cr_all hc) s_all (by decide +kernel) hg hm (da_cons ha da_nil he) (by decide) (by decide) he hpl
theorem de_any (hc : X.calm = true) (hg : Gl X "any") (hm : X.mg "any" = none) (ha : DE W X e t) (he : starEach [e] X.env = (false, eval e X.env) :: starEach [] X.env := by rfl) (hpl : (backTo pos (starEach [] X.env)).any (·.1) = false := by rfl) : DE W X (.Call (.Name "any" p) [e] [] pos) (dL (allD fun bs => bs.any id) (daCons t daNil)) :=
  de_callB (cr_any hc) s_all (by decide +kernel) hg hm (da_cons ha da_nil he) (by decide) (by decide) he hpl
/-! ### isinstance -/
/-- what is to be known of an own class, for isinstance of its instances -/
structure InsOk (K : PySem.W.Frag) (C : Addr) : Prop where
  cl : Cls K C
  ha : PySem.W.findIn K (.ref C) "__class__" = some (some (.builtin "object.__class__"))
  hn : PySem.W.specialIn K (.builtin "object.__class__") "__get__" = some (some (.builtin "getset_descriptor.__get__"))
  htk : PySem.W.takesIn K (.builtin "object.__class__") = some true
  hm : PySem.W.mroIn K C (.type "object") = some true
def tyD : D → Option Value
  | .non => some (.type "NoneType")
  | .bl _ => some (.type "bool")
  | .int _ => some (.type "int")
  | .str _ => some (.type "str")
  | .lst _ => some (.type "list")
  | .tup _ => some (.type "tuple")
  | .dic _ _ => some (.type "dict")
  | .ins C _ _ => some (.ref C)
  | .scr _ => some (.type "list")
  | _ => none
def clD : D → Option Value
  | .ty nm => some (.type nm)
  | .ref C => some (.ref C)
  | _ => none
def D.insOk (K : PySem.W.Frag) : D → Prop
  | .ins C _ _ => InsOk K C
  | _ => True
def isiD (K : PySem.W.Frag) : List D → Nat → (D → Nat → Prop) → Prop
  | [x, c], n, Q => x.insOk K ∧ someD (tyD x) fun t => someD (clD c) fun u => someD (PySem.W.kitOne K t u) fun b => Q (.bl b) n
  | _, _, _ => False
theorem tyx_of {A : Addr → Prop} {H : Hp} {d : D} {v : V} {t : Value} (r : Rep K A H d v) (o : d.insOk K) (h : tyD d = some t) : TyX K H v t := by
  cases d with
  | non => cases r; cases h; exact .base .non
  | bl b => cases r; cases h; exact .base (.bl b)
  | int i => cases r; cases h; exact .base (.int i)
  | str x => cases r; cases h; exact .base (.str x)
  | lst xs => obtain ⟨a, vs, rfl, _, ha, _⟩ := r; cases h; exact .base (.lst ha)
  | tup xs =>
    obtain ⟨a, vs, rfl, ha, _⟩ := r
    cases h
    rcases ha with z | ⟨o, its, n, hk, hc, _⟩
    · exact .base (.tup z.2)
    · exact .kTuple hk hc
  | dic ks xs => obtain ⟨a, vs, rfl, _, ha, _⟩ := r; cases h; exact .base (.dK ha)
  | ins C ns xs => obtain ⟨a, dx, vs, rfl, _, ha, _⟩ := r; cases h; exact .base (.ins ha o.cl o.ha o.hn o.htk o.hm)
  | scr ns =>
    obtain ⟨a, rfl, ha⟩ := r
    cases h
    rcases ha with ⟨o, _, ha⟩ | ⟨o, its, n, hk, hc, _⟩
    · exact .base (.frz ha)
    · exact .kList hk hc
  | _ => cases h
theorem s_isi : OpSL K (rIsi K) (isiD K) := by
  intro W A H n x v Q R c r h hR
  unfold isiD at h
  split at h
  · rename_i x c'
    obtain ⟨v, u, rfl, r1, r2⟩ := r.two
    obtain ⟨ho, h⟩ := h
    obtain ⟨t, ht, h⟩ := someD_elim h
    obtain ⟨uc, hu, h⟩ := someD_elim h
    obtain ⟨b, hb, h⟩ := someD_elim h
    have hcl : ClsV u uc := by
      cases c' with
      | ty nm => cases r2; cases hu; exact .ty nm
      | ref C => cases r2; cases hu; exact .own C
      | _ => cases hu
    exact ⟨v, u, t, uc, b, rfl, hcl, tyx_of r1 ho ht, hb, hR.here c (d := .bl b) rfl h⟩
  · exact h.elim
theorem de_isi (hg : Gl X "isinstance") (hm : X.mg "isinstance" = none) (ha : DA W X (e :: es) ta) (he : starEach (e :: es) X.env = (false, eval e X.env) :: starEach es X.env := by rfl) (hpl : (backTo pos (starEach es X.env)).any (·.1) = false := by rfl) : DE W X (.Call (.Name "isinstance" p) (e :: es) [] pos) (dL (isiD X.K) ta) :=
  de_callB call_isi s_isi (by decide +kernel) hg hm ha (by decide) (by decide) he hpl
/-! ### texts: join, slices -/
def D.strs : List D → Option (List Str)
  | [] => some []
  | .str b :: r => (D.strs r).map (b :: ·)
  | _ :: _ => none
theorem strs_of {A : Addr → Prop} {H : Hp} : ∀ {ds : List D} {vs : List V} {bs : List Str}, RepL K A H ds vs → D.strs ds = some bs → vs = bs.map V.str
  | [], _, _, r, e => by cases r; cases e; rfl
  | d :: ds, _, bs, ⟨v, r, rfl, q, t⟩, e => by
    cases d with
    | str b =>
      cases q
      obtain ⟨cs, h1, h2⟩ := Option.map_eq_some_iff.mp (show (D.strs ds).map (b :: ·) = some bs from e)
      subst h2
      rw [strs_of t h1]
      rfl
    | _ => cases e
def dJoin (to' t : TD) : TD := fun δ n Q => to' δ n fun x n1 => match x with
  | .str z => t δ n1 fun y n2 => match y with
    | .lst xs => someD (D.strs xs) fun ys => (ys.map (·.length)).sum + ys.length * z.length ≤ 16777216 ∧ Q (.str (Txt.join z ys)) n2
    | _ => False
  | _ => False
theorem de_join {o : Expr} {to' : TD} {apos : Pos} (ho : DE W X o to') (ha : DE W X e t) (hs : starEach [e] X.env = [(false, eval e X.env)] := by rfl) (hbase : attributeBase o "join" X.env (eval o X.env) = eval o X.env := by rfl) (hline : (apos.endLine == pos.line) = true := by rfl) :
    DE W X (.Call (.Attribute o "join" apos) [e] [] pos) (dJoin to' t) := by
  obtain ⟨tt, po, ro⟩ := ho
  obtain ⟨te, pe, re⟩ := ha
  refine ⟨_, pe_join po pe hs hbase hline, fun B O σ δ H n Q R p ht hR => ro B O σ δ H n _ _ p ht fun v d H1 n1 g1 q1 r1 h1 => ?_⟩
  have p1 := p.step g1 q1
  cases d with
  | str z =>
    cases r1
    refine ⟨⟨z, rfl⟩, re B O σ δ H1 n1 _ _ p1 h1 fun u y H2 n2 g2 q2 r2 h2 => ?_⟩
    cases y with
    | lst xs =>
      obtain ⟨a, vs, rfl, na, ha, ra⟩ := r2
      obtain ⟨ys, hy, hl, h⟩ := someD_elim h2
      have e := strs_of ra hy
      subst e
      exact ⟨z, a, ys, rfl, rfl, .inl (SqL.of ha), hl, hR _ (.str _) H2 n2 (g1.trans g2) q2 rfl h⟩
    | _ => exact h2.elim
  | _ => exact h1.elim
/-! ### slices of texts and lists -/
def doNone : List E → Nat → (Option Int → Nat → Prop) → Prop := fun _ n Q => Q none n
def doSome (t : TD) : List E → Nat → (Option Int → Nat → Prop) → Prop := fun δ n Q => t δ n fun x n1 => match x with
  | .int i => Q (some i) n1
  | _ => False
abbrev TDO := List E → Nat → (Option Int → Nat → Prop) → Prop
def DOR (W : Wd) (K : PySem.W.Frag) (te : TO) (t : TDO) : Prop := ∀ (B O : Addr → Prop) (σ : L2.St) (δ : List E) (H : Hp) (n : Nat) (Q : Option Int → Nat → Prop) (R : Option Int → Hp → Prop), Pre W K B O σ δ H n → t δ n Q →
  (∀ o H' n', Gr W H H' → W.good n' H' → Q o n' → R o H') → te σ H R
def DO (W : Wd) (X : Cx) (e : Option Expr) (t : TDO) : Prop := ∃ te, PO X e te ∧ DOR W X.K te t
theorem do_none : DO W X none doNone := ⟨_, po_none, fun B O σ δ H n Q R p ht hR => hR none H n (Gr.refl H) p.good ht⟩
theorem do_some (h : DE W X e t) : DO W X (some e) (doSome t) := by
  obtain ⟨te, pe, re⟩ := h
  refine ⟨_, po_some pe, fun B O σ δ H n Q R p ht hR => re B O σ δ H n _ _ p ht fun v d H1 n1 g1 q1 r1 h1 => ?_⟩
  cases d with
  | int i => cases r1; exact ⟨i, rfl, hR (some i) H1 n1 g1 q1 h1⟩
  | _ => exact h1.elim
def cutL (xs : List D) (lo hi : Option Int) : List D := (xs.drop (HT.sIx xs.length 0 lo)).take (HT.sIx xs.length xs.length hi - HT.sIx xs.length 0 lo)
def slD : D → Option Int → Option Int → Nat → (D → Nat → Prop) → Prop
  | .str z, lo, hi, n, Q => z.length ≤ sizeLine ∧ Q (.str (cutS z lo hi)) n
  | .lst xs, lo, hi, n, Q => Q (.lst (cutL xs lo hi)) n
  | _, _, _, _, _ => False
def dSl (t : TD) (tl th : TDO) : TD := fun δ n Q => t δ n fun x n1 => tl δ n1 fun l n2 => th δ n2 fun u n3 => slD x l u n3 Q
theorem de_slice {lo hi : Option Expr} {tl th : TDO} {p2 : Pos} (he : DE W X e t) (hl : DO W X lo tl) (hu : DO W X hi th) : DE W X (.Subscript e (.Slice lo hi none p2) pos) (dSl t tl th) := by
  obtain ⟨te, pe, re⟩ := he
  obtain ⟨ta, pa, ra⟩ := hl
  obtain ⟨tb, pb, rb⟩ := hu
  refine ⟨_, pe_slice (sl_str.or sl_list) pe pa pb, fun B O σ δ H n Q R p ht hR => re B O σ δ H n _ _ p ht fun v d H1 n1 g1 q1 r1 h1 => ?_⟩
  have p1 := p.step g1 q1
  refine ra B O σ δ H1 n1 _ _ p1 h1 fun l H2 n2 g2 q2 h2 => ?_
  have p2 := p1.step g2 q2
  refine rb B O σ δ H2 n2 _ _ p2 h2 fun u H3 n3 g3 q3 h3 => ?_
  have p3 := p2.step g3 q3
  have gg := g1.trans (g2.trans g3)
  cases d with
  | str z => cases r1; exact .inl ⟨z, rfl, h3.1, hR _ (.str _) H3 n3 gg q3 rfl h3.2⟩
  | lst xs =>
    obtain ⟨a, vs, rfl, na, ha, ra⟩ := p2.rep g3 (p1.rep g2 r1)
    have e : RepL X.K (AV B O) H3 (cutL xs l u) (cutV vs l u) := by
      unfold cutL cutV
      rw [ra.length]
      exact (ra.drop _).take _
    exact .inr ⟨a, vs, rfl, SqL.of ha, fun q hq => Ans.lst (fun v d H' n' g q r h => hR v d H' n' (gg.trans g) q r h) p3.cn e h3 hq⟩
  | _ => exact h3.elim
/-! ### repr -/
def D.isDisp : D → Bool
  | .lst _ => true
  | .tup _ => true
  | _ => false
/-- repr of a list or a tuple of plain data -/
def reprD : List D → Nat → (D → Nat → Prop) → Prop
  | [d], n, Q => d.isDisp = true ∧ someD d.py fun p => p.showable = true ∧ p.hasDict = false ∧ p.depth ≤ 60 ∧ p.shown.length ≤ sizeLine ∧ Q (.str p.shown) n
  | _, _, _ => False
theorem call_repr (hG : X.A.guards = some []) (hu : X.A.units + 64 < cLine) : CallR X (.builtin "repr") (fun xs H Q => ∃ a p, xs = [.ref a] ∧ Dp X.K H (.ref a) p ∧ p.showable = true ∧ p.hasDict = false ∧ p.depth ≤ 60 ∧ p.shown.length ≤ sizeLine ∧ Q (.str p.shown) H) := by
  intro pins s σ H xs us Q I r h
  obtain ⟨a, p, rfl, hd, hs, hh, hdep, hl, q⟩ := h
  obtain ⟨u, rfl, r1⟩ := vals1 r
  have e : u = Value.ref a := r1
  subst e
  obtain ⟨as, rd⟩ := Dp.reads I p (.ref a) (.ref a) hd rfl
  refine PySem.repr_of_reads' rd hs (fun z => by rw [hh] at z; cases z) hG (by omega) (fun _ _ z => z) (fun h' u tk hk => ?_) hl
  exact ⟨.str _, H, I.kept (t' := tk) hk, ⟨u, rfl⟩, q⟩
theorem de_repr (hG : X.A.guards = some []) (hu : X.A.units + 64 < cLine) (hg : Gl X "repr") (hm : X.mg "repr" = none) (ha : DE W X e t) (he : starEach [e] X.env = (false, eval e X.env) :: starEach [] X.env := by rfl) (hpl : (backTo pos (starEach [] X.env)).any (·.1) = false := by rfl) : DE W X (.Call (.Name "repr" p) [e] [] pos) (dL reprD (daCons t daNil)) := by
  refine de_callB (call_repr hG hu) ?_ (by decide +kernel) hg hm (da_cons ha da_nil he) (by decide) (by decide) he hpl
  intro W A H n x v Q R c r h hR
  unfold reprD at h
  split at h
  · rename_i d
    obtain ⟨hd, h⟩ := h
    obtain ⟨p, hp, h1, h2, h3, h4, h5⟩ := someD_elim h
    obtain ⟨v, rfl, r1⟩ := r.one
    have dp := dp_of d v p r1 hp
    have hv : ∃ a, v = .ref a := by
      cases d with
      | lst _ => obtain ⟨a, _, e, _⟩ := r1; exact ⟨a, e⟩
      | tup _ => obtain ⟨a, _, e, _⟩ := r1; exact ⟨a, e⟩
      | _ => cases hd
    obtain ⟨a, rfl⟩ := hv
    exact ⟨a, p, rfl, dp, h1, h2, h3, h4, hR.here c (d := .str _) rfl h5⟩
  · exact h.elim
end
end DL

set_option Elab.async false
set_option linter.all false
set_option autoImplicit false
set_option maxRecDepth 100000
set_option maxHeartbeats 4000000
namespace DL
open PySem PySem.Spec PyProof.Rows L2
section
variable {W : Wd} {X : Cx} {K : PySem.W.Frag} {pos : Pos} {e : Expr} {t : TD}
/-! ### dicts written out -/
theorem de_dict0 : DE W X (.Dict [] [] pos) (dC (.dic [] [])) := by
  refine ⟨_, pe_dnewK, fun B O σ δ H n Q R p ht hR a ha => ?_⟩
  exact hR (.ref a) (.dic [] []) _ n (Gr.new ha) (Wd.new p.good ha) ⟨a, [], rfl, p.fresh ha, upd_same, rfl, rfl⟩ ht
def dDict1 (k : Str) (t : TD) : TD := fun δ n Q => t δ n fun d n1 => Q (.dic [.inr k] [d]) n1
theorem de_dict1 {k : Str} {j : _} {p1 : Pos} (he : DE W X e t) : DE W X (.Dict [some (.Constant (.str k) j p1)] [e] pos) (dDict1 k t) := by
  obtain ⟨te, pe, re⟩ := he
  refine ⟨_, pe_disp (pps_cons pe_str pe pps_nil) (by rfl) (by rfl) (fun z => by cases z) (by show 1 ≤ 15; decide), fun B O σ δ H n Q R p ht hR a ha => ?_⟩
  have p1 := p.mine (u := .dK []) ha
  have nca : ¬ W.core a := p1.noc a (.inr rfl)
  show te σ (upd H a (.dK [])) _
  refine re B _ σ δ _ n _ _ p1 ht fun v d H1 n1 g1 q1 r1 h1 => ?_
  have hA : H1 a = some (.dK []) := g1 a _ nca upd_same
  have p2 := p1.step g1 q1
  refine ⟨hA, [(.inr k, v)], rfl, by show 1 ≤ 15; decide, ?_⟩
  have im : ∀ b o, ¬ AV B (fun b => O b ∨ b = a) b → H1 b = some o → ¬ AV B O b ∧ upd H1 a (.dK (mergeK [] [(.inr k, v)])) b = some o := fun b o nb e => ⟨fun z => nb (z.elim .inl fun z => .inr (.inl z)), (upd_ne fun z => nb (.inr (.inr z))).trans e⟩
  refine hR (.ref a) (.dic [.inr k] [d]) _ n1 (fun b o c e => (upd_ne (ne_of_none e ha)).trans (g1 b o c ((upd_ne (ne_of_none e ha)).trans e))) (W.stay q1 fun b c => upd_ne fun z => nca (by rw [← z]; exact c)) ⟨a, [v], rfl, fun z => ?_, upd_same, rfl, v, [], rfl, Rep.imp im d v r1, rfl⟩ h1
  exact p.fresh ha z
end
section
variable {W : Wd} {X : Cx} {K : PySem.W.Frag} {pos : Pos} {a b : Expr} {ta tb : TD}
/-! ### in, not in -/
def oneSign (s : Str) : Option Nat := match s.cps.toList with
  | [c] => some c
  | _ => none
theorem oneSign_eq {s : Str} {c : Nat} (h : oneSign s = some c) : s = ⟨#[c]⟩ := by
  obtain ⟨cps⟩ := s
  unfold oneSign at h
  split at h
  · rename_i d e
    cases h
    have e2 : cps = #[c] := by
      apply Array.toList_inj.mp
      exact e
    rw [e2]
  · cases h
/-- of one sign in a text; of plain data in a list -/
def inD (k : Bool) : D → D → Nat → (D → Nat → Prop) → Prop
  | .str s, .str z, n, Q => someD (oneSign s) fun c => Q (.bl (k ^^ decide (c ∈ z.cps.toList))) n
  | x, .lst ys, n, Q => someD x.py fun p => someD (D.pys ys) fun ps => SeqAt.shaped p = true ∧ SeqAt.shaped (.list ps) = true ∧ Q (.bl (k ^^ ps.any fun z => PyData.eqv z p)) n
  | _, _, _, _ => False
theorem inD_or {k : Bool} {x y : D} {n : Nat} {Q : D → Nat → Prop} (h : inD k x y n Q) : (∃ s z c, x = .str s ∧ y = .str z ∧ oneSign s = some c ∧ Q (.bl (k ^^ decide (c ∈ z.cps.toList))) n) ∨
    ∃ ys p ps, y = .lst ys ∧ x.py = some p ∧ D.pys ys = some ps ∧ SeqAt.shaped p = true ∧ SeqAt.shaped (.list ps) = true ∧ Q (.bl (k ^^ ps.any fun z => PyData.eqv z p)) n := by
  unfold inD at h
  split at h
  · obtain ⟨c, hc, h⟩ := someD_elim h
    exact .inl ⟨_, _, c, rfl, rfl, hc, h⟩
  · obtain ⟨p, hp, h⟩ := someD_elim h
    obtain ⟨ps, hps, h⟩ := someD_elim h
    exact .inr ⟨_, p, ps, rfl, hp, hps, h⟩
  · exact h.elim
theorem c_in (hu : X.A.units + 65 < cLine) : CmpD X .In (inD false) := ⟨_, op_in_sign.or (op_inD hu), fun W A H n x y v u Q R c rx ry h hR => by
  rcases inD_or h with ⟨s, z, k, rfl, rfl, hk, h⟩ | ⟨ys, p, ps, rfl, hp, hps, h1, h2, h⟩
  · cases rx; cases ry
    exact .inl ⟨k, z, by rw [oneSign_eq hk], rfl, hR.here c (d := .bl _) rfl (by simpa using h)⟩
  · obtain ⟨a, vs, rfl, na, ha, ra⟩ := ry
    exact .inr ⟨p, ps, dp_of x v p rx hp, .lst (SqL.of ha) (dp_ofs ys vs ps ra hps), h1, h2, hR.here c (d := .bl _) rfl (by simpa using h)⟩⟩
theorem c_notIn (hu : X.A.units + 65 < cLine) : CmpD X .NotIn (inD true) := ⟨_, op_notIn_sign.or (op_notInD hu), fun W A H n x y v u Q R c rx ry h hR => by
  rcases inD_or h with ⟨s, z, k, rfl, rfl, hk, h⟩ | ⟨ys, p, ps, rfl, hp, hps, h1, h2, h⟩
  · cases rx; cases ry
    exact .inl ⟨k, z, by rw [oneSign_eq hk], rfl, hR.here c (d := .bl _) rfl (by simpa using h)⟩
  · obtain ⟨a, vs, rfl, na, ha, ra⟩ := ry
    exact .inr ⟨p, ps, dp_of x v p rx hp, .lst (SqL.of ha) (dp_ofs ys vs ps ra hps), h1, h2, hR.here c (d := .bl _) rfl (by simpa using h)⟩⟩
end
section
variable {W : Wd} {X : Cx} {K : PySem.W.Frag}
variable {elt tg iter : Expr} {ifs : List Expr} {scope : Scope} {own : List (Str × Nat)} {ti : TDA} {g : TDG} {tt : TDT} {te : TD} {ws : List Nat} {pos spos py : Pos} {i : Nat} {y : Str}
/-! ### x = [..] on one line -/
theorem dsPre (hc : X.calm = true) (hN : X.N.Nodup) (hy : X.N[i]? = some y) (hyl : X.env.scope.names.lookup y = some .local)
    (hsw : swapsWith (.ListComp elt [⟨tg, iter, ifs, 0⟩] scope pos) (some (.Name y py)) spos.line X.env = pure true) (hi : DI W X tg iter ti) (ok : BlkOk X.N X.env.scope scope own)
    (hg : ∀ (s : Shared) (H : Hp) (C : Addr) (cl : List (Str × Addr)) (fp : List Addr), DG W (X.blk s H scope (compEnvC scope cl C X.env) fp) tg ws g)
    (ht : ∀ (s : Shared) (H : Hp) (C : Addr) (cl : List (Str × Addr)) (fp : List Addr), DTs W (X.blk s H scope (compEnvC scope cl C X.env) fp) ifs tt)
    (he : ∀ (s : Shared) (H : Hp) (C : Addr) (cl : List (Str × Addr)) (fp : List Addr), DE W (X.blk s H scope (compEnvC scope cl C X.env) fp) elt te)
    (hv : ∀ i ∈ ws, i ∈ own.map (·.2)) (hs : ∀ x, foldedSetIterable iter X.env x = pure x) :
    ∃ t, PS X (.Assign [.Name y py] (.ListComp elt [⟨tg, iter, ifs, 0⟩] scope pos) spos) (tAsg t (gName i)) ∧ DLR W X.K t (dComp ti g tt te (own.map (·.2))) := by
  obtain ⟨wi, pi, ri⟩ := hi
  exact ⟨_, ps_setLc hc hN hy hyl hsw pi ok (fun s H C cl fp => (hg s H C cl fp).canon) (fun s H C cl fp => (ht s H C cl fp).canon) (fun s H C cl fp => (he s H C cl fp).canon) hs, dlr_comp ri TGof.dgr TTof.dtr TEof.der hv⟩
theorem ds_ownLc (hc : X.calm = true) (hN : X.N.Nodup) (hy : X.N[i]? = some y) (hyl : X.env.scope.names.lookup y = some .local)
    (hsw : swapsWith (.ListComp elt [⟨tg, iter, ifs, 0⟩] scope pos) (some (.Name y py)) spos.line X.env = pure true) (hi : DI W X tg iter ti) (ok : BlkOk X.N X.env.scope scope own)
    (hg : ∀ (s : Shared) (H : Hp) (C : Addr) (cl : List (Str × Addr)) (fp : List Addr), DG W (X.blk s H scope (compEnvC scope cl C X.env) fp) tg ws g)
    (ht : ∀ (s : Shared) (H : Hp) (C : Addr) (cl : List (Str × Addr)) (fp : List Addr), DTs W (X.blk s H scope (compEnvC scope cl C X.env) fp) ifs tt)
    (he : ∀ (s : Shared) (H : Hp) (C : Addr) (cl : List (Str × Addr)) (fp : List Addr), DE W (X.blk s H scope (compEnvC scope cl C X.env) fp) elt te)
    (hv : ∀ i ∈ ws, i ∈ own.map (·.2) := by decide) (hs : ∀ x, foldedSetIterable iter X.env x = pure x := by intro _; rfl) :
    DS W X (.Assign [.Name y py] (.ListComp elt [⟨tg, iter, ifs, 0⟩] scope pos) spos) (dsOwn i (dComp ti g tt te (own.map (·.2)))) := by
  obtain ⟨t, ps, r⟩ := dsPre hc hN hy hyl hsw hi ok hg ht he hv hs
  exact ⟨_, ps, dsr_own r⟩
theorem der_of_dlr {t : TE} {tl : TDA} (r : DLR W K t tl) : DER W K t (dLst tl) := fun B O σ δ H n Q R p ht hR => r B O σ δ H n _ R p ht fun a vs ds H' n' hn g q ha hr hQ =>
  hR _ (.lst ds) H' n' g q ⟨a, vs, rfl, p.fresh hn, ha, RepL.imp (fun b o nb h => ⟨fun z => nb (.inl z), h⟩) ds vs hr⟩ hQ
theorem ds_setLc (hc : X.calm = true) (hN : X.N.Nodup) (hy : X.N[i]? = some y) (hyl : X.env.scope.names.lookup y = some .local)
    (hsw : swapsWith (.ListComp elt [⟨tg, iter, ifs, 0⟩] scope pos) (some (.Name y py)) spos.line X.env = pure true) (hi : DI W X tg iter ti) (ok : BlkOk X.N X.env.scope scope own)
    (hg : ∀ (s : Shared) (H : Hp) (C : Addr) (cl : List (Str × Addr)) (fp : List Addr), DG W (X.blk s H scope (compEnvC scope cl C X.env) fp) tg ws g)
    (ht : ∀ (s : Shared) (H : Hp) (C : Addr) (cl : List (Str × Addr)) (fp : List Addr), DTs W (X.blk s H scope (compEnvC scope cl C X.env) fp) ifs tt)
    (he : ∀ (s : Shared) (H : Hp) (C : Addr) (cl : List (Str × Addr)) (fp : List Addr), DE W (X.blk s H scope (compEnvC scope cl C X.env) fp) elt te)
    (hv : ∀ i ∈ ws, i ∈ own.map (·.2) := by decide) (hs : ∀ x, foldedSetIterable iter X.env x = pure x := by intro _; rfl) :
    DS W X (.Assign [.Name y py] (.ListComp elt [⟨tg, iter, ifs, 0⟩] scope pos) spos) (dsSet i (dLst (dComp ti g tt te (own.map (·.2))))) := by
  obtain ⟨t, ps, r⟩ := dsPre hc hN hy hyl hsw hi ok hg ht he hv hs
  exact ⟨_, ps, dsr_set (der_of_dlr r)⟩
end
end DL

set_option Elab.async false
set_option linter.all false
set_option autoImplicit false
set_option maxRecDepth 100000
set_option maxHeartbeats 4000000
namespace DL
open PySem PySem.Spec PyProof.Rows L2
theorem hu65 {k : Nat} {A : Around} (r : Room k A) : A.units + 65 < cLine := by have := r.un; omega
/-! ### any value -/
def six : List String := ["int", "bool", "str", "list", "tuple", "dict"]
structure InsP (K : PySem.W.Frag) (C : Addr) : Prop extends InsOk K C where
  no : ∀ T ∈ six, PySem.W.kitOne K (.ref C) (.type T) = some false
/-- a text as the model can lay it -/
def strOK (z : Str) : Prop := z.cps.all (· < 0x110000) = true ∧ z.length ≤ sizeLine
mutual
def D.fine (K : PySem.W.Frag) : D → Prop
  | .str z => strOK z
  | .lst xs => D.fines K xs
  | .tup xs => D.fines K xs
  | .dic _ xs => D.fines K xs
  | .ins C _ _ => InsP K C
  | .ref _ => False
  | .ty _ => False
  | .scr _ => False
  | .fix _ => False
  | _ => True
def D.fines (K : PySem.W.Frag) : List D → Prop
  | [] => True
  | d :: ds => D.fine K d ∧ D.fines K ds
end
theorem fines_iff {K : PySem.W.Frag} : ∀ {ds : List D}, D.fines K ds ↔ ∀ d ∈ ds, D.fine K d
  | [] => by simp [D.fines]
  | d :: ds => by simp [D.fines, fines_iff (ds := ds)]
def D.isA (T : String) : D → Bool
  | .bl _ => T == "bool" || T == "int"
  | .int _ => T == "int"
  | .str _ => T == "str"
  | .lst _ => T == "list"
  | .tup _ => T == "tuple"
  | .dic _ _ => T == "dict"
  | _ => false
theorem kit6 (K : PySem.W.Frag) : ∀ a ∈ ["NoneType", "bool", "int", "str", "list", "tuple", "dict"], ∀ T ∈ six, PySem.W.kitOne K (.type a) (.type T) = some (a == T || (a == "bool" && T == "int")) := by
  have h : ∀ a ∈ ["NoneType", "bool", "int", "str", "list", "tuple", "dict"], ∀ T ∈ six, kitB a T = some (a == T || (a == "bool" && T == "int")) := by decide +kernel
  exact fun a ha T hT => kit_ty (h a ha T hT)
theorem isi_fine {K : PySem.W.Frag} {d : D} {T : String} {n : Nat} {Q : D → Nat → Prop} (hT : T ∈ six) (h : d.fine K) (q : Q (.bl (d.isA T)) n) : isiD K [d, .ty T] n Q := by
  have six' : T = "int" ∨ T = "bool" ∨ T = "str" ∨ T = "list" ∨ T = "tuple" ∨ T = "dict" := by simpa [six] using hT
  have go : ∀ a ∈ ["NoneType", "bool", "int", "str", "list", "tuple", "dict"], tyD d = some (.type a) → d.insOk K → d.isA T = (a == T || (a == "bool" && T == "int")) → isiD K [d, .ty T] n Q := fun a ha e o e2 => by
    unfold isiD
    refine ⟨o, ?_⟩
    rw [e]
    show someD (PySem.W.kitOne K (.type a) (.type T)) fun b => Q (.bl b) n
    rw [kit6 K a ha T hT]
    rw [e2] at q
    exact q
  cases d with
  | non => exact go "NoneType" (by simp) rfl trivial (by rcases six' with rfl | rfl | rfl | rfl | rfl | rfl <;> decide)
  | bl b => exact go "bool" (by simp) rfl trivial (by rcases six' with rfl | rfl | rfl | rfl | rfl | rfl <;> simp [D.isA])
  | int i => exact go "int" (by simp) rfl trivial (by rcases six' with rfl | rfl | rfl | rfl | rfl | rfl <;> simp [D.isA])
  | str x => exact go "str" (by simp) rfl trivial (by rcases six' with rfl | rfl | rfl | rfl | rfl | rfl <;> simp [D.isA])
  | lst xs => exact go "list" (by simp) rfl trivial (by rcases six' with rfl | rfl | rfl | rfl | rfl | rfl <;> simp [D.isA])
  | tup xs => exact go "tuple" (by simp) rfl trivial (by rcases six' with rfl | rfl | rfl | rfl | rfl | rfl <;> simp [D.isA])
  | dic ks xs => exact go "dict" (by simp) rfl trivial (by rcases six' with rfl | rfl | rfl | rfl | rfl | rfl <;> simp [D.isA])
  | ins C ns xs =>
    have hp : InsP K C := h
    unfold isiD
    refine ⟨hp.toInsOk, ?_⟩
    show someD (PySem.W.kitOne K (.ref C) (.type T)) fun b => Q (.bl b) n
    rw [hp.no T hT]
    exact q
  | _ => exact h.elim
/-! ### names, sales, stretches -/
def isNumD : D → Bool
  | .int _ => true
  | _ => false
def isCntD : D → Bool
  | .int i => decide (0 ≤ i)
  | _ => false
def letterC (c : Nat) : Bool := decide (97 ≤ c) && decide (c ≤ 122)
def isNameD : D → Bool
  | .str z => decide (1 ≤ z.length) && decide (z.length ≤ 8) && z.cps.toList.all letterC
  | _ => false
def isSaleD : D → Bool
  | .tup [a, b, c, d] => isNameD a && isNameD b && isCntD c && isCntD d
  | _ => false
def isSpanD : D → Bool
  | .tup [.int i, .non] => decide (0 ≤ i)
  | .tup [.int i, .int j] => decide (0 ≤ i) && decide (i ≤ j)
  | _ => false
theorem isNum_isA (d : D) : (d.isA "int" && !d.isA "bool") = isNumD d := by cases d <;> simp [D.isA, isNumD]
theorem isNum_int {d : D} (h : isNumD d = true) : ∃ i, d = .int i := by
  cases d with
  | int i => exact ⟨i, rfl⟩
  | _ => cases h
theorem isA_str {d : D} (h : d.isA "str" = true) : ∃ z, d = .str z := by
  cases d with
  | str z => exact ⟨z, rfl⟩
  | _ => simp [D.isA] at h
theorem isA_tup {d : D} (h : d.isA "tuple" = true) : ∃ z, d = .tup z := by
  cases d with
  | tup z => exact ⟨z, rfl⟩
  | _ => simp [D.isA] at h
/-- comprehensions that draw nothing: the list is a map, a filter -/
theorem compD_map {g : TDG} {te : TD} {δ : List E} {f : D → D} {Q : List D → Nat → Prop} {n : Nat} : ∀ (ds acc : List D), (∀ d ∈ ds, ∀ Q' : D → Nat → Prop, Q' (f d) n → g d δ fun δ1 => te δ1 n Q') → acc.length + ds.length ≤ sizeLine → Q (acc ++ ds.map f) n → compD g dtYes te ds acc δ n Q
  | [], acc, _, _, q => by simpa [compD] using q
  | d :: ds, acc, h, hl, q => by
    have hd := h d List.mem_cons_self
    show g d δ fun δ1 => te δ1 n fun y n2 => acc.length < sizeLine ∧ compD g dtYes te ds (acc ++ [y]) δ n2 Q
    refine hd _ ⟨by simp only [List.length_cons] at hl; omega, ?_⟩
    refine compD_map ds (acc ++ [f d]) (fun e he => h e (List.mem_cons_of_mem _ he)) ?_ ?_
    · simp only [List.length_cons, List.length_append, List.length_nil] at hl ⊢; omega
    · simpa using q
theorem compD_filter {g : TDG} {tt : TDT} {te : TD} {δ : List E} {f : D → D} {c : D → Bool} {Q : List D → Nat → Prop} {n : Nat} : ∀ (ds acc : List D), (∀ d ∈ ds, ∀ Q' : List E → Bool → Nat → Prop, (∀ δ1, (∀ Q'' : D → Nat → Prop, Q'' (f d) n → te δ1 n Q'') → Q' δ1 (c d) n) → g d δ fun δ1 => tt δ1 n (Q' δ1)) → acc.length + ds.length ≤ sizeLine → Q (acc ++ (ds.filter c).map f) n → compD g tt te ds acc δ n Q
  | [], acc, _, _, q => by simpa [compD] using q
  | d :: ds, acc, h, hl, q => by
    have hd := h d List.mem_cons_self
    show g d δ fun δ1 => tt δ1 n fun b n1 => if b = true then te δ1 n1 fun y n2 => acc.length < sizeLine ∧ compD g tt te ds (acc ++ [y]) δ n2 Q else compD g tt te ds acc δ n1 Q
    refine hd (fun δ1 b n1 => if b = true then te δ1 n1 fun y n2 => acc.length < sizeLine ∧ compD g tt te ds (acc ++ [y]) δ n2 Q else compD g tt te ds acc δ n1 Q) fun δ1 hte => ?_
    have h' : ∀ d' ∈ ds, _ := fun e he => h e (List.mem_cons_of_mem _ he)
    cases hc : c d with
    | true =>
      rw [if_pos rfl]
      refine hte _ ⟨by simp only [List.length_cons] at hl; omega, ?_⟩
      refine compD_filter ds (acc ++ [f d]) h' ?_ ?_
      · simp only [List.length_cons, List.length_append, List.length_nil] at hl ⊢; omega
      · rw [List.filter_cons, if_pos hc] at q
        simpa using q
    | false =>
      rw [if_neg Bool.false_ne_true]
      refine compD_filter ds acc h' ?_ ?_
      · simp only [List.length_cons] at hl; omega
      · rw [List.filter_cons, if_neg (by simp [hc])] at q
        exact q
theorem lt_one (a b : Nat) : decide (([a] : List Nat) < [b]) = decide (a < b) := by
  by_cases h : a < b
  · rw [decide_eq_true h]
    exact decide_eq_true (List.Lex.rel h)
  · rw [decide_eq_false h]
    refine decide_eq_false fun z => ?_
    cases z with
    | rel h' => exact h h'
    | cons h' => cases h'
theorem bls_map (f : D → Bool) : ∀ ds : List D, D.bls (ds.map fun d => .bl (f d)) = some (ds.map f)
  | [] => rfl
  | d :: ds => by show (D.bls (ds.map fun d => .bl (f d))).map (f d :: ·) = _; rw [bls_map f ds]; rfl
end DL
namespace DL
open PySem PySem.Spec PyProof.Rows L2
def letterD : D → Bool
  | .str s => s.cps.toList.all letterC
  | _ => false
theorem signs_mem {z : Str} {d : D} (h : d ∈ dSigns z) : ∃ c, d = .str ⟨#[c]⟩ := by
  obtain ⟨c, _, e⟩ := List.mem_map.mp h
  exact ⟨c, e.symm⟩
theorem dSigns_len (z : Str) : (dSigns z).length = z.length := by unfold dSigns; rw [List.length_map, Array.length_toList]; rfl
theorem letters_all (z : Str) : (((dSigns z).map letterD).all id) = z.cps.toList.all letterC := by
  unfold dSigns
  rw [List.map_map, List.all_map]
  congr 1
  funext c
  show ([c].all letterC) = letterC c
  simp
/-- "a" <= c <= "z" -/
theorem letter_chain {c n : Nat} {Q : D → Nat → Prop} (h : Q (.bl (letterD (.str ⟨#[c]⟩))) n) :
    led (.str (Str.ofString "a")) (.str ⟨#[c]⟩) n fun z n3 => match z with
      | .bl k => if k = true then led (.str ⟨#[c]⟩) (.str (Str.ofString "z")) n3 Q else Q (.bl false) n3
      | _ => False := by
  have ea : (Str.ofString "a").cps.toList = [97] := by decide +kernel
  have ez : (Str.ofString "z").cps.toList = [122] := by decide +kernel
  have h : Q (.bl ([c].all letterC)) n := h
  rw [List.all_cons, List.all_nil, Bool.and_true] at h
  show if (!decide ((⟨#[c]⟩ : Str).cps.toList < (Str.ofString "a").cps.toList)) = true then Q (.bl (!decide ((Str.ofString "z").cps.toList < (⟨#[c]⟩ : Str).cps.toList))) n else Q (.bl false) n
  rw [ea, ez]
  show if (!decide (([c] : List Nat) < [97])) = true then Q (.bl (!decide (([122] : List Nat) < [c]))) n else Q (.bl false) n
  rw [lt_one, lt_one]
  unfold letterC at h
  by_cases h1 : c < 97
  · rw [decide_eq_true h1]
    rw [decide_eq_false (by omega : ¬ 97 ≤ c), Bool.false_and] at h
    exact h
  · rw [decide_eq_false h1]
    rw [decide_eq_true (by omega : 97 ≤ c), Bool.true_and] at h
    by_cases h2 : 122 < c
    · rw [decide_eq_true h2]
      rw [decide_eq_false (by omega : ¬ c ≤ 122)] at h
      exact h
    · rw [decide_eq_false h2]
      rw [decide_eq_true (by omega : c ≤ 122)] at h
      exact h
end DL
namespace DL
open PySem PySem.Spec PyProof.Rows L2
theorem iteT' {c A B : Prop} [Decidable c] (hc : c) (h : A) : if c then A else B := by rw [if_pos hc]; exact h
theorem eqD_int {k : Bool} {a b : Int} {n : Nat} {Q : D → Nat → Prop} (h : Q (.bl (k ^^ decide (a = b))) n) : eqD k (.int a) (.int b) n Q := by
  have e : decide (V.int a = V.int b) = decide (a = b) := by simp
  show if scal (.int a) (.int b) = true then Q (.bl (k ^^ decide (V.int a = V.int b))) n else eqDp k (.int a) (.int b) n Q
  refine iteT' rfl ?_
  rw [e]
  exact h
theorem eqD_str {k : Bool} {a b : Str} {n : Nat} {Q : D → Nat → Prop} (h : Q (.bl (k ^^ decide (a = b))) n) : eqD k (.str a) (.str b) n Q := by
  have e : decide (V.str a = V.str b) = decide (a = b) := by simp
  show if scal (.str a) (.str b) = true then Q (.bl (k ^^ decide (V.str a = V.str b))) n else eqDp k (.str a) (.str b) n Q
  refine iteT' rfl ?_
  rw [e]
  exact h
/-- a list against [] -/
theorem eqD_nil {k : Bool} {ds : List D} {ps : List PyData} {n : Nat} {Q : D → Nat → Prop} (h1 : D.pys ds = some ps) (h2 : SeqAt.shaped (.list ps) = true) (h : Q (.bl (k ^^ ds.isEmpty)) n) : eqD k (.lst ds) (.lst []) n Q := by
  have e : PyData.eqv (.list ps) (.list []) = ds.isEmpty := by
    cases ds with
    | nil => cases h1; simp [PyData.eqv, PyData.eqvAll]
    | cons d ds =>
      have hne : ps ≠ [] := fun z => by
        subst z
        unfold D.pys at h1
        split at h1 <;> cases h1
      cases ps with
      | nil => exact absurd rfl hne
      | cons p ps => simp [PyData.eqv, PyData.eqvAll]
  show match D.py (.lst ds), D.py (.lst []) with
    | some p, some q => SeqAt.shaped p = true ∧ SeqAt.shaped q = true ∧ Q (.bl (k ^^ PyData.eqv p q)) n
    | _, _ => False
  have e1 : D.py (.lst ds) = some (.list ps) := by show (D.pys ds).map PyData.list = _; rw [h1]; rfl
  have e2 : D.py (.lst []) = some (.list []) := rfl
  rw [e1, e2]
  refine ⟨h2, by decide +kernel, ?_⟩
  rw [e]
  exact h
end DL
namespace DL
theorem len4 {α : Type} {l : List α} (h : l.length = 4) : ∃ a b c d, l = [a, b, c, d] := by
  match l, h with
  | [a, b, c, d], _ => exact ⟨a, b, c, d, rfl⟩
theorem len2 {α : Type} {l : List α} (h : l.length = 2) : ∃ a b, l = [a, b] := by
  match l, h with
  | [a, b], _ => exact ⟨a, b, rfl⟩
end DL
namespace DL
open PySem PySem.Spec PyProof.Rows L2
section
variable {xs : List D} {z : Str} {ns : List Int} {n : Nat} {Q : D → Nat → Prop}
theorem lenD_lst (h : Q (.int xs.length) n) : lenD [.lst xs] n Q := h
theorem lenD_tup (h : Q (.int xs.length) n) : lenD [.tup xs] n Q := h
theorem lenD_str (h1 : z.length ≤ sizeLine) (h : Q (.int z.length) n) : lenD [.str z] n Q := ⟨h1, h⟩
theorem lenD_scr (h : Q (.int ns.length) n) : lenD [.scr ns] n Q := h
end
end DL

set_option Elab.async false
set_option linter.all false
set_option autoImplicit false
set_option maxRecDepth 100000
set_option maxHeartbeats 4000000
namespace DL
open PySem PySem.Spec PyProof.Rows L2
/-! ### the source of draws -/
def srcK (l c : Addr) (rest turn : Int) : List (Key × V) := [(.inr "large", .ref l), (.inr "cells", .ref c), (.inr "rest", .int rest), (.inr "turn", .int turn)]
structure StAt (a l c : Addr) (large : List Int) (rest turn : Int) (H : Hp) : Prop where
  st : H a = some (.dK (srcK l c rest turn))
  lg : H l = some (.lst (large.map V.int))
  cl : ∃ cells : List Int, H c = some (.lst (cells.map V.int))
def srcW (a l c : Addr) : Wd where
  core := fun b => b = a ∨ b = l ∨ b = c
  good := fun n H => ∃ large rest turn, StAt a l c large rest turn H ∧ 0 ≤ turn ∧ turn ≤ (n : Int)
  a := a
  stay := fun ⟨large, rest, turn, h, h1, h2⟩ k => ⟨large, rest, turn, ⟨(k a (.inl rfl)).trans h.st, (k l (.inr (.inl rfl))).trans h.lg, h.cl.elim fun cs e => ⟨cs, (k c (.inr (.inr rfl))).trans e⟩⟩, h1, h2⟩
  trk := fun {n H b} ⟨large, rest, turn, h, _, _⟩ hb => by
    rcases hb with rfl | rfl | rfl
    · exact ⟨_, h.st⟩
    · exact ⟨_, h.lg⟩
    · obtain ⟨cs, e⟩ := h.cl
      exact ⟨_, e⟩
theorem k_lc : ¬ ((Sum.inr ("large" : Str) : Key) = Sum.inr ("cells" : Str)) := by decide +kernel
theorem k_lr : ¬ ((Sum.inr ("large" : Str) : Key) = Sum.inr ("rest" : Str)) := by decide +kernel
theorem k_cr : ¬ ((Sum.inr ("cells" : Str) : Key) = Sum.inr ("rest" : Str)) := by decide +kernel
theorem k_tr : ¬ ((Sum.inr ("turn" : Str) : Key) = Sum.inr ("rest" : Str)) := by decide +kernel
theorem k_lt : ¬ ((Sum.inr ("large" : Str) : Key) = Sum.inr ("turn" : Str)) := by decide +kernel
theorem k_ct : ¬ ((Sum.inr ("cells" : Str) : Key) = Sum.inr ("turn" : Str)) := by decide +kernel
theorem k_rt : ¬ ((Sum.inr ("rest" : Str) : Key) = Sum.inr ("turn" : Str)) := by decide +kernel
theorem v_large (l c : Addr) (r t : Int) : valV (srcK l c r t) (.inr "large") = some (.ref l) := valV_pos rfl
theorem v_cells (l c : Addr) (r t : Int) : valV (srcK l c r t) (.inr "cells") = some (.ref c) := (valV_neg k_lc).trans (valV_pos rfl)
theorem v_rest (l c : Addr) (r t : Int) : valV (srcK l c r t) (.inr "rest") = some (.int r) := (valV_neg k_lr).trans ((valV_neg k_cr).trans (valV_pos rfl))
theorem v_turn (l c : Addr) (r t : Int) : valV (srcK l c r t) (.inr "turn") = some (.int t) := (valV_neg k_lt).trans ((valV_neg k_ct).trans ((valV_neg k_rt).trans (valV_pos rfl)))
theorem p_rest (l c : Addr) (r t y : Int) : putK (srcK l c r t) (.inr "rest") (.int y) = srcK l c y t := by
  unfold putK srcK
  simp only [List.any_cons, List.any_nil, List.map_cons, List.map_nil, k_lr, k_cr, k_tr, if_true, if_false, decide_true, decide_false, Bool.or_false, Bool.or_true, Bool.false_or, Bool.true_or]
theorem p_turn (l c : Addr) (r t y : Int) : putK (srcK l c r t) (.inr "turn") (.int y) = srcK l c r y := by
  unfold putK srcK
  simp only [List.any_cons, List.any_nil, List.map_cons, List.map_nil, k_lt, k_ct, k_rt, if_true, if_false, decide_true, decide_false, Bool.or_false, Bool.or_true, Bool.false_or, Bool.true_or]
theorem StAt.al {a l c : Addr} {lg : List Int} {r t : Int} {H : Hp} (h : StAt a l c lg r t H) : a ≠ l := ne_of h.st h.lg (by intro z; cases z)
theorem StAt.ac {a l c : Addr} {lg : List Int} {r t : Int} {H : Hp} (h : StAt a l c lg r t H) : a ≠ c := by
  obtain ⟨cs, e⟩ := h.cl
  exact ne_of h.st e (by intro z; cases z)
theorem StAt.put {a l c : Addr} {lg : List Int} {r t : Int} {H : Hp} (h : StAt a l c lg r t H) (r' t' : Int) : StAt a l c lg r' t' (upd H a (.dK (srcK l c r' t'))) :=
  ⟨upd_same, (upd_ne h.al.symm).trans h.lg, h.cl.elim fun cs e => ⟨cs, (upd_ne h.ac.symm).trans e⟩⟩
section
variable {X : Cx} {a l c : Addr} {pos p1 : Pos} {j : _} {o : Expr} {i : Nat}
theorem src_at {W : Wd} {K : PySem.W.Frag} {B O : Addr → Prop} {σ : L2.St} {δ : List E} {H : Hp} {n : Nat} (p : Pre W K B O σ δ H n) (h : δ[i]? = some (.val (.ref a))) : σ[i]? = some (some (.ref a)) := by
  obtain ⟨v, h1, h2⟩ := p.env.val i _ h
  cases h2
  exact h1
/-- state["rest"], state["turn"] -/
def dSrc (i : Nat) (a : Addr) (f : Nat → Int → Prop) : TD := fun δ n Q => δ[i]? = some (.val (.ref a)) ∧ ∀ r, f n r → Q (.int r) n
theorem de_rest (hu : X.A.units + 1 < cLine) (ho : PE X o (tVar i)) (hs : NoSl (.Constant (.str "rest") j p1) := by exact fun _ _ => rfl) : DE (srcW a l c) X (.Subscript o (.Constant (.str "rest") j p1) pos) (dSrc i a fun _ _ => True) := by
  refine ⟨_, pe_dget hu ho pe_str hs, fun B O σ δ H n Q R p ⟨h, hq⟩ hR => ?_⟩
  obtain ⟨large, rest, turn, S, t0, t1⟩ := p.good
  refine ⟨_, src_at p h, a, .int rest, rfl, ?_, hR _ (.int rest) H n (Gr.refl H) p.good rfl (hq rest trivial)⟩
  have g := DGet.k (k := .inr "rest") S.st
  rw [v_rest] at g
  exact g
theorem de_turn (hu : X.A.units + 1 < cLine) (ho : PE X o (tVar i)) (hs : NoSl (.Constant (.str "turn") j p1) := by exact fun _ _ => rfl) : DE (srcW a l c) X (.Subscript o (.Constant (.str "turn") j p1) pos) (dSrc i a fun n r => 0 ≤ r ∧ r ≤ (n : Int)) := by
  refine ⟨_, pe_dget hu ho pe_str hs, fun B O σ δ H n Q R p ⟨h, hq⟩ hR => ?_⟩
  obtain ⟨large, rest, turn, S, t0, t1⟩ := p.good
  refine ⟨_, src_at p h, a, .int turn, rfl, ?_, hR _ (.int turn) H n (Gr.refl H) p.good rfl (hq turn ⟨t0, t1⟩)⟩
  have g := DGet.k (k := .inr "turn") S.st
  rw [v_turn] at g
  exact g
/-- the state as an object of the source has changed -/
theorem Pre.src {K : PySem.W.Frag} {B O : Addr → Prop} {σ : L2.St} {δ : List E} {H H' : Hp} {n n' : Nat} (p : Pre (srcW a l c) K B O σ δ H n) (g : Gr (srcW a l c) H H') (q : (srcW a l c).good n' H') : Pre (srcW a l c) K B O σ δ H' n' := p.step g q
theorem gr_put {b : Addr} {u : HO} {H : Hp} (h : (srcW a l c).core b) : Gr (srcW a l c) H (upd H b u) := fun d o nc e => (upd_ne fun z => nc (by rw [z]; exact h)).trans e
/-- state["rest"] = e, state["turn"] = e -/
def dsRest (i : Nat) (a : Addr) (te : TD) : TDS := fun D δ n => δ[i]? = some (.val (.ref a)) ∧ te δ n fun d n1 => match d with
  | .int _ => D.nx δ n1
  | _ => False
def dsTurn (i : Nat) (a : Addr) (te : TD) : TDS := fun D δ n => δ[i]? = some (.val (.ref a)) ∧ te δ n fun d n1 => match d with
  | .int t => 0 ≤ t ∧ t ≤ (n1 : Int) + 1 ∧ D.nx δ (n1 + 1)
  | _ => False
theorem ds_putRest {e : Expr} {te : TD} {spos : Pos} (hu : X.A.units + 1 < cLine) (ho : PE X o (tVar i)) (he : DE (srcW a l c) X e te) (hs : swapsWith e (some (.Subscript o (.Constant (.str "rest") j p1) pos)) spos.line X.env = pure false := by rfl) :
    DS (srcW a l c) X (.Assign [.Subscript o (.Constant (.str "rest") j p1) pos] e spos) (dsRest i a te) := by
  obtain ⟨tt, pe, re⟩ := he
  refine ⟨_, ps_dput hu ho pe_str pe hs, fun B O σ δ H n D F p ⟨h, hq⟩ s => re B O σ δ H n _ _ p hq fun v d H1 n1 g1 q1 r1 h1 => ?_⟩
  have p1 := p.step g1 q1
  cases d with
  | int r =>
    cases r1
    obtain ⟨large, rest, turn, S, t0, t1⟩ := q1
    refine ⟨_, src_at p h, a, _, rfl, DPut.k (k := .inr "rest") S.st (by show 4 < sizeLine; decide), ?_⟩
    rw [p_rest]
    have q2 : (srcW a l c).good n1 (upd H1 a (.dK (srcK l c r turn))) := ⟨large, r, turn, S.put r turn, t0, t1⟩
    exact s.nx O σ δ _ n1 (p1.step (gr_put (.inl rfl)) q2) (Gn.of (g1.trans (gr_put (.inl rfl)))) h1
  | _ => exact h1.elim
theorem ds_putTurn {e : Expr} {te : TD} {spos : Pos} (hu : X.A.units + 1 < cLine) (ho : PE X o (tVar i)) (he : DE (srcW a l c) X e te) (hs : swapsWith e (some (.Subscript o (.Constant (.str "turn") j p1) pos)) spos.line X.env = pure false := by rfl) :
    DS (srcW a l c) X (.Assign [.Subscript o (.Constant (.str "turn") j p1) pos] e spos) (dsTurn i a te) := by
  obtain ⟨tt, pe, re⟩ := he
  refine ⟨_, ps_dput hu ho pe_str pe hs, fun B O σ δ H n D F p ⟨h, hq⟩ s => re B O σ δ H n _ _ p hq fun v d H1 n1 g1 q1 r1 h1 => ?_⟩
  have p1 := p.step g1 q1
  cases d with
  | int r =>
    cases r1
    obtain ⟨large, rest, turn, S, t0, t1⟩ := q1
    refine ⟨_, src_at p h, a, _, rfl, DPut.k (k := .inr "turn") S.st (by show 4 < sizeLine; decide), ?_⟩
    rw [p_turn]
    have q2 : (srcW a l c).good (n1 + 1) (upd H1 a (.dK (srcK l c rest r))) := ⟨large, rest, r, S.put rest r, h1.1, by have := h1.2.1; omega⟩
    exact s.nx O σ δ _ (n1 + 1) (p1.step (gr_put (.inl rfl)) q2) (Gn.of (g1.trans (gr_put (.inl rfl)))) h1.2.2
  | _ => exact h1.elim
theorem shaped_ints (ns : List Int) : SeqAt.shaped (.list (ns.map PyData.int)) = true := by
  have h1 : ∀ ns : List Int, PyData.canLayAll0 (ns.map PyData.int) = true := fun ns => by
    induction ns with
    | nil => simp [PyData.canLayAll0]
    | cons n ns ih => simp [PyData.canLayAll0, PyData.canLay0, ih]
  have h2 : ∀ ns : List Int, PyData.depthAll (ns.map PyData.int) = 0 := fun ns => by
    induction ns with
    | nil => simp [PyData.depthAll]
    | cons n ns ih => simp [PyData.depthAll, PyData.depth, ih]
  unfold SeqAt.shaped
  simp [PyData.canLay0, PyData.depth, h1, h2]
theorem dp_ints {K : PySem.W.Frag} {H : Hp} : ∀ ns : List Int, DpAll K H (ns.map V.int) (ns.map PyData.int)
  | [] => .nil
  | n :: ns => .cons (.int n) (dp_ints ns)
theorem eqv_ints_nil (ns : List Int) : PyData.eqv (.list (ns.map PyData.int)) (.list []) = ns.isEmpty := by
  cases ns <;> simp [PyData.eqv, PyData.eqvAll]
/-- state["cells"][int(turn) % len(state["cells"])] if state["cells"] != [] else 0: some number -/
theorem der_cell {K : PySem.W.Frag} {k : Nat} : DER (srcW a l c) K (tIf (tTest (tOp (rNeD K) (tDGet (tVar i) (tC (.str "cells"))) (tLst tNil)))
    (tOp (rIx K) (tDGet (tVar i) (tC (.str "cells"))) (tOp (rI (fun _ j => 0 < j) fun i j => .int (i % j)) (tCB (fun xs H Q => (∃ i, xs = [.int i] ∧ Q (.int i) H) ∨ ∃ k, xs = [.bl k] ∧ Q (.int (if k then 1 else 0)) H) (tCons (tVar k) tNil)) (tCB (fun xs H Q => ∃ x n, xs = [x] ∧ LenV K x H n ∧ Q (.int n) H) (tCons (tDGet (tVar i) (tC (.str "cells"))) tNil)))) (tC (.int 0)))
    (fun δ n Q => δ[i]? = some (.val (.ref a)) ∧ (∃ t : Int, δ[k]? = some (.val (.int t))) ∧ ∀ r : Int, Q (.int r) n) := by
  intro B O σ δ H n Q R p ⟨h, ⟨t, ht⟩, hq⟩ hR
  obtain ⟨large, rest, turn, S, t0, t1⟩ := id p.good
  obtain ⟨cells, hc⟩ := S.cl
  have g : ∀ {H' : Hp}, H' a = some (.dK (srcK l c rest turn)) → DGet H' a (.str "cells") (some (.ref c)) := fun e => by
    have g := DGet.k (k := .inr "cells") e
    rw [v_cells] at g
    exact g
  have hk : σ[k]? = some (some (.int t)) := by
    obtain ⟨v, h1, h2⟩ := p.env.val k _ ht
    cases h2
    exact h1
  refine ⟨_, src_at p h, a, .ref c, rfl, g S.st, Nat.zero_le _, fun b hb => ?_⟩
  have na : a ≠ b := fun z => by rw [← z, S.st] at hb; cases hb
  have nc : c ≠ b := fun z => by rw [← z, hc] at hb; cases hb
  have S1 : upd H b (.lst []) a = some (.dK (srcK l c rest turn)) := (upd_ne na).trans S.st
  have c1 : upd H b (.lst []) c = some (.lst (cells.map V.int)) := (upd_ne nc).trans hc
  refine ⟨.list (cells.map PyData.int), .list [], .lst (SqL.of c1) (dp_ints cells), .lst (SqL.of upd_same) .nil, shaped_ints cells, by decide +kernel, _, rfl, ?_⟩
  rw [eqv_ints_nil]
  have fin : ∀ r : Int, R (.int r) (upd H b (.lst [])) := fun r => hR _ (.int r) _ n (Gr.new hb) (Wd.new p.good hb) rfl (hq r)
  cases cells with
  | nil => exact iteF (fin 0)
  | cons z zs =>
    refine iteT ⟨_, src_at p h, a, .ref c, rfl, g S1, _, hk, .inl ⟨t, rfl, _, src_at p h, a, .ref c, rfl, g S1, .ref c, ((z :: zs).map V.int).length, rfl, .inl ⟨_, SqL.of c1, rfl⟩, ?_⟩⟩
    have hlen : ((z :: zs).map V.int).length = zs.length + 1 := by simp
    refine ⟨t, _, rfl, rfl, by rw [hlen]; omega, ?_⟩
    have h0 : 0 ≤ t % (((((z :: zs).map V.int).length : Nat) : Int)) := Int.emod_nonneg _ (by rw [hlen]; omega)
    have h1 : t % (((((z :: zs).map V.int).length : Nat) : Int)) < ((((z :: zs).map V.int).length : Nat) : Int) := Int.emod_lt_of_pos _ (by rw [hlen]; omega)
    have hix : ∃ r : Int, atI ((z :: zs).map V.int) (t % (((((z :: zs).map V.int).length : Nat) : Int))) = some (.int r) := by
      obtain ⟨q, hqe⟩ : ∃ q : Nat, t % (((((z :: zs).map V.int).length : Nat) : Int)) = (q : Int) := ⟨_, (Int.toNat_of_nonneg h0).symm⟩
      rw [hqe] at h1 ⊢
      have hl : q < (z :: zs).length := by rw [List.length_map] at h1; omega
      refine ⟨(z :: zs)[q], atI_nat ?_⟩
      rw [List.getElem?_map, List.getElem?_eq_getElem hl]
      rfl
    obtain ⟨r, hr⟩ := hix
    exact .inl ⟨c, _, _, _, rfl, rfl, SqL.of c1, hr, fin r⟩
/-- the large numbers are taken one by one until rest is not 0 -/
theorem dsr_drain {K : PySem.W.Frag} {tp : TE} (htp : tp = tBM K "list" rPopAt (tDGet (tVar i) (tC (.str "large"))) (tCons (tC (.int 0)) tNil)) :
    DSR (srcW a l c) K (tWhile (tAnd (tTest (tOp rEq (tDGet (tVar i) (tC (.str "rest"))) (tC (.int 0)))) (tTest (tOp (rNeD K) (tDGet (tVar i) (tC (.str "large"))) (tLst tNil)))) (sDPut (tVar i) (tC (.str "rest")) tp))
    (fun D δ n => δ[i]? = some (.val (.ref a)) ∧ D.nx δ n) := by
  subst htp
  intro B O σ δ H n D F p ⟨h, hq⟩ s
  have hs := src_at p h
  refine ⟨fun m σ' H' => σ' = σ ∧ Gr (srcW a l c) H H' ∧ ∃ large rest turn, StAt a l c large rest turn H' ∧ large.length = m ∧ 0 ≤ turn ∧ turn ≤ (n : Int), ?_, ?_⟩
  · obtain ⟨large, rest, turn, S, t0, t1⟩ := p.good
    exact ⟨_, rfl, Gr.refl H, large, rest, turn, S, rfl, t0, t1⟩
  · rintro m σ' H' ⟨rfl, g', large, rest, turn, S, rfl, t0, t1⟩
    have gk : ∀ {H' : Hp} {k : Str} {v : V}, H' a = some (.dK (srcK l c rest turn)) → valV (srcK l c rest turn) (.inr k) = some v → DGet H' a (.str k) (some v) := fun {H' k v} e ev => by
      have g := DGet.k (k := .inr k) e
      rw [ev] at g
      exact g
    have fin : ∀ {H2 : Hp}, Gr (srcW a l c) H' H2 → StAt a l c large rest turn H2 → F.nx σ' H2 := fun {H2} g2 S2 =>
      s.nx O σ' δ H2 n (p.step (g'.trans g2) ⟨large, rest, turn, S2, t0, t1⟩) (Gn.of (g'.trans g2)) hq
    refine ⟨_, hs, a, .int rest, rfl, gk S.st (v_rest _ _ _ _), rfl, _, rfl, ?_⟩
    refine ite2 (fun _ => ?_) (fun h0 => ?_)
    · refine ⟨_, hs, a, .ref l, rfl, gk S.st (v_large _ _ _ _), Nat.zero_le _, fun b hb => ?_⟩
      have na : a ≠ b := fun z => by rw [← z, S.st] at hb; cases hb
      have nl : l ≠ b := fun z => by rw [← z, S.lg] at hb; cases hb
      have nc : c ≠ b := fun z => by obtain ⟨cs, hc⟩ := S.cl; rw [← z, hc] at hb; cases hb
      have S1 : StAt a l c large rest turn (upd H' b (.lst [])) := ⟨(upd_ne na).trans S.st, (upd_ne nl).trans S.lg, S.cl.elim fun cs e => ⟨cs, (upd_ne nc).trans e⟩⟩
      have g1 : Gr (srcW a l c) H' (upd H' b (.lst [])) := Gr.new hb
      refine ⟨.list (large.map PyData.int), .list [], .lst (SqL.of S1.lg) (dp_ints large), .lst (SqL.of upd_same) .nil, shaped_ints large, by decide +kernel, _, rfl, ?_⟩
      rw [eqv_ints_nil]
      cases large with
      | nil => exact iteF (fin g1 S1)
      | cons z zs =>
        refine iteT ⟨fun σ2 H2 => σ2 = σ' ∧ Gr (srcW a l c) H H2 ∧ ∃ rest', StAt a l c zs rest' turn H2, fun σ2 H2 ⟨e, g2, rest', S2⟩ => ⟨zs.length, by simp, e, g2, zs, rest', turn, S2, rfl, t0, t1⟩, ?_⟩
        refine ⟨_, hs, a, .ref l, rfl, gk S1.st (v_large _ _ _ _), .inl ⟨rfl, _, SqL.of S1.lg⟩, l, (z :: zs).map V.int, 0, 0, .int z, rfl, rfl, S1.lg, by decide, by decide, ?_, rfl, ?_⟩
        · exact seqIx (by decide) (by rw [List.length_map, List.length_cons]; omega)
        have S2 : StAt a l c zs rest turn (upd (upd H' b (.lst [])) l (.lst (zs.map V.int))) := ⟨(upd_ne S1.al).trans S1.st, upd_same, by
          by_cases q : c = l
          · exact ⟨zs, by rw [q]; exact upd_same⟩
          · obtain ⟨cs, e⟩ := S1.cl
            exact ⟨cs, (upd_ne q).trans e⟩⟩
        refine ⟨_, hs, a, _, rfl, DPut.k (k := .inr "rest") S2.st (by show 4 < sizeLine; decide), ?_⟩
        rw [p_rest]
        exact ⟨rfl, g'.trans (g1.trans ((gr_put (.inr (.inl rfl))).trans (gr_put (.inl rfl)))), z, S2.put z turn⟩
    · exact fin (Gr.refl _) S
end
end DL

set_option Elab.async false
set_option linter.all false
set_option autoImplicit false
set_option maxRecDepth 100000
set_option maxHeartbeats 4000000
namespace DL
open PySem PySem.Spec PyProof.Rows L2
section
variable {W : Wd} {X : Cx} {K : PySem.W.Frag} {pos : Pos}
/-! ### dicts with text keys, written out -/
def DPR (W : Wd) (K : PySem.W.Frag) (trs : List (TE × TE)) (ks : List Str) (t : TDA) : Prop := ∀ (B O : Addr → Prop) (σ : L2.St) (δ : List E) (H : Hp) (n : Nat) (Q : List D → Nat → Prop) (R : List (V × V) → Hp → Prop), Pre W K B O σ δ H n → t δ n Q →
  (∀ vs ds H' n', Gr W H H' → W.good n' H' → vs.length = ks.length → RepL K (AV B O) H' ds vs → Q ds n' → R (((ks.map fun k => (Sum.inr k : Key)).zip vs).map fun kv => (kV kv.1, kv.2)) H') → tPairs trs σ H R
def DP (W : Wd) (X : Cx) (pos : Pos) (keys : List (Option Expr)) (values : List Expr) (ks : List Str) (t : TDA) : Prop := ∃ trs, PPs X pos keys values trs ∧ DPR W X.K trs ks t
theorem dp_nil : DP W X pos [] [] [] daNil := ⟨_, pps_nil, fun B O σ δ H n Q R p ht hR => hR [] [] H n (Gr.refl H) p.good rfl rfl ht⟩
theorem dp_cons {k : Str} {j : _} {p1 : Pos} {v : Expr} {ks : List Str} {keys : List (Option Expr)} {values : List Expr} {t : TD} {tr : TDA} (hv : DE W X v t) (hr : DP W X pos keys values ks tr) : DP W X pos (some (.Constant (.str k) j p1) :: keys) (v :: values) (k :: ks) (daCons t tr) := by
  obtain ⟨te, pe, re⟩ := hv
  obtain ⟨trs, pp, rr⟩ := hr
  refine ⟨_, pps_cons pe_str pe pp, fun B O σ δ H n Q R p ht hR => ?_⟩
  show te σ H _
  refine re B O σ δ H n _ _ p ht fun v x H1 n1 g1 q1 r1 h1 => ?_
  have p1 := p.step g1 q1
  refine rr B O σ δ H1 n1 _ _ p1 h1 fun vs ds H2 n2 g2 q2 hl r2 h2 => ?_
  exact hR (v :: vs) (x :: ds) H2 n2 (g1.trans g2) q2 (by rw [List.length_cons, List.length_cons, hl]) ⟨v, vs, rfl, p1.rep g2 r1, r2⟩ h2
theorem mergeK_nd : ∀ {more kvs : List (Key × V)}, ((kvs ++ more).map (·.1)).Nodup → mergeK kvs more = kvs ++ more
  | [], kvs, _ => by simp [mergeK]
  | p :: r, kvs, h => by
    have hn : valV kvs p.1 = .none := by
      cases e : valV kvs p.1 with
      | none => rfl
      | some v =>
        exfalso
        have hm := valV_in e
        rw [List.map_append, List.map_cons] at h
        exact (List.nodup_append.mp h).2.2 p.1 hm p.1 List.mem_cons_self rfl
    show mergeK (putK kvs p.1 p.2) r = _
    rw [putK_new p.2 hn, mergeK_nd (by simpa using h)]
    simp
def dDict (ks : List Str) (t : TDA) : TD := fun δ n Q => t δ n fun ds n1 => Q (.dic (ks.map .inr) ds) n1
theorem de_dict {keys : List (Option Expr)} {values : List Expr} {ks : List Str} {t : TDA} (h : DP W X pos keys values ks t) (hall : keys.all (·.isSome) = true) (hl : keys.length = values.length) (h0 : keys ≠ []) (h15 : keys.length ≤ 15) (hk : ks.length ≤ 15) (nd : ks.Nodup) : DE W X (.Dict keys values pos) (dDict ks t) := by
  obtain ⟨trs, pp, rr⟩ := h
  refine ⟨_, pe_disp pp hall hl h0 h15, fun B O σ δ H n Q R p ht hR a ha => ?_⟩
  have p1 := p.mine (u := .dK []) ha
  have nca : ¬ W.core a := p1.noc a (.inr rfl)
  refine rr B _ σ δ _ n _ _ p1 ht fun vs ds H1 n1 g1 q1 hvl r1 h1 => ?_
  have hA : H1 a = some (.dK []) := g1 a _ nca upd_same
  have hzl : ((ks.map fun k => (Sum.inr k : Key)).zip vs).length ≤ 15 := by rw [List.length_zip, List.length_map]; omega
  refine ⟨hA, _, rfl, hzl, ?_⟩
  have hm : mergeK [] ((ks.map fun k => (Sum.inr k : Key)).zip vs) = (ks.map fun k => (Sum.inr k : Key)).zip vs := by
    rw [mergeK_nd]
    · simp
    · rw [List.nil_append, List.map_fst_zip (by rw [List.length_map, hvl]; exact Nat.le_refl _)]
      exact List.Pairwise.map _ (fun a b h e => h (Sum.inr.inj e)) nd
  rw [hm]
  have im : ∀ b o, ¬ AV B (fun b => O b ∨ b = a) b → H1 b = some o → ¬ AV B O b ∧ upd H1 a (.dK ((ks.map fun k => (Sum.inr k : Key)).zip vs)) b = some o := fun b o nb e => ⟨fun z => nb (z.elim .inl fun z => .inr (.inl z)), (upd_ne fun z => nb (.inr (.inr z))).trans e⟩
  refine hR (.ref a) (.dic (ks.map .inr) ds) _ n1 (fun b o c e => (upd_ne (ne_of_none e ha)).trans (g1 b o c ((upd_ne (ne_of_none e ha)).trans e))) (W.stay q1 fun b c => upd_ne fun z => nca (by rw [← z]; exact c)) ⟨a, vs, rfl, fun z => ?_, upd_same, by rw [List.length_map, hvl], RepL.imp im ds vs r1⟩ h1
  exact p.fresh ha z
end
/-! ### from the source on -/
section
variable {X : Cx} {a l c : Addr} {st : List Stmt} {t : TDS}
/-- a draw that was not made may be counted -/
theorem dss_bump (h : DSs (srcW a l c) X st t) : DSs (srcW a l c) X st (fun D δ n => t D δ (n + 1)) := by
  obtain ⟨ts, ps, rs⟩ := h
  refine ⟨ts, ps, fun B O σ δ H n D F p h s => rs B O σ δ H (n + 1) D F ⟨p.core, p.trk, p.dj, p.env, ?_⟩ h s⟩
  obtain ⟨large, rest, turn, S, t0, t1⟩ := p.good
  exact ⟨large, rest, turn, S, t0, by omega⟩
end
def srcKs : List Str := ["large", "cells", "rest", "turn"]
/-- what the law wants: True -/
def Dlaw : DEnds := ⟨fun _ _ => False, fun d _ => d = .bl true, fun _ _ => False, fun _ _ => False⟩
/-- a law's body: the source is made, then the rest runs from it -/
theorem law_begin {X : Cx} {x : Str} {e : Expr} {te : TD} {i m : Nat} {pos pos' : Pos} {rest : List Stmt} {t : Addr → Addr → Addr → TDS} (hN : X.N.Nodup) (hi : X.N[i]? = some x) (hx : Loc X.env.scope x) (he : DE Wd.none X e te) (hr : ∀ a l c, DSs (srcW a l c) X rest (t a l c))
    (hs : swapsWith e (some (.Name x pos')) pos.line X.env = pure false := by rfl) (hf : X.fn x = true ∨ X.env.scope.names.lookup x = some .local := by first | exact .inl rfl | exact .inr rfl | assumption) :
    ∃ ts, PSs X (.Assign [.Name x pos'] e pos :: rest) ts ∧ ∀ (ns : List Int) (σ : L2.St) (H : Hp) (F : Ends), EnvOk X.K (fun _ => False) (fun _ => False) σ (E.val (.scr ns) :: List.replicate m .emp) H → 0 < i →
      te (E.val (.scr ns) :: List.replicate m .emp) 0 (fun d _ => ∃ xs ys : List Int, d = .dic (srcKs.map .inr) [.lst (xs.map .int), .lst (ys.map .int), .int 0, .int 0] ∧ ∀ a l c, t a l c Dlaw ((E.val (.scr ns) :: List.replicate m .emp).set i (.val (.ref a))) 0) →
      (∀ H', F.rt (.bl true) H') → ts F σ H := by
  obtain ⟨tt, pe, re⟩ := he
  have key : PSs X rest (fun F σ H => ∃ (a l c : Addr) (B O : Addr → Prop) (δ : List E) (n : Nat) (D : DEnds), Pre (srcW a l c) X.K B O σ δ H n ∧ t a l c D δ n ∧ SPost (srcW a l c) X.K B O H D F) := by
    refine ⟨fun pins s σ H F I ⟨a, l, c, B, O, δ, n, D, p, h, sp⟩ => ?_⟩
    obtain ⟨ts, ps, rs⟩ := hr a l c
    exact ps.run pins s σ H F I (rs B O σ δ H n D F p h sp)
  refine ⟨_, pss_cons (L2.ps_set hN hi hx pe hs hf) key, fun ns σ H F ev i0 ht hF => ?_⟩
  have p0 : Pre Wd.none X.K (fun _ => False) (fun _ => False) σ (E.val (.scr ns) :: List.replicate m .emp) H 0 := ⟨fun b z => z.elim, fun b z => z.elim (fun z => z.elim) fun z => z.elim, fun b z => z.elim, ev, trivial⟩
  refine re _ _ σ _ H 0 _ _ p0 ht fun v d H1 n1 g1 _ r1 ⟨xs, ys, hd, h⟩ => ?_
  subst hd
  obtain ⟨a, vs, rfl, _, ha, hl, rl⟩ := r1
  obtain ⟨v1, _, rfl, ⟨l, us, rfl, _, hlg, r2⟩, v2, _, rfl, ⟨c, ws, rfl, _, hcl, r3⟩, v3, _, rfl, r4, v4, _, rfl, r5, rfl⟩ := rl
  cases r4; cases r5
  have eu : us = xs.map V.int := RepL.ints_eq r2
  have ew : ws = ys.map V.int := RepL.ints_eq r3
  subst eu; subst ew
  have S : StAt a l c xs 0 0 H1 := ⟨ha, hlg, ys, hcl⟩
  have hsc : ∃ v, σ[0]? = some (some v) ∧ Rep X.K (AV (fun _ => False) fun _ => False) H1 (.scr ns) v := by
    obtain ⟨v, h1, h2⟩ := ev.val 0 (.scr ns) rfl
    exact ⟨v, h1, p0.rep g1 h2⟩
  refine ⟨a, l, c, fun b => b = a ∨ b = l ∨ b = c, fun _ => False, _, 0, Dlaw, ⟨fun b z => z, fun b z => ?_, fun b z => z.elim, ⟨?_, fun j d e => ?_, fun j ds e => ?_, fun j k ds es q e1 _ _ _ => ?_⟩, ⟨xs, 0, 0, S, Int.le_refl 0, Int.le_refl 0⟩⟩, h a l c, ⟨fun _ _ _ _ _ _ _ z => z.elim, fun _ _ _ _ _ _ _ z => z.elim, fun _ _ _ _ _ _ _ z => z.elim, fun v d H' n' _ _ r z => ?_⟩⟩
  · rcases z with z | z
    · exact (srcW a l c).trk (n := 0) ⟨xs, 0, 0, S, Int.le_refl 0, Int.le_refl 0⟩ z
    · exact z.elim
  · simpa using ev.len
  · rcases set_lookup e with ⟨rfl, hl', e⟩ | ⟨ne, e⟩
    · cases e
      exact ⟨.ref a, by rw [List.getElem?_set_self (by rw [ev.len]; exact hl')], rfl⟩
    · cases j with
      | zero =>
        have e' : E.val (.scr ns) = E.val d := Option.some.inj e
        cases e'
        obtain ⟨v, h1, h2⟩ := hsc
        refine ⟨v, by rw [List.getElem?_set_ne (by omega)]; exact h1, ?_⟩
        obtain ⟨b, rfl, h2⟩ := h2
        refine ⟨b, rfl, h2.elim (fun ⟨o, _, q⟩ => .inl ⟨o, fun z => ?_, q⟩) .inr⟩
        rcases z with (z | z | z) | z
        · rw [z, S.st] at q; cases q
        · rw [z, S.lg] at q; cases q
        · rw [z, hcl] at q; cases q
        · exact z
      | succ j =>
        have e' : (List.replicate m E.emp)[j]? = some (E.val d) := e
        cases (List.mem_replicate.mp (List.mem_of_getElem? e')).2
  · exfalso
    rcases set_lookup e with ⟨_, hl', e⟩ | ⟨ne, e⟩
    · cases e
    · rcases List.mem_cons.mp (List.mem_of_getElem? e) with z | z
      · cases z
      · cases (List.mem_replicate.mp z).2
  · exfalso
    rcases set_lookup e1 with ⟨_, hl', e⟩ | ⟨ne, e⟩
    · cases e
    · rcases List.mem_cons.mp (List.mem_of_getElem? e) with z | z
      · cases z
      · cases (List.mem_replicate.mp z).2
  · have z' : d = .bl true := z
    subst z'
    cases r
    exact hF H'
end DL

set_option Elab.async false
set_option linter.all false
set_option autoImplicit false
set_option maxRecDepth 100000
set_option maxHeartbeats 4000000
namespace DL
open PySem PySem.Spec PyProof.Rows L2
/-! ### the law's own def: run from the row's caller alone, where no repr is under way -/
section
variable {P : Program} {w : World} {K : PySem.W.Frag} {mg : Str → Option Value} {base : Heap}
abbrev lawCx (P : Program) (w : World) (K : PySem.W.Frag) (mg : Str → Option Value) (base : Heap) (N : List Str) (st : Stmt) (f : Addr) (cdv : Value) (s : Shared) (H : Hp) : Cx :=
  cxOf CX0 P w K mg base N "law" (defScope st) f cdv callerA [] s H E0
theorem guards_law {N : List Str} {st : Stmt} {f : Addr} {cdv : Value} {s : Shared} {H : Hp} : (lawCx P w K mg base N st f cdv s H).A.guards = some [] := rfl
/-- the call of the law's def, its body run over the abstract heap H -/
theorem law_body {st : Stmt} {f a : Addr} {fd : FuncData} {N : List Str} {k : Nat} {s : Shared} {H : Hp} {x : Str} (F : Fun K "law" "law" st f fd) (S : FnScope N [x] (defScope st)) (hr : Room (k + 1) callerA) (e0 : Env0 P w K mg base callerA [] s H)
    (hb : BindsTo s fd ⟨[.ref a], []⟩ [(x, .ref a)])
    (body : ∀ cdv, Room k (callerA.deeper (envOfC "law" (defScope st) s.heap.objs.size f cdv)) → ∃ t, PSs (lawCx P w K mg base N st f cdv s H).nox (defBody st) t ∧ t { nx := fun _ _ => False, rt := fun v _ => v = .bl true } (L2.start N [.ref a]) H) :
    codeAny (model P w) callerA (.call (.ref f) ⟨[.ref a], []⟩) (CR CX0 [] P w H s (fun v _ => v = .bl true) E0) s := by
  obtain ⟨oc, od, kV, doc, pm, an, cdv, ct, osl, efd, lk, hcd⟩ := F.ex
  subst efd
  have inK : K.In s.heap := e0.mod.kin.keeps (fun q o z => (e0.bs q o z).1)
  have noLim := e0.mod.nolimit.keeps (fun q o z => (e0.bs q o z).1)
  have kinds : ∀ y ∈ [(x, Value.ref a)], (defScope st).names.lookup y.1 = some .local ∨ ((defScope st).names.lookup y.1 = some .cell ∧ ((cellsFrom (s.heap.objs.size + 1) (defScope st).names []).lookup y.1).isSome = true) := by
    intro y hy
    have ey : y = (x, Value.ref a) := List.mem_singleton.mp hy
    rw [ey]
    rcases S.par x List.mem_cons_self with z | z
    · exact .inl z
    · exact .inr ⟨z, PySem.W.cellsFrom_some _ _ _ (.inl z)⟩
  refine codeAny_call_function hr.depth (inK _ _ lk) rfl S.co S.gen rfl
    (PySem.W.codeRec_of inK hcd) (hb _ _ _ _ ?_)
  refine wpAny_newFunctionEnv_cells S.kind kinds
    fun en hen sIn xIn => ?_
  subst hen
  refine ⟨noLim.keeps xIn.toInCall.keep, codeAny_func ?_⟩
  obtain ⟨tr, htr, hq⟩ := body cdv (hr.deeper _)
  have I0 : Inv (lawCx P w K mg base N st f cdv s H) [] (L2.start N [.ref a]) H sIn :=
    inv_start S hr.hd e0 rfl (.cons rfl .nil) xIn
  refine wpAny_mono (htr.nox.run [] sIn _ H _ I0 hq) (fun fl sEnd hEnd => ?_) fun er sEnd hEnd => hEnd
  cases fl with
  | next => obtain ⟨_, _, _, z⟩ := hEnd; exact z.elim
  | brk => obtain ⟨_, _, _, z⟩ := hEnd; exact z.elim
  | cont => obtain ⟨_, _, _, z⟩ := hEnd; exact z.elim
  | ret u =>
    obtain ⟨v, _, H', J, rv, z⟩ := hEnd
    exact ⟨v, H', J.os, J.bare, J.base, J.hok, rv, z⟩
end
/-- from the heap behind the top: the script alone is tracked -/
theorem law_enter {P : Program} {w : World} {K : PySem.W.Frag} {mg mb : Str → Option Value} {fa a : Addr} {s₁ : Shared} {vs : List Value} {ns : List Int}
    (KX : K.In s₁.heap) (hns : s₁.heap.Ns mainGlobals mg) (hb : s₁.heap.Ns builtinsNs mb) (hbb : ∀ x : Str, x ≠ "__name__" → mb x = bootBuiltins x) (hlim : s₁.heap.NoLimit) (hg : s₁.gens = #[])
    (ha : s₁.heap.get? a = some { cls := .type "list", data := .seq vs.toArray }) (hi : IntsAre vs ns) (hl : ns.length ≤ sizeLine)
    (F : ∀ (base : Heap) (H : Hp), K.In base → base.Ns mainGlobals mg → Env0 P w K mg base callerA [] s₁ H → Rep K (fun _ => False) H (.scr ns) (.ref a) →
      codeAny (model P w) callerA (.call (.ref fa) ⟨[.ref a], []⟩) (CR CX0 [] P w H s₁ (fun v _ => v = .bl true) E0) s₁) :
    codeAny (model P w) callerA (.call (.ref fa) ⟨[.ref a], []⟩) (fun r s' => r = .ok (.ret (.bool true)) ∧ OldK s₁.heap s'.heap ∧ s'.os = s₁.os ∧ AllBare s'.gens) s₁ := by
  have rv := vals_ints hi
  have sz := hi.length
  have main : ∀ H : Hp, (∀ b o, H b = some o → b = a ∧ ∃ ob xs, o = .frz ob (.lst xs)) → Rep K (fun _ => False) H (.scr ns) (.ref a) → HOk P w H s₁.heap → (H a ≠ none → K.lookup a = none) →
      codeAny (model P w) callerA (.call (.ref fa) ⟨[.ref a], []⟩) (fun r s' => r = .ok (.ret (.bool true)) ∧ OldK s₁.heap s'.heap ∧ s'.os = s₁.os ∧ AllBare s'.gens) s₁ := by
    intro H hO hR hok hK
    have down : ∀ {b : Addr} {o : Obj}, s₁.heap.get? b = some o → H b = none → (hidT s₁.heap H).get? b = some o := fun e n => hidT_get e n
    have noD : ∀ {b : Addr} {o : Obj} {es : Array DictEntry} {ep : Nat}, s₁.heap.get? b = some o → o.data = .dict es ep → H b = none := by
      intro b o es ep e d
      cases q : H b with
      | none => rfl
      | some u =>
        obtain ⟨rfl, _⟩ := hO b u q
        rw [ha] at e
        cases e
        cases (show Data.seq vs.toArray _ = Data.dict es ep from d)
    have nsD : ∀ {b : Addr} {m : Str → Option Value}, s₁.heap.Ns b m → (hidT s₁.heap H).Ns b m := fun ⟨o, es, ep, e, d, r⟩ => ⟨o, es, ep, down e (noD e d), d, r⟩
    have hKb : K.In (hidT s₁.heap H) := by
      intro b o e
      refine down (KX b o e) ?_
      cases q : H b with
      | none => rfl
      | some u =>
        obtain ⟨rfl, _⟩ := hO b u q
        rw [hK (by rw [q]; simp)] at e
        cases e
    have hM : Mod K mg (hidT s₁.heap H) := by
      obtain ⟨mc, h1, h2⟩ := hlim
      exact ⟨hKb, nsD hns, ⟨mb, nsD hb, hbb⟩, mc, nsD h1, h2⟩
    have e0 : Env0 P w K mg (hidT s₁.heap H) callerA [] s₁ H := by
      refine ⟨rfl, hM, fun b o e => of_hidT e, Nat.le_of_eq (hidT_size _ _), trivial, fun b z => ?_, hok, .of_eq hg⟩
      cases (show b ∈ ([] : List Addr) from z)
    refine codeAny_mono (F _ H hKb (nsD hns) e0 hR) fun r s' h => ?_
    cases r with
    | error e => exact False.elim h
    | ok fl =>
      cases fl with
      | ret u =>
        obtain ⟨v, H', os, bare, un, hok', r', q⟩ := h
        subst q
        cases r'
        refine ⟨rfl, OldK.of_keep fun b o e => ?_, os, bare⟩
        cases q : H b with
        | none =>
          refine un.keep b o e q (fun z => ?_) (by simp)
          cases (show b ∈ ([] : List Addr) from z)
        | some u =>
          obtain ⟨_, ob, xs, rfl⟩ := hO b u q
          obtain ⟨e1, _⟩ := hok b _ q
          obtain ⟨e2, _⟩ := hok' b _ (un.frzs b ob _ q)
          rw [e] at e1
          cases e1
          exact e2
      | next => exact False.elim h
      | brk => exact False.elim h
      | cont => exact False.elim h
  cases hk : K.lookup a with
  | some o =>
    have e := KX a o hk
    rw [ha] at e
    cases e
    refine main (fun _ => none) (fun b o z => by cases z) ⟨a, rfl, .inr ⟨_, vs.toArray, _, hk, rfl, rfl, rfl, ?_, by simpa using rv⟩⟩ (fun b u z => by cases z) fun z => absurd rfl z
    rw [List.size_toArray, sz]
    exact hl
  | none =>
    refine main (fun b => if b = a then some (.frz { cls := .type "list", data := .seq vs.toArray } (.lst (ns.map V.int))) else none) (fun b o z => ?_) ⟨a, rfl, .inl ⟨_, fun z => z, if_pos rfl⟩⟩ (fun b u z => ?_) fun _ => hk
    all_goals by_cases hba : b = a
    · rw [if_pos hba] at z
      cases z
      exact ⟨hba, _, _, rfl⟩
    · rw [if_neg hba] at z
      cases z
    · have z' := (if_pos hba).symm.trans z
      cases z'
      subst hba
      exact ⟨ha, by rw [List.length_map]; exact hl, vs, _, rv, ha⟩
    · have z' := (if_neg hba).symm.trans z
      cases z'
/-- the goal that the row leaves -/
theorem walk_law {l : PySem.W.OpenLaw} {n : Nat} {q : Program} {loose : List Str} {XP : (Str → Option Value) → Heap → Prop} {YP : World → Heap → Prop} {d : DefRec} {K : Params → PySem.W.Frag}
    (hn : l.most = some n) (hn2 : n ≤ sizeLine) (hdf : d.params.defaults = []) (hY : ∀ (w : World) (h : Heap), YP w h → (K w.params).In h)
    (F : ∀ (w : World) (mg : Str → Option Value) (fa : Addr) (h : Heap) (a : Addr) (ns : List Int), (K w.params).In h → h.Ns mainGlobals mg → mg d.name = some (.ref fa) → ns.length ≤ n →
      ∀ (base : Heap) (H : Hp) (s : Shared), Env0 l.prog w (K w.params) mg base callerA [] s H → Rep (K w.params) (fun _ => False) H (.scr ns) (.ref a) →
        codeAny (model l.prog w) callerA (.call (.ref fa) ⟨[.ref a], []⟩) (CR CX0 [] l.prog w H s (fun v _ => v = .bl true) E0) s) :
    PySem.W.WalkO q loose XP YP l.row.toRowW d [] (fun f vs => PySem.call f vs) := by
  refine Att.attach_call hn hdf fun w s₀ s₁ mg mb fa o pm cd doc a vs ns G Y ho hd hcd hmg hobj hints hlen hg => ?_
  have KX := hY w _ Y
  exact law_enter KX G.T.g G.T.b G.T.builtins G.T.nolimit hg hobj hints (Nat.le_trans hlen hn2) fun base H _ _ e0 hR => F w mg fa _ a ns KX G.T.g hmg hlen base H s₁ e0 hR
end DL

set_option Elab.async false
set_option linter.all false
set_option autoImplicit false
set_option maxRecDepth 100000
set_option maxHeartbeats 4000000
namespace DL
open PySem PySem.Spec PyProof.Rows L2
/-- the promise of the def that picks, of a list that may be one's own: the very item -/
def spPickO : Sp := fun vs H Q _ => ∃ (a l c p : Addr) (us : List V) (n : Nat) (B : Addr → Prop), vs = [.ref a, .ref p] ∧ Cn (srcW a l c) B H n ∧ H p = some (.lst us) ∧ ¬ (srcW a l c).core p ∧ 0 < us.length ∧ us.length < 2 ^ 40 ∧ n < 2 ^ 40 ∧
  ∀ v H', v ∈ us → Gr (srcW a l c) H H' → (srcW a l c).good (n + 1) H' → Q v H'
section
variable {X : Cx} {k : Nat} {fa : Addr} {fd : FuncData} {ps : List Str} {x : Str} {p pos : Pos} {e e2 : Expr} {i : Nat} {a l c : Addr}
def dPickOwn (i : Nat) (a : Addr) : TD := fun δ n Q => δ[0]? = some (.val (.ref a)) ∧ ownD δ i fun ds => 0 < ds.length ∧ ds.length < 2 ^ 40 ∧ n < 2 ^ 40 ∧ ∀ d ∈ ds, Q d (n + 1)
theorem de_pickOwn (F : FnOk X.prog X.w X.K X.mg X.base CX0 k fa fd ps spPickO) (hr : Room k X.A) (hg : Gl X x) (hm : X.mg x = some (.ref fa)) (hk : PySem.W.keepIn X.K (.ref fa) = true) (hb : Binds X.K fd ps []) (h0 : PE X e (tVar 0)) (h1 : PE X e2 (tVar i))
    (hdb : (x == ("__debug__" : Str)) = false := by decide) (he : starEach [e, e2] X.env = (false, eval e X.env) :: starEach [e2] X.env := by rfl) (he2 : starEach [e2] X.env = (false, eval e2 X.env) :: starEach [] X.env := by rfl) (hpl : (backTo pos (starEach [e2] X.env)).any (·.1) = false := by rfl) :
    DE (srcW a l c) X (.Call (.Name x p) [e, e2] [] pos) (dPickOwn i a) := by
  refine ⟨_, pe_call F hr hg hm hk hb .nil pass0 (pa_cons h0 (pa_cons h1 pa_nil he2) he) hdb he hpl, fun B O σ δ H n Q R p ⟨ha, ht⟩ hR => ?_⟩
  obtain ⟨ds, key, hl, hl2, hn, hq⟩ := ownD_elim ht
  obtain ⟨b, vs, k1, k2, k3, k4⟩ := p.ownAt key
  refine ⟨_, src_at p ha, _, k1, a, l, c, b, vs, n, AV B O, rfl, p.cn, k3, p.noc b k2, by rw [k4.length]; exact hl, by rw [k4.length]; exact hl2, hn, fun v H' hv g q => ?_⟩
  obtain ⟨j, hj⟩ := List.mem_iff_getElem?.mp hv
  obtain ⟨d, hd, rd⟩ := k4.getV hj
  exact hR v d H' (n + 1) g q (p.rep g rd) (hq d (List.mem_of_getElem? hd))
end
/-- f(k = v): one keyword, one parameter -/
theorem de_callK1 {W : Wd} {X : Cx} {k : Nat} {fa : Addr} {fd : FuncData} {ps : List Str} {f : SpD} {x y : Str} {p pos kp : Pos} {e : Expr} {t : TD} (F : FnOk X.prog X.w X.K X.mg X.base CX0 k fa fd ps (spD X.K f)) (hr : Room k X.A) (hg : Gl X x) (hm : X.mg x = some (.ref fa)) (hk : PySem.W.keepIn X.K (.ref fa) = true)
    (hb : KBinds X.K fd ps [y] (fun us ws => us ++ ws) (fun vs zs => vs ++ zs)) (he : DE W X e t) (hall : (backToKw pos (keywordEach [⟨some y, e, kp⟩] X.env)).all (·.1.isSome) = true := by rfl) (hks : (backToKw pos (keywordEach [⟨some y, e, kp⟩] X.env)).filterMap (·.1) = [y] := by rfl)
    (hdb : (x == ("__debug__" : Str)) = false := by decide) (hpl : ((backTo pos (starEach [] X.env)).any (·.1) || (backToKw pos (keywordEach [⟨some y, e, kp⟩] X.env)).any (·.1.isNone)) = false := by rfl) :
    DE W X (.Call (.Name x p) [] [⟨some y, e, kp⟩] pos) (dCall f W (daCons t daNil)) := by
  obtain ⟨te, pe, re⟩ := he
  refine de_callK F hr hg hm hk hb (fun zs => rfl) (pk_cons pe pk_nil) (fun B O σ δ H n Q R p ht hR => re B O σ δ H n _ _ p ht fun v d H1 n1 g1 q1 r1 h1 => ?_) hall hks hdb hpl
  exact hR [v] [d] H1 n1 g1 q1 ⟨v, [], rfl, r1, rfl⟩ h1
theorem Fun.kb1 {K : PySem.W.Frag} {x qual y : Str} {st : Stmt} {f : Addr} {fd : FuncData} (F : Fun K x qual st f fd)
    (h0 : ∀ (kV doc pm : Value) (an : Option Addr) (cdv ct : Value) (u : Value), bindArgs (PySem.W.fnOf x qual (defArgs st) (defBody st) (defScope st) .none kV doc pm an cdv ct) ⟨[u], []⟩ = pure [(y, u)])
    (h : ∀ (kV doc pm : Value) (an : Option Addr) (cdv ct : Value) (u : Value), bindArgs (PySem.W.fnOf x qual (defArgs st) (defBody st) (defScope st) .none kV doc pm an cdv ct) ⟨[], [(y, u)]⟩ = pure [(y, u)]) : KBinds K fd [y] [y] (fun us ws => us ++ ws) (fun vs zs => vs ++ zs) := by
  obtain ⟨oc, od, kV, doc, pm, an, cdv, ct, osl, rfl, lk, hcd⟩ := F.ex
  refine ⟨fun s us ws _ hl => ?_, fun r1 r2 => r1.append r2⟩
  have hl : (us ++ ws).length = 1 := hl
  rcases us with _ | ⟨u, us⟩
  · rcases ws with _ | ⟨u, ws⟩
    · cases hl
    · have e : ws = [] := List.eq_nil_of_length_eq_zero (by simpa using hl)
      subst e
      exact .of_eq (h kV doc pm an cdv ct u)
  · have e : us = [] ∧ ws = [] := by
      simp only [List.cons_append, List.length_cons, List.length_append] at hl
      exact ⟨List.eq_nil_of_length_eq_zero (by omega), List.eq_nil_of_length_eq_zero (by omega)⟩
    obtain ⟨rfl, rfl⟩ := e
    exact .of_eq (h0 kV doc pm an cdv ct u)
end DL
namespace DL
open PySem PySem.Spec PyProof.Rows L2
theorem ds_mk {W : Wd} {X : Cx} {st : Stmt} {ts : TS} {t : TDS} (ps : PS X st ts) (r : DSR W X.K ts t) : DS W X st t := ⟨_, ps, r⟩
theorem de_mk {W : Wd} {X : Cx} {e : Expr} {te : TE} {t : TD} (ps : PE X e te) (r : DER W X.K te t) : DE W X e t := ⟨_, ps, r⟩
end DL

set_option Elab.async false
set_option linter.all false
set_option autoImplicit false
set_option maxRecDepth 100000
set_option maxHeartbeats 4000000
namespace DL
open PySem PySem.Spec PyProof.Rows L2 TL
/-! ### how blocks and comprehensions are read -/
theorem seq_cut {t u : TDS} {Dn : DEnds} {δ : List E} {n : Nat} (P : List E → Nat → Prop) (h1 : ∀ Dx : DEnds, Dx.rt = Dn.rt → (∀ δ n, P δ n → Dx.nx δ n) → t Dx δ n) (h2 : ∀ δ n, P δ n → u Dn δ n) : dsSeq t u Dn δ n := h1 _ rfl h2
theorem compD_inv {g : TDG} {te : TD} {δ : List E} {Q : List D → Nat → Prop} (ds : List D) (P : Nat → List D → Nat → Prop) (hl : ds.length ≤ sizeLine) (hs : ∀ (i : Nat) (d : D) (acc : List D) (n : Nat), ds[i]? = some d → acc.length = i → P i acc n → ∀ Q' : D → Nat → Prop, (∀ y n', P (i + 1) (acc ++ [y]) n' → Q' y n') → g d δ fun δ1 => te δ1 n Q')
    (hd : ∀ acc n, acc.length = ds.length → P ds.length acc n → Q acc n) : ∀ {n : Nat}, P 0 [] n → compD g dtYes te ds [] δ n Q := by
  have go : ∀ (r : List D) (i : Nat), ds.drop i = r → i ≤ ds.length → ∀ acc n, acc.length = i → P i acc n → compD g dtYes te r acc δ n Q := by
    intro r
    induction r with
    | nil =>
      intro i e hi acc n ha h
      have hl' : ds.length ≤ i := by
        have := congrArg List.length e
        rw [List.length_drop, List.length_nil] at this
        omega
      have e2 : i = ds.length := by omega
      subst e2
      exact hd acc n ha h
    | cons d r ih =>
      intro i e hi acc n ha h
      have hlt : i < ds.length := by
        have := congrArg List.length e
        rw [List.length_drop, List.length_cons] at this
        omega
      have e2 : ds.drop i = ds[i] :: ds.drop (i + 1) := List.drop_eq_getElem_cons hlt
      rw [e] at e2
      injection e2 with e3 e4
      refine hs i d acc n (by rw [e3]; exact List.getElem?_eq_getElem hlt) ha h _ fun y n' hp => ⟨by omega, ?_⟩
      exact ih (i + 1) e4.symm hlt (acc ++ [y]) n' (by simp [ha]) hp
  intro n h
  exact go ds 0 rfl (Nat.zero_le _) [] n rfl h
/-! ### texts -/
theorem strOK_len {z : Str} (h : strOK z) : z.length ≤ sizeLine := h.2
theorem strOK_cps {z : Str} : strOK z ↔ (∀ c ∈ z.cps.toList, c < 0x110000) ∧ z.length ≤ sizeLine := by
  unfold strOK
  rw [Array.all_eq_true_iff_forall_mem]
  simp
theorem strOK_sign {z : Str} (h : strOK z) {c : Nat} (hc : c ∈ z.cps.toList) : strOK ⟨#[c]⟩ := by
  refine strOK_cps.mpr ⟨fun d hd => ?_, ?_⟩
  · have e : d = c := by simpa using hd
    subst e
    exact (strOK_cps.mp h).1 d hc
  · show 1 ≤ sizeLine
    decide
theorem str_toList (a b : Str) : (a ++ b).cps.toList = a.cps.toList ++ b.cps.toList := by
  show (a.cps ++ b.cps).toList = _
  rw [Array.toList_append]
theorem str_len (a : Str) : a.length = a.cps.toList.length := by show a.cps.size = _; rw [Array.length_toList]
theorem strOK_append {a b : Str} (ha : strOK a) (hb : strOK b) (hl : a.length + b.length ≤ sizeLine) : strOK (a ++ b) := by
  refine strOK_cps.mpr ⟨fun c hc => ?_, ?_⟩
  · rw [str_toList] at hc
    rcases List.mem_append.mp hc with z | z
    · exact (strOK_cps.mp ha).1 c z
    · exact (strOK_cps.mp hb).1 c z
  · rw [str_len, str_toList, List.length_append, ← str_len, ← str_len]
    exact hl
theorem str_len_append (a b : Str) : (a ++ b).length = a.length + b.length := by rw [str_len, str_toList, List.length_append, ← str_len, ← str_len]
theorem strOK_cut {z : Str} (h : strOK z) (lo hi : Option Int) : strOK (cutS z lo hi) := by
  refine strOK_cps.mpr ⟨fun c hc => ?_, Nat.le_trans (cutS_length z lo hi) h.2⟩
  have hc' : c ∈ (z.cps.toList.drop (HT.sIx z.length 0 lo)).take (HT.sIx z.length z.length hi - HT.sIx z.length 0 lo) := by
    have e : (cutS z lo hi).cps.toList = (z.cps.toList.drop (HT.sIx z.length 0 lo)).take (HT.sIx z.length z.length hi - HT.sIx z.length 0 lo) := by
      unfold cutS
      rfl
    rw [← e]
    exact hc
  exact (strOK_cps.mp h).1 c (List.mem_of_mem_drop (List.mem_of_mem_take hc'))
def lettersZ : Str := Str.ofString "abcdefghijklmnopqrstuvwxyz"
theorem letters_list : lettersZ.cps.toList = List.range' 97 26 := by decide +kernel
theorem letters_mem (c : Nat) : decide (c ∈ lettersZ.cps.toList) = letterC c := by
  rw [letters_list]
  unfold letterC
  by_cases h : 97 ≤ c ∧ c ≤ 122
  · rw [decide_eq_true h.1, decide_eq_true h.2]
    exact decide_eq_true (List.mem_range'_1.mpr ⟨h.1, by omega⟩)
  · rw [decide_eq_false (fun z => h ⟨(List.mem_range'_1.mp z).1, by have := (List.mem_range'_1.mp z).2; omega⟩)]
    by_cases h1 : 97 ≤ c
    · rw [decide_eq_true h1, decide_eq_false (fun h2 => h ⟨h1, h2⟩)]
      rfl
    · rw [decide_eq_false h1]
      rfl
theorem lettersOK : strOK lettersZ := ⟨by decide +kernel, by decide +kernel⟩
/-- one sign each, glued -/
theorem join_signs : ∀ {ds : List D}, (∀ d ∈ ds, ∃ c, d = .str ⟨#[c]⟩ ∧ c < 0x110000) → ∃ ys, D.strs ds = some ys ∧ ys.length = ds.length ∧ (ys.map (·.length)).sum = ds.length ∧ (∀ c ∈ (Str.join Str.empty ys).cps.toList, c < 0x110000) ∧ (Str.join Str.empty ys).length ≤ ds.length := by
  intro ds
  have key : ∀ ds : List D, (∀ d ∈ ds, ∃ c, d = .str ⟨#[c]⟩ ∧ c < 0x110000) → ∃ cs : List Nat, D.strs ds = some (cs.map fun c => ⟨#[c]⟩) ∧ cs.length = ds.length ∧ ∀ c ∈ cs, c < 0x110000 := by
    intro ds
    induction ds with
    | nil => intro _; exact ⟨[], rfl, rfl, fun c z => by cases z⟩
    | cons d ds ih =>
      intro h
      obtain ⟨c, rfl, hc⟩ := h d List.mem_cons_self
      obtain ⟨cs, e, l, k⟩ := ih fun d hd => h d (List.mem_cons_of_mem _ hd)
      refine ⟨c :: cs, ?_, by simp [l], fun x hx => ?_⟩
      · show (D.strs ds).map (_ :: ·) = _
        rw [e]
        rfl
      · rcases List.mem_cons.mp hx with z | z
        · rw [z]; exact hc
        · exact k x z
  intro h
  obtain ⟨cs, e, l, k⟩ := key ds h
  have lens : ∀ cs : List Nat, ((cs.map fun c => (⟨#[c]⟩ : Str)).map (·.length)).sum = cs.length := by
    intro cs
    induction cs with
    | nil => rfl
    | cons c cs ih =>
      rw [List.map_cons, List.map_cons, List.sum_cons, ih, List.length_cons]
      show 1 + cs.length = cs.length + 1
      omega
  have mem : ∀ cs : List Nat, ∀ c ∈ (Str.join Str.empty (cs.map fun c => (⟨#[c]⟩ : Str))).cps.toList, c ∈ cs := by
    intro cs c hc
    have e : tl (Str.join Str.empty (cs.map fun c => (⟨#[c]⟩ : Str))) = joinL (tl Str.empty) ((cs.map fun c => (⟨#[c]⟩ : Str)).map tl) := tl_join _ _
    have e2 : ∀ cs : List Nat, ∀ c ∈ joinL (tl Str.empty) ((cs.map fun c => (⟨#[c]⟩ : Str)).map tl), c ∈ cs := by
      intro cs
      induction cs with
      | nil => intro c hc; simp [joinL] at hc
      | cons x xs ih =>
        intro c hc
        cases xs with
        | nil => simpa [joinL, tl] using hc
        | cons y ys =>
          have hc' : c ∈ [x] ++ tl Str.empty ++ joinL (tl Str.empty) (((y :: ys).map fun c => (⟨#[c]⟩ : Str)).map tl) := by simpa [joinL, tl] using hc
          rcases List.mem_append.mp hc' with z | z
          · have z' : c = x := by simpa [tl, Str.empty] using z
            rw [z']
            exact List.mem_cons_self
          · exact List.mem_cons_of_mem _ (ih c z)
    have hc2 : c ∈ tl (Str.join Str.empty (cs.map fun c => (⟨#[c]⟩ : Str))) := hc
    rw [e] at hc2
    exact e2 cs c hc2
  refine ⟨_, e, by simp [l], by rw [lens, l], fun c hc => k c (mem cs c hc), ?_⟩
  have h1 := StrLaws.join_length_le Str.empty (cs.map fun c => (⟨#[c]⟩ : Str))
  rw [lens] at h1
  have h2 : Str.empty.length = 0 := rfl
  rw [h2, Nat.mul_zero] at h1
  omega
end DL

set_option Elab.async false
set_option linter.all false
set_option autoImplicit false
set_option maxRecDepth 100000
set_option maxHeartbeats 4000000
namespace DL
open PySem PySem.Spec PyProof.Rows L2
/-! ### what is reckoned without a call: its value once -/
def PuE (t : TD) (δ : List E) (d : D) : Prop := ∀ n Q, Q d n → t δ n Q
def PuA (t : TDA) (δ : List E) (ds : List D) : Prop := ∀ n Q, Q ds n → t δ n Q
section
variable {δ : List E} {t u : TD} {ta : TDA} {d e : D} {ds es : List D} {i j : Int}
theorem pu_c : PuE (dC d) δ d := fun _ _ h => h
theorem pu_var {k : Nat} (h : δ[k]? = some (.val d)) : PuE (dVar k) δ d := fun n Q q => by unfold dVar; rw [h]; exact q
theorem pu_nil : PuA daNil δ [] := fun _ _ h => h
theorem pu_cons (h1 : PuE t δ d) (h2 : PuA ta δ ds) : PuA (daCons t ta) δ (d :: ds) := fun n Q q => h1 n _ (h2 n _ q)
theorem pu_neg (h : PuE t δ (.int i)) : PuE (d1 negD t) δ (.int (-i)) := fun n Q q => h n _ q
theorem pu_pow (h1 : PuE t δ (.int i)) (h2 : PuE u δ (.int j)) (c : CPow i j) : PuE (d2 powD t u) δ (.int (i ^ j.toNat)) := fun n Q q => h1 n _ (h2 n _ ⟨c, q⟩)
theorem pu_sub (h1 : PuE t δ (.int i)) (h2 : PuE u δ (.int j)) : PuE (d2 subD t u) δ (.int (i - j)) := fun n Q q => h1 n _ (h2 n _ q)
theorem pu_addI (h1 : PuE t δ (.int i)) (h2 : PuE u δ (.int j)) : PuE (d2 addD t u) δ (.int (i + j)) := fun n Q q => h1 n _ (h2 n _ q)
theorem pu_addL (h1 : PuE t δ (.lst ds)) (h2 : PuE u δ (.lst es)) (c : ds.length + es.length ≤ sizeLine) : PuE (d2 addD t u) δ (.lst (ds ++ es)) := fun n Q q => h1 n _ (h2 n _ ⟨c, q⟩)
theorem pu_tup (h : PuA ta δ ds) (c : ds.length ≤ sizeLine) : PuE (dTup ta) δ (.tup ds) := fun n Q q => h n _ ⟨c, q⟩
theorem pu_lst (h : PuA ta δ ds) (c : ds.length ≤ sizeLine) : PuE (dLst (dDisp ta)) δ (.lst ds) := fun n Q q => h n _ ⟨c, q⟩
theorem pu_dict1 {k : Str} (h : PuE t δ d) : PuE (dDict1 k t) δ (.dic [.inr k] [d]) := fun n Q q => h n _ q
theorem seq_set {k : Nat} {v : TDS} {Dn : DEnds} {n : Nat} (h : PuE t δ d) (q : v Dn (δ.set k (.val d)) n) : dsSeq (dsSet k t) v Dn δ n := h n _ q
end
theorem pu_use {δ : List E} {t : TD} {d : D} {n : Nat} {Q : D → Nat → Prop} (h : PuE t δ d) (q : Q d n) : t δ n Q := h n Q q
theorem ret_call {f : SpD} {W : Wd} {δ : List E} {ta : TDA} {ds : List D} {Dn : DEnds} {n : Nat} (h : PuA ta δ ds) (q : f W ds n Dn.rt) : dsRet (dCall f W ta) Dn δ n := h n _ q
theorem small_len {α : Type} {l : List α} (h : l.length ≤ 1000) : l.length ≤ sizeLine := Nat.le_trans h (by decide)
end DL
namespace DL
open PySem PySem.Spec PyProof.Rows L2
theorem filter_empty {α : Type} (f : α → Bool) : ∀ l : List α, (l.filter fun d => !f d).isEmpty = l.all (id ∘ f)
  | [] => rfl
  | x :: xs => by
    rw [List.filter_cons, List.all_cons]
    cases h : f x with
    | true =>
      rw [if_neg (by simp)]
      show _ = (f x && _)
      rw [h, Bool.true_and]
      exact filter_empty f xs
    | false =>
      rw [if_pos (by simp)]
      show false = (f x && _)
      rw [h, Bool.false_and]
theorem signs_py {ds : List D} (h : ∀ d ∈ ds, ∃ c, d = .str ⟨#[c]⟩ ∧ c < 0x110000) : ∃ ps, D.pys ds = some ps ∧ SeqAt.shaped (.list ps) = true := by
  have key : ∀ ds : List D, (∀ d ∈ ds, ∃ c, d = .str ⟨#[c]⟩ ∧ c < 0x110000) → ∃ cs : List Nat, D.pys ds = some (cs.map fun c => PyData.str ⟨#[c]⟩) ∧ ∀ c ∈ cs, c < 0x110000 := by
    intro ds
    induction ds with
    | nil => intro _; exact ⟨[], rfl, fun c z => by cases z⟩
    | cons d ds ih =>
      intro h
      obtain ⟨c, rfl, hc⟩ := h d List.mem_cons_self
      obtain ⟨cs, e, k⟩ := ih fun d hd => h d (List.mem_cons_of_mem _ hd)
      refine ⟨c :: cs, ?_, fun x hx => ?_⟩
      · show (match D.py (.str ⟨#[c]⟩), D.pys ds with | some p, some ps => some (p :: ps) | _, _ => none) = _
        rw [e]
        rfl
      · rcases List.mem_cons.mp hx with z | z
        · rw [z]; exact hc
        · exact k x z
  obtain ⟨cs, e, k⟩ := key ds h
  refine ⟨_, e, ?_⟩
  have h1 : ∀ cs : List Nat, (∀ c ∈ cs, c < 0x110000) → PyData.canLayAll0 (cs.map fun c => PyData.str ⟨#[c]⟩) = true := by
    intro cs
    induction cs with
    | nil => intro _; simp [PyData.canLayAll0]
    | cons c cs ih =>
      intro h
      have hc : c < 1114112 := h c List.mem_cons_self
      simp [PyData.canLayAll0, PyData.canLay0, PyData.strOk, ih fun x hx => h x (List.mem_cons_of_mem _ hx), hc]
  have h2 : ∀ cs : List Nat, PyData.depthAll (cs.map fun c => PyData.str ⟨#[c]⟩) = 0 := by
    intro cs
    induction cs with
    | nil => simp [PyData.depthAll]
    | cons c cs ih => simp [PyData.depthAll, PyData.depth, ih]
  unfold SeqAt.shaped
  simp [PyData.canLay0, PyData.depth, h1 cs k, h2]
end DL

set_option Elab.async false
set_option linter.all false
set_option autoImplicit false
set_option maxRecDepth 100000
set_option maxHeartbeats 4000000
namespace DL
open PySem PySem.Spec PyProof.Rows L2
/-! ### an object with one field is made -/
theorem Cn.go {W : Wd} {A : Addr → Prop} {H H' : Hp} {n n' : Nat} (c : Cn W A H n) (g : Gr W H H') (q : W.good n' H') : Cn W A H' n' := ⟨c.core, fun b hb => by
  by_cases z : W.core b
  · exact W.trk q z
  · obtain ⟨o, h⟩ := c.trk b hb
    exact ⟨o, g b o z h⟩, q⟩
/-- the promise of an __init__ that sets one field -/
def spFill (K : PySem.W.Frag) (C : Addr) (ok : List D → Prop) (nm : Str) (mk : List D → D) : Sp := fun vs H Q _ => ∃ (W : Wd) (B : Addr → Prop) (x dx : Addr) (us : List V) (ds : List D) (n : Nat), vs = .ref x :: us ∧ Cn W B H n ∧ ¬ B x ∧ RepL K (fun b => B b ∨ b = x) H ds us ∧ ok ds ∧ H x = some (.ins C dx []) ∧
  ∀ v H2, (∀ b o, ¬ W.core b → b ≠ x → H b = some o → H2 b = some o) → W.good n H2 → H2 x = some (.ins C dx [(nm, v)]) → Rep K B H2 (mk ds) v → Q .non H2
theorem de_make {W : Wd} {X : Cx} {k : Nat} {C f : Addr} {fd : FuncData} {ps : List Str} {ok : List D → Prop} {nm : Str} {mk : List D → D} {x : Str} {p pos : Pos} {e : Expr} {es : List Expr} {t : TDA} {ds0 : List Value} {dvs : List V} {dds : List D} (M : Mk X.K C f) (F : FnOk X.prog X.w X.K X.mg X.base CX0 k f fd ps (spFill X.K C ok nm mk)) (hr : Room (k + 1) X.A) (hg : Gl X x) (hm : X.mg x = some (.ref C))
    (hb : Binds X.K fd ps ds0) (hd : Vals dvs ds0) (hdv : ∀ A H, RepL X.K A H dds dvs) (ha : DA W X (e :: es) t)
    (hdb : (x == ("__debug__" : Str)) = false := by decide) (he : starEach (e :: es) X.env = (false, eval e X.env) :: starEach es X.env := by rfl) (hpl : (backTo pos (starEach es X.env)).any (·.1) = false := by rfl) :
    DE W X (.Call (.Name x p) (e :: es) [] pos) (fun δ n Q => t δ n fun ds n1 => ok (ds ++ dds) ∧ Q (.ins C [nm] [mk (ds ++ dds)]) n1) := by
  obtain ⟨tt, pa, ra⟩ := ha
  refine ⟨_, pe_make M F hr hg hm hb hd pass0 pa hdb he hpl, fun B O σ δ H n Q R p ht hR => ra B O σ δ H n _ _ p ht fun vs ds H1 n1 g1 q1 r1 h1 => ?_⟩
  intro y dx hy hdx ne
  have p1 := p.step g1 q1
  have hy2 : upd H1 dx (.own y) y = none := (upd_ne fun z => ne z.symm).trans hy
  have gn : Gr W H1 (upd (upd H1 dx (.own y)) y (.ins C dx [])) := (Gr.new hdx).trans (Gr.new hy2)
  have qn : W.good n1 (upd (upd H1 dx (.own y)) y (.ins C dx [])) := Wd.new (Wd.new q1 hdx) hy2
  refine ⟨W, AV B O, y, dx, vs ++ dvs, ds ++ dds, n1, rfl, (p1.step gn qn).cn, p1.fresh hy, (RepL.imp (fun b o nb z => ⟨fun u => u.elim nb (ne_of_none z hy), gn b o (fun c => nb (.inl (p1.core b c))) z⟩) ds vs r1).append (hdv _ _), h1.1, upd_same, fun v H2 k1 k2 k3 k4 => ⟨rfl, ?_⟩⟩
  refine hR (.ref y) (.ins C [nm] [mk (ds ++ dds)]) H2 n1 (g1.trans fun b o nc z => k1 b o nc (ne_of_none z hy) (gn b o nc z)) k2 ⟨y, dx, [v], rfl, p1.fresh hy, k3, v, [], rfl, k4, rfl⟩ h1.2
/-- one test of a part -/
theorem ask_part {W : Wd} {K : PySem.W.Frag} {B : Addr → Prop} {H : Hp} {n : Nat} {f : SpD} {d : D} {v : V} {Q : VK} (c : Cn W B H n) (r : Rep K B H d v) (h : f W [d] n fun d' n' => d' = .bl true ∧ n' = n)
    (q : ∀ H', Gr W H H' → W.good n H' → Q (.bl true) H') : spD K f [v] H Q E0 :=
  ⟨W, B, [d], n, _, c, ⟨_, _, rfl, r, rfl⟩, h, fun u d' H' n' g q' r' ⟨e, en⟩ => by subst e; subst en; cases r'; exact q H' g q'⟩
end DL


set_option Elab.async false
set_option linter.all false
set_option autoImplicit false
set_option maxRecDepth 100000
set_option maxHeartbeats 4000000

namespace My
open PySem PySem.Spec PyProof.Rows L2 DL

def top (i : Nat) : Stmt := PySem.Challenge.pw_rowsmeet_k01_names_sales_and_stretches.main.body.getD i (.Pass ⟨0, 0, 0, 0⟩)

abbrev s_is_number : Stmt := top 2
theorem sc_is_number : FnScope ["thing"] ["thing"] (defScope s_is_number) := ⟨rfl, rfl, rfl, by decide +kernel, rfl, by decide +kernel, by decide +kernel⟩

abbrev s_is_count : Stmt := top 3
theorem sc_is_count : FnScope ["thing"] ["thing"] (defScope s_is_count) := ⟨rfl, rfl, rfl, by decide +kernel, rfl, by decide +kernel, by decide +kernel⟩

abbrev s_is_name : Stmt := top 9
theorem sc_is_name : FnScope ["thing", "sign"] ["thing"] (defScope s_is_name) := ⟨rfl, rfl, rfl, by decide +kernel, rfl, by decide +kernel, by decide +kernel⟩

abbrev s_is_sale : Stmt := top 10
theorem sc_is_sale : FnScope ["thing", "who", "what", "day", "amount"] ["thing"] (defScope s_is_sale) := ⟨rfl, rfl, rfl, by decide +kernel, rfl, by decide +kernel, by decide +kernel⟩

abbrev s_is_stretch : Stmt := top 11
theorem sc_is_stretch : FnScope ["thing", "first", "last"] ["thing"] (defScope s_is_stretch) := ⟨rfl, rfl, rfl, by decide +kernel, rfl, by decide +kernel, by decide +kernel⟩

abbrev s_is_name_or_all : Stmt := top 12
theorem sc_is_name_or_all : FnScope ["thing"] ["thing"] (defScope s_is_name_or_all) := ⟨rfl, rfl, rfl, by decide +kernel, rfl, by decide +kernel, by decide +kernel⟩

abbrev s_law_begun : Stmt := top 22
theorem sc_law_begun : FnScope ["_law_script", "_law_cells", "_law_cell"] ["_law_script"] (defScope s_law_begun) := ⟨rfl, rfl, rfl, by decide +kernel, rfl, by decide +kernel, by decide +kernel⟩

abbrev s_law_draw : Stmt := top 23
theorem sc_law_draw : FnScope ["_law_state", "_law_size", "_law_turn", "_law_cell", "_law_mixed", "_law_found"] ["_law_state", "_law_size"] (defScope s_law_draw) := ⟨rfl, rfl, rfl, by decide +kernel, rfl, by decide +kernel, by decide +kernel⟩

abbrev s_law_pick : Stmt := top 24
theorem sc_law_pick : FnScope ["_law_state", "_law_several"] ["_law_state", "_law_several"] (defScope s_law_pick) := ⟨rfl, rfl, rfl, by decide +kernel, rfl, by decide +kernel, by decide +kernel⟩

abbrev s_law_letters : Stmt := top 25
theorem sc_law_letters : FnScope [] [] (defScope s_law_letters) := ⟨rfl, rfl, rfl, by decide +kernel, rfl, by decide +kernel, by decide +kernel⟩

abbrev s_law_signs : Stmt := top 26
theorem sc_law_signs : FnScope ["_law_signs_here"] [] (defScope s_law_signs) := ⟨rfl, rfl, rfl, by decide +kernel, rfl, by decide +kernel, by decide +kernel⟩

abbrev s_law_called : Stmt := top 27
theorem sc_law_called : FnScope ["_law_state", "_law_several", "_law_turn"] ["_law_state"] (defScope s_law_called) := ⟨rfl, rfl, rfl, by decide +kernel, rfl, by decide +kernel, by decide +kernel⟩

abbrev s_law_odd : Stmt := top 28
theorem sc_law_odd : FnScope ["_law_state", "_law_several"] ["_law_state"] (defScope s_law_odd) := ⟨rfl, rfl, rfl, by decide +kernel, rfl, by decide +kernel, by decide +kernel⟩

abbrev s_law_is_count : Stmt := top 29
theorem sc_law_is_count : FnScope ["_law_item"] ["_law_item"] (defScope s_law_is_count) := ⟨rfl, rfl, rfl, by decide +kernel, rfl, by decide +kernel, by decide +kernel⟩

abbrev s_law_is_called : Stmt := top 30
theorem sc_law_is_called : FnScope ["_law_item", "_law_sign"] ["_law_item"] (defScope s_law_is_called) := ⟨rfl, rfl, rfl, by decide +kernel, rfl, by decide +kernel, by decide +kernel⟩

abbrev s_law_is_dealt : Stmt := top 31
theorem sc_law_is_dealt : FnScope ["_law_item"] ["_law_item"] (defScope s_law_is_dealt) := ⟨rfl, rfl, rfl, by decide +kernel, rfl, by decide +kernel, by decide +kernel⟩

abbrev s_law_is_span : Stmt := top 32
theorem sc_law_is_span : FnScope ["_law_item"] ["_law_item"] (defScope s_law_is_span) := ⟨rfl, rfl, rfl, by decide +kernel, rfl, by decide +kernel, by decide +kernel⟩

abbrev s_law_near_name : Stmt := top 33
theorem sc_law_near_name : FnScope ["_law_state", "_law_spot", "_law_found", "_law_way"] ["_law_state"] (defScope s_law_near_name) := ⟨rfl, rfl, rfl, by decide +kernel, rfl, by decide +kernel, by decide +kernel⟩

abbrev s_law_near_deal : Stmt := top 34
theorem sc_law_near_deal : FnScope ["_law_state", "_law_found", "_law_way", "_law_spot", "_law_half"] ["_law_state"] (defScope s_law_near_deal) := ⟨rfl, rfl, rfl, by decide +kernel, rfl, by decide +kernel, by decide +kernel⟩

abbrev s_law_near_span : Stmt := top 35
theorem sc_law_near_span : FnScope ["_law_state", "_law_found", "_law_first", "_law_way", "_law_half"] ["_law_state"] (defScope s_law_near_span) := ⟨rfl, rfl, rfl, by decide +kernel, rfl, by decide +kernel, by decide +kernel⟩

abbrev s_Box_init : Stmt := inClass (top 20) 0
theorem sc_Box_init : FnScope ["self", "who", "what", "days", "amounts"] ["self", "who", "what", "days", "amounts"] (defScope s_Box_init) := ⟨rfl, rfl, rfl, by decide +kernel, rfl, by decide +kernel, by decide +kernel⟩

structure Ad where
  is_number : Addr
  d_is_number : FuncData
  is_count : Addr
  d_is_count : FuncData
  is_name : Addr
  d_is_name : FuncData
  is_sale : Addr
  d_is_sale : FuncData
  is_stretch : Addr
  d_is_stretch : FuncData
  is_name_or_all : Addr
  d_is_name_or_all : FuncData
  law_begun : Addr
  d_law_begun : FuncData
  law_draw : Addr
  d_law_draw : FuncData
  law_pick : Addr
  d_law_pick : FuncData
  law_letters : Addr
  d_law_letters : FuncData
  law_signs : Addr
  d_law_signs : FuncData
  law_called : Addr
  d_law_called : FuncData
  law_odd : Addr
  d_law_odd : FuncData
  law_is_count : Addr
  d_law_is_count : FuncData
  law_is_called : Addr
  d_law_is_called : FuncData
  law_is_dealt : Addr
  d_law_is_dealt : FuncData
  law_is_span : Addr
  d_law_is_span : FuncData
  law_near_name : Addr
  d_law_near_name : FuncData
  law_near_deal : Addr
  d_law_near_deal : FuncData
  law_near_span : Addr
  d_law_near_span : FuncData
  Box : Addr
  Box_init : Addr
  d_Box_init : FuncData
  t1 : Addr
  t2 : Addr

structure Txt (K : PySem.W.Frag) (mg : Str → Option Value) (a : Ad) : Prop where
  n_abs : mg "abs" = none
  n_all : mg "all" = none
  n_bool : mg "bool" = none
  n_int : mg "int" = none
  n_isinstance : mg "isinstance" = none
  n_len : mg "len" = none
  n_list : mg "list" = none
  n_min : mg "min" = none
  n_range : mg "range" = none
  n_repr : mg "repr" = none
  n_str : mg "str" = none
  n_tuple : mg "tuple" = none
  m_is_number : mg "is_number" = some (.ref a.is_number)
  F_is_number : Fun K "is_number" "is_number" s_is_number a.is_number a.d_is_number
  m_is_count : mg "is_count" = some (.ref a.is_count)
  F_is_count : Fun K "is_count" "is_count" s_is_count a.is_count a.d_is_count
  m_is_name : mg "is_name" = some (.ref a.is_name)
  F_is_name : Fun K "is_name" "is_name" s_is_name a.is_name a.d_is_name
  m_is_sale : mg "is_sale" = some (.ref a.is_sale)
  F_is_sale : Fun K "is_sale" "is_sale" s_is_sale a.is_sale a.d_is_sale
  m_is_stretch : mg "is_stretch" = some (.ref a.is_stretch)
  F_is_stretch : Fun K "is_stretch" "is_stretch" s_is_stretch a.is_stretch a.d_is_stretch
  m_is_name_or_all : mg "is_name_or_all" = some (.ref a.is_name_or_all)
  F_is_name_or_all : Fun K "is_name_or_all" "is_name_or_all" s_is_name_or_all a.is_name_or_all a.d_is_name_or_all
  m_law_begun : mg "_law_begun" = some (.ref a.law_begun)
  F_law_begun : Fun K "_law_begun" "_law_begun" s_law_begun a.law_begun a.d_law_begun
  m_law_draw : mg "_law_draw" = some (.ref a.law_draw)
  F_law_draw : Fun K "_law_draw" "_law_draw" s_law_draw a.law_draw a.d_law_draw
  m_law_pick : mg "_law_pick" = some (.ref a.law_pick)
  F_law_pick : Fun K "_law_pick" "_law_pick" s_law_pick a.law_pick a.d_law_pick
  m_law_letters : mg "_law_letters" = some (.ref a.law_letters)
  F_law_letters : Fun K "_law_letters" "_law_letters" s_law_letters a.law_letters a.d_law_letters
  m_law_signs : mg "_law_signs" = some (.ref a.law_signs)
  F_law_signs : Fun K "_law_signs" "_law_signs" s_law_signs a.law_signs a.d_law_signs
  m_law_called : mg "_law_called" = some (.ref a.law_called)
  F_law_called : Fun K "_law_called" "_law_called" s_law_called a.law_called a.d_law_called
  m_law_odd : mg "_law_odd" = some (.ref a.law_odd)
  F_law_odd : Fun K "_law_odd" "_law_odd" s_law_odd a.law_odd a.d_law_odd
  m_law_is_count : mg "_law_is_count" = some (.ref a.law_is_count)
  F_law_is_count : Fun K "_law_is_count" "_law_is_count" s_law_is_count a.law_is_count a.d_law_is_count
  m_law_is_called : mg "_law_is_called" = some (.ref a.law_is_called)
  F_law_is_called : Fun K "_law_is_called" "_law_is_called" s_law_is_called a.law_is_called a.d_law_is_called
  m_law_is_dealt : mg "_law_is_dealt" = some (.ref a.law_is_dealt)
  F_law_is_dealt : Fun K "_law_is_dealt" "_law_is_dealt" s_law_is_dealt a.law_is_dealt a.d_law_is_dealt
  m_law_is_span : mg "_law_is_span" = some (.ref a.law_is_span)
  F_law_is_span : Fun K "_law_is_span" "_law_is_span" s_law_is_span a.law_is_span a.d_law_is_span
  m_law_near_name : mg "_law_near_name" = some (.ref a.law_near_name)
  F_law_near_name : Fun K "_law_near_name" "_law_near_name" s_law_near_name a.law_near_name a.d_law_near_name
  m_law_near_deal : mg "_law_near_deal" = some (.ref a.law_near_deal)
  F_law_near_deal : Fun K "_law_near_deal" "_law_near_deal" s_law_near_deal a.law_near_deal a.d_law_near_deal
  m_law_near_span : mg "_law_near_span" = some (.ref a.law_near_span)
  F_law_near_span : Fun K "_law_near_span" "_law_near_span" s_law_near_span a.law_near_span a.d_law_near_span
  m_Box : mg "Box" = some (.ref a.Box)
  M_Box : Mk K a.Box a.Box_init
  C_Box : Cls K a.Box
  NA_Box : NoAttr K a.Box "sides"
  I_Box : InsP K a.Box
  FD_Box : FunD K "__init__" "Box.__init__" (defArgs s_Box_init) (defBody s_Box_init) (defScope s_Box_init) [.non, .non, .ref a.t1, .ref a.t2] [] a.Box_init a.d_Box_init
  T1 : KTup K a.t1 [.int 0, .non]
  T2 : KTup K a.t2 [.int 0, .non]

theorem b_is_number {K : PySem.W.Frag} {mg : Str → Option Value} {a : Ad} (T : Txt K mg a) : Binds K a.d_is_number ["thing"] [] := T.F_is_number.binds (ps := ["thing"]) fun _ _ _ _ _ _ us hl => match us, hl with | [_], _ => rfl

theorem b_is_count {K : PySem.W.Frag} {mg : Str → Option Value} {a : Ad} (T : Txt K mg a) : Binds K a.d_is_count ["thing"] [] := T.F_is_count.binds (ps := ["thing"]) fun _ _ _ _ _ _ us hl => match us, hl with | [_], _ => rfl

theorem b_is_name {K : PySem.W.Frag} {mg : Str → Option Value} {a : Ad} (T : Txt K mg a) : Binds K a.d_is_name ["thing"] [] := T.F_is_name.binds (ps := ["thing"]) fun _ _ _ _ _ _ us hl => match us, hl with | [_], _ => rfl

theorem b_is_sale {K : PySem.W.Frag} {mg : Str → Option Value} {a : Ad} (T : Txt K mg a) : Binds K a.d_is_sale ["thing"] [] := T.F_is_sale.binds (ps := ["thing"]) fun _ _ _ _ _ _ us hl => match us, hl with | [_], _ => rfl

theorem b_is_stretch {K : PySem.W.Frag} {mg : Str → Option Value} {a : Ad} (T : Txt K mg a) : Binds K a.d_is_stretch ["thing"] [] := T.F_is_stretch.binds (ps := ["thing"]) fun _ _ _ _ _ _ us hl => match us, hl with | [_], _ => rfl

theorem b_is_name_or_all {K : PySem.W.Frag} {mg : Str → Option Value} {a : Ad} (T : Txt K mg a) : Binds K a.d_is_name_or_all ["thing"] [] := T.F_is_name_or_all.binds (ps := ["thing"]) fun _ _ _ _ _ _ us hl => match us, hl with | [_], _ => rfl

theorem b_law_begun {K : PySem.W.Frag} {mg : Str → Option Value} {a : Ad} (T : Txt K mg a) : Binds K a.d_law_begun ["_law_script"] [] := T.F_law_begun.binds (ps := ["_law_script"]) fun _ _ _ _ _ _ us hl => match us, hl with | [_], _ => rfl

theorem b_law_draw {K : PySem.W.Frag} {mg : Str → Option Value} {a : Ad} (T : Txt K mg a) : Binds K a.d_law_draw ["_law_state", "_law_size"] [] := T.F_law_draw.binds (ps := ["_law_state", "_law_size"]) fun _ _ _ _ _ _ us hl => match us, hl with | [_, _], _ => rfl

theorem b_law_pick {K : PySem.W.Frag} {mg : Str → Option Value} {a : Ad} (T : Txt K mg a) : Binds K a.d_law_pick ["_law_state", "_law_several"] [] := T.F_law_pick.binds (ps := ["_law_state", "_law_several"]) fun _ _ _ _ _ _ us hl => match us, hl with | [_, _], _ => rfl

theorem b_law_letters {K : PySem.W.Frag} {mg : Str → Option Value} {a : Ad} (T : Txt K mg a) : Binds K a.d_law_letters [] [] := T.F_law_letters.binds (ps := []) fun _ _ _ _ _ _ us hl => match us, hl with | [], _ => rfl

theorem b_law_signs {K : PySem.W.Frag} {mg : Str → Option Value} {a : Ad} (T : Txt K mg a) : Binds K a.d_law_signs [] [] := T.F_law_signs.binds (ps := []) fun _ _ _ _ _ _ us hl => match us, hl with | [], _ => rfl

theorem b_law_called {K : PySem.W.Frag} {mg : Str → Option Value} {a : Ad} (T : Txt K mg a) : Binds K a.d_law_called ["_law_state"] [] := T.F_law_called.binds (ps := ["_law_state"]) fun _ _ _ _ _ _ us hl => match us, hl with | [_], _ => rfl

theorem b_law_odd {K : PySem.W.Frag} {mg : Str → Option Value} {a : Ad} (T : Txt K mg a) : Binds K a.d_law_odd ["_law_state"] [] := T.F_law_odd.binds (ps := ["_law_state"]) fun _ _ _ _ _ _ us hl => match us, hl with | [_], _ => rfl

theorem b_law_is_count {K : PySem.W.Frag} {mg : Str → Option Value} {a : Ad} (T : Txt K mg a) : Binds K a.d_law_is_count ["_law_item"] [] := T.F_law_is_count.binds (ps := ["_law_item"]) fun _ _ _ _ _ _ us hl => match us, hl with | [_], _ => rfl

theorem b_law_is_called {K : PySem.W.Frag} {mg : Str → Option Value} {a : Ad} (T : Txt K mg a) : Binds K a.d_law_is_called ["_law_item"] [] := T.F_law_is_called.binds (ps := ["_law_item"]) fun _ _ _ _ _ _ us hl => match us, hl with | [_], _ => rfl

theorem b_law_is_dealt {K : PySem.W.Frag} {mg : Str → Option Value} {a : Ad} (T : Txt K mg a) : Binds K a.d_law_is_dealt ["_law_item"] [] := T.F_law_is_dealt.binds (ps := ["_law_item"]) fun _ _ _ _ _ _ us hl => match us, hl with | [_], _ => rfl

theorem b_law_is_span {K : PySem.W.Frag} {mg : Str → Option Value} {a : Ad} (T : Txt K mg a) : Binds K a.d_law_is_span ["_law_item"] [] := T.F_law_is_span.binds (ps := ["_law_item"]) fun _ _ _ _ _ _ us hl => match us, hl with | [_], _ => rfl

theorem b_law_near_name {K : PySem.W.Frag} {mg : Str → Option Value} {a : Ad} (T : Txt K mg a) : Binds K a.d_law_near_name ["_law_state"] [] := T.F_law_near_name.binds (ps := ["_law_state"]) fun _ _ _ _ _ _ us hl => match us, hl with | [_], _ => rfl

theorem b_law_near_deal {K : PySem.W.Frag} {mg : Str → Option Value} {a : Ad} (T : Txt K mg a) : Binds K a.d_law_near_deal ["_law_state"] [] := T.F_law_near_deal.binds (ps := ["_law_state"]) fun _ _ _ _ _ _ us hl => match us, hl with | [_], _ => rfl

theorem b_law_near_span {K : PySem.W.Frag} {mg : Str → Option Value} {a : Ad} (T : Txt K mg a) : Binds K a.d_law_near_span ["_law_state"] [] := T.F_law_near_span.binds (ps := ["_law_state"]) fun _ _ _ _ _ _ us hl => match us, hl with | [_], _ => rfl


def nameAllD (d : D) : Bool := d.isNon || isNameD d


def ownP (K : PySem.W.Frag) (b : Addr) (n0 c lo hi : Nat) (f : List D → List E) (δ : List E) (n' : Nat) : Prop := ∃ ds : List D, δ = f ds ∧ lo ≤ ds.length ∧ ds.length ≤ hi ∧ (∀ d ∈ ds, D.fine K d) ∧ n0 ≤ n' ∧ n' ≤ n0 + c
theorem fine_set {K : PySem.W.Frag} {ds : List D} {x : D} {i : Nat} (h : ∀ d ∈ ds, D.fine K d) (hx : D.fine K x) : ∀ d ∈ ds.set i x, D.fine K d := fun d hd => by
  rcases List.mem_or_eq_of_mem_set hd with z | z
  · exact h d z
  · rw [z]; exact hx
theorem fine_app {K : PySem.W.Frag} {ds : List D} {x : D} (h : ∀ d ∈ ds, D.fine K d) (hx : D.fine K x) : ∀ d ∈ ds ++ [x], D.fine K d := fun d hd => by
  rcases List.mem_append.mp hd with z | z
  · exact h d z
  · rw [List.mem_singleton.mp z]; exact hx

section
variable {P : Program} {w : World} {K : PySem.W.Frag} {mg : Str → Option Value} {base : Heap} {a : Ad}

def sp_is_number (K : PySem.W.Frag) : SpD := fun _ ds n Q => ∃ x, ds = [x] ∧ D.fine K x ∧ Q (.bl (isNumD x)) n

theorem ok_is_number (T : Txt K mg a) : FnOk P w K mg base CX0 1 a.is_number a.d_is_number ["thing"] (spD K (sp_is_number K)) := by
  refine fn_d T.F_is_number sc_is_number (fun W ds n Q h => by obtain ⟨_, rfl, _⟩ := h; rfl) (fun cdv A outer s H E hr W => ⟨_, (dss_one (ds_ret (de_and (de_isi (by rfl) T.n_isinstance (da_cons (de_var 0 (pv 0)) (da_cons (de_ty (nm := "int") (by rfl) T.n_int (by decide +kernel)) da_nil))) (de_one (de_not (de_isi (by rfl) T.n_isinstance (da_cons (de_var 0 (pv 0)) (da_cons (de_ty (nm := "bool") (by rfl) T.n_bool (by decide +kernel)) da_nil)))))))), fun ds n Q h => ?_⟩)
  · obtain ⟨x, rfl, hf, hq⟩ := h
    simp only [dsSeq, dsIf, dsRet, dsRetN, dsSet, dsOwn, dsAsg, dsNil, dsPar, dsDrop, dL, d1, d2, dTup, dDisp, dLst, daNil, daCons, dVar, dC, dtB, dtNot, dtAnd, dtOr, dtYes, dAndV, dOrV, dNotV, dIf, dCall, dChain, startD, dsFreeze, gdName, gdTup, gdCons, gdNil, dsFor, dComp, diLst, diTup, diStr, diR1, diR2, wipeD, dSl, doNone, doSome, dJoin, dDict1, List.map_cons, List.map_nil, List.length_cons, List.length_nil, List.cons_append, List.nil_append, List.getElem?_cons_zero, List.getElem?_cons_succ, List.set_cons_zero, List.set_cons_succ, Nat.reduceAdd, Nat.reduceSub, Nat.zero_add, List.replicate]
    refine isi_fine (by decide) hf ?_
    have e := isNum_isA x
    refine ite2 (fun h1 => isi_fine (by decide) hf ?_) (fun h1 => ?_)
    · rw [h1, Bool.true_and] at e
      show Q (.bl (!D.isA "bool" x)) n
      rw [e]
      exact hq
    · rw [Bool.not_eq_true] at h1
      rw [h1, Bool.false_and] at e
      rw [← e] at hq
      exact hq

def sp_is_count (K : PySem.W.Frag) : SpD := fun _ ds n Q => ∃ x, ds = [x] ∧ D.fine K x ∧ Q (.bl (isCntD x)) n

theorem ok_is_count (T : Txt K mg a) : FnOk P w K mg base CX0 2 a.is_count a.d_is_count ["thing"] (spD K (sp_is_count K)) := by
  refine fn_d T.F_is_count sc_is_count (fun W ds n Q h => by obtain ⟨_, rfl, _⟩ := h; rfl) (fun cdv A outer s H E hr W => ⟨_, (dss_one (ds_ret (de_and (de_call (ok_is_number T) (hr.mono (by decide)) (by rfl) T.m_is_number T.F_is_number.kp (b_is_number T) (da_cons (de_var 0 (pv 0)) da_nil)) (de_one (de_cmp c_ge (de_var 0 (pv 0)) de_int))))), fun ds n Q h => ?_⟩)
  · obtain ⟨x, rfl, hf, hq⟩ := h
    simp only [dsSeq, dsIf, dsRet, dsRetN, dsSet, dsOwn, dsAsg, dsNil, dsPar, dsDrop, dL, d1, d2, dTup, dDisp, dLst, daNil, daCons, dVar, dC, dtB, dtNot, dtAnd, dtOr, dtYes, dAndV, dOrV, dNotV, dIf, dCall, dChain, startD, dsFreeze, gdName, gdTup, gdCons, gdNil, dsFor, dComp, diLst, diTup, diStr, diR1, diR2, wipeD, dSl, doNone, doSome, dJoin, dDict1, List.map_cons, List.map_nil, List.length_cons, List.length_nil, List.cons_append, List.nil_append, List.getElem?_cons_zero, List.getElem?_cons_succ, List.set_cons_zero, List.set_cons_succ, Nat.reduceAdd, Nat.reduceSub, Nat.zero_add, List.replicate]
    refine ⟨x, rfl, hf, ite2 (fun h1 => ?_) (fun h1 => ?_)⟩
    · obtain ⟨i, rfl⟩ := isNum_int h1
      exact hq
    · rw [Bool.not_eq_true] at h1
      cases x with
      | int i => cases h1
      | _ => exact hq

def sp_is_name (K : PySem.W.Frag) : SpD := fun _ ds n Q => ∃ x, ds = [x] ∧ D.fine K x ∧ Q (.bl (isNameD x)) n

theorem ok_is_name (T : Txt K mg a) : FnOk P w K mg base CX0 1 a.is_name a.d_is_name ["thing"] (spD K (sp_is_name K)) := by
  refine fn_d T.F_is_name sc_is_name (fun W ds n Q h => by obtain ⟨_, rfl, _⟩ := h; rfl) (fun cdv A outer s H E hr W => ⟨_, (dss_one (ds_ret (de_and (de_isi (by rfl) T.n_isinstance (da_cons (de_var 0 (pv 0)) (da_cons (de_ty (nm := "str") (by rfl) T.n_str (by decide +kernel)) da_nil))) (de_and (de_chain c_le c_le de_int (de_len (by rfl) T.n_len (de_var 0 (pv 0))) de_int) (de_one (de_all rfl (by rfl) T.n_all (dl_comp rfl sc_is_name.nd (di_str (de_var 0 (pv 0))) (blkOk_by (own := [("sign", 1)]) (N := ["thing", "sign"]) (sc := defScope s_is_name) (by decide +kernel)) (fun _ _ _ _ _ => (dg_name 1 (pg_name (i := 1) sc_is_name.nd rfl (Or.inl rfl)))) (fun _ _ _ _ _ => dts_nil) (fun _ _ _ _ _ => (de_chain c_le c_le de_str (de_var 1 (pv 1)) de_str))).de)))))), fun ds n Q h => ?_⟩)
  · obtain ⟨x, rfl, hf, hq⟩ := h
    simp only [dsSeq, dsIf, dsRet, dsRetN, dsSet, dsOwn, dsAsg, dsNil, dsPar, dsDrop, dL, d1, d2, dTup, dDisp, dLst, daNil, daCons, dVar, dC, dtB, dtNot, dtAnd, dtOr, dtYes, dAndV, dOrV, dNotV, dIf, dCall, dChain, startD, dsFreeze, gdName, gdTup, gdCons, gdNil, dsFor, dComp, diLst, diTup, diStr, diR1, diR2, wipeD, dSl, doNone, doSome, dJoin, dDict1, List.map_cons, List.map_nil, List.length_cons, List.length_nil, List.cons_append, List.nil_append, List.getElem?_cons_zero, List.getElem?_cons_succ, List.set_cons_zero, List.set_cons_succ, Nat.reduceAdd, Nat.reduceSub, Nat.zero_add, List.replicate]
    refine isi_fine (by decide) hf (ite2 (fun h1 => ?_) (fun h1 => ?_))
    · obtain ⟨z, rfl⟩ := isA_str h1
      have hz : strOK z := hf
      refine ⟨hz.2, ?_⟩
      show if decide ((1 : Int) ≤ (z.length : Int)) = true then _ else _
      have hq : Q (.bl (decide (1 ≤ z.length) && decide (z.length ≤ 8) && z.cps.toList.all letterC)) n := hq
      refine ite2 (fun h2 => ?_) (fun h2 => ?_)
      · have h2' : 1 ≤ z.length := by have := of_decide_eq_true h2; omega
        show if decide ((z.length : Int) ≤ 8) = true then _ else _
        refine ite2 (fun h3 => ?_) (fun h3 => ?_)
        · have h3' : z.length ≤ 8 := by have := of_decide_eq_true h3; omega
          rw [decide_eq_true h2', decide_eq_true h3', Bool.true_and, Bool.true_and] at hq
          refine compD_map (f := fun d => .bl (letterD d)) _ _ (fun d hd Q' hQ => ?_) ?_ ?_
          · obtain ⟨c, rfl⟩ := signs_mem hd
            exact letter_chain hQ
          · rw [dSigns_len, List.length_nil]; have := hz.2; omega
          · show someD (D.bls ((dSigns z).map fun d => .bl (letterD d))) _
            rw [bls_map]
            show Q (.bl (((dSigns z).map letterD).all id)) n
            rw [letters_all]
            exact hq
        · have h3' : ¬ z.length ≤ 8 := fun q => h3 (decide_eq_true (by omega))
          rw [decide_eq_false h3', Bool.and_false, Bool.false_and] at hq
          exact hq
      · have h2' : ¬ 1 ≤ z.length := fun q => h2 (decide_eq_true (by omega))
        rw [decide_eq_false h2', Bool.false_and, Bool.false_and] at hq
        exact hq
    · cases x with
      | str z => exact absurd rfl h1
      | _ => exact hq

def sp_is_sale (K : PySem.W.Frag) : SpD := fun _ ds n Q => ∃ x, ds = [x] ∧ D.fine K x ∧ Q (.bl (isSaleD x)) n

theorem ok_is_sale (T : Txt K mg a) : FnOk P w K mg base CX0 3 a.is_sale a.d_is_sale ["thing"] (spD K (sp_is_sale K)) := by
  refine fn_d T.F_is_sale sc_is_sale (fun W ds n Q h => by obtain ⟨_, rfl, _⟩ := h; rfl) (fun cdv A outer s H E hr W => ⟨_, (dss_cons (ds_if (dw_or (dt_not (dt_val (de_isi (by rfl) T.n_isinstance (da_cons (de_var 0 (pv 0)) (da_cons (de_ty (nm := "tuple") (by rfl) T.n_tuple (by decide +kernel)) da_nil))))) (dw_or1 (dt_cmp (c_ne hr.units) (de_len (by rfl) T.n_len (de_var 0 (pv 0))) de_int))).dt (dss_one (ds_ret de_bl)) dss_nil)
      (dss_cons (ds_asg (de_var 0 (pv 0)) (dg_tup rfl (dgs_cons (dg_name 1 (pg_name (i := 1) sc_is_sale.nd rfl (Or.inl rfl))) (dgs_cons (dg_name 2 (pg_name (i := 2) sc_is_sale.nd rfl (Or.inl rfl))) (dgs_cons (dg_name 3 (pg_name (i := 3) sc_is_sale.nd rfl (Or.inl rfl))) (dgs_cons (dg_name 4 (pg_name (i := 4) sc_is_sale.nd rfl (Or.inl rfl))) dgs_nil))))))
      (dss_one (ds_ret (de_and (de_call (ok_is_name T) (hr.mono (by decide)) (by rfl) T.m_is_name T.F_is_name.kp (b_is_name T) (da_cons (de_var 1 (pv 1)) da_nil)) (de_and (de_call (ok_is_name T) (hr.mono (by decide)) (by rfl) T.m_is_name T.F_is_name.kp (b_is_name T) (da_cons (de_var 2 (pv 2)) da_nil)) (de_and (de_call (ok_is_count T) (hr.mono (by decide)) (by rfl) T.m_is_count T.F_is_count.kp (b_is_count T) (da_cons (de_var 3 (pv 3)) da_nil)) (de_one (de_call (ok_is_count T) (hr.mono (by decide)) (by rfl) T.m_is_count T.F_is_count.kp (b_is_count T) (da_cons (de_var 4 (pv 4)) da_nil)))))))))), fun ds n Q h => ?_⟩)
  · obtain ⟨x, rfl, hf, hq⟩ := h
    simp only [dsSeq, dsIf, dsRet, dsRetN, dsSet, dsOwn, dsAsg, dsNil, dsPar, dsDrop, dL, d1, d2, dTup, dDisp, dLst, daNil, daCons, dVar, dC, dtB, dtNot, dtAnd, dtOr, dtYes, dAndV, dOrV, dNotV, dIf, dCall, dChain, startD, dsFreeze, gdName, gdTup, gdCons, gdNil, dsFor, dComp, diLst, diTup, diStr, diR1, diR2, wipeD, dSl, doNone, doSome, dJoin, dDict1, List.map_cons, List.map_nil, List.length_cons, List.length_nil, List.cons_append, List.nil_append, List.getElem?_cons_zero, List.getElem?_cons_succ, List.set_cons_zero, List.set_cons_succ, Nat.reduceAdd, Nat.reduceSub, Nat.zero_add, List.replicate]
    refine isi_fine (by decide) hf ?_
    cases x with
    | tup ds =>
      refine iteF (lenD_tup (eqD_int ?_))
      by_cases hl : ds.length = 4
      · have e : decide (((ds.length : Nat) : Int) = 4) = true := decide_eq_true (by omega)
        rw [e]
        refine iteF ?_
        obtain ⟨d1, d2, d3, d4, rfl⟩ := len4 hl
        have hf : D.fines K [d1, d2, d3, d4] := hf
        obtain ⟨f1, f2, f3, f4, _⟩ := hf
        refine ⟨rfl, d1, rfl, f1, ite2 (fun h1 => ⟨d2, rfl, f2, ite2 (fun h2 => ⟨d3, rfl, f3, ite2 (fun h3 => ⟨d4, rfl, f4, ?_⟩) (fun h3 => ?_)⟩) (fun h2 => ?_)⟩) (fun h1 => ?_)⟩
        all_goals have hq : Q (.bl (isNameD d1 && isNameD d2 && isCntD d3 && isCntD d4)) n := hq
        all_goals try simp only [Bool.not_eq_true] at *
        all_goals simp only [*, Bool.true_and, Bool.false_and] at hq
        all_goals exact hq
      · have e : decide (((ds.length : Nat) : Int) = 4) = false := decide_eq_false (by omega)
        rw [e]
        refine iteT ?_
        have e2 : isSaleD (.tup ds) = false := by
          unfold isSaleD
          split
          · rename_i h; injection h with h; subst h; exact absurd rfl hl
          · rfl
        rw [e2] at hq
        exact hq
    | _ => exact hq

def sp_is_stretch (K : PySem.W.Frag) : SpD := fun _ ds n Q => ∃ x, ds = [x] ∧ D.fine K x ∧ Q (.bl (isSpanD x)) n

theorem ok_is_stretch (T : Txt K mg a) : FnOk P w K mg base CX0 3 a.is_stretch a.d_is_stretch ["thing"] (spD K (sp_is_stretch K)) := by
  refine fn_d T.F_is_stretch sc_is_stretch (fun W ds n Q h => by obtain ⟨_, rfl, _⟩ := h; rfl) (fun cdv A outer s H E hr W => ⟨_, (dss_cons (ds_if (dw_or (dt_not (dt_val (de_isi (by rfl) T.n_isinstance (da_cons (de_var 0 (pv 0)) (da_cons (de_ty (nm := "tuple") (by rfl) T.n_tuple (by decide +kernel)) da_nil))))) (dw_or1 (dt_cmp (c_ne hr.units) (de_len (by rfl) T.n_len (de_var 0 (pv 0))) de_int))).dt (dss_one (ds_ret de_bl)) dss_nil)
      (dss_cons (ds_asg (de_var 0 (pv 0)) (dg_tup rfl (dgs_cons (dg_name 1 (pg_name (i := 1) sc_is_stretch.nd rfl (Or.inl rfl))) (dgs_cons (dg_name 2 (pg_name (i := 2) sc_is_stretch.nd rfl (Or.inl rfl))) dgs_nil))))
      (dss_one (ds_ret (de_and (de_call (ok_is_count T) (hr.mono (by decide)) (by rfl) T.m_is_count T.F_is_count.kp (b_is_count T) (da_cons (de_var 1 (pv 1)) da_nil)) (de_one (de_or (de_cmp c_is (de_var 2 (pv 2)) de_non) (de_one (de_and (de_call (ok_is_number T) (hr.mono (by decide)) (by rfl) T.m_is_number T.F_is_number.kp (b_is_number T) (da_cons (de_var 2 (pv 2)) da_nil)) (de_one (de_cmp c_ge (de_var 2 (pv 2)) (de_var 1 (pv 1))))))))))))), fun ds n Q h => ?_⟩)
  · obtain ⟨x, rfl, hf, hq⟩ := h
    simp only [dsSeq, dsIf, dsRet, dsRetN, dsSet, dsOwn, dsAsg, dsNil, dsPar, dsDrop, dL, d1, d2, dTup, dDisp, dLst, daNil, daCons, dVar, dC, dtB, dtNot, dtAnd, dtOr, dtYes, dAndV, dOrV, dNotV, dIf, dCall, dChain, startD, dsFreeze, gdName, gdTup, gdCons, gdNil, dsFor, dComp, diLst, diTup, diStr, diR1, diR2, wipeD, dSl, doNone, doSome, dJoin, dDict1, List.map_cons, List.map_nil, List.length_cons, List.length_nil, List.cons_append, List.nil_append, List.getElem?_cons_zero, List.getElem?_cons_succ, List.set_cons_zero, List.set_cons_succ, Nat.reduceAdd, Nat.reduceSub, Nat.zero_add, List.replicate]
    refine isi_fine (by decide) hf ?_
    cases x with
    | tup ds =>
      refine iteF (lenD_tup (eqD_int ?_))
      by_cases hl : ds.length = 2
      · have e : decide (((ds.length : Nat) : Int) = 2) = true := decide_eq_true (by omega)
        rw [e]
        refine iteF ?_
        obtain ⟨d1, d2, rfl⟩ := len2 hl
        have hf : D.fines K [d1, d2] := hf
        obtain ⟨f1, f2, _⟩ := hf
        refine ⟨rfl, d1, rfl, f1, ite2 (fun h1 => ⟨rfl, ite2 (fun h2 => ?_) (fun h2 => ⟨d2, rfl, f2, ite2 (fun h3 => ?_) (fun h3 => ?_)⟩)⟩) (fun h1 => ?_)⟩
        · cases d2 with
          | non =>
            cases d1 with
            | int i =>
              have h1' : decide (0 ≤ i) = true := h1
              have hq : Q (.bl (decide (0 ≤ i))) n := hq
              rw [h1'] at hq
              exact hq
            | _ => cases h1
          | _ => cases h2
        · obtain ⟨j, rfl⟩ := isNum_int h3
          cases d1 with
          | int i =>
            have hq : Q (.bl (decide (0 ≤ i) && decide (i ≤ j))) n := hq
            have h1' : decide (0 ≤ i) = true := h1
            rw [h1', Bool.true_and] at hq
            exact hq
          | _ => cases h1
        · have e2 : isSpanD (.tup [d1, d2]) = false := by
            cases d1 with
            | int i =>
              cases d2 with
              | int j => exact absurd rfl h3
              | non => exact absurd rfl h2
              | _ => rfl
            | _ => rfl
          rw [e2] at hq
          rw [Bool.not_eq_true] at h3
          exact hq
        · have e2 : isSpanD (.tup [d1, d2]) = false := by
            cases d1 with
            | int i =>
              have h1' : decide (0 ≤ i) = false := by simpa [isCntD] using h1
              cases d2 with
              | int j => show (decide (0 ≤ i) && decide (i ≤ j)) = false; rw [h1']; rfl
              | non => exact h1'
              | _ => rfl
            | _ => rfl
          rw [e2] at hq
          exact hq
      · have e : decide (((ds.length : Nat) : Int) = 2) = false := decide_eq_false (by omega)
        rw [e]
        refine iteT ?_
        have e2 : isSpanD (.tup ds) = false := by
          unfold isSpanD
          split
          · rename_i h; injection h with h; subst h; exact absurd rfl hl
          · rename_i h; injection h with h; subst h; exact absurd rfl hl
          · rfl
        rw [e2] at hq
        exact hq
    | _ => exact hq

def sp_is_name_or_all (K : PySem.W.Frag) : SpD := fun _ ds n Q => ∃ x, ds = [x] ∧ D.fine K x ∧ Q (.bl (nameAllD x)) n

theorem ok_is_name_or_all (T : Txt K mg a) : FnOk P w K mg base CX0 2 a.is_name_or_all a.d_is_name_or_all ["thing"] (spD K (sp_is_name_or_all K)) := by
  refine fn_d T.F_is_name_or_all sc_is_name_or_all (fun W ds n Q h => by obtain ⟨_, rfl, _⟩ := h; rfl) (fun cdv A outer s H E hr W => ⟨_, (dss_one (ds_ret (de_or (de_cmp c_is (de_var 0 (pv 0)) de_non) (de_one (de_call (ok_is_name T) (hr.mono (by decide)) (by rfl) T.m_is_name T.F_is_name.kp (b_is_name T) (da_cons (de_var 0 (pv 0)) da_nil)))))), fun ds n Q h => ?_⟩)
  · obtain ⟨x, rfl, hf, hq⟩ := h
    simp only [dsSeq, dsIf, dsRet, dsRetN, dsSet, dsOwn, dsAsg, dsNil, dsPar, dsDrop, dL, d1, d2, dTup, dDisp, dLst, daNil, daCons, dVar, dC, dtB, dtNot, dtAnd, dtOr, dtYes, dAndV, dOrV, dNotV, dIf, dCall, dChain, startD, dsFreeze, gdName, gdTup, gdCons, gdNil, dsFor, dComp, diLst, diTup, diStr, diR1, diR2, wipeD, dSl, doNone, doSome, dJoin, dDict1, List.map_cons, List.map_nil, List.length_cons, List.length_nil, List.cons_append, List.nil_append, List.getElem?_cons_zero, List.getElem?_cons_succ, List.set_cons_zero, List.set_cons_succ, Nat.reduceAdd, Nat.reduceSub, Nat.zero_add, List.replicate]
    refine ⟨rfl, ?_⟩
    cases x with
    | non => exact hq
    | _ => exact ⟨_, rfl, hf, hq⟩


def okParts (K : PySem.W.Frag) (ds : List D) : Prop := ∃ x y s t, ds = [x, y, s, t] ∧ (D.fine K x ∧ nameAllD x = true) ∧ (D.fine K y ∧ nameAllD y = true) ∧ (D.fine K s ∧ isSpanD s = true) ∧ D.fine K t ∧ isSpanD t = true
theorem ok_Box_init (T : Txt K mg a) : FnOk P w K mg base CX0 4 a.Box_init a.d_Box_init ["self", "who", "what", "days", "amounts"] (spFill K a.Box (okParts K) "sides" .tup) := by
  refine T.FD_Box.ok sc_Box_init (fun vs H Q E h => ?_) (fun cdv A outer s H vs Q E hr h => ?_)
  · obtain ⟨_, _, _, _, us, ds, _, rfl, _, _, r, ⟨_, _, _, _, rfl, _⟩, _⟩ := h
    exact congrArg Nat.succ r.length
  obtain ⟨W, B, x, dx, us, ds, n, rfl, cn, nx, r, ⟨d1, d2, d3, d4, rfl, ⟨f1, g1⟩, ⟨f2, g2⟩, ⟨f3, g3⟩, f4, g4⟩, hx, hq⟩ := h
  obtain ⟨v1, _, rfl, r1, v2, _, rfl, r2, v3, _, rfl, r3, v4, _, rfl, r4, rfl⟩ := r
  refine ⟨_, (pss_cons (ps_if (pt_not (pt_val (pe_call (ok_is_name_or_all T) (hr.mono (by decide)) (by rfl) T.m_is_name_or_all T.F_is_name_or_all.kp (b_is_name_or_all T) .nil pass0 (pa_cons (pv 1) pa_nil)))) (pss_one ps_never) pss_nil) (pss_cons (ps_if (pt_not (pt_val (pe_call (ok_is_name_or_all T) (hr.mono (by decide)) (by rfl) T.m_is_name_or_all T.F_is_name_or_all.kp (b_is_name_or_all T) .nil pass0 (pa_cons (pv 2) pa_nil)))) (pss_one ps_never) pss_nil) (pss_cons (ps_if (pt_not (pt_val (pe_call (ok_is_stretch T) (hr.mono (by decide)) (by rfl) T.m_is_stretch T.F_is_stretch.kp (b_is_stretch T) .nil pass0 (pa_cons (pv 3) pa_nil)))) (pss_one ps_never) pss_nil) (pss_cons (ps_if (pt_not (pt_val (pe_call (ok_is_stretch T) (hr.mono (by decide)) (by rfl) T.m_is_stretch T.F_is_stretch.kp (b_is_stretch T) .nil pass0 (pa_cons (pv 4) pa_nil)))) (pss_one ps_never) pss_nil) (pss_one (ps_fld (pv 0) (pe_tup (pa_cons (pv 1) (pa_cons (pv 2) (pa_cons (pv 3) (pa_cons (pv 4) pa_nil))))) rfl)))))), ?_⟩
  have nc : ¬ W.core x := fun z => nx (cn.core x z)
  have wk : ∀ b o, ¬ (B b ∨ b = x) → H b = some o → ¬ B b ∧ H b = some o := fun b o nb h => ⟨fun z => nb (.inl z), h⟩
  have s1 := Rep.imp wk d1 v1 r1
  have s2 := Rep.imp wk d2 v2 r2
  have s3 := Rep.imp wk d3 v3 r3
  have s4 := Rep.imp wk d4 v4 r4
  refine ⟨_, rfl, ask_part cn s1 ⟨_, rfl, f1, by rw [g1]; exact ⟨rfl, rfl⟩⟩ fun H1 k1 q1 => ⟨_, rfl, iteF ?_⟩⟩
  refine ⟨_, rfl, ask_part (cn.go k1 q1) (cn.rep k1 s2) ⟨_, rfl, f2, by rw [g2]; exact ⟨rfl, rfl⟩⟩ fun H2 k2 q2 => ⟨_, rfl, iteF ?_⟩⟩
  have k12 := k1.trans k2
  refine ⟨_, rfl, ask_part (cn.go k12 q2) (cn.rep k12 s3) ⟨_, rfl, f3, by rw [g3]; exact ⟨rfl, rfl⟩⟩ fun H3 k3 q3 => ⟨_, rfl, iteF ?_⟩⟩
  have k13 := k12.trans k3
  refine ⟨_, rfl, ask_part (cn.go k13 q3) (cn.rep k13 s4) ⟨_, rfl, f4, by rw [g4]; exact ⟨rfl, rfl⟩⟩ fun H4 k4 q4 => ⟨_, rfl, iteF ?_⟩⟩
  have k14 := k13.trans k4
  have hx4 : H4 x = some (.ins a.Box dx []) := k14 x _ nc hx
  refine ⟨_, rfl, _, rfl, _, rfl, _, rfl, by (show 4 ≤ sizeLine); decide, fun p hp => ?_⟩
  have px : p ≠ x := fun z => by rw [z, hx4] at hp; cases hp
  have g5 : Gr W H4 (upd H4 p (.tup [v1, v2, v3, v4])) := Gr.new hp
  have q5 : W.good n (upd H4 p (.tup [v1, v2, v3, v4])) := Wd.new q4 hp
  have hx5 : upd H4 p (.tup [v1, v2, v3, v4]) x = some (.ins a.Box dx []) := g5 x _ nc hx4
  refine ⟨_, rfl, x, a.Box, dx, [], rfl, hx5, T.C_Box, T.NA_Box, by decide, ?_⟩
  have im : ∀ b o, ¬ (B b ∨ b = x) → H b = some o → ¬ B b ∧ upd (upd H4 p (.tup [v1, v2, v3, v4])) x (.ins a.Box dx [("sides", .ref p)]) b = some o := fun b o nb e => by
    have nb1 : ¬ W.core b := fun c => nb (.inl (cn.core b c))
    exact ⟨fun z => nb (.inl z), (upd_ne fun z => nb (.inr z)).trans (g5 b o nb1 (k14 b o nb1 e))⟩
  refine hq (.ref p) _ (fun b o c ne e => (upd_ne ne).trans (g5 b o c (k14 b o c e))) (W.stay q5 fun b c => upd_ne fun z => nc (by rw [← z]; exact c)) upd_same ⟨p, [v1, v2, v3, v4], rfl, .inl ⟨fun z => ?_, (upd_ne px).trans upd_same⟩, _, _, rfl, Rep.imp im d1 v1 r1, _, _, rfl, Rep.imp im d2 v2 r2, _, _, rfl, Rep.imp im d3 v3 r3, _, _, rfl, Rep.imp im d4 v4 r4, rfl⟩
  exact (cn.go k14 q4).fresh hp z

def sp_law_begun (K : PySem.W.Frag) : SpD := fun _ ds n Q => ∃ ns, ds = [.scr ns] ∧ ns.length ≤ 63 ∧ ∀ xs ys : List Int, Q (.dic (srcKs.map .inr) [.lst (xs.map .int), .lst (ys.map .int), .int 0, .int 0]) n

theorem ok_law_begun (T : Txt K mg a) : FnOk P w K mg base CX0 1 a.law_begun a.d_law_begun ["_law_script"] (spD K (sp_law_begun K)) := by
  refine fn_d T.F_law_begun sc_law_begun (fun W ds n Q h => by obtain ⟨_, rfl, _⟩ := h; rfl) (fun cdv A outer s H E hr W => ⟨_, (dss_cons (ds_setLc (i := 1) rfl sc_law_begun.nd rfl rfl (sw_true rfl rfl rfl (by decide +kernel)) (di_scr (de_var 0 (pv 0))) (blkOk_by (own := [("_law_cell", 2)]) (N := ["_law_script", "_law_cells", "_law_cell"]) (sc := defScope s_law_begun) (by decide +kernel)) (fun _ _ _ _ _ => (dg_name 2 (pg_name (i := 2) sc_law_begun.nd rfl (Or.inl rfl)))) (fun _ _ _ _ _ => dts_nil) (fun _ _ _ _ _ => (de_abs (by rfl) T.n_abs (de_var 2 (pv 2)))))
      (dss_one (ds_ret (de_dict (dp_cons (dl_comp rfl sc_law_begun.nd (di_list (de_var 1 (pv 1))) (blkOk_by (own := [("_law_cell", 2)]) (N := ["_law_script", "_law_cells", "_law_cell"]) (sc := defScope s_law_begun) (by decide +kernel)) (fun _ _ _ _ _ => (dg_name 2 (pg_name (i := 2) sc_law_begun.nd rfl (Or.inl rfl)))) (fun _ _ _ _ _ => (dts_one (dt_cmp c_ge (de_var 2 (pv 2)) (de_pow de_int de_int)))) (fun _ _ _ _ _ => (de_sub (de_var 2 (pv 2)) (de_pow de_int de_int)))).de (dp_cons (de_var 1 (pv 1)) (dp_cons de_int (dp_cons de_int dp_nil)))) (by rfl) (by rfl) (fun z => by cases z) (by decide) (by decide) (by decide +kernel))))), fun ds n Q h => ?_⟩)
  · obtain ⟨ns, rfl, hl, hq⟩ := h
    simp only [dsSeq, dsIf, dsRet, dsRetN, dsSet, dsOwn, dsAsg, dsNil, dsPar, dsDrop, dL, d1, d2, dTup, dDisp, dLst, daNil, daCons, dVar, dC, dtB, dtNot, dtAnd, dtOr, dtYes, dAndV, dOrV, dNotV, dIf, dCall, dChain, startD, dsFreeze, gdName, gdTup, gdCons, gdNil, dsFor, dComp, diLst, diTup, diStr, diR1, diR2, wipeD, dSl, doNone, doSome, dJoin, dDict1, List.map_cons, List.map_nil, List.length_cons, List.length_nil, List.cons_append, List.nil_append, List.getElem?_cons_zero, List.getElem?_cons_succ, List.set_cons_zero, List.set_cons_succ, Nat.reduceAdd, Nat.reduceSub, Nat.zero_add, List.replicate]
    refine compD_map (f := fun d => match d with | .int i => .int (if i < 0 then -i else i) | d => d) _ _ (fun d hd Q' hQ => ?_) (by simp; rw [sizeLine_eq]; omega) ?_
    · obtain ⟨i, _, rfl⟩ := List.mem_map.mp hd
      exact hQ
    have e1 : (ns.map D.int).map (fun d => match d with | .int i => D.int (if i < 0 then -i else i) | d => d) = (ns.map fun i => if i < 0 then -i else i).map D.int := by
      rw [List.map_map, List.map_map]
      rfl
    rw [List.nil_append, e1]
    refine compD_filter (f := fun d => match d with | .int i => .int (i - 10 ^ 18) | d => d) (c := fun d => match d with | .int i => decide (10 ^ 18 ≤ i) | _ => false) _ _ (fun d hd Q' hQ => ?_) (by simp; rw [sizeLine_eq]; omega) ?_
    · obtain ⟨i, _, rfl⟩ := List.mem_map.mp hd
      refine ⟨⟨by decide, by decide, by decide⟩, ?_⟩
      refine hQ _ fun Q'' hq' => ⟨⟨by decide, by decide, by decide⟩, hq'⟩
    have e2 : ∀ ys : List Int, ∃ xs : List Int, ((ys.map D.int).filter fun d => match d with | .int i => decide (10 ^ 18 ≤ i) | _ => false).map (fun d => match d with | .int i => D.int (i - 10 ^ 18) | d => d) = xs.map D.int := by
      intro ys
      refine ⟨(ys.filter fun i => decide (10 ^ 18 ≤ i)).map fun i => i - 10 ^ 18, ?_⟩
      rw [List.filter_map, List.map_map, List.map_map]
      rfl
    obtain ⟨xs, e3⟩ := e2 (ns.map fun i => if i < 0 then -i else i)
    rw [List.nil_append, e3]
    exact hq _ _

def sp_law_draw (K : PySem.W.Frag) : SpD := fun W ds n Q => ∃ a l c s, W = srcW a l c ∧ ds = [.ref a, .int s] ∧ 0 < s ∧ s < 2 ^ 62 ∧ n < 2 ^ 40 ∧ ∀ k : Int, 0 ≤ k → k < s → Q (.int k) (n + 1)

theorem ok_law_draw (T : Txt K mg a) : FnOk P w K mg base CX0 1 a.law_draw a.d_law_draw ["_law_state", "_law_size"] (spD K (sp_law_draw K)) := by
  refine fn_d T.F_law_draw sc_law_draw (fun W ds n Q h => by obtain ⟨_, _, _, _, _, rfl, _⟩ := h; rfl) (fun cdv A outer s H E hr W => ?_)
  by_cases hW : ∃ a l c, W = srcW a l c
  · obtain ⟨b, l, c, rfl⟩ := hW
    refine ⟨_, (dss_cons (ds_mk (ps_while PassesOwn.never (PW.pt (pw_and (pt_cmpR op_eq (pe_dget (hu_of hr) (pv 0) pe_str (fun _ _ => rfl)) pe_int (nomark _)) (pw_and1 (pt_cmpR (op_neD hr.units) (pe_dget (hu_of hr) (pv 0) pe_str (fun _ _ => rfl)) (pe_lst pa_nil) (nomark _))))) (pss_one (ps_dput (hu_of hr) (pv 0) pe_str (pe_bm PySem.F.plainAttrs_list PySem.F.slot_list_pop PySem.F.type_list_pop mt_popAt (pe_dget (hu_of hr) (pv 0) pe_str (fun _ _ => rfl)) (pa_cons pe_int pa_nil)) rfl))) (dsr_drain rfl))
      (dss_cons (ds_if (dt_cmp c_gt (de_rest (hu_of hr) (pv 0)) de_int) (dss_bump (dss_cons (ds_set (i := 5) sc_law_draw.nd rfl (Or.inl rfl) (de_mod (de_intc (by rfl) T.n_int (de_rest (hu_of hr) (pv 0))) (de_var 1 (pv 1))))
      (dss_cons (ds_putRest (hu_of hr) (pv 0) (de_fdiv (de_rest (hu_of hr) (pv 0)) (de_var 1 (pv 1))))
      (dss_one (ds_ret (de_var 5 (pv 5))))))) dss_nil)
      (dss_cons (ds_set (i := 2) sc_law_draw.nd rfl (Or.inl rfl) (de_add (de_turn (hu_of hr) (pv 0)) de_int))
      (dss_cons (ds_putTurn (hu_of hr) (pv 0) (de_var 2 (pv 2)))
      (dss_cons (ds_set (i := 3) sc_law_draw.nd rfl (Or.inl rfl) (de_mk (pe_ifExp (pt_cmpR (op_neD hr.units) (pe_dget (hu_of hr) (pv 0) pe_str (fun _ _ => rfl)) (pe_lst pa_nil) (nomark _)) (pe_ix ix_seq (pe_dget (hu_of hr) (pv 0) pe_str (fun _ _ => rfl)) (pe_op op_mod (pe_callTy call_int1 (by rfl) T.n_int (by decide +kernel) (pa_cons (pv 2) pa_nil)) (pe_callB call_len (by rfl) T.n_len boot_len (pa_cons (pe_dget (hu_of hr) (pv 0) pe_str (fun _ _ => rfl)) pa_nil))) (fun _ _ => rfl)) pe_int) der_cell))
      (dss_cons (ds_set (i := 4) sc_law_draw.nd rfl (Or.inl rfl) (de_mod (de_intc (by rfl) T.n_int (de_pow (de_add (de_add (de_mod (de_intc (by rfl) T.n_int (de_var 3 (pv 3))) de_int) (de_mul de_int (de_var 2 (pv 2)))) de_int) de_int)) de_int))
      (dss_one (ds_ret (de_mod (de_intc (by rfl) T.n_int (de_fdiv (de_mod (de_intc (by rfl) T.n_int (de_pow (de_add (de_var 4 (pv 4)) (de_mul de_int (de_var 2 (pv 2)))) de_int)) de_int) de_int)) (de_var 1 (pv 1))))))))))), fun ds n Q h => ?_⟩
    obtain ⟨a', l', c', s, e1, rfl, s0, s1, hn, hq⟩ := h
    have ea : b = a' := congrArg Wd.a e1
    subst ea
    simp only [dsSeq, dsIf, dsRet, dsRetN, dsSet, dsOwn, dsAsg, dsNil, dsPar, dsDrop, dL, d1, d2, dTup, dDisp, dLst, daNil, daCons, dVar, dC, dtB, dtNot, dtAnd, dtOr, dtYes, dAndV, dOrV, dNotV, dIf, dCall, dChain, startD, dsFreeze, gdName, gdTup, gdCons, gdNil, dsFor, dComp, diLst, diTup, diStr, diR1, diR2, wipeD, dSl, doNone, doSome, dJoin, dDict1, List.map_cons, List.map_nil, List.length_cons, List.length_nil, List.cons_append, List.nil_append, List.getElem?_cons_zero, List.getElem?_cons_succ, List.set_cons_zero, List.set_cons_succ, Nat.reduceAdd, Nat.reduceSub, Nat.zero_add, List.replicate]
    refine ⟨trivial, rfl, fun r _ => ite2 (fun h1 => ?_) (fun h1 => ?_)⟩
    · refine ⟨rfl, fun r1 _ => ⟨s0, rfl, rfl, fun r2 _ => ⟨wide_div s0 (b := 62) (by omega) (by decide) (by decide), ?_⟩⟩⟩
      exact hq (r1 % s) (Int.emod_nonneg _ (by omega)) (Int.emod_lt_of_pos _ s0)
    · refine ⟨rfl, fun t ht => ⟨rfl, by omega, by omega, rfl, ⟨_, rfl⟩, fun r => ?_⟩⟩
      have m1 : 0 ≤ r % 2147483629 := Int.emod_nonneg _ (by decide)
      have m2 : r % 2147483629 < 2147483629 := Int.emod_lt_of_pos _ (by decide)
      refine ⟨by decide, .inl ⟨by decide, by decide⟩, ⟨by decide, by decide, ?_⟩, by decide, ?_⟩
      · omega
      refine ⟨.inl ⟨by decide, by decide⟩, ⟨by decide, by decide, ?_⟩, by decide, ⟨by decide, by decide⟩, s0, ?_⟩
      · have m3 : 0 ≤ (r % 2147483629 + 48271 * (t + 1) + 13579) ^ Int.toNat 3 % 2147483647 := Int.emod_nonneg _ (by decide)
        have m4 : (r % 2147483629 + 48271 * (t + 1) + 13579) ^ Int.toNat 3 % 2147483647 < 2147483647 := Int.emod_lt_of_pos _ (by decide)
        omega
      · exact hq _ (Int.emod_nonneg _ (by omega)) (Int.emod_lt_of_pos _ s0)
  · exact ⟨_, dss_never, fun ds n Q h => by obtain ⟨a, l, c, _, e, _⟩ := h; exact hW ⟨a, l, c, e⟩⟩

def sp_law_pick (K : PySem.W.Frag) : SpD := fun W ds n Q => ∃ a l c x, W = srcW a l c ∧ ds = [.ref a, x] ∧ n < 2 ^ 40 ∧ ((∃ xs, x = .lst xs ∧ 0 < xs.length ∧ xs.length < 2 ^ 40 ∧ ∀ d ∈ xs, Q d (n + 1)) ∨ ∃ z, x = .str z ∧ 0 < z.length ∧ z.length ≤ sizeLine ∧ ∀ c ∈ z.cps.toList, Q (.str ⟨#[c]⟩) (n + 1))

theorem ok_law_pick (T : Txt K mg a) : FnOk P w K mg base CX0 2 a.law_pick a.d_law_pick ["_law_state", "_law_several"] (spD K (sp_law_pick K)) := by
  refine fn_d T.F_law_pick sc_law_pick (fun W ds n Q h => by obtain ⟨_, _, _, _, _, rfl, _⟩ := h; rfl) (fun cdv A outer s H E hr W => ?_)
  by_cases hW : ∃ a l c, W = srcW a l c
  · obtain ⟨b, l, c, rfl⟩ := hW
    refine ⟨_, (dss_one (ds_ret (de_ix (de_var 1 (pv 1)) (de_call (ok_law_draw T) (hr.mono (by decide)) (by rfl) T.m_law_draw T.F_law_draw.kp (b_law_draw T) (da_cons (de_var 0 (pv 0)) (da_cons (de_len (by rfl) T.n_len (de_var 1 (pv 1))) da_nil)))))), fun ds n Q h => ?_⟩
    obtain ⟨a', l', c', x, e1, rfl, hn, hq⟩ := h
    have ea : b = a' := congrArg Wd.a e1
    subst ea
    simp only [dsSeq, dsIf, dsRet, dsRetN, dsSet, dsOwn, dsAsg, dsNil, dsPar, dsDrop, dL, d1, d2, dTup, dDisp, dLst, daNil, daCons, dVar, dC, dtB, dtNot, dtAnd, dtOr, dtYes, dAndV, dOrV, dNotV, dIf, dCall, dChain, startD, dsFreeze, gdName, gdTup, gdCons, gdNil, dsFor, dComp, diLst, diTup, diStr, diR1, diR2, wipeD, dSl, doNone, doSome, dJoin, dDict1, List.map_cons, List.map_nil, List.length_cons, List.length_nil, List.cons_append, List.nil_append, List.getElem?_cons_zero, List.getElem?_cons_succ, List.set_cons_zero, List.set_cons_succ, Nat.reduceAdd, Nat.reduceSub, Nat.zero_add, List.replicate]
    rcases hq with ⟨xs, rfl, h1, h2, hq⟩ | ⟨z, rfl, h1, h2, hq⟩
    · refine lenD_lst ⟨b, l, c, (xs.length : Nat), rfl, rfl, by omega, by omega, hn, fun k k0 k1 => ?_⟩
      show someD (atI xs k) fun d => Q d (n + 1)
      obtain ⟨j, rfl⟩ : ∃ j : Nat, k = (j : Int) := ⟨_, (Int.toNat_of_nonneg k0).symm⟩
      have hj : j < xs.length := by omega
      rw [atI_nat (List.getElem?_eq_getElem hj)]
      exact hq _ (List.getElem_mem hj)
    · refine lenD_str h2 ⟨b, l, c, (z.length : Nat), rfl, rfl, by omega, by rw [sizeLine_eq] at h2; omega, hn, fun k k0 k1 => ⟨h2, ?_⟩⟩
      obtain ⟨j, rfl⟩ : ∃ j : Nat, k = (j : Int) := ⟨_, (Int.toNat_of_nonneg k0).symm⟩
      have hj : j < z.cps.toList.length := by rw [← str_len]; omega
      rw [atI_nat (List.getElem?_eq_getElem hj)]
      exact hq _ (List.getElem_mem hj)
  · exact ⟨_, dss_never, fun ds n Q h => by obtain ⟨a, l, c, _, e, _⟩ := h; exact hW ⟨a, l, c, e⟩⟩


theorem okO_law_pick (T : Txt K mg a) : FnOk P w K mg base CX0 2 a.law_pick a.d_law_pick ["_law_state", "_law_several"] spPickO := by
  refine T.F_law_pick.ok sc_law_pick (fun vs H Q E h => by obtain ⟨_, _, _, _, _, _, _, rfl, _⟩ := h; rfl) (fun cdv A outer s H vs Q E hr h => ?_)
  obtain ⟨b, l, c, p, us, n, B, rfl, cn, hp, hnc, h1, h2, hn, hq⟩ := h
  refine ⟨_, pss_one (ps_ret (pe_ix ix_seq (pv 1) (pe_call (ok_law_draw T) (hr.mono (by decide)) (by rfl) T.m_law_draw T.F_law_draw.kp (b_law_draw T) .nil pass0 (pa_cons (pv 0) (pa_cons (pe_callB call_len (by rfl) T.n_len boot_len (pa_cons (pv 1) pa_nil)) pa_nil))) (fun _ _ => rfl))), ?_⟩
  refine ⟨_, rfl, _, rfl, _, rfl, .ref p, us.length, rfl, .inl ⟨_, SqL.of hp, rfl⟩, srcW b l c, B, [.ref b, .int us.length], n, fun d n' => ∃ k : Int, d = .int k ∧ 0 ≤ k ∧ k < us.length ∧ n' = n + 1, cn, ⟨_, _, rfl, rfl, _, _, rfl, rfl, rfl⟩, ⟨b, l, c, _, rfl, rfl, by omega, by omega, hn, fun k k0 k1 => ⟨k, rfl, k0, k1, rfl⟩⟩, fun v d H' n' g q r hk => ?_⟩
  obtain ⟨k, rfl, k0, k1, rfl⟩ := hk
  cases r
  obtain ⟨j, rfl⟩ : ∃ j : Nat, k = (j : Int) := ⟨_, (Int.toNat_of_nonneg k0).symm⟩
  have hj : j < us.length := by omega
  exact .inl ⟨p, _, _, _, rfl, rfl, SqL.of (g p _ hnc hp), atI_nat (List.getElem?_eq_getElem hj), hq _ H' (List.getElem_mem hj) g q⟩

def sp_law_letters (K : PySem.W.Frag) : SpD := fun _ ds n Q => ∃ u : Unit, ds = [] ∧ Q (.str lettersZ) n

theorem ok_law_letters (T : Txt K mg a) : FnOk P w K mg base CX0 1 a.law_letters a.d_law_letters [] (spD K (sp_law_letters K)) := by
  refine fn_d T.F_law_letters sc_law_letters (fun W ds n Q h => by obtain ⟨_, rfl, _⟩ := h; rfl) (fun cdv A outer s H E hr W => ⟨_, (dss_one (ds_ret de_str)), fun ds n Q h => ?_⟩)
  · obtain ⟨_, rfl, hq⟩ := h
    simp only [dsSeq, dsIf, dsRet, dsRetN, dsSet, dsOwn, dsAsg, dsNil, dsPar, dsDrop, dL, d1, d2, dTup, dDisp, dLst, daNil, daCons, dVar, dC, dtB, dtNot, dtAnd, dtOr, dtYes, dAndV, dOrV, dNotV, dIf, dCall, dChain, startD, dsFreeze, gdName, gdTup, gdCons, gdNil, dsFor, dComp, diLst, diTup, diStr, diR1, diR2, wipeD, dSl, doNone, doSome, dJoin, dDict1, List.map_cons, List.map_nil, List.length_cons, List.length_nil, List.cons_append, List.nil_append, List.getElem?_cons_zero, List.getElem?_cons_succ, List.set_cons_zero, List.set_cons_succ, Nat.reduceAdd, Nat.reduceSub, Nat.zero_add, List.replicate]
    exact hq

def sp_law_signs (K : PySem.W.Frag) : SpD := fun _ ds n Q => ∃ u : Unit, ds = [] ∧ ∀ z, strOK z → 0 < z.length → z.length ≤ 200 → Q (.str z) n

theorem ok_law_signs (T : Txt K mg a) : FnOk P w K mg base CX0 2 a.law_signs a.d_law_signs [] (spD K (sp_law_signs K)) := by
  refine fn_d T.F_law_signs sc_law_signs (fun W ds n Q h => by obtain ⟨_, rfl, _⟩ := h; rfl) (fun cdv A outer s H E hr W => ⟨_, (dss_cons (ds_set (i := 0) sc_law_signs.nd rfl (Or.inl rfl) de_str)
      (dss_one (ds_ret (de_add (de_add (de_var 0 (pv 0)) (de_call0 (ok_law_letters T) (hr.mono (by decide)) (by rfl) T.m_law_letters T.F_law_letters.kp (b_law_letters T))) de_str)))), fun ds n Q h => ?_⟩)
  · obtain ⟨_, rfl, hq⟩ := h
    simp only [dsSeq, dsIf, dsRet, dsRetN, dsSet, dsOwn, dsAsg, dsNil, dsPar, dsDrop, dL, d1, d2, dTup, dDisp, dLst, daNil, daCons, dVar, dC, dtB, dtNot, dtAnd, dtOr, dtYes, dAndV, dOrV, dNotV, dIf, dCall, dChain, startD, dsFreeze, gdName, gdTup, gdCons, gdNil, dsFor, dComp, diLst, diTup, diStr, diR1, diR2, wipeD, dSl, doNone, doSome, dJoin, dDict1, List.map_cons, List.map_nil, List.length_cons, List.length_nil, List.cons_append, List.nil_append, List.getElem?_cons_zero, List.getElem?_cons_succ, List.set_cons_zero, List.set_cons_succ, Nat.reduceAdd, Nat.reduceSub, Nat.zero_add, List.replicate]
    refine ⟨(), rfl, by decide +kernel, by decide +kernel, hq _ (by unfold strOK; decide +kernel) (by decide +kernel) (by decide +kernel)⟩

def sp_law_called (K : PySem.W.Frag) : SpD := fun W ds n Q => ∃ a l c x, W = srcW a l c ∧ ds = [x] ∧ x = .ref a ∧ n < 2 ^ 39 ∧ ∀ z n', strOK z → z.length ≤ 8 → n ≤ n' → n' ≤ n + 10 → Q (.str z) n'

theorem ok_law_called (T : Txt K mg a) : FnOk P w K mg base CX0 3 a.law_called a.d_law_called ["_law_state"] (spD K (sp_law_called K)) := by
  refine fn_d T.F_law_called sc_law_called (fun W ds n Q h => by obtain ⟨_, _, _, _, _, rfl, _⟩ := h; rfl) (fun cdv A outer s H E hr W => ?_)
  by_cases hW : ∃ a l c, W = srcW a l c
  · obtain ⟨b, l, c, rfl⟩ := hW
    refine ⟨_, (dss_cons (ds_set (i := 1) sc_law_called.nd rfl (Or.inl rfl) (dl_lst (da_cons de_str (da_cons de_str (da_cons de_str (da_cons de_str (da_cons de_str (da_cons de_str (da_cons de_str (da_cons de_str (da_cons de_str (da_cons de_str (da_cons de_str (da_cons de_str (da_cons de_str da_nil)))))))))))))).de)
      (dss_cons (ds_if (dt_cmp c_gt (de_call (ok_law_draw T) (hr.mono (by decide)) (by rfl) T.m_law_draw T.F_law_draw.kp (b_law_draw T) (da_cons (de_var 0 (pv 0)) (da_cons de_int da_nil))) de_int) (dss_one (ds_ret (de_call (ok_law_pick T) (hr.mono (by decide)) (by rfl) T.m_law_pick T.F_law_pick.kp (b_law_pick T) (da_cons (de_var 0 (pv 0)) (da_cons (de_add (de_var 1 (pv 1)) (dl_lst (da_cons de_str da_nil)).de) da_nil))))) dss_nil)
      (dss_one (ds_ret (de_join de_str (dl_comp rfl sc_law_called.nd (di_range1 (by rfl) T.n_range (de_add de_int (de_call (ok_law_draw T) (hr.mono (by decide)) (by rfl) T.m_law_draw T.F_law_draw.kp (b_law_draw T) (da_cons (de_var 0 (pv 0)) (da_cons de_int da_nil))))) (blkOk_by (own := [("_law_turn", 2)]) (N := ["_law_state", "_law_several", "_law_turn"]) (sc := defScope s_law_called) (by decide +kernel)) (fun _ _ _ _ _ => (dg_name 2 (pg_name (i := 2) sc_law_called.nd rfl (Or.inl rfl)))) (fun _ _ _ _ _ => dts_nil) (fun _ _ _ _ _ => (de_call (ok_law_pick T) (hr.mono (by decide)) (by rfl) T.m_law_pick T.F_law_pick.kp (b_law_pick T) (da_cons (de_var 0 (pv 0)) (da_cons (de_call0 (ok_law_letters T) (hr.mono (by decide)) (by rfl) T.m_law_letters T.F_law_letters.kp (b_law_letters T)) da_nil))))).de))))), fun ds n Q h => ?_⟩
    obtain ⟨a', l', c', x, e1, rfl, rfl, hn, hq⟩ := h
    have ea : b = a' := congrArg Wd.a e1
    subst ea

    simp only [dsSeq, dsIf, dsRet, dsRetN, dsSet, dsOwn, dsAsg, dsNil, dsPar, dsDrop, dL, d1, d2, dTup, dDisp, dLst, daNil, daCons, dVar, dC, dtB, dtNot, dtAnd, dtOr, dtYes, dAndV, dOrV, dNotV, dIf, dCall, dChain, startD, dsFreeze, gdName, gdTup, gdCons, gdNil, dsFor, dComp, diLst, diTup, diStr, diR1, diR2, wipeD, dSl, doNone, doSome, dJoin, dDict1, List.map_cons, List.map_nil, List.length_cons, List.length_nil, List.cons_append, List.nil_append, List.getElem?_cons_zero, List.getElem?_cons_succ, List.set_cons_zero, List.set_cons_succ, Nat.reduceAdd, Nat.reduceSub, Nat.zero_add, List.replicate]
    refine ⟨by decide, b, l, c, 3, rfl, rfl, by decide, by decide, by omega, fun k k0 k1 => ite2 (fun h1 => ?_) (fun h1 => ?_)⟩
    · refine ⟨by decide, by decide, b, l, c, _, rfl, rfl, by omega, .inl ⟨_, rfl, by decide, by decide, fun d hd => ?_⟩⟩
      obtain ⟨z, hz, rfl⟩ := List.mem_map.mp (show d ∈ (["a", "b", "ab", "ann", "tea", "put", "take", "end", "none", "all", "row", "newest", "zzzzzzzz", "zzzzzzz"] : List Str).map D.str from hd)
      have hz2 := (by decide +kernel : ∀ z ∈ (["a", "b", "ab", "ann", "tea", "put", "take", "end", "none", "all", "row", "newest", "zzzzzzzz", "zzzzzzz"] : List Str), (z.cps.all (· < 0x110000) = true ∧ z.length ≤ sizeLine) ∧ z.length ≤ 8) z hz
      exact hq z _ hz2.1 hz2.2 (by omega) (by omega)
    · refine ⟨b, l, c, 8, rfl, rfl, by decide, by decide, by omega, fun m m0 m1 => ⟨by omega, by omega, ?_⟩⟩
      have hlen : (dRng 0 (1 + m).toNat).length = (1 + m).toNat := dRng_len _ _
      refine compD_inv _ (fun i acc n' => n + 2 ≤ n' ∧ n' ≤ n + 2 + i ∧ ∀ d ∈ acc, ∃ c, d = .str ⟨#[c]⟩ ∧ c < 0x110000) (by rw [hlen, sizeLine_eq]; omega) (fun i d acc n' hd ha hP Q' hQ => ?_) (fun acc n' ha hP => ?_) ⟨by omega, by omega, fun d z => by cases z⟩
      · have hi : i < (1 + m).toNat := by
          have := (List.getElem?_eq_some_iff.mp hd).1
          rw [hlen] at this
          exact this
        refine ⟨(), rfl, b, l, c, _, rfl, rfl, by omega, .inr ⟨lettersZ, rfl, by decide +kernel, lettersOK.2, fun c' hc => hQ _ _ ⟨by omega, by omega, fun d' hd' => ?_⟩⟩⟩
        rcases List.mem_append.mp hd' with z | z
        · exact hP.2.2 d' z
        · have e := List.mem_singleton.mp z
          exact ⟨c', e, (strOK_cps.mp lettersOK).1 c' hc⟩
      · obtain ⟨ys, e, l1, l2, k1', k2'⟩ := join_signs hP.2.2
        have hal : acc.length ≤ 8 := by rw [ha, hlen]; omega
        show someD (D.strs acc) fun ys => _
        rw [e]
        refine ⟨?_, ?_⟩
        · rw [l1, l2]
          show acc.length + acc.length * 0 ≤ 16777216
          omega
        · have ej : Txt.join (Str.ofString "") ys = Str.join Str.empty ys := TL.join_eq _ _
          rw [ej]
          exact hq _ _ (strOK_cps.mpr ⟨k1', by rw [sizeLine_eq]; omega⟩) (by omega) (by omega) (by rw [ha, hlen] at *; omega)
  · exact ⟨_, dss_never, fun ds n Q h => by obtain ⟨a, l, c, _, e, _⟩ := h; exact hW ⟨a, l, c, e⟩⟩

def sp_law_odd (K : PySem.W.Frag) : SpD := fun W ds n Q => ∃ a l c x, W = srcW a l c ∧ ds = [x] ∧ x = .ref a ∧ n < 2 ^ 39 ∧ ∀ d, D.fine K d → Q d (n + 1)

theorem ok_law_odd (T : Txt K mg a) : FnOk P w K mg base CX0 3 a.law_odd a.d_law_odd ["_law_state"] (spD K (sp_law_odd K)) := by
  refine fn_d T.F_law_odd sc_law_odd (fun W ds n Q h => by obtain ⟨_, _, _, _, _, rfl, _⟩ := h; rfl) (fun cdv A outer s H E hr W => ?_)
  by_cases hW : ∃ a l c, W = srcW a l c
  · obtain ⟨b, l, c, rfl⟩ := hW
    refine ⟨_, (dss_cons (ds_set (i := 1) sc_law_odd.nd rfl (Or.inl rfl) (dl_lst (da_cons de_non (da_cons de_bl (da_cons de_bl (da_cons (de_neg de_int) (da_cons de_int (da_cons de_int (da_cons de_int (da_cons (de_sub (de_pow de_int de_int) de_int) (da_cons (de_neg (de_pow de_int de_int)) (da_cons de_str (da_cons de_str (da_cons de_str (da_cons de_str (da_cons de_str (da_cons de_str da_nil)))))))))))))))).de)
      (dss_cons (ds_set (i := 1) sc_law_odd.nd rfl (Or.inl rfl) (de_add (de_var 1 (pv 1)) (dl_lst (da_cons (de_tup da_nil) (da_cons (dl_lst da_nil).de (da_cons de_dict0 (da_cons (de_tup (da_cons de_str da_nil)) (da_cons (dl_lst (da_cons de_str da_nil)).de (da_cons (de_tup (da_cons de_int (da_cons de_int da_nil))) (da_cons (dl_lst (da_cons de_int (da_cons de_non da_nil))).de (da_cons (de_tup (da_cons de_int (da_cons de_non da_nil))) (da_cons (de_tup (da_cons de_int da_nil)) (da_cons (de_tup (da_cons (de_tup da_nil) da_nil)) (da_cons (de_dict1 de_int) (da_cons (de_tup (da_cons de_int (da_cons de_int da_nil))) da_nil))))))))))))).de))
      (dss_one (ds_ret (de_call (ok_law_pick T) (hr.mono (by decide)) (by rfl) T.m_law_pick T.F_law_pick.kp (b_law_pick T) (da_cons (de_var 0 (pv 0)) (da_cons (de_add (de_var 1 (pv 1)) (dl_lst (da_cons (de_tup (da_cons de_int (da_cons de_int (da_cons de_int da_nil)))) (da_cons (dl_lst (da_cons de_int (da_cons de_int da_nil))).de da_nil))).de) da_nil))))))), fun ds n Q h => ?_⟩
    obtain ⟨a', l', c', x, e1, rfl, rfl, hn, hq⟩ := h
    have ea : b = a' := congrArg Wd.a e1
    subst ea

    refine seq_set (pu_lst (pu_cons pu_c (pu_cons pu_c (pu_cons pu_c (pu_cons (pu_neg pu_c) (pu_cons pu_c (pu_cons pu_c (pu_cons pu_c (pu_cons (pu_sub (pu_pow pu_c pu_c ⟨by decide, by decide, by decide⟩) pu_c) (pu_cons (pu_neg (pu_pow pu_c pu_c ⟨by decide, by decide, by decide⟩)) (pu_cons pu_c (pu_cons pu_c (pu_cons pu_c (pu_cons pu_c (pu_cons pu_c (pu_cons pu_c pu_nil))))))))))))))) (by simp only [List.length_cons, List.length_nil]; decide)) (seq_set (pu_addL (pu_var rfl) (pu_lst (pu_cons (pu_tup pu_nil (by simp only [List.length_cons, List.length_nil]; decide)) (pu_cons (pu_lst pu_nil (by simp only [List.length_cons, List.length_nil]; decide)) (pu_cons pu_c (pu_cons (pu_tup (pu_cons pu_c pu_nil) (by simp only [List.length_cons, List.length_nil]; decide)) (pu_cons (pu_lst (pu_cons pu_c pu_nil) (by simp only [List.length_cons, List.length_nil]; decide)) (pu_cons (pu_tup (pu_cons pu_c (pu_cons pu_c pu_nil)) (by simp only [List.length_cons, List.length_nil]; decide)) (pu_cons (pu_lst (pu_cons pu_c (pu_cons pu_c pu_nil)) (by simp only [List.length_cons, List.length_nil]; decide)) (pu_cons (pu_tup (pu_cons pu_c (pu_cons pu_c pu_nil)) (by simp only [List.length_cons, List.length_nil]; decide)) (pu_cons (pu_tup (pu_cons pu_c pu_nil) (by simp only [List.length_cons, List.length_nil]; decide)) (pu_cons (pu_tup (pu_cons (pu_tup pu_nil (by simp only [List.length_cons, List.length_nil]; decide)) pu_nil) (by simp only [List.length_cons, List.length_nil]; decide)) (pu_cons (pu_dict1 pu_c) (pu_cons (pu_tup (pu_cons pu_c (pu_cons pu_c pu_nil)) (by simp only [List.length_cons, List.length_nil]; decide)) pu_nil)))))))))))) (by simp only [List.length_cons, List.length_nil]; decide)) (by simp only [List.length_cons, List.length_nil, List.length_append]; decide)) ?_)
    refine ret_call (pu_cons (pu_var rfl) (pu_cons (pu_addL (pu_var rfl) (pu_lst (pu_cons (pu_tup (pu_cons pu_c (pu_cons pu_c (pu_cons pu_c pu_nil))) (by simp only [List.length_cons, List.length_nil]; decide)) (pu_cons (pu_lst (pu_cons pu_c (pu_cons pu_c pu_nil)) (by simp only [List.length_cons, List.length_nil]; decide)) pu_nil)) (by simp only [List.length_cons, List.length_nil]; decide)) (by simp only [List.length_cons, List.length_nil, List.length_append]; decide)) pu_nil)) ?_
    refine ⟨b, l, c, _, rfl, rfl, by omega, .inl ⟨_, rfl, by simp only [List.length_append, List.length_cons, List.length_nil]; decide, by simp only [List.length_append, List.length_cons, List.length_nil]; decide, fun d hd => hq d ?_⟩⟩
    revert d
    refine fines_iff.mp ?_
    have e : ∀ z : Str, (decide (z.cps.all (· < 0x110000) = true) && decide (z.length ≤ sizeLine)) = true → strOK z := fun z h => by
      rw [Bool.and_eq_true] at h
      exact ⟨of_decide_eq_true h.1, of_decide_eq_true h.2⟩
    simp only [List.cons_append, List.nil_append, D.fines, D.fine, and_true, true_and]
    repeat' first | (refine e _ ?_; decide +kernel) | apply And.intro
  · exact ⟨_, dss_never, fun ds n Q h => by obtain ⟨a, l, c, _, e, _⟩ := h; exact hW ⟨a, l, c, e⟩⟩

def sp_law_is_count (K : PySem.W.Frag) : SpD := fun _ ds n Q => ∃ x, ds = [x] ∧ D.fine K x ∧ Q (.bl (isCntD x)) n

theorem ok_law_is_count (T : Txt K mg a) : FnOk P w K mg base CX0 1 a.law_is_count a.d_law_is_count ["_law_item"] (spD K (sp_law_is_count K)) := by
  refine fn_d T.F_law_is_count sc_law_is_count (fun W ds n Q h => by obtain ⟨_, rfl, _⟩ := h; rfl) (fun cdv A outer s H E hr W => ⟨_, (dss_one (ds_ret (de_and (de_isi (by rfl) T.n_isinstance (da_cons (de_var 0 (pv 0)) (da_cons (de_ty (nm := "int") (by rfl) T.n_int (by decide +kernel)) da_nil))) (de_and (de_not (de_isi (by rfl) T.n_isinstance (da_cons (de_var 0 (pv 0)) (da_cons (de_ty (nm := "bool") (by rfl) T.n_bool (by decide +kernel)) da_nil)))) (de_one (de_cmp c_ge (de_var 0 (pv 0)) de_int)))))), fun ds n Q h => ?_⟩)
  · obtain ⟨x, rfl, hf, hq⟩ := h
    simp only [dsSeq, dsIf, dsRet, dsRetN, dsSet, dsOwn, dsAsg, dsNil, dsPar, dsDrop, dL, d1, d2, dTup, dDisp, dLst, daNil, daCons, dVar, dC, dtB, dtNot, dtAnd, dtOr, dtYes, dAndV, dOrV, dNotV, dIf, dCall, dChain, startD, dsFreeze, gdName, gdTup, gdCons, gdNil, dsFor, dComp, diLst, diTup, diStr, diR1, diR2, wipeD, dSl, doNone, doSome, dJoin, dDict1, List.map_cons, List.map_nil, List.length_cons, List.length_nil, List.cons_append, List.nil_append, List.getElem?_cons_zero, List.getElem?_cons_succ, List.set_cons_zero, List.set_cons_succ, Nat.reduceAdd, Nat.reduceSub, Nat.zero_add, List.replicate]
    refine isi_fine (by decide) hf (ite2 (fun h1 => isi_fine (by decide) hf (ite2 (fun h2 => ?_) (fun h2 => ?_))) (fun h1 => ?_))
    · have e := isNum_isA x
      rw [h1, Bool.true_and, h2] at e
      obtain ⟨i, rfl⟩ := isNum_int e.symm
      exact hq
    · have e := isNum_isA x
      rw [Bool.not_eq_true] at h2
      rw [h1, Bool.true_and, h2] at e
      cases x with
      | int i => cases e
      | _ => exact hq
    · cases x with
      | int i => exact absurd rfl h1
      | _ => exact hq

def sp_law_is_called (K : PySem.W.Frag) : SpD := fun _ ds n Q => ∃ x, ds = [x] ∧ D.fine K x ∧ Q (.bl (isNameD x)) n

theorem ok_law_is_called (T : Txt K mg a) : FnOk P w K mg base CX0 2 a.law_is_called a.d_law_is_called ["_law_item"] (spD K (sp_law_is_called K)) := by
  refine fn_d T.F_law_is_called sc_law_is_called (fun W ds n Q h => by obtain ⟨_, rfl, _⟩ := h; rfl) (fun cdv A outer s H E hr W => ⟨_, (dss_cons (ds_if (dw_or (dt_not (dt_val (de_isi (by rfl) T.n_isinstance (da_cons (de_var 0 (pv 0)) (da_cons (de_ty (nm := "str") (by rfl) T.n_str (by decide +kernel)) da_nil))))) (dw_or1 (dt_not (dt_chain c_le c_le de_int (de_len (by rfl) T.n_len (de_var 0 (pv 0))) de_int)))).dt (dss_one (ds_ret de_bl)) dss_nil)
      (dss_one (ds_ret (de_cmp (c_eq hr.units) (dl_comp rfl sc_law_is_called.nd (di_str (de_var 0 (pv 0))) (blkOk_by (own := [("_law_sign", 1)]) (N := ["_law_item", "_law_sign"]) (sc := defScope s_law_is_called) (by decide +kernel)) (fun _ _ _ _ _ => (dg_name 1 (pg_name (i := 1) sc_law_is_called.nd rfl (Or.inl rfl)))) (fun _ _ _ _ _ => (dts_one (dt_cmp (c_notIn (hu65 hr)) (de_var 1 (pv 1)) (de_call0 (ok_law_letters T) (hr.mono (by decide)) (by rfl) T.m_law_letters T.F_law_letters.kp (b_law_letters T))))) (fun _ _ _ _ _ => (de_var 1 (pv 1)))).de (dl_lst da_nil).de)))), fun ds n Q h => ?_⟩)
  · obtain ⟨x, rfl, hf, hq⟩ := h
    simp only [dsSeq, dsIf, dsRet, dsRetN, dsSet, dsOwn, dsAsg, dsNil, dsPar, dsDrop, dL, d1, d2, dTup, dDisp, dLst, daNil, daCons, dVar, dC, dtB, dtNot, dtAnd, dtOr, dtYes, dAndV, dOrV, dNotV, dIf, dCall, dChain, startD, dsFreeze, gdName, gdTup, gdCons, gdNil, dsFor, dComp, diLst, diTup, diStr, diR1, diR2, wipeD, dSl, doNone, doSome, dJoin, dDict1, List.map_cons, List.map_nil, List.length_cons, List.length_nil, List.cons_append, List.nil_append, List.getElem?_cons_zero, List.getElem?_cons_succ, List.set_cons_zero, List.set_cons_succ, Nat.reduceAdd, Nat.reduceSub, Nat.zero_add, List.replicate]
    refine isi_fine (by decide) hf ?_
    cases x with
    | str z =>
      have hz : strOK z := hf
      refine iteF ⟨hz.2, ?_⟩
      show if decide ((1 : Int) ≤ (z.length : Int)) = true then _ else _
      have hq : Q (.bl (decide (1 ≤ z.length) && decide (z.length ≤ 8) && z.cps.toList.all letterC)) n := hq
      refine ite2 (fun h2 => ?_) (fun h2 => ?_)
      · have h2' : 1 ≤ z.length := by have := of_decide_eq_true h2; omega
        show if (!decide ((z.length : Int) ≤ 8)) = true then _ else _
        by_cases h3 : z.length ≤ 8
        · rw [decide_eq_true (show (z.length : Int) ≤ 8 by omega)]
          refine iteF ?_
          rw [decide_eq_true h2', decide_eq_true h3, Bool.true_and, Bool.true_and] at hq
          refine compD_filter (f := fun d => d) (c := fun d => !letterD d) _ _ (fun d hd Q' hQ => ?_) (by rw [dSigns_len, List.length_nil, sizeLine_eq]; omega) ?_
          · obtain ⟨k, rfl⟩ := signs_mem hd
            refine ⟨(), rfl, ?_⟩
            show someD (some k) fun k => Q' _ (true ^^ decide (k ∈ lettersZ.cps.toList)) n
            show Q' _ (true ^^ decide (k ∈ lettersZ.cps.toList)) n
            rw [letters_mem]
            have e : (true ^^ letterC k) = !letterD (.str ⟨#[k]⟩) := by
              show (true ^^ letterC k) = !([k].all letterC)
              simp
            rw [e]
            exact hQ _ fun Q'' h => h
          · rw [List.nil_append, List.map_id']
            have hm : ∀ d ∈ (dSigns z).filter (fun d => !letterD d), ∃ k, d = .str ⟨#[k]⟩ ∧ k < 0x110000 := fun d hd => by
              obtain ⟨k, hk, e⟩ := List.mem_map.mp (List.mem_filter.mp hd).1
              exact ⟨k, e.symm, (strOK_cps.mp hz).1 k hk⟩
            obtain ⟨ps, e1, e2⟩ := signs_py hm
            refine ⟨by decide, eqD_nil e1 e2 ?_⟩
            have e3 : ((dSigns z).filter fun d => !letterD d).isEmpty = z.cps.toList.all letterC := by
              rw [← letters_all, List.all_map]
              exact filter_empty _ _
            rw [e3, Bool.false_xor]
            exact hq
        · rw [decide_eq_false (show ¬ (z.length : Int) ≤ 8 by omega)]
          rw [decide_eq_false h3, Bool.and_false, Bool.false_and] at hq
          exact iteT hq
      · have h2' : ¬ 1 ≤ z.length := fun q => h2 (decide_eq_true (by omega))
        rw [decide_eq_false h2', Bool.false_and, Bool.false_and] at hq
        exact iteT hq
    | _ => exact iteT hq

def sp_law_is_dealt (K : PySem.W.Frag) : SpD := fun _ ds n Q => ∃ x, ds = [x] ∧ D.fine K x ∧ Q (.bl (isSaleD x)) n

theorem ok_law_is_dealt (T : Txt K mg a) : FnOk P w K mg base CX0 3 a.law_is_dealt a.d_law_is_dealt ["_law_item"] (spD K (sp_law_is_dealt K)) := by
  refine fn_d T.F_law_is_dealt sc_law_is_dealt (fun W ds n Q h => by obtain ⟨_, rfl, _⟩ := h; rfl) (fun cdv A outer s H E hr W => ⟨_, (dss_cons (ds_if (dw_or (dt_not (dt_val (de_isi (by rfl) T.n_isinstance (da_cons (de_var 0 (pv 0)) (da_cons (de_ty (nm := "tuple") (by rfl) T.n_tuple (by decide +kernel)) da_nil))))) (dw_or1 (dt_cmp (c_ne hr.units) (de_len (by rfl) T.n_len (de_var 0 (pv 0))) de_int))).dt (dss_one (ds_ret de_bl)) dss_nil)
      (dss_cons (ds_if (dw_or (dt_not (dt_val (de_call (ok_law_is_called T) (hr.mono (by decide)) (by rfl) T.m_law_is_called T.F_law_is_called.kp (b_law_is_called T) (da_cons (de_ix (de_var 0 (pv 0)) de_int) da_nil)))) (dw_or1 (dt_not (dt_val (de_call (ok_law_is_called T) (hr.mono (by decide)) (by rfl) T.m_law_is_called T.F_law_is_called.kp (b_law_is_called T) (da_cons (de_ix (de_var 0 (pv 0)) de_int) da_nil)))))).dt (dss_one (ds_ret de_bl)) dss_nil)
      (dss_one (ds_ret (de_and (de_call (ok_law_is_count T) (hr.mono (by decide)) (by rfl) T.m_law_is_count T.F_law_is_count.kp (b_law_is_count T) (da_cons (de_ix (de_var 0 (pv 0)) de_int) da_nil)) (de_one (de_call (ok_law_is_count T) (hr.mono (by decide)) (by rfl) T.m_law_is_count T.F_law_is_count.kp (b_law_is_count T) (da_cons (de_ix (de_var 0 (pv 0)) de_int) da_nil)))))))), fun ds n Q h => ?_⟩)
  · obtain ⟨x, rfl, hf, hq⟩ := h
    simp only [dsSeq, dsIf, dsRet, dsRetN, dsSet, dsOwn, dsAsg, dsNil, dsPar, dsDrop, dL, d1, d2, dTup, dDisp, dLst, daNil, daCons, dVar, dC, dtB, dtNot, dtAnd, dtOr, dtYes, dAndV, dOrV, dNotV, dIf, dCall, dChain, startD, dsFreeze, gdName, gdTup, gdCons, gdNil, dsFor, dComp, diLst, diTup, diStr, diR1, diR2, wipeD, dSl, doNone, doSome, dJoin, dDict1, List.map_cons, List.map_nil, List.length_cons, List.length_nil, List.cons_append, List.nil_append, List.getElem?_cons_zero, List.getElem?_cons_succ, List.set_cons_zero, List.set_cons_succ, Nat.reduceAdd, Nat.reduceSub, Nat.zero_add, List.replicate]
    refine isi_fine (by decide) hf ?_
    cases x with
    | tup ds =>
      refine iteF (lenD_tup (eqD_int ?_))
      by_cases hl : ds.length = 4
      · have e : decide (((ds.length : Nat) : Int) = 4) = true := decide_eq_true (by omega)
        rw [e]
        refine iteF ?_
        obtain ⟨d1, d2, d3, d4, rfl⟩ := len4 hl
        have hf : D.fines K [d1, d2, d3, d4] := hf
        obtain ⟨f1, f2, f3, f4, _⟩ := hf
        have hq : Q (.bl (isNameD d1 && isNameD d2 && isCntD d3 && isCntD d4)) n := hq
        refine ⟨d1, rfl, f1, ?_⟩
        show if (!isNameD d1) = true then _ else _
        cases h1 : isNameD d1 with
        | false =>
          rw [h1, Bool.false_and, Bool.false_and, Bool.false_and] at hq
          exact iteT (by simpa using hq)
        | true =>
          refine iteF ⟨d2, rfl, f2, ?_⟩
          show if (!isNameD d2) = true then _ else _
          cases h2 : isNameD d2 with
          | false =>
            rw [h1, h2, Bool.true_and, Bool.false_and, Bool.false_and] at hq
            exact iteT hq
          | true =>
            refine iteF ⟨d3, rfl, f3, ?_⟩
            show if isCntD d3 = true then _ else _
            rw [h1, h2, Bool.true_and, Bool.true_and] at hq
            cases h3 : isCntD d3 with
            | false =>
              rw [h3, Bool.false_and] at hq
              exact iteF hq
            | true =>
              rw [h3, Bool.true_and] at hq
              exact iteT ⟨d4, rfl, f4, hq⟩
      · have e : decide (((ds.length : Nat) : Int) = 4) = false := decide_eq_false (by omega)
        rw [e]
        refine iteT ?_
        have e2 : isSaleD (.tup ds) = false := by
          unfold isSaleD
          split
          · rename_i h; injection h with h; subst h; exact absurd rfl hl
          · rfl
        rw [e2] at hq
        exact hq
    | _ => exact iteT hq

def sp_law_is_span (K : PySem.W.Frag) : SpD := fun _ ds n Q => ∃ x, ds = [x] ∧ D.fine K x ∧ Q (.bl (isSpanD x)) n

theorem ok_law_is_span (T : Txt K mg a) : FnOk P w K mg base CX0 2 a.law_is_span a.d_law_is_span ["_law_item"] (spD K (sp_law_is_span K)) := by
  refine fn_d T.F_law_is_span sc_law_is_span (fun W ds n Q h => by obtain ⟨_, rfl, _⟩ := h; rfl) (fun cdv A outer s H E hr W => ⟨_, (dss_cons (ds_if (dw_or (dt_not (dt_val (de_isi (by rfl) T.n_isinstance (da_cons (de_var 0 (pv 0)) (da_cons (de_ty (nm := "tuple") (by rfl) T.n_tuple (by decide +kernel)) da_nil))))) (dw_or (dt_cmp (c_ne hr.units) (de_len (by rfl) T.n_len (de_var 0 (pv 0))) de_int) (dw_or1 (dt_not (dt_val (de_call (ok_law_is_count T) (hr.mono (by decide)) (by rfl) T.m_law_is_count T.F_law_is_count.kp (b_law_is_count T) (da_cons (de_ix (de_var 0 (pv 0)) de_int) da_nil))))))).dt (dss_one (ds_ret de_bl)) dss_nil)
      (dss_one (ds_ret (de_or (de_cmp c_is (de_ix (de_var 0 (pv 0)) de_int) de_non) (de_one (de_and (de_call (ok_law_is_count T) (hr.mono (by decide)) (by rfl) T.m_law_is_count T.F_law_is_count.kp (b_law_is_count T) (da_cons (de_ix (de_var 0 (pv 0)) de_int) da_nil)) (de_one (de_cmp c_ge (de_ix (de_var 0 (pv 0)) de_int) (de_ix (de_var 0 (pv 0)) de_int))))))))), fun ds n Q h => ?_⟩)
  · obtain ⟨x, rfl, hf, hq⟩ := h
    simp only [dsSeq, dsIf, dsRet, dsRetN, dsSet, dsOwn, dsAsg, dsNil, dsPar, dsDrop, dL, d1, d2, dTup, dDisp, dLst, daNil, daCons, dVar, dC, dtB, dtNot, dtAnd, dtOr, dtYes, dAndV, dOrV, dNotV, dIf, dCall, dChain, startD, dsFreeze, gdName, gdTup, gdCons, gdNil, dsFor, dComp, diLst, diTup, diStr, diR1, diR2, wipeD, dSl, doNone, doSome, dJoin, dDict1, List.map_cons, List.map_nil, List.length_cons, List.length_nil, List.cons_append, List.nil_append, List.getElem?_cons_zero, List.getElem?_cons_succ, List.set_cons_zero, List.set_cons_succ, Nat.reduceAdd, Nat.reduceSub, Nat.zero_add, List.replicate]
    refine isi_fine (by decide) hf ?_
    cases x with
    | tup ds =>
      refine iteF (lenD_tup (eqD_int ?_))
      by_cases hl : ds.length = 2
      · have e : decide (((ds.length : Nat) : Int) = 2) = true := decide_eq_true (by omega)
        rw [e]
        refine iteF ?_
        obtain ⟨d1, d2, rfl⟩ := len2 hl
        have hf : D.fines K [d1, d2] := hf
        obtain ⟨f1, f2, _⟩ := hf
        refine ⟨d1, rfl, f1, ?_⟩
        show if (!isCntD d1) = true then _ else _
        cases h1 : isCntD d1 with
        | false =>
          have e2 : isSpanD (.tup [d1, d2]) = false := by
            cases d1 with
            | int i =>
              have h1' : decide (0 ≤ i) = false := h1
              cases d2 with
              | int j => show (decide (0 ≤ i) && decide (i ≤ j)) = false; rw [h1']; rfl
              | non => exact h1'
              | _ => rfl
            | _ => rfl
          rw [e2] at hq
          exact iteT hq
        | true =>
          refine iteF ⟨rfl, ?_⟩
          cases d1 with
          | int i =>
            have h1' : decide (0 ≤ i) = true := h1
            cases d2 with
            | non =>
              have hq : Q (.bl (decide (0 ≤ i))) n := hq
              rw [h1'] at hq
              exact hq
            | int j =>
              have hq : Q (.bl (decide (0 ≤ i) && decide (i ≤ j))) n := hq
              rw [h1', Bool.true_and] at hq
              refine iteF ⟨_, rfl, f2, ?_⟩
              show if isCntD (.int j) = true then _ else _
              cases h3 : isCntD (.int j) with
              | false =>
                have h3' : decide (0 ≤ j) = false := h3
                have h4 : decide (i ≤ j) = false := decide_eq_false fun z => by
                  have a1 := of_decide_eq_true h1'
                  have a2 := of_decide_eq_false h3'
                  omega
                rw [h4] at hq
                exact iteF hq
              | true => exact iteT hq
            | _ => exact iteF ⟨_, rfl, f2, hq⟩
          | _ => cases h1
      · have e : decide (((ds.length : Nat) : Int) = 2) = false := decide_eq_false (by omega)
        rw [e]
        refine iteT ?_
        have e2 : isSpanD (.tup ds) = false := by
          unfold isSpanD
          split
          · rename_i h; injection h with h; subst h; exact absurd rfl hl
          · rename_i h; injection h with h; subst h; exact absurd rfl hl
          · rfl
        rw [e2] at hq
        exact hq
    | _ => exact iteT hq

def sp_law_near_name (K : PySem.W.Frag) : SpD := fun W ds n Q => ∃ a l c x, W = srcW a l c ∧ ds = [x] ∧ x = .ref a ∧ n < 2 ^ 39 ∧ ∀ z n', strOK z → n ≤ n' → n' ≤ n + 20 → Q (.str z) n'

theorem ok_law_near_name (T : Txt K mg a) : FnOk P w K mg base CX0 4 a.law_near_name a.d_law_near_name ["_law_state"] (spD K (sp_law_near_name K)) := by
  refine fn_d T.F_law_near_name sc_law_near_name (fun W ds n Q h => by obtain ⟨_, _, _, _, _, rfl, _⟩ := h; rfl) (fun cdv A outer s H E hr W => ?_)
  by_cases hW : ∃ a l c, W = srcW a l c
  · obtain ⟨b, l, c, rfl⟩ := hW
    refine ⟨_, (dss_cons (ds_par (i := 2) (j := 3) rfl sc_law_near_name.nd rfl rfl (by decide) rfl rfl (da_cons (de_call (ok_law_called T) (hr.mono (by decide)) (by rfl) T.m_law_called T.F_law_called.kp (b_law_called T) (da_cons (de_var 0 (pv 0)) da_nil)) (da_cons (de_call (ok_law_draw T) (hr.mono (by decide)) (by rfl) T.m_law_draw T.F_law_draw.kp (b_law_draw T) (da_cons (de_var 0 (pv 0)) (da_cons de_int da_nil))) da_nil)) (by rfl))
      (dss_cons (ds_set (i := 1) sc_law_near_name.nd rfl (Or.inl rfl) (de_call (ok_law_draw T) (hr.mono (by decide)) (by rfl) T.m_law_draw T.F_law_draw.kp (b_law_draw T) (da_cons (de_var 0 (pv 0)) (da_cons (de_add (de_len (by rfl) T.n_len (de_var 2 (pv 2))) de_int) da_nil))))
      (dss_cons (ds_if (dt_cmp (c_eq hr.units) (de_var 3 (pv 3)) de_int) (dss_one (ds_ret (de_add (de_add (de_slice (de_var 2 (pv 2)) do_none (do_some (de_var 1 (pv 1)))) (de_call (ok_law_pick T) (hr.mono (by decide)) (by rfl) T.m_law_pick T.F_law_pick.kp (b_law_pick T) (da_cons (de_var 0 (pv 0)) (da_cons (de_call0 (ok_law_signs T) (hr.mono (by decide)) (by rfl) T.m_law_signs T.F_law_signs.kp (b_law_signs T)) da_nil)))) (de_slice (de_var 2 (pv 2)) (do_some (de_var 1 (pv 1))) do_none)))) dss_nil)
      (dss_cons (ds_if (dt_cmp (c_eq hr.units) (de_var 3 (pv 3)) de_int) (dss_one (ds_ret (de_slice (de_add (de_var 2 (pv 2)) de_str) do_none (do_some (de_add de_int (de_call (ok_law_draw T) (hr.mono (by decide)) (by rfl) T.m_law_draw T.F_law_draw.kp (b_law_draw T) (da_cons (de_var 0 (pv 0)) (da_cons de_int da_nil)))))))) dss_nil)
      (dss_one (ds_ret (de_if (dt_cmp (c_eq hr.units) (de_var 3 (pv 3)) de_int) (de_slice (de_var 2 (pv 2)) do_none (do_some (de_var 1 (pv 1)))) (de_var 2 (pv 2))))))))), fun ds n Q h => ?_⟩
    obtain ⟨a', l', c', x, e1, rfl, rfl, hn, hq⟩ := h
    have ea : b = a' := congrArg Wd.a e1
    subst ea

    simp only [dsSeq, dsIf, dsRet, dsRetN, dsSet, dsOwn, dsAsg, dsNil, dsPar, dsDrop, dL, d1, d2, dTup, dDisp, dLst, daNil, daCons, dVar, dC, dtB, dtNot, dtAnd, dtOr, dtYes, dAndV, dOrV, dNotV, dIf, dCall, dChain, startD, dsFreeze, gdName, gdTup, gdCons, gdNil, dsFor, dComp, diLst, diTup, diStr, diR1, diR2, wipeD, dSl, doNone, doSome, dJoin, dDict1, List.map_cons, List.map_nil, List.length_cons, List.length_nil, List.cons_append, List.nil_append, List.getElem?_cons_zero, List.getElem?_cons_succ, List.set_cons_zero, List.set_cons_succ, Nat.reduceAdd, Nat.reduceSub, Nat.zero_add, List.replicate]
    refine ⟨b, l, c, _, rfl, rfl, rfl, hn, fun z n1 hz hz8 hn1 hn2 => ?_⟩
    refine ⟨b, l, c, 4, rfl, rfl, by decide, by decide, by omega, fun k k0 k1 => ?_⟩
    have hz' := strOK_len hz
    refine lenD_str hz' ?_
    refine ⟨b, l, c, _, rfl, rfl, by omega, by rw [sizeLine_eq] at hz'; omega, by omega, fun m m0 m1 => ?_⟩
    refine eqD_int ?_
    have cl1 := cutS_length z none (some m)
    have cl2 := cutS_length z (some m) none
    refine ite2 (fun h1 => ?_) (fun h1 => eqD_int (ite2 (fun h2 => ?_) (fun h2 => eqD_int (ite2 (fun h3 => ?_) (fun h3 => ?_)))))
    · refine ⟨hz', (), rfl, fun g hg g1 g2 => ⟨b, l, c, _, rfl, rfl, by omega, .inr ⟨g, rfl, g1, strOK_len hg, fun c' hc => ?_⟩⟩⟩
      have l1 : (⟨#[c']⟩ : Str).length = 1 := rfl
      refine ⟨by rw [l1, sizeLine_eq]; omega, hz', ?_, ?_⟩
      · rw [str_len_append, l1, sizeLine_eq]; omega
      · have k1 : strOK (cutS z none (some m) ++ ⟨#[c']⟩) := strOK_append (strOK_cut hz _ _) (strOK_sign hg hc) (by rw [l1, sizeLine_eq]; omega)
        exact hq _ _ (strOK_append k1 (strOK_cut hz _ _) (by rw [str_len_append, l1, sizeLine_eq]; omega)) (by omega) (by omega)
    · have l1 : (Str.ofString "abcdefghi").length = 9 := by decide +kernel
      have k1 : strOK (z ++ Str.ofString "abcdefghi") := strOK_append hz ⟨by decide +kernel, by decide +kernel⟩ (by rw [l1, sizeLine_eq]; omega)
      refine ⟨by rw [l1, sizeLine_eq]; omega, b, l, c, 3, rfl, rfl, by decide, by decide, by omega, fun r r0 r1 => ?_⟩
      exact ⟨strOK_len k1, hq _ _ (strOK_cut k1 _ _) (by omega) (by omega)⟩
    · exact ⟨hz', hq _ _ (strOK_cut hz _ _) (by omega) (by omega)⟩
    · exact hq _ _ hz (by omega) (by omega)
  · exact ⟨_, dss_never, fun ds n Q h => by obtain ⟨a, l, c, _, e, _⟩ := h; exact hW ⟨a, l, c, e⟩⟩

def sp_law_near_deal (K : PySem.W.Frag) : SpD := fun W ds n Q => ∃ a l c x, W = srcW a l c ∧ ds = [x] ∧ x = .ref a ∧ n < 2 ^ 38 ∧ ∀ d n', D.fine K d → n ≤ n' → n' ≤ n + 60 → Q d n'

theorem ok_law_near_deal (T : Txt K mg a) : FnOk P w K mg base CX0 5 a.law_near_deal a.d_law_near_deal ["_law_state"] (spD K (sp_law_near_deal K)) := by
  refine fn_d T.F_law_near_deal sc_law_near_deal (fun W ds n Q h => by obtain ⟨_, _, _, _, _, rfl, _⟩ := h; rfl) (fun cdv A outer s H E hr W => ?_)
  by_cases hW : ∃ a l c, W = srcW a l c
  · obtain ⟨b, l, c, rfl⟩ := hW
    refine ⟨_, (dss_cons (ds_own (i := 1) sc_law_near_deal.nd rfl (Or.inl rfl) (dl_lst (da_cons (de_call (ok_law_called T) (hr.mono (by decide)) (by rfl) T.m_law_called T.F_law_called.kp (b_law_called T) (da_cons (de_var 0 (pv 0)) da_nil)) (da_cons (de_call (ok_law_called T) (hr.mono (by decide)) (by rfl) T.m_law_called T.F_law_called.kp (b_law_called T) (da_cons (de_var 0 (pv 0)) da_nil)) (da_cons (de_call (ok_law_draw T) (hr.mono (by decide)) (by rfl) T.m_law_draw T.F_law_draw.kp (b_law_draw T) (da_cons (de_var 0 (pv 0)) (da_cons de_int da_nil))) (da_cons (de_call (ok_law_draw T) (hr.mono (by decide)) (by rfl) T.m_law_draw T.F_law_draw.kp (b_law_draw T) (da_cons (de_var 0 (pv 0)) (da_cons (de_add (de_pow de_int de_int) de_int) da_nil))) da_nil))))))
      (dss_cons (ds_par3 (i := 2) (j := 3) (l := 4) rfl sc_law_near_deal.nd rfl rfl rfl (by decide) (by decide) (by decide) rfl rfl rfl (da_cons (de_call (ok_law_draw T) (hr.mono (by decide)) (by rfl) T.m_law_draw T.F_law_draw.kp (b_law_draw T) (da_cons (de_var 0 (pv 0)) (da_cons de_int da_nil))) (da_cons (de_call (ok_law_draw T) (hr.mono (by decide)) (by rfl) T.m_law_draw T.F_law_draw.kp (b_law_draw T) (da_cons (de_var 0 (pv 0)) (da_cons de_int da_nil))) (da_cons (de_call (ok_law_draw T) (hr.mono (by decide)) (by rfl) T.m_law_draw T.F_law_draw.kp (b_law_draw T) (da_cons (de_var 0 (pv 0)) (da_cons de_int da_nil))) da_nil))) (by rfl))
      (dss_cons (ds_if (dt_cmp (c_eq hr.units) (de_var 2 (pv 2)) de_int) (dss_one (ds_setItem (pv 1) (de_var 3 (pv 3)) (de_call (ok_law_odd T) (hr.mono (by decide)) (by rfl) T.m_law_odd T.F_law_odd.kp (b_law_odd T) (da_cons (de_var 0 (pv 0)) da_nil)))) dss_nil)
      (dss_cons (ds_if (dt_cmp (c_eq hr.units) (de_var 2 (pv 2)) de_int) (dss_one (ds_setItem (pv 1) (de_var 4 (pv 4)) (de_call (ok_law_near_name T) (hr.mono (by decide)) (by rfl) T.m_law_near_name T.F_law_near_name.kp (b_law_near_name T) (da_cons (de_var 0 (pv 0)) da_nil)))) dss_nil)
      (dss_cons (ds_if (dt_cmp (c_eq hr.units) (de_var 2 (pv 2)) de_int) (dss_one (ds_setItem (pv 1) (de_add de_int (de_var 4 (pv 4))) (de_call (ok_law_pick T) (hr.mono (by decide)) (by rfl) T.m_law_pick T.F_law_pick.kp (b_law_pick T) (da_cons (de_var 0 (pv 0)) (da_cons (dl_lst (da_cons (de_neg de_int) (da_cons de_int (da_cons de_bl (da_cons de_non (da_cons de_str (da_cons (de_tup (da_cons de_int da_nil)) da_nil))))))).de da_nil))))) dss_nil)
      (dss_cons (ds_if (dt_cmp (c_eq hr.units) (de_var 2 (pv 2)) de_int) (dss_one (ds_append (pv 1) (de_pickOwn (okO_law_pick T) (hr.mono (by decide)) (by rfl) T.m_law_pick T.F_law_pick.kp (b_law_pick T) (pv 0) (pv 1)))) dss_nil)
      (dss_cons (ds_if (dt_cmp (c_eq hr.units) (de_var 2 (pv 2)) de_int) (dss_one (ds_popAt (pv 1) (de_var 3 (pv 3)))) dss_nil)
      (dss_freeze 1 (dss_one (ds_ret (de_if (dt_cmp (c_eq hr.units) (de_var 2 (pv 2)) de_int) (dl_list (by rfl) T.n_list (de_var 1 (pv 1))).de (de_tuple (by rfl) T.n_tuple (de_var 1 (pv 1)))))))))))))), fun ds n Q h => ?_⟩
    obtain ⟨a', l', c', x, e1, rfl, rfl, hn, hq⟩ := h
    have ea : b = a' := congrArg Wd.a e1
    subst ea

    refine seq_cut (ownP K b n 22 4 4 fun ds => [.val (.ref b), .own ds, .emp, .emp, .emp]) (fun Dx ed hx => ?_) (fun δ n' hp => ?_)
    · simp only [dsSetItem, dsAppend, dsPopAt, ownD, dPickOwn, dsIf, dsRet, dsRetN, dsSet, dsOwn, dsAsg, dsNil, dsPar, dsDrop, dL, d1, d2, dTup, dDisp, dLst, daNil, daCons, dVar, dC, dtB, dtNot, dtAnd, dtOr, dtYes, dAndV, dOrV, dNotV, dIf, dCall, dChain, startD, dsFreeze, gdName, gdTup, gdCons, gdNil, dsFor, dComp, diLst, diTup, diStr, diR1, diR2, wipeD, dSl, doNone, doSome, dJoin, dDict1, List.map_cons, List.map_nil, List.length_cons, List.length_nil, List.cons_append, List.nil_append, List.getElem?_cons_zero, List.getElem?_cons_succ, List.set_cons_zero, List.set_cons_succ, Nat.reduceAdd, Nat.reduceSub, Nat.zero_add, List.replicate]
      refine ⟨b, l, c, _, rfl, rfl, rfl, by omega, fun z1 n1 hz1 _ a1 a2 => ⟨b, l, c, _, rfl, rfl, rfl, by omega, fun z2 n2 hz2 _ a3 a4 => ⟨b, l, c, 5, rfl, rfl, by decide, by decide, by omega, fun k k0 k1 => ⟨⟨by decide, by decide, by decide⟩, b, l, c, _, rfl, rfl, by decide, by decide, by omega, fun m m0 m1 => ⟨by decide, hx _ _ ⟨_, rfl, Nat.le_refl 4, Nat.le_refl 4, ?_, by omega, by omega⟩⟩⟩⟩⟩⟩
      exact fines_iff.mp ⟨hz1, hz2, trivial, trivial, trivial⟩
    obtain ⟨ds, rfl, l1, l2, fi, a1, a2⟩ := hp
    refine seq_cut (fun δ n'' => ∃ wy sp hf : Int, 0 ≤ sp ∧ sp < 4 ∧ 0 ≤ hf ∧ hf < 2 ∧ ownP K b n 25 4 4 (fun ds => [.val (.ref b), .own ds, .val (.int wy), .val (.int sp), .val (.int hf)]) δ n'') (fun Dx ed hx => ?_) (fun δ n'' hp => ?_)
    · simp only [dsSetItem, dsAppend, dsPopAt, ownD, dPickOwn, dsIf, dsRet, dsRetN, dsSet, dsOwn, dsAsg, dsNil, dsPar, dsDrop, dL, d1, d2, dTup, dDisp, dLst, daNil, daCons, dVar, dC, dtB, dtNot, dtAnd, dtOr, dtYes, dAndV, dOrV, dNotV, dIf, dCall, dChain, startD, dsFreeze, gdName, gdTup, gdCons, gdNil, dsFor, dComp, diLst, diTup, diStr, diR1, diR2, wipeD, dSl, doNone, doSome, dJoin, dDict1, List.map_cons, List.map_nil, List.length_cons, List.length_nil, List.cons_append, List.nil_append, List.getElem?_cons_zero, List.getElem?_cons_succ, List.set_cons_zero, List.set_cons_succ, Nat.reduceAdd, Nat.reduceSub, Nat.zero_add, List.replicate]
      exact ⟨b, l, c, 8, rfl, rfl, by decide, by decide, by omega, fun k k0 k1 => ⟨b, l, c, 4, rfl, rfl, by decide, by decide, by omega, fun m m0 m1 => ⟨b, l, c, 2, rfl, rfl, by decide, by decide, by omega, fun r r0 r1 => hx _ _ ⟨k, m, r, m0, m1, r0, r1, ds, rfl, l1, l2, fi, by omega, by omega⟩⟩⟩⟩
    clear l1 l2 fi a1 a2 ds n'
    obtain ⟨wy, sp, hf, p0, p1, q0, q1, hp⟩ := hp
    refine seq_cut (ownP K b n 26 4 4 fun ds => [.val (.ref b), .own ds, .val (.int wy), .val (.int sp), .val (.int hf)]) (fun Dx ed hx => ?_) (fun δ n1 hp => ?_)
    · obtain ⟨ds, rfl, l1, l2, fi, a1, a2⟩ := hp
      simp only [dsSetItem, dsAppend, dsPopAt, ownD, dPickOwn, dsIf, dsRet, dsRetN, dsSet, dsOwn, dsAsg, dsNil, dsPar, dsDrop, dL, d1, d2, dTup, dDisp, dLst, daNil, daCons, dVar, dC, dtB, dtNot, dtAnd, dtOr, dtYes, dAndV, dOrV, dNotV, dIf, dCall, dChain, startD, dsFreeze, gdName, gdTup, gdCons, gdNil, dsFor, dComp, diLst, diTup, diStr, diR1, diR2, wipeD, dSl, doNone, doSome, dJoin, dDict1, List.map_cons, List.map_nil, List.length_cons, List.length_nil, List.cons_append, List.nil_append, List.getElem?_cons_zero, List.getElem?_cons_succ, List.set_cons_zero, List.set_cons_succ, Nat.reduceAdd, Nat.reduceSub, Nat.zero_add, List.replicate]
      refine eqD_int (ite2 (fun h1 => ?_) (fun h1 => ?_))
      · exact ⟨b, l, c, _, rfl, rfl, rfl, by omega, fun d hd => ⟨p0, by omega, hx _ _ ⟨ds.set sp.toNat d, rfl, by rw [List.length_set]; exact l1, by rw [List.length_set]; exact l2, fine_set fi hd, by omega, by omega⟩⟩⟩
      · exact hx _ _ ⟨ds, rfl, l1, l2, fi, by omega, by omega⟩
    refine seq_cut (ownP K b n 46 4 4 fun ds => [.val (.ref b), .own ds, .val (.int wy), .val (.int sp), .val (.int hf)]) (fun Dx ed hx => ?_) (fun δ n1 hp => ?_)
    · obtain ⟨ds, rfl, l1, l2, fi, a1, a2⟩ := hp
      simp only [dsSetItem, dsAppend, dsPopAt, ownD, dPickOwn, dsIf, dsRet, dsRetN, dsSet, dsOwn, dsAsg, dsNil, dsPar, dsDrop, dL, d1, d2, dTup, dDisp, dLst, daNil, daCons, dVar, dC, dtB, dtNot, dtAnd, dtOr, dtYes, dAndV, dOrV, dNotV, dIf, dCall, dChain, startD, dsFreeze, gdName, gdTup, gdCons, gdNil, dsFor, dComp, diLst, diTup, diStr, diR1, diR2, wipeD, dSl, doNone, doSome, dJoin, dDict1, List.map_cons, List.map_nil, List.length_cons, List.length_nil, List.cons_append, List.nil_append, List.getElem?_cons_zero, List.getElem?_cons_succ, List.set_cons_zero, List.set_cons_succ, Nat.reduceAdd, Nat.reduceSub, Nat.zero_add, List.replicate]
      refine eqD_int (ite2 (fun h1 => ?_) (fun h1 => ?_))
      · exact ⟨b, l, c, _, rfl, rfl, rfl, by omega, fun z n2 hz a3 a4 => ⟨q0, by omega, hx _ _ ⟨ds.set hf.toNat (.str z), rfl, by rw [List.length_set]; exact l1, by rw [List.length_set]; exact l2, fine_set fi hz, by omega, by omega⟩⟩⟩
      · exact hx _ _ ⟨ds, rfl, l1, l2, fi, by omega, by omega⟩
    refine seq_cut (ownP K b n 47 4 4 fun ds => [.val (.ref b), .own ds, .val (.int wy), .val (.int sp), .val (.int hf)]) (fun Dx ed hx => ?_) (fun δ n1 hp => ?_)
    · obtain ⟨ds, rfl, l1, l2, fi, a1, a2⟩ := hp
      simp only [dsSetItem, dsAppend, dsPopAt, ownD, dPickOwn, dsIf, dsRet, dsRetN, dsSet, dsOwn, dsAsg, dsNil, dsPar, dsDrop, dL, d1, d2, dTup, dDisp, dLst, daNil, daCons, dVar, dC, dtB, dtNot, dtAnd, dtOr, dtYes, dAndV, dOrV, dNotV, dIf, dCall, dChain, startD, dsFreeze, gdName, gdTup, gdCons, gdNil, dsFor, dComp, diLst, diTup, diStr, diR1, diR2, wipeD, dSl, doNone, doSome, dJoin, dDict1, List.map_cons, List.map_nil, List.length_cons, List.length_nil, List.cons_append, List.nil_append, List.getElem?_cons_zero, List.getElem?_cons_succ, List.set_cons_zero, List.set_cons_succ, Nat.reduceAdd, Nat.reduceSub, Nat.zero_add, List.replicate]
      refine eqD_int (ite2 (fun h1 => ?_) (fun h1 => ?_))
      · refine ⟨by decide, by decide, b, l, c, _, rfl, rfl, by omega, .inl ⟨_, rfl, by decide, by decide, fun d hd => ?_⟩⟩
        have hd2 : D.fine K d := fines_iff.mp (show D.fines K [.int (-1), .int 0, .bl true, .non, .str (Str.ofString "1"), .tup [.int 0]] from ⟨trivial, trivial, trivial, trivial, (by unfold strOK; decide +kernel : strOK (Str.ofString "1")), ⟨trivial, trivial⟩, trivial⟩) d hd
        exact ⟨by omega, by omega, hx _ _ ⟨ds.set (2 + hf).toNat d, rfl, by rw [List.length_set]; exact l1, by rw [List.length_set]; exact l2, fine_set fi hd2, by omega, by omega⟩⟩
      · exact hx _ _ ⟨ds, rfl, l1, l2, fi, by omega, by omega⟩
    refine seq_cut (ownP K b n 48 4 5 fun ds => [.val (.ref b), .own ds, .val (.int wy), .val (.int sp), .val (.int hf)]) (fun Dx ed hx => ?_) (fun δ n1 hp => ?_)
    · obtain ⟨ds, rfl, l1, l2, fi, a1, a2⟩ := hp
      simp only [dsSetItem, dsAppend, dsPopAt, ownD, dPickOwn, dsIf, dsRet, dsRetN, dsSet, dsOwn, dsAsg, dsNil, dsPar, dsDrop, dL, d1, d2, dTup, dDisp, dLst, daNil, daCons, dVar, dC, dtB, dtNot, dtAnd, dtOr, dtYes, dAndV, dOrV, dNotV, dIf, dCall, dChain, startD, dsFreeze, gdName, gdTup, gdCons, gdNil, dsFor, dComp, diLst, diTup, diStr, diR1, diR2, wipeD, dSl, doNone, doSome, dJoin, dDict1, List.map_cons, List.map_nil, List.length_cons, List.length_nil, List.cons_append, List.nil_append, List.getElem?_cons_zero, List.getElem?_cons_succ, List.set_cons_zero, List.set_cons_succ, Nat.reduceAdd, Nat.reduceSub, Nat.zero_add, List.replicate]
      refine eqD_int (ite2 (fun h1 => ?_) (fun h1 => ?_))
      · exact ⟨by trivial, by omega, by omega, by omega, fun d hd => ⟨by rw [sizeLine_eq]; omega, hx _ _ ⟨ds ++ [d], rfl, by rw [List.length_append]; exact Nat.le_add_right_of_le l1, by rw [List.length_append, List.length_singleton]; omega, fine_app fi (fi d hd), by omega, by omega⟩⟩⟩
      · exact hx _ _ ⟨ds, rfl, l1, by omega, fi, by omega, by omega⟩
    refine seq_cut (ownP K b n 48 3 5 fun ds => [.val (.ref b), .own ds, .val (.int wy), .val (.int sp), .val (.int hf)]) (fun Dx ed hx => ?_) (fun δ n1 hp => ?_)
    · obtain ⟨ds, rfl, l1, l2, fi, a1, a2⟩ := hp
      simp only [dsSetItem, dsAppend, dsPopAt, ownD, dPickOwn, dsIf, dsRet, dsRetN, dsSet, dsOwn, dsAsg, dsNil, dsPar, dsDrop, dL, d1, d2, dTup, dDisp, dLst, daNil, daCons, dVar, dC, dtB, dtNot, dtAnd, dtOr, dtYes, dAndV, dOrV, dNotV, dIf, dCall, dChain, startD, dsFreeze, gdName, gdTup, gdCons, gdNil, dsFor, dComp, diLst, diTup, diStr, diR1, diR2, wipeD, dSl, doNone, doSome, dJoin, dDict1, List.map_cons, List.map_nil, List.length_cons, List.length_nil, List.cons_append, List.nil_append, List.getElem?_cons_zero, List.getElem?_cons_succ, List.set_cons_zero, List.set_cons_succ, Nat.reduceAdd, Nat.reduceSub, Nat.zero_add, List.replicate]
      refine eqD_int (ite2 (fun h1 => ?_) (fun h1 => ?_))
      · have el : (ds.eraseIdx sp.toNat).length = ds.length - 1 := List.length_eraseIdx_of_lt (by omega)
        exact ⟨p0, by omega, by omega, hx _ _ ⟨ds.eraseIdx sp.toNat, rfl, by omega, by omega, fun d hd => fi d (List.mem_of_mem_eraseIdx hd), by omega, by omega⟩⟩
      · exact hx _ _ ⟨ds, rfl, by omega, l2, fi, by omega, by omega⟩
    obtain ⟨ds, rfl, l1, l2, fi, a1, a2⟩ := hp
    simp only [dsSetItem, dsAppend, dsPopAt, ownD, dPickOwn, dsIf, dsRet, dsRetN, dsSet, dsOwn, dsAsg, dsNil, dsPar, dsDrop, dL, d1, d2, dTup, dDisp, dLst, daNil, daCons, dVar, dC, dtB, dtNot, dtAnd, dtOr, dtYes, dAndV, dOrV, dNotV, dIf, dCall, dChain, startD, dsFreeze, gdName, gdTup, gdCons, gdNil, dsFor, dComp, diLst, diTup, diStr, diR1, diR2, wipeD, dSl, doNone, doSome, dJoin, dDict1, List.map_cons, List.map_nil, List.length_cons, List.length_nil, List.cons_append, List.nil_append, List.getElem?_cons_zero, List.getElem?_cons_succ, List.set_cons_zero, List.set_cons_succ, Nat.reduceAdd, Nat.reduceSub, Nat.zero_add, List.replicate]
    refine eqD_int (ite2 (fun h1 => ?_) (fun h1 => ?_))
    · exact hq _ _ (fines_iff.mpr fi) (by omega) (by omega)
    · exact hq _ _ (fines_iff.mpr fi) (by omega) (by omega)
  · exact ⟨_, dss_never, fun ds n Q h => by obtain ⟨a, l, c, _, e, _⟩ := h; exact hW ⟨a, l, c, e⟩⟩

def sp_law_near_span (K : PySem.W.Frag) : SpD := fun W ds n Q => ∃ a l c x, W = srcW a l c ∧ ds = [x] ∧ x = .ref a ∧ n < 2 ^ 38 ∧ ∀ d n', D.fine K d → n ≤ n' → n' ≤ n + 60 → Q d n'

theorem ok_law_near_span (T : Txt K mg a) : FnOk P w K mg base CX0 5 a.law_near_span a.d_law_near_span ["_law_state"] (spD K (sp_law_near_span K)) := by
  refine fn_d T.F_law_near_span sc_law_near_span (fun W ds n Q h => by obtain ⟨_, _, _, _, _, rfl, _⟩ := h; rfl) (fun cdv A outer s H E hr W => ?_)
  by_cases hW : ∃ a l c, W = srcW a l c
  · obtain ⟨b, l, c, rfl⟩ := hW
    refine ⟨_, (dss_cons (ds_par3 (i := 2) (j := 3) (l := 4) rfl sc_law_near_span.nd rfl rfl rfl (by decide) (by decide) (by decide) rfl rfl rfl (da_cons (de_call (ok_law_draw T) (hr.mono (by decide)) (by rfl) T.m_law_draw T.F_law_draw.kp (b_law_draw T) (da_cons (de_var 0 (pv 0)) (da_cons (de_call (ok_law_pick T) (hr.mono (by decide)) (by rfl) T.m_law_pick T.F_law_pick.kp (b_law_pick T) (da_cons (de_var 0 (pv 0)) (da_cons (dl_lst (da_cons de_int (da_cons (de_sub (de_pow de_int de_int) de_int) da_nil))).de da_nil))) da_nil))) (da_cons (de_call (ok_law_draw T) (hr.mono (by decide)) (by rfl) T.m_law_draw T.F_law_draw.kp (b_law_draw T) (da_cons (de_var 0 (pv 0)) (da_cons de_int da_nil))) (da_cons (de_call (ok_law_draw T) (hr.mono (by decide)) (by rfl) T.m_law_draw T.F_law_draw.kp (b_law_draw T) (da_cons (de_var 0 (pv 0)) (da_cons de_int da_nil))) da_nil))) (by rfl))
      (dss_cons (ds_own (i := 1) sc_law_near_span.nd rfl (Or.inl rfl) (dl_lst (da_cons (de_var 2 (pv 2)) (da_cons (de_call (ok_law_pick T) (hr.mono (by decide)) (by rfl) T.m_law_pick T.F_law_pick.kp (b_law_pick T) (da_cons (de_var 0 (pv 0)) (da_cons (dl_lst (da_cons de_non (da_cons (de_var 2 (pv 2)) (da_cons (de_add (de_var 2 (pv 2)) de_int) (da_cons (de_sub (de_var 2 (pv 2)) de_int) (da_cons (de_sub (de_pow de_int de_int) de_int) da_nil)))))).de da_nil))) da_nil))))
      (dss_cons (ds_if (dt_cmp (c_eq hr.units) (de_var 3 (pv 3)) de_int) (dss_one (ds_setItem (pv 1) (de_var 4 (pv 4)) (de_call (ok_law_odd T) (hr.mono (by decide)) (by rfl) T.m_law_odd T.F_law_odd.kp (b_law_odd T) (da_cons (de_var 0 (pv 0)) da_nil)))) dss_nil)
      (dss_cons (ds_if (dt_cmp (c_eq hr.units) (de_var 3 (pv 3)) de_int) (dss_one (ds_append (pv 1) de_non)) dss_nil)
      (dss_cons (ds_if (dt_cmp (c_eq hr.units) (de_var 3 (pv 3)) de_int) (dss_one (ds_popAt (pv 1) (de_var 4 (pv 4)))) dss_nil)
      (dss_freeze 1 (dss_one (ds_ret (de_if (dt_cmp (c_eq hr.units) (de_var 3 (pv 3)) de_int) (dl_list (by rfl) T.n_list (de_var 1 (pv 1))).de (de_tuple (by rfl) T.n_tuple (de_var 1 (pv 1)))))))))))), fun ds n Q h => ?_⟩
    obtain ⟨a', l', c', x, e1, rfl, rfl, hn, hq⟩ := h
    have ea : b = a' := congrArg Wd.a e1
    subst ea

    refine seq_cut (fun δ n'' => ∃ fs wy hf : Int, δ = [.val (.ref b), .emp, .val (.int fs), .val (.int wy), .val (.int hf)] ∧ 0 ≤ fs ∧ fs < 2 ^ 40 ∧ 0 ≤ hf ∧ hf < 2 ∧ n ≤ n'' ∧ n'' ≤ n + 4) (fun Dx ed hx => ?_) (fun δ n'' hp => ?_)
    · simp only [dsSetItem, dsAppend, dsPopAt, ownD, dPickOwn, dsIf, dsRet, dsRetN, dsSet, dsOwn, dsAsg, dsNil, dsPar, dsDrop, dL, d1, d2, dTup, dDisp, dLst, daNil, daCons, dVar, dC, dtB, dtNot, dtAnd, dtOr, dtYes, dAndV, dOrV, dNotV, dIf, dCall, dChain, startD, dsFreeze, gdName, gdTup, gdCons, gdNil, dsFor, dComp, diLst, diTup, diStr, diR1, diR2, wipeD, dSl, doNone, doSome, dJoin, dDict1, List.map_cons, List.map_nil, List.length_cons, List.length_nil, List.cons_append, List.nil_append, List.getElem?_cons_zero, List.getElem?_cons_succ, List.set_cons_zero, List.set_cons_succ, Nat.reduceAdd, Nat.reduceSub, Nat.zero_add, List.replicate]
      refine ⟨⟨by decide, by decide, by decide⟩, by decide, b, l, c, _, rfl, rfl, by omega, .inl ⟨_, rfl, by decide, by decide, fun d hd => ?_⟩⟩
      have hd2 : ∃ i : Int, d = .int i ∧ 0 < i ∧ i < 2 ^ 40 := by
        have hd : d ∈ [D.int 3, D.int (10 ^ Int.toNat 9 - 99)] := hd
        rcases List.mem_cons.mp hd with z | z
        · exact ⟨3, z, by decide, by decide⟩
        · exact ⟨_, List.mem_singleton.mp z, by decide, by decide⟩
      obtain ⟨i, rfl, i0, i1⟩ := hd2
      exact ⟨b, l, c, i, rfl, rfl, i0, by omega, by omega, fun k k0 k1 => ⟨b, l, c, 7, rfl, rfl, by decide, by decide, by omega, fun m m0 m1 => ⟨b, l, c, 2, rfl, rfl, by decide, by decide, by omega, fun r r0 r1 => hx _ _ ⟨k, m, r, rfl, k0, by omega, r0, r1, by omega, by omega⟩⟩⟩⟩
    obtain ⟨fs, wy, hf, rfl, f0, f1, q0, q1, a1, a2⟩ := hp
    refine seq_cut (ownP K b n 5 2 2 fun ds => [.val (.ref b), .own ds, .val (.int fs), .val (.int wy), .val (.int hf)]) (fun Dx ed hx => ?_) (fun δ n1 hp => ?_)
    · simp only [dsSetItem, dsAppend, dsPopAt, ownD, dPickOwn, dsIf, dsRet, dsRetN, dsSet, dsOwn, dsAsg, dsNil, dsPar, dsDrop, dL, d1, d2, dTup, dDisp, dLst, daNil, daCons, dVar, dC, dtB, dtNot, dtAnd, dtOr, dtYes, dAndV, dOrV, dNotV, dIf, dCall, dChain, startD, dsFreeze, gdName, gdTup, gdCons, gdNil, dsFor, dComp, diLst, diTup, diStr, diR1, diR2, wipeD, dSl, doNone, doSome, dJoin, dDict1, List.map_cons, List.map_nil, List.length_cons, List.length_nil, List.cons_append, List.nil_append, List.getElem?_cons_zero, List.getElem?_cons_succ, List.set_cons_zero, List.set_cons_succ, Nat.reduceAdd, Nat.reduceSub, Nat.zero_add, List.replicate]
      refine ⟨⟨by decide, by decide, by decide⟩, by decide, b, l, c, _, rfl, rfl, by omega, .inl ⟨_, rfl, (by show 0 < 5; decide), (by show 5 < 2 ^ 40; decide), fun d hd => ?_⟩⟩
      have hd2 : D.fine K d := fines_iff.mp (show D.fines K [.non, .int fs, .int (fs + 1), .int (fs - 1), .int (10 ^ Int.toNat 9 - 99)] from ⟨trivial, trivial, trivial, trivial, trivial, trivial⟩) d hd
      exact ⟨by (show 2 ≤ sizeLine); decide, hx _ _ ⟨[.int fs, d], rfl, Nat.le_refl 2, Nat.le_refl 2, fines_iff.mp ⟨trivial, hd2, trivial⟩, by omega, by omega⟩⟩
    refine seq_cut (ownP K b n 6 2 2 fun ds => [.val (.ref b), .own ds, .val (.int fs), .val (.int wy), .val (.int hf)]) (fun Dx ed hx => ?_) (fun δ n1 hp => ?_)
    · obtain ⟨ds, rfl, l1, l2, fi, a1, a2⟩ := hp
      simp only [dsSetItem, dsAppend, dsPopAt, ownD, dPickOwn, dsIf, dsRet, dsRetN, dsSet, dsOwn, dsAsg, dsNil, dsPar, dsDrop, dL, d1, d2, dTup, dDisp, dLst, daNil, daCons, dVar, dC, dtB, dtNot, dtAnd, dtOr, dtYes, dAndV, dOrV, dNotV, dIf, dCall, dChain, startD, dsFreeze, gdName, gdTup, gdCons, gdNil, dsFor, dComp, diLst, diTup, diStr, diR1, diR2, wipeD, dSl, doNone, doSome, dJoin, dDict1, List.map_cons, List.map_nil, List.length_cons, List.length_nil, List.cons_append, List.nil_append, List.getElem?_cons_zero, List.getElem?_cons_succ, List.set_cons_zero, List.set_cons_succ, Nat.reduceAdd, Nat.reduceSub, Nat.zero_add, List.replicate]
      refine eqD_int (ite2 (fun h1 => ?_) (fun h1 => ?_))
      · exact ⟨b, l, c, _, rfl, rfl, rfl, by omega, fun d hd => ⟨q0, by omega, hx _ _ ⟨ds.set hf.toNat d, rfl, by rw [List.length_set]; exact l1, by rw [List.length_set]; exact l2, fine_set fi hd, by omega, by omega⟩⟩⟩
      · exact hx _ _ ⟨ds, rfl, l1, l2, fi, by omega, by omega⟩
    refine seq_cut (ownP K b n 6 2 3 fun ds => [.val (.ref b), .own ds, .val (.int fs), .val (.int wy), .val (.int hf)]) (fun Dx ed hx => ?_) (fun δ n1 hp => ?_)
    · obtain ⟨ds, rfl, l1, l2, fi, a1, a2⟩ := hp
      simp only [dsSetItem, dsAppend, dsPopAt, ownD, dPickOwn, dsIf, dsRet, dsRetN, dsSet, dsOwn, dsAsg, dsNil, dsPar, dsDrop, dL, d1, d2, dTup, dDisp, dLst, daNil, daCons, dVar, dC, dtB, dtNot, dtAnd, dtOr, dtYes, dAndV, dOrV, dNotV, dIf, dCall, dChain, startD, dsFreeze, gdName, gdTup, gdCons, gdNil, dsFor, dComp, diLst, diTup, diStr, diR1, diR2, wipeD, dSl, doNone, doSome, dJoin, dDict1, List.map_cons, List.map_nil, List.length_cons, List.length_nil, List.cons_append, List.nil_append, List.getElem?_cons_zero, List.getElem?_cons_succ, List.set_cons_zero, List.set_cons_succ, Nat.reduceAdd, Nat.reduceSub, Nat.zero_add, List.replicate]
      refine eqD_int (ite2 (fun h1 => ?_) (fun h1 => ?_))
      · exact ⟨by rw [sizeLine_eq]; omega, hx _ _ ⟨ds ++ [.non], rfl, by rw [List.length_append]; exact Nat.le_add_right_of_le l1, by rw [List.length_append, List.length_singleton]; omega, fine_app (x := D.non) fi trivial, by omega, by omega⟩⟩
      · exact hx _ _ ⟨ds, rfl, l1, by omega, fi, by omega, by omega⟩
    refine seq_cut (ownP K b n 6 1 3 fun ds => [.val (.ref b), .own ds, .val (.int fs), .val (.int wy), .val (.int hf)]) (fun Dx ed hx => ?_) (fun δ n1 hp => ?_)
    · obtain ⟨ds, rfl, l1, l2, fi, a1, a2⟩ := hp
      simp only [dsSetItem, dsAppend, dsPopAt, ownD, dPickOwn, dsIf, dsRet, dsRetN, dsSet, dsOwn, dsAsg, dsNil, dsPar, dsDrop, dL, d1, d2, dTup, dDisp, dLst, daNil, daCons, dVar, dC, dtB, dtNot, dtAnd, dtOr, dtYes, dAndV, dOrV, dNotV, dIf, dCall, dChain, startD, dsFreeze, gdName, gdTup, gdCons, gdNil, dsFor, dComp, diLst, diTup, diStr, diR1, diR2, wipeD, dSl, doNone, doSome, dJoin, dDict1, List.map_cons, List.map_nil, List.length_cons, List.length_nil, List.cons_append, List.nil_append, List.getElem?_cons_zero, List.getElem?_cons_succ, List.set_cons_zero, List.set_cons_succ, Nat.reduceAdd, Nat.reduceSub, Nat.zero_add, List.replicate]
      refine eqD_int (ite2 (fun h1 => ?_) (fun h1 => ?_))
      · have el : (ds.eraseIdx hf.toNat).length = ds.length - 1 := List.length_eraseIdx_of_lt (by omega)
        exact ⟨q0, by omega, by omega, hx _ _ ⟨ds.eraseIdx hf.toNat, rfl, by omega, by omega, fun d hd => fi d (List.mem_of_mem_eraseIdx hd), by omega, by omega⟩⟩
      · exact hx _ _ ⟨ds, rfl, by omega, l2, fi, by omega, by omega⟩
    obtain ⟨ds, rfl, l1, l2, fi, a1, a2⟩ := hp
    simp only [dsSetItem, dsAppend, dsPopAt, ownD, dPickOwn, dsIf, dsRet, dsRetN, dsSet, dsOwn, dsAsg, dsNil, dsPar, dsDrop, dL, d1, d2, dTup, dDisp, dLst, daNil, daCons, dVar, dC, dtB, dtNot, dtAnd, dtOr, dtYes, dAndV, dOrV, dNotV, dIf, dCall, dChain, startD, dsFreeze, gdName, gdTup, gdCons, gdNil, dsFor, dComp, diLst, diTup, diStr, diR1, diR2, wipeD, dSl, doNone, doSome, dJoin, dDict1, List.map_cons, List.map_nil, List.length_cons, List.length_nil, List.cons_append, List.nil_append, List.getElem?_cons_zero, List.getElem?_cons_succ, List.set_cons_zero, List.set_cons_succ, Nat.reduceAdd, Nat.reduceSub, Nat.zero_add, List.replicate]
    refine eqD_int (ite2 (fun h1 => ?_) (fun h1 => ?_))
    · exact hq _ _ (fines_iff.mpr fi) (by omega) (by omega)
    · exact hq _ _ (fines_iff.mpr fi) (by omega) (by omega)
  · exact ⟨_, dss_never, fun ds n Q h => by obtain ⟨a, l, c, _, e, _⟩ := h; exact hW ⟨a, l, c, e⟩⟩

end
end My


set_option Elab.async false
set_option linter.all false
set_option autoImplicit false
set_option maxRecDepth 100000
set_option maxHeartbeats 4000000

namespace My
open PySem PySem.Spec PyProof.Rows L2 DL

section
variable {P : Program} {w : World} {K : PySem.W.Frag} {mg : Str → Option Value} {base : Heap} {a : Ad}

abbrev s_law : Stmt := top 36
theorem sc_law : FnScope ["_law_script", "_law_state", "_law_turn", "_law_items", "_law_item", "_law_some", "_law_due"] ["_law_script"] (defScope s_law) := ⟨rfl, rfl, rfl, by decide +kernel, rfl, by decide +kernel, by decide +kernel⟩


theorem py_bools : ∀ bs : List Bool, D.pys (bs.map D.bl) = some (bs.map PyData.bool) ∧ PyData.showableAll (bs.map PyData.bool) = true ∧ PyData.hasDictAll (bs.map PyData.bool) = false ∧ PyData.depthAll (bs.map PyData.bool) = 0
  | [] => ⟨rfl, by simp [PyData.showableAll], by simp [PyData.hasDictAll], by simp [PyData.depthAll]⟩
  | b :: bs => by
    obtain ⟨h1, h2, h3, h4⟩ := py_bools bs
    refine ⟨?_, by simp [PyData.showableAll, PyData.showable, h2], by simp [PyData.hasDictAll, PyData.hasDict, h3], by simp [PyData.depthAll, PyData.depth, h4]⟩
    show (match D.py (.bl b), D.pys (bs.map D.bl) with | some p, some ps => some (p :: ps) | _, _ => none) = _
    rw [h1]
    rfl
theorem repr_bools {bs : List Bool} {n : Nat} {Q : D → Nat → Prop} (hl : (PyData.shown (.list (bs.map PyData.bool))).length ≤ sizeLine) (h : Q (.str (PyData.shown (.list (bs.map PyData.bool)))) n) : reprD [.lst (bs.map D.bl)] n Q := by
  obtain ⟨h1, h2, h3, h4⟩ := py_bools bs
  refine ⟨rfl, ?_⟩
  have e : D.py (.lst (bs.map D.bl)) = some (.list (bs.map PyData.bool)) := by
    show (D.pys (bs.map D.bl)).map PyData.list = _
    rw [h1]
    rfl
  rw [e]
  exact ⟨by simp only [PyData.showable]; exact h2, by simp only [PyData.hasDict]; exact h3, by simp only [PyData.depth]; omega, hl, h⟩
theorem shown3 : ∀ x y z : Bool, (PyData.shown (.list [.bool x, .bool y, .bool z])).length ≤ sizeLine := by decide +kernel
theorem shown4 : (PyData.shown (.list [.bool false, .bool false, .bool false, .bool false])).length ≤ sizeLine := by decide +kernel
theorem repr3 {x y z : Bool} {n : Nat} {Q : D → Nat → Prop} (h : Q (.str (PyData.shown (.list [.bool x, .bool y, .bool z]))) n) : reprD [.lst [.bl x, .bl y, .bl z]] n Q := repr_bools (bs := [x, y, z]) (shown3 x y z) h
theorem repr4 {n : Nat} {Q : D → Nat → Prop} (h : Q (.str (PyData.shown (.list [.bool false, .bool false, .bool false, .bool false]))) n) : reprD [.lst [.bl false, .bl false, .bl false, .bl false]] n Q := repr_bools (bs := [false, false, false, false]) shown4 h
theorem same_text {z : Str} {A B : Prop} (h : B) : if (true ^^ decide (z = z)) = true then A else B := by
  rw [decide_eq_true rfl]
  exact iteF h

theorem b_box (T : Txt K mg a) : ∃ ds, Vals [.ref a.t1, .ref a.t2] ds ∧ Binds K a.d_Box_init ["self", "who", "what", "days", "amounts"] ds :=
  T.FD_Box.binds1 3 2 (List.cons_ne_nil _ _) rfl fun Tp kV doc pm an cdv ct us its hu hi => by
    match us, hu, its, hi with
    | [u0, u1, u2], _, [i0, i1, i2, i3], _ => exact ⟨_, rfl, rfl⟩
theorem kb_is_name (T : Txt K mg a) : KBinds K a.d_is_name ["thing"] ["thing"] (fun us ws => us ++ ws) (fun vs zs => vs ++ zs) := DL.Fun.kb1 T.F_is_name (y := "thing") (fun _ _ _ _ _ _ _ => rfl) (fun _ _ _ _ _ _ _ => rfl)
theorem kb_is_sale (T : Txt K mg a) : KBinds K a.d_is_sale ["thing"] ["thing"] (fun us ws => us ++ ws) (fun vs zs => vs ++ zs) := DL.Fun.kb1 T.F_is_sale (y := "thing") (fun _ _ _ _ _ _ _ => rfl) (fun _ _ _ _ _ _ _ => rfl)
theorem kb_is_stretch (T : Txt K mg a) : KBinds K a.d_is_stretch ["thing"] ["thing"] (fun us ws => us ++ ws) (fun vs zs => vs ++ zs) := DL.Fun.kb1 T.F_is_stretch (y := "thing") (fun _ _ _ _ _ _ _ => rfl) (fun _ _ _ _ _ _ _ => rfl)
theorem law_runs (T : Txt K mg a) {fl : Addr} {fd : FuncData} (F : Fun K "law" "law" s_law fl fd) {s : Shared} {H : Hp} (e0 : Env0 P w K mg base callerA [] s H) {sc : Addr} {ns : List Int} (hl : ns.length ≤ 63) (hR : Rep K (fun _ => False) H (.scr ns) (.ref sc))
    (hbn : BindsTo s fd ⟨[.ref sc], []⟩ [("_law_script", .ref sc)]) :
    codeAny (model P w) callerA (.call (.ref fl) ⟨[.ref sc], []⟩) (CR CX0 [] P w H s (fun v _ => v = .bl true) E0) s := by
  refine law_body (k := 6) F sc_law ⟨rfl, by decide, by decide⟩ e0 hbn (fun cdv hr => ?_)
  have hG : (lawCx P w K mg base ["_law_script", "_law_state", "_law_turn", "_law_items", "_law_item", "_law_some", "_law_due"] s_law fl cdv s H).nox.A.guards = some [] := rfl
  obtain ⟨bds, hbd, hbb⟩ := b_box T
  obtain ⟨ts, ps, rs⟩ := law_begin (X := (lawCx P w K mg base ["_law_script", "_law_state", "_law_turn", "_law_items", "_law_item", "_law_some", "_law_due"] s_law fl cdv s H).nox) (i := 1) (m := 6) sc_law.nd rfl (Or.inl rfl) (de_call (ok_law_begun T) (hr.mono (by decide)) (by rfl) T.m_law_begun T.F_law_begun.kp (b_law_begun T) (da_cons (de_var 0 (pv 0)) da_nil)) (fun b l c => (dss_cons (ds_for PassesOwn.never rfl (di_range1 (by rfl) T.n_range (de_add de_int (de_min rfl (by rfl) T.n_min (da_cons (de_len (by rfl) T.n_len (de_var 0 (pv 0))) (da_cons de_int da_nil))))) (dg_name 2 (pg_name (i := 2) sc_law.nd rfl (Or.inl rfl))) (dss_cons (ds_set (i := 3) sc_law.nd rfl (Or.inl rfl) (dl_lst (da_cons (de_call (ok_law_near_name T) (hr.mono (by decide)) (by rfl) T.m_law_near_name T.F_law_near_name.kp (b_law_near_name T) (da_cons (de_var 1 (pv 1)) da_nil)) (da_cons (de_call (ok_law_near_deal T) (hr.mono (by decide)) (by rfl) T.m_law_near_deal T.F_law_near_deal.kp (b_law_near_deal T) (da_cons (de_var 1 (pv 1)) da_nil)) (da_cons (de_call (ok_law_near_span T) (hr.mono (by decide)) (by rfl) T.m_law_near_span T.F_law_near_span.kp (b_law_near_span T) (da_cons (de_var 1 (pv 1)) da_nil)) (da_cons (de_call (ok_law_odd T) (hr.mono (by decide)) (by rfl) T.m_law_odd T.F_law_odd.kp (b_law_odd T) (da_cons (de_var 1 (pv 1)) da_nil)) da_nil))))).de)
      (dss_cons (ds_set (i := 3) sc_law.nd rfl (Or.inl rfl) (de_add (de_var 3 (pv 3)) (dl_lst (da_cons (de_call (ok_law_near_deal T) (hr.mono (by decide)) (by rfl) T.m_law_near_deal T.F_law_near_deal.kp (b_law_near_deal T) (da_cons (de_var 1 (pv 1)) da_nil)) (da_cons (de_call (ok_law_near_span T) (hr.mono (by decide)) (by rfl) T.m_law_near_span T.F_law_near_span.kp (b_law_near_span T) (da_cons (de_var 1 (pv 1)) da_nil)) da_nil))).de))
      (dss_cons (ds_for PassesOwn.never rfl (di_list (de_var 3 (pv 3))) (dg_name 4 (pg_name (i := 4) sc_law.nd rfl (Or.inl rfl))) (dss_cons (ds_set (i := 6) sc_law.nd rfl (Or.inl rfl) (dl_lst (da_cons (de_call (ok_law_is_called T) (hr.mono (by decide)) (by rfl) T.m_law_is_called T.F_law_is_called.kp (b_law_is_called T) (da_cons (de_var 4 (pv 4)) da_nil)) (da_cons (de_call (ok_law_is_dealt T) (hr.mono (by decide)) (by rfl) T.m_law_is_dealt T.F_law_is_dealt.kp (b_law_is_dealt T) (da_cons (de_var 4 (pv 4)) da_nil)) (da_cons (de_call (ok_law_is_span T) (hr.mono (by decide)) (by rfl) T.m_law_is_span T.F_law_is_span.kp (b_law_is_span T) (da_cons (de_var 4 (pv 4)) da_nil)) da_nil)))).de)
      (dss_cons (ds_if (dt_cmp (c_ne hr.units) (de_repr hG hr.units (by rfl) T.n_repr (dl_lst (da_cons (de_call (ok_is_name T) (hr.mono (by decide)) (by rfl) T.m_is_name T.F_is_name.kp (b_is_name T) (da_cons (de_var 4 (pv 4)) da_nil)) (da_cons (de_call (ok_is_sale T) (hr.mono (by decide)) (by rfl) T.m_is_sale T.F_is_sale.kp (b_is_sale T) (da_cons (de_var 4 (pv 4)) da_nil)) (da_cons (de_call (ok_is_stretch T) (hr.mono (by decide)) (by rfl) T.m_is_stretch T.F_is_stretch.kp (b_is_stretch T) (da_cons (de_var 4 (pv 4)) da_nil)) da_nil)))).de) (de_repr hG hr.units (by rfl) T.n_repr (de_var 6 (pv 6)))) (dss_one (ds_ret de_bl)) dss_nil)
      (dss_one (ds_if (dt_cmp (c_ne hr.units) (de_repr hG hr.units (by rfl) T.n_repr (dl_lst (da_cons (de_callK1 (ok_is_name T) (hr.mono (by decide)) (by rfl) T.m_is_name T.F_is_name.kp (kb_is_name T) (de_var 4 (pv 4))) (da_cons (de_callK1 (ok_is_sale T) (hr.mono (by decide)) (by rfl) T.m_is_sale T.F_is_sale.kp (kb_is_sale T) (de_var 4 (pv 4))) (da_cons (de_callK1 (ok_is_stretch T) (hr.mono (by decide)) (by rfl) T.m_is_stretch T.F_is_stretch.kp (kb_is_stretch T) (de_var 4 (pv 4))) da_nil)))).de) (de_repr hG hr.units (by rfl) T.n_repr (de_var 6 (pv 6)))) (dss_one (ds_ret de_bl)) dss_nil)))))
      (dss_cons (ds_set (i := 5) sc_law.nd rfl (Or.inl rfl) (de_make (dds := [.tup [.int 0, .non], .tup [.int 0, .non]]) T.M_Box (ok_Box_init T) (hr.mono (by decide)) (by rfl) T.m_Box hbb hbd (fun A H => ⟨_, _, rfl, ⟨a.t1, [.int 0, .non], rfl, .inr T.T1, _, _, rfl, rfl, _, _, rfl, rfl, rfl⟩, _, _, rfl, ⟨a.t2, [.int 0, .non], rfl, .inr T.T2, _, _, rfl, rfl, _, _, rfl, rfl, rfl⟩, rfl⟩) (da_cons de_non (da_cons de_str da_nil))))
      (dss_one (ds_if (dt_cmp (c_ne hr.units) (de_repr hG hr.units (by rfl) T.n_repr (dl_lst (da_cons (de_call (ok_is_name T) (hr.mono (by decide)) (by rfl) T.m_is_name T.F_is_name.kp (b_is_name T) (da_cons (de_var 5 (pv 5)) da_nil)) (da_cons (de_call (ok_is_sale T) (hr.mono (by decide)) (by rfl) T.m_is_sale T.F_is_sale.kp (b_is_sale T) (da_cons (de_var 5 (pv 5)) da_nil)) (da_cons (de_call (ok_is_stretch T) (hr.mono (by decide)) (by rfl) T.m_is_stretch T.F_is_stretch.kp (b_is_stretch T) (da_cons (de_var 5 (pv 5)) da_nil)) (da_cons (de_call (ok_is_sale T) (hr.mono (by decide)) (by rfl) T.m_is_sale T.F_is_sale.kp (b_is_sale T) (da_cons (dl_lst (da_cons (de_var 5 (pv 5)) da_nil)).de da_nil)) da_nil))))).de) (de_repr hG hr.units (by rfl) T.n_repr (de_mul (dl_lst (da_cons de_bl da_nil)).de de_int))) (dss_one (ds_ret de_bl)) dss_nil)))))))
      (dss_one (ds_ret de_bl))))
  refine ⟨ts, ps, rs ns _ H _ ((pre_start (n := 0) (W := Wd.none) (A := fun _ => False) ⟨fun _ z => z, fun _ z => z.elim, trivial⟩ (show RepL K (fun _ => False) H [.scr ns] [.ref sc] from ⟨_, _, rfl, hR, rfl⟩)).env) (by decide) ⟨ns, rfl, hl, fun xs ys => ⟨xs, ys, rfl, fun b l c => ?_⟩⟩ (fun H' => rfl)⟩
  clear rs ps
  refine seq_cut (fun _ _ => True) (fun Dx ed hx => ?_) (fun _ _ _ => rfl)
  have hmin : ∀ m : Nat, m ≤ 63 → 0 ≤ (12 : Int) + (if (40 : Int) < (m : Int) then (40 : Int) else (m : Int)) ∧ (12 : Int) + (if (40 : Int) < (m : Int) then (40 : Int) else (m : Int)) ≤ 52 := fun m hm => by split <;> omega
  obtain ⟨hm0, hm1⟩ := hmin ns.length hl
  show (-(2 ^ 62) ≤ ((12 : Int) + (if (40 : Int) < (ns.length : Int) then (40 : Int) else (ns.length : Int))) ∧ ((12 : Int) + (if (40 : Int) < (ns.length : Int) then (40 : Int) else (ns.length : Int))) < 2 ^ 62 ∧ forD _ _ (dRng 0 ((12 : Int) + (if (40 : Int) < (ns.length : Int) then (40 : Int) else (ns.length : Int))).toNat) _ _ _)
  generalize ((12 : Int) + (if (40 : Int) < (ns.length : Int) then (40 : Int) else (ns.length : Int))) = tot at hm0 hm1 ⊢
  refine ⟨by omega, by omega, ?_⟩
  have key : (dRng 0 tot.toNat).length ≤ 52 := by rw [dRng_len]; omega
  refine forD_inv _ (fun i δ n' => n' ≤ 300 * i ∧ ∃ e2 e3 e4 e5 e6 : E, δ = [.val (.scr ns), .val (.ref b), e2, e3, e4, e5, e6]) (fun i d δ n' D' hd hp hx2 hc2 hbk hrt => ?_) (fun δ n' _ => hx _ _ trivial) ⟨Nat.zero_le _, _, _, _, _, _, rfl⟩
  have hi : i < 52 := by have := (List.getElem?_eq_some_iff.mp hd).1; omega
  obtain ⟨hn, e2, e3, e4, e5, e6, rfl⟩ := hp
  simp only [gdName, List.set_cons_succ, List.set_cons_zero]
  generalize (E.val d) = f2
  refine seq_cut (fun δ n1 => n1 ≤ 300 * i + 141 ∧ ∃ xs : List D, δ = [.val (.scr ns), .val (.ref b), f2, .val (.lst xs), e4, e5, e6] ∧ xs.length = 4 ∧ D.fines K xs) (fun D1 ed1 hx1 => ?_) (fun δ n1 hp => ?_)
  · refine ⟨b, l, c, _, rfl, rfl, rfl, by omega, fun z n2 hz a1 a2 => ?_⟩
    refine ⟨b, l, c, _, rfl, rfl, rfl, by omega, fun d2 n3 hd2 a3 a4 => ?_⟩
    refine ⟨b, l, c, _, rfl, rfl, rfl, by omega, fun d3 n4 hd3 a5 a6 => ?_⟩
    refine ⟨b, l, c, _, rfl, rfl, rfl, by omega, fun d4 hd4 => ⟨by (show 4 ≤ sizeLine); decide, hx1 _ _ ⟨by omega, [.str z, d2, d3, d4], rfl, rfl, hz, hd2, hd3, hd4, trivial⟩⟩⟩
  obtain ⟨hn1, xs, rfl, hl4, hf4⟩ := hp
  refine seq_cut (fun δ n1 => n1 ≤ 300 * i + 261 ∧ ∃ xs : List D, δ = [.val (.scr ns), .val (.ref b), f2, .val (.lst xs), e4, e5, e6] ∧ xs.length = 6 ∧ D.fines K xs) (fun D1 ed1 hx1 => ?_) (fun δ n1 hp => ?_)
  · refine ⟨b, l, c, _, rfl, rfl, rfl, by omega, fun d2 n3 hd2 a3 a4 => ?_⟩
    refine ⟨b, l, c, _, rfl, rfl, rfl, by omega, fun d3 n4 hd3 a5 a6 => ⟨by (show 2 ≤ sizeLine); decide, ⟨by rw [hl4]; (show 4 + 2 ≤ sizeLine); decide, hx1 _ _ ⟨by omega, xs ++ [d2, d3], rfl, by rw [List.length_append, hl4]; rfl, fines_iff.mpr fun d hd => ?_⟩⟩⟩⟩
    rcases List.mem_append.mp hd with z | z
    · exact fines_iff.mp hf4 d z
    · exact fines_iff.mp (show D.fines K [d2, d3] from ⟨hd2, hd3, trivial⟩) d z
  clear hl4 hf4 hn1
  obtain ⟨hn1, ys, rfl, hl6, hf6⟩ := hp
  refine seq_cut (fun δ n2 => n2 ≤ 300 * i + 261 ∧ ∃ e3 e4 e6 : E, δ = [.val (.scr ns), .val (.ref b), f2, e3, e4, e5, e6]) (fun D1 ed1 hx1 => ?_) (fun δ n2 hp => ?_)
  · show forD _ _ ys _ _ _
    refine forD_inv ys (fun j δ n2 => n2 ≤ 300 * i + 261 ∧ ∃ e4 e6 : E, δ = [.val (.scr ns), .val (.ref b), f2, .val (.lst ys), e4, e5, e6]) (fun j x δ n2 D2 hd hp hx3 hc3 hbk hrt => ?_) (fun δ n2 hp => ?_) ⟨hn1, _, _, rfl⟩
    · obtain ⟨hn2, e4, e6, rfl⟩ := hp
      have fx : D.fine K x := fines_iff.mp hf6 x (List.mem_of_getElem? hd)
      simp only [gdName, List.set_cons_succ, List.set_cons_zero]
      refine seq_cut (fun δ n3 => n3 = n2 ∧ δ = [.val (.scr ns), .val (.ref b), f2, .val (.lst ys), .val x, e5, .val (.lst [.bl (isNameD x), .bl (isSaleD x), .bl (isSpanD x)])]) (fun D3 ed3 hx4 => ?_) (fun δ n3 hp => ?_)
      · refine ⟨x, rfl, fx, ?_⟩
        refine ⟨x, rfl, fx, ?_⟩
        exact ⟨x, rfl, fx, by (show 3 ≤ sizeLine); decide, hx4 _ _ ⟨rfl, rfl⟩⟩
      obtain ⟨rfl, rfl⟩ := hp
      have rp : ∀ {n : Nat} {Q : D → Nat → Prop}, Q (.str (PyData.shown (.list [.bool (isNameD x), .bool (isSaleD x), .bool (isSpanD x)]))) n → reprD [.lst [.bl (isNameD x), .bl (isSaleD x), .bl (isSpanD x)]] n Q := fun h => repr3 h
      refine seq_cut (fun δ n4 => n4 = n3 ∧ δ = [.val (.scr ns), .val (.ref b), f2, .val (.lst ys), .val x, e5, .val (.lst [.bl (isNameD x), .bl (isSaleD x), .bl (isSpanD x)])]) (fun D3 ed3 hx4 => ?_) (fun δ n4 hp => ?_)
      · refine ⟨x, rfl, fx, ?_⟩
        refine ⟨x, rfl, fx, ?_⟩
        refine ⟨x, rfl, fx, by (show 3 ≤ sizeLine); decide, ?_⟩
        simp only [dsSetItem, dsAppend, dsPopAt, ownD, dPickOwn, dsIf, dsRet, dsRetN, dsSet, dsOwn, dsAsg, dsNil, dsPar, dsDrop, dL, d1, d2, dTup, dDisp, dLst, daNil, daCons, dVar, dC, dtB, dtNot, dtAnd, dtOr, dtYes, dAndV, dOrV, dNotV, dIf, dCall, dChain, startD, dsFreeze, gdName, gdTup, gdCons, gdNil, dsFor, dComp, diLst, diTup, diStr, diR1, diR2, wipeD, dSl, doNone, doSome, dJoin, dDict1, List.map_cons, List.map_nil, List.length_cons, List.length_nil, List.cons_append, List.nil_append, List.getElem?_cons_zero, List.getElem?_cons_succ, List.set_cons_zero, List.set_cons_succ, Nat.reduceAdd, Nat.reduceSub, Nat.zero_add, List.replicate]
        refine rp ?_
        refine rp ?_
        refine eqD_str ?_
        exact same_text (hx4 _ _ ⟨rfl, rfl⟩)
      obtain ⟨rfl, rfl⟩ := hp
      refine ⟨x, rfl, fx, ?_⟩
      refine ⟨x, rfl, fx, ?_⟩
      refine ⟨x, rfl, fx, by (show 3 ≤ sizeLine); decide, ?_⟩
      simp only [dsSetItem, dsAppend, dsPopAt, ownD, dPickOwn, dsIf, dsRet, dsRetN, dsSet, dsOwn, dsAsg, dsNil, dsPar, dsDrop, dL, d1, d2, dTup, dDisp, dLst, daNil, daCons, dVar, dC, dtB, dtNot, dtAnd, dtOr, dtYes, dAndV, dOrV, dNotV, dIf, dCall, dChain, startD, dsFreeze, gdName, gdTup, gdCons, gdNil, dsFor, dComp, diLst, diTup, diStr, diR1, diR2, wipeD, dSl, doNone, doSome, dJoin, dDict1, List.map_cons, List.map_nil, List.length_cons, List.length_nil, List.cons_append, List.nil_append, List.getElem?_cons_zero, List.getElem?_cons_succ, List.set_cons_zero, List.set_cons_succ, Nat.reduceAdd, Nat.reduceSub, Nat.zero_add, List.replicate]
      refine rp ?_
      refine rp ?_
      refine eqD_str ?_
      exact same_text (hx3 _ _ ⟨hn2, _, _, rfl⟩)
    · obtain ⟨hn2, e4, e6, rfl⟩ := hp
      exact hx1 _ _ ⟨hn2, _, _, _, rfl⟩
  clear hn1 e3 e4 e6 hl6 hf6 ys
  obtain ⟨hn1, e3, e4, e6, rfl⟩ := hp
  refine seq_cut (fun δ n3 => n3 = n2 ∧ δ = [.val (.scr ns), .val (.ref b), f2, e3, e4, .val (.ins a.Box ["sides"] [.tup [.non, .str "a", .tup [.int 0, .non], .tup [.int 0, .non]]]), e6]) (fun D3 ed3 hx4 => ?_) (fun δ n3 hp => ?_)
  · exact ⟨⟨_, _, _, _, rfl, ⟨trivial, rfl⟩, ⟨(by unfold strOK; decide +kernel : strOK (Str.ofString "a")), by decide +kernel⟩, ⟨⟨trivial, trivial, trivial⟩, rfl⟩, ⟨trivial, trivial, trivial⟩, rfl⟩, hx4 _ _ ⟨rfl, rfl⟩⟩
  obtain ⟨rfl, rfl⟩ := hp
  have fb : ∀ ds, D.fine K (.ins a.Box ["sides"] ds) := fun ds => T.I_Box
  refine ⟨_, rfl, fb _, ?_⟩
  refine ⟨_, rfl, fb _, ?_⟩
  refine ⟨_, rfl, fb _, ?_⟩
  refine ⟨by (show 1 ≤ sizeLine); decide, ?_⟩
  refine ⟨_, rfl, ⟨fb _, trivial⟩, by (show 4 ≤ sizeLine); decide, ?_⟩
  simp only [dsSetItem, dsAppend, dsPopAt, ownD, dPickOwn, dsIf, dsRet, dsRetN, dsSet, dsOwn, dsAsg, dsNil, dsPar, dsDrop, dL, d1, d2, dTup, dDisp, dLst, daNil, daCons, dVar, dC, dtB, dtNot, dtAnd, dtOr, dtYes, dAndV, dOrV, dNotV, dIf, dCall, dChain, startD, dsFreeze, gdName, gdTup, gdCons, gdNil, dsFor, dComp, diLst, diTup, diStr, diR1, diR2, wipeD, dSl, doNone, doSome, dJoin, dDict1, List.map_cons, List.map_nil, List.length_cons, List.length_nil, List.cons_append, List.nil_append, List.getElem?_cons_zero, List.getElem?_cons_succ, List.set_cons_zero, List.set_cons_succ, Nat.reduceAdd, Nat.reduceSub, Nat.zero_add, List.replicate]
  refine repr4 ?_
  refine ⟨by (show 1 ≤ sizeLine); decide, ⟨by decide, by decide, by (show 1 * 4 ≤ sizeLine); decide, ?_⟩⟩
  simp only [dsSetItem, dsAppend, dsPopAt, ownD, dPickOwn, dsIf, dsRet, dsRetN, dsSet, dsOwn, dsAsg, dsNil, dsPar, dsDrop, dL, d1, d2, dTup, dDisp, dLst, daNil, daCons, dVar, dC, dtB, dtNot, dtAnd, dtOr, dtYes, dAndV, dOrV, dNotV, dIf, dCall, dChain, startD, dsFreeze, gdName, gdTup, gdCons, gdNil, dsFor, dComp, diLst, diTup, diStr, diR1, diR2, wipeD, dSl, doNone, doSome, dJoin, dDict1, List.map_cons, List.map_nil, List.length_cons, List.length_nil, List.cons_append, List.nil_append, List.getElem?_cons_zero, List.getElem?_cons_succ, List.set_cons_zero, List.set_cons_succ, Nat.reduceAdd, Nat.reduceSub, Nat.zero_add, List.replicate]
  refine repr4 ?_
  refine eqD_str ?_
  exact same_text (hx2 _ _ ⟨by omega, _, _, _, _, _, rfl⟩)

end
end My

set_option Elab.async false
set_option linter.all false
set_option autoImplicit false
set_option maxRecDepth 100000
set_option maxHeartbeats 4000000
namespace My
open PySem PySem.Spec PyProof.Rows L2 DL

theorem law_binds {K : PySem.W.Frag} {fl : Addr} {fd : FuncData} (F : Fun K "law" "law" s_law fl fd) (s : Shared) (v : Value) : BindsTo s fd ⟨[v], []⟩ [("_law_script", v)] := by
  obtain ⟨oc, od, kV, doc, pm, an, cdv, ct, osl, rfl, lk, hcd⟩ := F.ex
  exact .of_eq rfl
theorem kit_no {K : PySem.W.Frag} {C : Addr} {T : String} (m : PySem.W.kitMeta T = true) (h : PySem.W.subIn K (.ref C) (.type T) = some false) : PySem.W.kitOne K (.ref C) (.type T) = some false := by
  have e : ((Value.ref C : Value) == Value.type T) = false := rfl
  unfold PySem.W.kitOne
  rw [e]
  show (if PySem.W.kitMeta T = true then PySem.W.subIn K (.ref C) (.type T) else none) = some false
  rw [if_pos m]
  exact h
theorem done {P : Program} {w : World} {K : PySem.W.Frag} {h : Heap} {mg : Str → Option Value} {fa f_is_number f_is_count f_is_name f_is_sale f_is_stretch f_is_name_or_all f_law_begun f_law_draw f_law_pick f_law_letters f_law_signs f_law_called f_law_odd f_law_is_count f_law_is_called f_law_is_dealt f_law_is_span f_law_near_name f_law_near_deal f_law_near_span f_law CB fI TD t1 t2 : Addr}
    {od_is_number an_is_number : Option Addr} {sl_is_number : Array (Option Value)} {oc_is_number kV_is_number dc_is_number pm_is_number cd_is_number ct_is_number : Value}
    {od_is_count an_is_count : Option Addr} {sl_is_count : Array (Option Value)} {oc_is_count kV_is_count dc_is_count pm_is_count cd_is_count ct_is_count : Value}
    {od_is_name an_is_name : Option Addr} {sl_is_name : Array (Option Value)} {oc_is_name kV_is_name dc_is_name pm_is_name cd_is_name ct_is_name : Value}
    {od_is_sale an_is_sale : Option Addr} {sl_is_sale : Array (Option Value)} {oc_is_sale kV_is_sale dc_is_sale pm_is_sale cd_is_sale ct_is_sale : Value}
    {od_is_stretch an_is_stretch : Option Addr} {sl_is_stretch : Array (Option Value)} {oc_is_stretch kV_is_stretch dc_is_stretch pm_is_stretch cd_is_stretch ct_is_stretch : Value}
    {od_is_name_or_all an_is_name_or_all : Option Addr} {sl_is_name_or_all : Array (Option Value)} {oc_is_name_or_all kV_is_name_or_all dc_is_name_or_all pm_is_name_or_all cd_is_name_or_all ct_is_name_or_all : Value}
    {od_law_begun an_law_begun : Option Addr} {sl_law_begun : Array (Option Value)} {oc_law_begun kV_law_begun dc_law_begun pm_law_begun cd_law_begun ct_law_begun : Value}
    {od_law_draw an_law_draw : Option Addr} {sl_law_draw : Array (Option Value)} {oc_law_draw kV_law_draw dc_law_draw pm_law_draw cd_law_draw ct_law_draw : Value}
    {od_law_pick an_law_pick : Option Addr} {sl_law_pick : Array (Option Value)} {oc_law_pick kV_law_pick dc_law_pick pm_law_pick cd_law_pick ct_law_pick : Value}
    {od_law_letters an_law_letters : Option Addr} {sl_law_letters : Array (Option Value)} {oc_law_letters kV_law_letters dc_law_letters pm_law_letters cd_law_letters ct_law_letters : Value}
    {od_law_signs an_law_signs : Option Addr} {sl_law_signs : Array (Option Value)} {oc_law_signs kV_law_signs dc_law_signs pm_law_signs cd_law_signs ct_law_signs : Value}
    {od_law_called an_law_called : Option Addr} {sl_law_called : Array (Option Value)} {oc_law_called kV_law_called dc_law_called pm_law_called cd_law_called ct_law_called : Value}
    {od_law_odd an_law_odd : Option Addr} {sl_law_odd : Array (Option Value)} {oc_law_odd kV_law_odd dc_law_odd pm_law_odd cd_law_odd ct_law_odd : Value}
    {od_law_is_count an_law_is_count : Option Addr} {sl_law_is_count : Array (Option Value)} {oc_law_is_count kV_law_is_count dc_law_is_count pm_law_is_count cd_law_is_count ct_law_is_count : Value}
    {od_law_is_called an_law_is_called : Option Addr} {sl_law_is_called : Array (Option Value)} {oc_law_is_called kV_law_is_called dc_law_is_called pm_law_is_called cd_law_is_called ct_law_is_called : Value}
    {od_law_is_dealt an_law_is_dealt : Option Addr} {sl_law_is_dealt : Array (Option Value)} {oc_law_is_dealt kV_law_is_dealt dc_law_is_dealt pm_law_is_dealt cd_law_is_dealt ct_law_is_dealt : Value}
    {od_law_is_span an_law_is_span : Option Addr} {sl_law_is_span : Array (Option Value)} {oc_law_is_span kV_law_is_span dc_law_is_span pm_law_is_span cd_law_is_span ct_law_is_span : Value}
    {od_law_near_name an_law_near_name : Option Addr} {sl_law_near_name : Array (Option Value)} {oc_law_near_name kV_law_near_name dc_law_near_name pm_law_near_name cd_law_near_name ct_law_near_name : Value}
    {od_law_near_deal an_law_near_deal : Option Addr} {sl_law_near_deal : Array (Option Value)} {oc_law_near_deal kV_law_near_deal dc_law_near_deal pm_law_near_deal cd_law_near_deal ct_law_near_deal : Value}
    {od_law_near_span an_law_near_span : Option Addr} {sl_law_near_span : Array (Option Value)} {oc_law_near_span kV_law_near_span dc_law_near_span pm_law_near_span cd_law_near_span ct_law_near_span : Value}
    {od_law an_law : Option Addr} {sl_law : Array (Option Value)} {oc_law kV_law dc_law pm_law cd_law ct_law : Value}
    {odI anI : Option Addr} {slI : Array (Option Value)} {ocI kVI dcI pmI cdI ctI : Value} {odD od1 od2 : Option Addr} {slD sl1 sl2 : Array (Option Value)} {ocD : Value} {nD n1 n2 : Nat} {tk1 tk2 : _}
    (X : K.In h) (G : h.Ns mainGlobals mg) (hfa : mg "law" = some (.ref fa)) {base : Heap} {s : Shared} {H : Hp} (e0 : Env0 P w K mg base callerA [] s H) {sc : Addr} {ns : List Int} (hl : ns.length ≤ 63) (hR : Rep K (fun _ => False) H (.scr ns) (.ref sc))
    (a_is_number : PySem.W.nsIn K mainGlobals "is_number" = some (some (.ref f_is_number)))
    (l_is_number : K.lookup f_is_number = some ⟨oc_is_number, od_is_number, .func (PySem.W.fnOf "is_number" "is_number" (defArgs s_is_number) (defBody s_is_number) (defScope s_is_number) .none kV_is_number dc_is_number pm_is_number an_is_number cd_is_number ct_is_number), sl_is_number⟩)
    (c_is_number : PySem.W.codeIn K cd_is_number "is_number" = true)
    (k_is_number : PySem.W.keepIn K (.ref f_is_number) = true)
    (a_is_count : PySem.W.nsIn K mainGlobals "is_count" = some (some (.ref f_is_count)))
    (l_is_count : K.lookup f_is_count = some ⟨oc_is_count, od_is_count, .func (PySem.W.fnOf "is_count" "is_count" (defArgs s_is_count) (defBody s_is_count) (defScope s_is_count) .none kV_is_count dc_is_count pm_is_count an_is_count cd_is_count ct_is_count), sl_is_count⟩)
    (c_is_count : PySem.W.codeIn K cd_is_count "is_count" = true)
    (k_is_count : PySem.W.keepIn K (.ref f_is_count) = true)
    (a_is_name : PySem.W.nsIn K mainGlobals "is_name" = some (some (.ref f_is_name)))
    (l_is_name : K.lookup f_is_name = some ⟨oc_is_name, od_is_name, .func (PySem.W.fnOf "is_name" "is_name" (defArgs s_is_name) (defBody s_is_name) (defScope s_is_name) .none kV_is_name dc_is_name pm_is_name an_is_name cd_is_name ct_is_name), sl_is_name⟩)
    (c_is_name : PySem.W.codeIn K cd_is_name "is_name" = true)
    (k_is_name : PySem.W.keepIn K (.ref f_is_name) = true)
    (a_is_sale : PySem.W.nsIn K mainGlobals "is_sale" = some (some (.ref f_is_sale)))
    (l_is_sale : K.lookup f_is_sale = some ⟨oc_is_sale, od_is_sale, .func (PySem.W.fnOf "is_sale" "is_sale" (defArgs s_is_sale) (defBody s_is_sale) (defScope s_is_sale) .none kV_is_sale dc_is_sale pm_is_sale an_is_sale cd_is_sale ct_is_sale), sl_is_sale⟩)
    (c_is_sale : PySem.W.codeIn K cd_is_sale "is_sale" = true)
    (k_is_sale : PySem.W.keepIn K (.ref f_is_sale) = true)
    (a_is_stretch : PySem.W.nsIn K mainGlobals "is_stretch" = some (some (.ref f_is_stretch)))
    (l_is_stretch : K.lookup f_is_stretch = some ⟨oc_is_stretch, od_is_stretch, .func (PySem.W.fnOf "is_stretch" "is_stretch" (defArgs s_is_stretch) (defBody s_is_stretch) (defScope s_is_stretch) .none kV_is_stretch dc_is_stretch pm_is_stretch an_is_stretch cd_is_stretch ct_is_stretch), sl_is_stretch⟩)
    (c_is_stretch : PySem.W.codeIn K cd_is_stretch "is_stretch" = true)
    (k_is_stretch : PySem.W.keepIn K (.ref f_is_stretch) = true)
    (a_is_name_or_all : PySem.W.nsIn K mainGlobals "is_name_or_all" = some (some (.ref f_is_name_or_all)))
    (l_is_name_or_all : K.lookup f_is_name_or_all = some ⟨oc_is_name_or_all, od_is_name_or_all, .func (PySem.W.fnOf "is_name_or_all" "is_name_or_all" (defArgs s_is_name_or_all) (defBody s_is_name_or_all) (defScope s_is_name_or_all) .none kV_is_name_or_all dc_is_name_or_all pm_is_name_or_all an_is_name_or_all cd_is_name_or_all ct_is_name_or_all), sl_is_name_or_all⟩)
    (c_is_name_or_all : PySem.W.codeIn K cd_is_name_or_all "is_name_or_all" = true)
    (k_is_name_or_all : PySem.W.keepIn K (.ref f_is_name_or_all) = true)
    (a_law_begun : PySem.W.nsIn K mainGlobals "_law_begun" = some (some (.ref f_law_begun)))
    (l_law_begun : K.lookup f_law_begun = some ⟨oc_law_begun, od_law_begun, .func (PySem.W.fnOf "_law_begun" "_law_begun" (defArgs s_law_begun) (defBody s_law_begun) (defScope s_law_begun) .none kV_law_begun dc_law_begun pm_law_begun an_law_begun cd_law_begun ct_law_begun), sl_law_begun⟩)
    (c_law_begun : PySem.W.codeIn K cd_law_begun "_law_begun" = true)
    (k_law_begun : PySem.W.keepIn K (.ref f_law_begun) = true)
    (a_law_draw : PySem.W.nsIn K mainGlobals "_law_draw" = some (some (.ref f_law_draw)))
    (l_law_draw : K.lookup f_law_draw = some ⟨oc_law_draw, od_law_draw, .func (PySem.W.fnOf "_law_draw" "_law_draw" (defArgs s_law_draw) (defBody s_law_draw) (defScope s_law_draw) .none kV_law_draw dc_law_draw pm_law_draw an_law_draw cd_law_draw ct_law_draw), sl_law_draw⟩)
    (c_law_draw : PySem.W.codeIn K cd_law_draw "_law_draw" = true)
    (k_law_draw : PySem.W.keepIn K (.ref f_law_draw) = true)
    (a_law_pick : PySem.W.nsIn K mainGlobals "_law_pick" = some (some (.ref f_law_pick)))
    (l_law_pick : K.lookup f_law_pick = some ⟨oc_law_pick, od_law_pick, .func (PySem.W.fnOf "_law_pick" "_law_pick" (defArgs s_law_pick) (defBody s_law_pick) (defScope s_law_pick) .none kV_law_pick dc_law_pick pm_law_pick an_law_pick cd_law_pick ct_law_pick), sl_law_pick⟩)
    (c_law_pick : PySem.W.codeIn K cd_law_pick "_law_pick" = true)
    (k_law_pick : PySem.W.keepIn K (.ref f_law_pick) = true)
    (a_law_letters : PySem.W.nsIn K mainGlobals "_law_letters" = some (some (.ref f_law_letters)))
    (l_law_letters : K.lookup f_law_letters = some ⟨oc_law_letters, od_law_letters, .func (PySem.W.fnOf "_law_letters" "_law_letters" (defArgs s_law_letters) (defBody s_law_letters) (defScope s_law_letters) .none kV_law_letters dc_law_letters pm_law_letters an_law_letters cd_law_letters ct_law_letters), sl_law_letters⟩)
    (c_law_letters : PySem.W.codeIn K cd_law_letters "_law_letters" = true)
    (k_law_letters : PySem.W.keepIn K (.ref f_law_letters) = true)
    (a_law_signs : PySem.W.nsIn K mainGlobals "_law_signs" = some (some (.ref f_law_signs)))
    (l_law_signs : K.lookup f_law_signs = some ⟨oc_law_signs, od_law_signs, .func (PySem.W.fnOf "_law_signs" "_law_signs" (defArgs s_law_signs) (defBody s_law_signs) (defScope s_law_signs) .none kV_law_signs dc_law_signs pm_law_signs an_law_signs cd_law_signs ct_law_signs), sl_law_signs⟩)
    (c_law_signs : PySem.W.codeIn K cd_law_signs "_law_signs" = true)
    (k_law_signs : PySem.W.keepIn K (.ref f_law_signs) = true)
    (a_law_called : PySem.W.nsIn K mainGlobals "_law_called" = some (some (.ref f_law_called)))
    (l_law_called : K.lookup f_law_called = some ⟨oc_law_called, od_law_called, .func (PySem.W.fnOf "_law_called" "_law_called" (defArgs s_law_called) (defBody s_law_called) (defScope s_law_called) .none kV_law_called dc_law_called pm_law_called an_law_called cd_law_called ct_law_called), sl_law_called⟩)
    (c_law_called : PySem.W.codeIn K cd_law_called "_law_called" = true)
    (k_law_called : PySem.W.keepIn K (.ref f_law_called) = true)
    (a_law_odd : PySem.W.nsIn K mainGlobals "_law_odd" = some (some (.ref f_law_odd)))
    (l_law_odd : K.lookup f_law_odd = some ⟨oc_law_odd, od_law_odd, .func (PySem.W.fnOf "_law_odd" "_law_odd" (defArgs s_law_odd) (defBody s_law_odd) (defScope s_law_odd) .none kV_law_odd dc_law_odd pm_law_odd an_law_odd cd_law_odd ct_law_odd), sl_law_odd⟩)
    (c_law_odd : PySem.W.codeIn K cd_law_odd "_law_odd" = true)
    (k_law_odd : PySem.W.keepIn K (.ref f_law_odd) = true)
    (a_law_is_count : PySem.W.nsIn K mainGlobals "_law_is_count" = some (some (.ref f_law_is_count)))
    (l_law_is_count : K.lookup f_law_is_count = some ⟨oc_law_is_count, od_law_is_count, .func (PySem.W.fnOf "_law_is_count" "_law_is_count" (defArgs s_law_is_count) (defBody s_law_is_count) (defScope s_law_is_count) .none kV_law_is_count dc_law_is_count pm_law_is_count an_law_is_count cd_law_is_count ct_law_is_count), sl_law_is_count⟩)
    (c_law_is_count : PySem.W.codeIn K cd_law_is_count "_law_is_count" = true)
    (k_law_is_count : PySem.W.keepIn K (.ref f_law_is_count) = true)
    (a_law_is_called : PySem.W.nsIn K mainGlobals "_law_is_called" = some (some (.ref f_law_is_called)))
    (l_law_is_called : K.lookup f_law_is_called = some ⟨oc_law_is_called, od_law_is_called, .func (PySem.W.fnOf "_law_is_called" "_law_is_called" (defArgs s_law_is_called) (defBody s_law_is_called) (defScope s_law_is_called) .none kV_law_is_called dc_law_is_called pm_law_is_called an_law_is_called cd_law_is_called ct_law_is_called), sl_law_is_called⟩)
    (c_law_is_called : PySem.W.codeIn K cd_law_is_called "_law_is_called" = true)
    (k_law_is_called : PySem.W.keepIn K (.ref f_law_is_called) = true)
    (a_law_is_dealt : PySem.W.nsIn K mainGlobals "_law_is_dealt" = some (some (.ref f_law_is_dealt)))
    (l_law_is_dealt : K.lookup f_law_is_dealt = some ⟨oc_law_is_dealt, od_law_is_dealt, .func (PySem.W.fnOf "_law_is_dealt" "_law_is_dealt" (defArgs s_law_is_dealt) (defBody s_law_is_dealt) (defScope s_law_is_dealt) .none kV_law_is_dealt dc_law_is_dealt pm_law_is_dealt an_law_is_dealt cd_law_is_dealt ct_law_is_dealt), sl_law_is_dealt⟩)
    (c_law_is_dealt : PySem.W.codeIn K cd_law_is_dealt "_law_is_dealt" = true)
    (k_law_is_dealt : PySem.W.keepIn K (.ref f_law_is_dealt) = true)
    (a_law_is_span : PySem.W.nsIn K mainGlobals "_law_is_span" = some (some (.ref f_law_is_span)))
    (l_law_is_span : K.lookup f_law_is_span = some ⟨oc_law_is_span, od_law_is_span, .func (PySem.W.fnOf "_law_is_span" "_law_is_span" (defArgs s_law_is_span) (defBody s_law_is_span) (defScope s_law_is_span) .none kV_law_is_span dc_law_is_span pm_law_is_span an_law_is_span cd_law_is_span ct_law_is_span), sl_law_is_span⟩)
    (c_law_is_span : PySem.W.codeIn K cd_law_is_span "_law_is_span" = true)
    (k_law_is_span : PySem.W.keepIn K (.ref f_law_is_span) = true)
    (a_law_near_name : PySem.W.nsIn K mainGlobals "_law_near_name" = some (some (.ref f_law_near_name)))
    (l_law_near_name : K.lookup f_law_near_name = some ⟨oc_law_near_name, od_law_near_name, .func (PySem.W.fnOf "_law_near_name" "_law_near_name" (defArgs s_law_near_name) (defBody s_law_near_name) (defScope s_law_near_name) .none kV_law_near_name dc_law_near_name pm_law_near_name an_law_near_name cd_law_near_name ct_law_near_name), sl_law_near_name⟩)
    (c_law_near_name : PySem.W.codeIn K cd_law_near_name "_law_near_name" = true)
    (k_law_near_name : PySem.W.keepIn K (.ref f_law_near_name) = true)
    (a_law_near_deal : PySem.W.nsIn K mainGlobals "_law_near_deal" = some (some (.ref f_law_near_deal)))
    (l_law_near_deal : K.lookup f_law_near_deal = some ⟨oc_law_near_deal, od_law_near_deal, .func (PySem.W.fnOf "_law_near_deal" "_law_near_deal" (defArgs s_law_near_deal) (defBody s_law_near_deal) (defScope s_law_near_deal) .none kV_law_near_deal dc_law_near_deal pm_law_near_deal an_law_near_deal cd_law_near_deal ct_law_near_deal), sl_law_near_deal⟩)
    (c_law_near_deal : PySem.W.codeIn K cd_law_near_deal "_law_near_deal" = true)
    (k_law_near_deal : PySem.W.keepIn K (.ref f_law_near_deal) = true)
    (a_law_near_span : PySem.W.nsIn K mainGlobals "_law_near_span" = some (some (.ref f_law_near_span)))
    (l_law_near_span : K.lookup f_law_near_span = some ⟨oc_law_near_span, od_law_near_span, .func (PySem.W.fnOf "_law_near_span" "_law_near_span" (defArgs s_law_near_span) (defBody s_law_near_span) (defScope s_law_near_span) .none kV_law_near_span dc_law_near_span pm_law_near_span an_law_near_span cd_law_near_span ct_law_near_span), sl_law_near_span⟩)
    (c_law_near_span : PySem.W.codeIn K cd_law_near_span "_law_near_span" = true)
    (k_law_near_span : PySem.W.keepIn K (.ref f_law_near_span) = true)
    (a_law : PySem.W.nsIn K mainGlobals "law" = some (some (.ref f_law)))
    (l_law : K.lookup f_law = some ⟨oc_law, od_law, .func (PySem.W.fnOf "law" "law" (defArgs s_law) (defBody s_law) (defScope s_law) .none kV_law dc_law pm_law an_law cd_law ct_law), sl_law⟩)
    (c_law : PySem.W.codeIn K cd_law "law" = true)
    (k_law : PySem.W.keepIn K (.ref f_law) = true)
    (aC : PySem.W.nsIn K mainGlobals "Box" = some (some (.ref CB)))
    (aI : PySem.W.findIn K (.ref CB) "__init__" = some (some (.ref fI)))
    (iI : PySem.W.isFn K (.ref fI) = true)
    (lI : K.lookup fI = some ⟨ocI, odI, .func (PySem.W.fnOf "__init__" "Box.__init__" (defArgs s_Box_init) (defBody s_Box_init) (defScope s_Box_init) (.ref TD) kVI dcI pmI anI cdI ctI), slI⟩)
    (cI : PySem.W.codeIn K cdI "Box.__init__" = true)
    (kI : PySem.W.keepIn K (.ref fI) = true)
    (lD : K.lookup TD = some ⟨ocD, odD, .seq [Value.none, Value.none, Value.ref t1, Value.ref t2].toArray nD, slD⟩)
    (l1 : K.lookup t1 = some ⟨.type "tuple", od1, .seq [Value.int 0 tk1, Value.none].toArray n1, sl1⟩)
    (l2 : K.lookup t2 = some ⟨.type "tuple", od2, .seq [Value.int 0 tk2, Value.none].toArray n2, sl2⟩)
    (pg : PySem.W.plainGet K CB Str.empty = true)
    (hd : PySem.W.hasDictIn K CB = true)
    (po : PySem.W.plainOver K CB = true)
    (sa : PySem.W.findIn K (.ref CB) "__setattr__" = some (some (.builtin "object.__setattr__")))
    (mk : PySem.W.makesIn K CB = true)
    (kc : PySem.W.keepIn K (.ref CB) = true)
    (nS : PySem.W.findIn K (.ref CB) "sides" = some none)
    (ha : PySem.W.findIn K (.ref CB) "__class__" = some (some (.builtin "object.__class__")))
    (hn : PySem.W.specialIn K (.builtin "object.__class__") "__get__" = some (some (.builtin "getset_descriptor.__get__")))
    (htk : PySem.W.takesIn K (.builtin "object.__class__") = some true)
    (hm : PySem.W.mroIn K CB (.type "object") = some true)
    (u_int : PySem.W.subIn K (.ref CB) (.type "int") = some false)
    (u_bool : PySem.W.subIn K (.ref CB) (.type "bool") = some false)
    (u_str : PySem.W.subIn K (.ref CB) (.type "str") = some false)
    (u_list : PySem.W.subIn K (.ref CB) (.type "list") = some false)
    (u_tuple : PySem.W.subIn K (.ref CB) (.type "tuple") = some false)
    (u_dict : PySem.W.subIn K (.ref CB) (.type "dict") = some false)
    (z_abs : PySem.W.nsIn K mainGlobals "abs" = some none)
    (z_all : PySem.W.nsIn K mainGlobals "all" = some none)
    (z_bool : PySem.W.nsIn K mainGlobals "bool" = some none)
    (z_int : PySem.W.nsIn K mainGlobals "int" = some none)
    (z_isinstance : PySem.W.nsIn K mainGlobals "isinstance" = some none)
    (z_len : PySem.W.nsIn K mainGlobals "len" = some none)
    (z_list : PySem.W.nsIn K mainGlobals "list" = some none)
    (z_min : PySem.W.nsIn K mainGlobals "min" = some none)
    (z_range : PySem.W.nsIn K mainGlobals "range" = some none)
    (z_repr : PySem.W.nsIn K mainGlobals "repr" = some none)
    (z_str : PySem.W.nsIn K mainGlobals "str" = some none)
    (z_tuple : PySem.W.nsIn K mainGlobals "tuple" = some none) :
    codeAny (model P w) callerA (.call (.ref fa) ⟨[.ref sc], []⟩) (CR CX0 [] P w H s (fun v _ => v = .bl true) E0) s := by
  have e := hfa.symm.trans (PySem.W.mg_of X G a_law)
  cases e
  have cls : Cls K CB := ⟨pg, hd, po, sa⟩
  have insp : InsP K CB := ⟨⟨cls, ha, hn, htk, hm⟩, fun T hT => by
    have hT' : T = "int" ∨ T = "bool" ∨ T = "str" ∨ T = "list" ∨ T = "tuple" ∨ T = "dict" := by simpa [six] using hT
    rcases hT' with rfl | rfl | rfl | rfl | rfl | rfl
    · exact kit_no (by decide +kernel) u_int
    · exact kit_no (by decide +kernel) u_bool
    · exact kit_no (by decide +kernel) u_str
    · exact kit_no (by decide +kernel) u_list
    · exact kit_no (by decide +kernel) u_tuple
    · exact kit_no (by decide +kernel) u_dict⟩
  have T : Txt K mg ({is_number := f_is_number, d_is_number := _, is_count := f_is_count, d_is_count := _, is_name := f_is_name, d_is_name := _, is_sale := f_is_sale, d_is_sale := _, is_stretch := f_is_stretch, d_is_stretch := _, is_name_or_all := f_is_name_or_all, d_is_name_or_all := _, law_begun := f_law_begun, d_law_begun := _, law_draw := f_law_draw, d_law_draw := _, law_pick := f_law_pick, d_law_pick := _, law_letters := f_law_letters, d_law_letters := _, law_signs := f_law_signs, d_law_signs := _, law_called := f_law_called, d_law_called := _, law_odd := f_law_odd, d_law_odd := _, law_is_count := f_law_is_count, d_law_is_count := _, law_is_called := f_law_is_called, d_law_is_called := _, law_is_dealt := f_law_is_dealt, d_law_is_dealt := _, law_is_span := f_law_is_span, d_law_is_span := _, law_near_name := f_law_near_name, d_law_near_name := _, law_near_deal := f_law_near_deal, d_law_near_deal := _, law_near_span := f_law_near_span, d_law_near_span := _, Box := CB, Box_init := fI, d_Box_init := _, t1 := t1, t2 := t2} : Ad) := { n_abs := PySem.W.mg_none_of X G z_abs,  n_all := PySem.W.mg_none_of X G z_all,  n_bool := PySem.W.mg_none_of X G z_bool,  n_int := PySem.W.mg_none_of X G z_int,  n_isinstance := PySem.W.mg_none_of X G z_isinstance,  n_len := PySem.W.mg_none_of X G z_len,  n_list := PySem.W.mg_none_of X G z_list,  n_min := PySem.W.mg_none_of X G z_min,  n_range := PySem.W.mg_none_of X G z_range,  n_repr := PySem.W.mg_none_of X G z_repr,  n_str := PySem.W.mg_none_of X G z_str,  n_tuple := PySem.W.mg_none_of X G z_tuple,  m_is_number := PySem.W.mg_of X G a_is_number, F_is_number := fun_mk (st := s_is_number) l_is_number c_is_number k_is_number,  m_is_count := PySem.W.mg_of X G a_is_count, F_is_count := fun_mk (st := s_is_count) l_is_count c_is_count k_is_count,  m_is_name := PySem.W.mg_of X G a_is_name, F_is_name := fun_mk (st := s_is_name) l_is_name c_is_name k_is_name,  m_is_sale := PySem.W.mg_of X G a_is_sale, F_is_sale := fun_mk (st := s_is_sale) l_is_sale c_is_sale k_is_sale,  m_is_stretch := PySem.W.mg_of X G a_is_stretch, F_is_stretch := fun_mk (st := s_is_stretch) l_is_stretch c_is_stretch k_is_stretch,  m_is_name_or_all := PySem.W.mg_of X G a_is_name_or_all, F_is_name_or_all := fun_mk (st := s_is_name_or_all) l_is_name_or_all c_is_name_or_all k_is_name_or_all,  m_law_begun := PySem.W.mg_of X G a_law_begun, F_law_begun := fun_mk (st := s_law_begun) l_law_begun c_law_begun k_law_begun,  m_law_draw := PySem.W.mg_of X G a_law_draw, F_law_draw := fun_mk (st := s_law_draw) l_law_draw c_law_draw k_law_draw,  m_law_pick := PySem.W.mg_of X G a_law_pick, F_law_pick := fun_mk (st := s_law_pick) l_law_pick c_law_pick k_law_pick,  m_law_letters := PySem.W.mg_of X G a_law_letters, F_law_letters := fun_mk (st := s_law_letters) l_law_letters c_law_letters k_law_letters,  m_law_signs := PySem.W.mg_of X G a_law_signs, F_law_signs := fun_mk (st := s_law_signs) l_law_signs c_law_signs k_law_signs,  m_law_called := PySem.W.mg_of X G a_law_called, F_law_called := fun_mk (st := s_law_called) l_law_called c_law_called k_law_called,  m_law_odd := PySem.W.mg_of X G a_law_odd, F_law_odd := fun_mk (st := s_law_odd) l_law_odd c_law_odd k_law_odd,  m_law_is_count := PySem.W.mg_of X G a_law_is_count, F_law_is_count := fun_mk (st := s_law_is_count) l_law_is_count c_law_is_count k_law_is_count,  m_law_is_called := PySem.W.mg_of X G a_law_is_called, F_law_is_called := fun_mk (st := s_law_is_called) l_law_is_called c_law_is_called k_law_is_called,  m_law_is_dealt := PySem.W.mg_of X G a_law_is_dealt, F_law_is_dealt := fun_mk (st := s_law_is_dealt) l_law_is_dealt c_law_is_dealt k_law_is_dealt,  m_law_is_span := PySem.W.mg_of X G a_law_is_span, F_law_is_span := fun_mk (st := s_law_is_span) l_law_is_span c_law_is_span k_law_is_span,  m_law_near_name := PySem.W.mg_of X G a_law_near_name, F_law_near_name := fun_mk (st := s_law_near_name) l_law_near_name c_law_near_name k_law_near_name,  m_law_near_deal := PySem.W.mg_of X G a_law_near_deal, F_law_near_deal := fun_mk (st := s_law_near_deal) l_law_near_deal c_law_near_deal k_law_near_deal,  m_law_near_span := PySem.W.mg_of X G a_law_near_span, F_law_near_span := fun_mk (st := s_law_near_span) l_law_near_span c_law_near_span k_law_near_span, m_Box := PySem.W.mg_of X G aC, M_Box := ⟨mk, aI, iI, kc⟩, C_Box := cls, NA_Box := nS, I_Box := insp, FD_Box := ⟨⟨ocI, odI, .ref TD, kVI, dcI, pmI, anI, cdI, ctI, slI, rfl, lI, cI, .inr ⟨List.cons_ne_nil _ _, TD, _, _, nD, rfl, lD, rfl, .cons rfl (.cons rfl (.cons rfl (.cons rfl .nil)))⟩, .inl rfl⟩, kI⟩, T1 := ⟨_, _, n1, l1, rfl, rfl, by (show 2 ≤ sizeLine); decide, .cons ⟨_, rfl⟩ (.cons rfl .nil)⟩, T2 := ⟨_, _, n2, l2, rfl, rfl, by (show 2 ≤ sizeLine); decide, .cons ⟨_, rfl⟩ (.cons rfl .nil)⟩}
  have F := fun_mk (st := s_law) l_law c_law k_law
  exact law_runs T F e0 hl hR (law_binds F s _)
end My

set_option Elab.async false

open PySem PySem.W PyProof.Rows in
set_option maxRecDepth 100000 in
set_option maxHeartbeats 0 in
theorem PySem.Challenge.cw_rowsmeet_k01_names_sales_and_stretches_holds : PySem.Challenge.rw_rowsmeet_k01_names_sales_and_stretches.Holds := by
  w_on; o_law; k_head; (case hw => w_witness2)
  k_fill
  refine DL.walk_law (l := PySem.Challenge.rw_rowsmeet_k01_names_sales_and_stretches) rfl (by decide) rfl (fun w h Y => PySem.W.kIn_of Y) ?F
  case F =>
    intro w mg fa h a ns KX G hmg hlen base H s e0 hR
    refine' My.done KX G hmg e0 hlen hR ?a_is_number ?l_is_number ?c_is_number ?k_is_number ?a_is_count ?l_is_count ?c_is_count ?k_is_count ?a_is_name ?l_is_name ?c_is_name ?k_is_name ?a_is_sale ?l_is_sale ?c_is_sale ?k_is_sale ?a_is_stretch ?l_is_stretch ?c_is_stretch ?k_is_stretch ?a_is_name_or_all ?l_is_name_or_all ?c_is_name_or_all ?k_is_name_or_all ?a_law_begun ?l_law_begun ?c_law_begun ?k_law_begun ?a_law_draw ?l_law_draw ?c_law_draw ?k_law_draw ?a_law_pick ?l_law_pick ?c_law_pick ?k_law_pick ?a_law_letters ?l_law_letters ?c_law_letters ?k_law_letters ?a_law_signs ?l_law_signs ?c_law_signs ?k_law_signs ?a_law_called ?l_law_called ?c_law_called ?k_law_called ?a_law_odd ?l_law_odd ?c_law_odd ?k_law_odd ?a_law_is_count ?l_law_is_count ?c_law_is_count ?k_law_is_count ?a_law_is_called ?l_law_is_called ?c_law_is_called ?k_law_is_called ?a_law_is_dealt ?l_law_is_dealt ?c_law_is_dealt ?k_law_is_dealt ?a_law_is_span ?l_law_is_span ?c_law_is_span ?k_law_is_span ?a_law_near_name ?l_law_near_name ?c_law_near_name ?k_law_near_name ?a_law_near_deal ?l_law_near_deal ?c_law_near_deal ?k_law_near_deal ?a_law_near_span ?l_law_near_span ?c_law_near_span ?k_law_near_span ?a_law ?l_law ?c_law ?k_law ?aC ?aI ?iI ?lI ?cI ?kI ?lD ?l1 ?l2 ?pg ?hd ?po ?sa ?mk ?kc ?nS ?ha ?hn ?htk ?hm ?u_int ?u_bool ?u_str ?u_list ?u_tuple ?u_dict ?z_abs ?z_all ?z_bool ?z_int ?z_isinstance ?z_len ?z_list ?z_min ?z_range ?z_repr ?z_str ?z_tuple
    (case a_is_number => k_is)
    (case l_is_number => k_is)
    (case c_is_number => k_is)
    (case k_is_number => k_is)
    (case a_is_count => k_is)
    (case l_is_count => k_is)
    (case c_is_count => k_is)
    (case k_is_count => k_is)
    (case a_is_name => k_is)
    (case l_is_name => k_is)
    (case c_is_name => k_is)
    (case k_is_name => k_is)
    (case a_is_sale => k_is)
    (case l_is_sale => k_is)
    (case c_is_sale => k_is)
    (case k_is_sale => k_is)
    (case a_is_stretch => k_is)
    (case l_is_stretch => k_is)
    (case c_is_stretch => k_is)
    (case k_is_stretch => k_is)
    (case a_is_name_or_all => k_is)
    (case l_is_name_or_all => k_is)
    (case c_is_name_or_all => k_is)
    (case k_is_name_or_all => k_is)
    (case a_law_begun => k_is)
    (case l_law_begun => k_is)
    (case c_law_begun => k_is)
    (case k_law_begun => k_is)
    (case a_law_draw => k_is)
    (case l_law_draw => k_is)
    (case c_law_draw => k_is)
    (case k_law_draw => k_is)
    (case a_law_pick => k_is)
    (case l_law_pick => k_is)
    (case c_law_pick => k_is)
    (case k_law_pick => k_is)
    (case a_law_letters => k_is)
    (case l_law_letters => k_is)
    (case c_law_letters => k_is)
    (case k_law_letters => k_is)
    (case a_law_signs => k_is)
    (case l_law_signs => k_is)
    (case c_law_signs => k_is)
    (case k_law_signs => k_is)
    (case a_law_called => k_is)
    (case l_law_called => k_is)
    (case c_law_called => k_is)
    (case k_law_called => k_is)
    (case a_law_odd => k_is)
    (case l_law_odd => k_is)
    (case c_law_odd => k_is)
    (case k_law_odd => k_is)
    (case a_law_is_count => k_is)
    (case l_law_is_count => k_is)
    (case c_law_is_count => k_is)
    (case k_law_is_count => k_is)
    (case a_law_is_called => k_is)
    (case l_law_is_called => k_is)
    (case c_law_is_called => k_is)
    (case k_law_is_called => k_is)
    (case a_law_is_dealt => k_is)
    (case l_law_is_dealt => k_is)
    (case c_law_is_dealt => k_is)
    (case k_law_is_dealt => k_is)
    (case a_law_is_span => k_is)
    (case l_law_is_span => k_is)
    (case c_law_is_span => k_is)
    (case k_law_is_span => k_is)
    (case a_law_near_name => k_is)
    (case l_law_near_name => k_is)
    (case c_law_near_name => k_is)
    (case k_law_near_name => k_is)
    (case a_law_near_deal => k_is)
    (case l_law_near_deal => k_is)
    (case c_law_near_deal => k_is)
    (case k_law_near_deal => k_is)
    (case a_law_near_span => k_is)
    (case l_law_near_span => k_is)
    (case c_law_near_span => k_is)
    (case k_law_near_span => k_is)
    (case a_law => k_is)
    (case l_law => k_is)
    (case c_law => k_is)
    (case k_law => k_is)
    (case aC => k_is)
    (case aI => k_is)
    (case iI => k_is)
    (case lI => k_is)
    (case cI => k_is)
    (case kI => k_is)
    (case lD => k_is)
    (case l1 => k_is)
    (case l2 => k_is)
    (case pg => k_is)
    (case hd => k_is)
    (case po => k_is)
    (case sa => k_is)
    (case mk => k_is)
    (case kc => k_is)
    (case nS => k_is)
    (case ha => k_is)
    (case hn => k_is)
    (case htk => k_is)
    (case hm => k_is)
    (case u_int => k_is)
    (case u_bool => k_is)
    (case u_str => k_is)
    (case u_list => k_is)
    (case u_tuple => k_is)
    (case u_dict => k_is)
    (case z_abs => k_is)
    (case z_all => k_is)
    (case z_bool => k_is)
    (case z_int => k_is)
    (case z_isinstance => k_is)
    (case z_len => k_is)
    (case z_list => k_is)
    (case z_min => k_is)
    (case z_range => k_is)
    (case z_repr => k_is)
    (case z_str => k_is)
    (case z_tuple => k_is)

