import PyProof.Rows.All
import Wide.All
import OpenK.AllK
import Wide.FinOn
import Lean
import PyProof.EqAt
import PyProof.EqKinds
import PyProof.TupleCall
import KE.KSortTup
import PyProof.EnumMake
import PyProof.EnumStmt
import PyProof.ListRange
import KE.KDictList
import PyProof.Toks
import PyProof.FString4
import PyProof.StrLawsRepr
import PyProof.FitsReplace
import PyProof.ExcClass3
import PyProof.RulesAs
import PyProof.RaisesMany
import PyProof.InstStore
import PyProof.InstStoreFacts
import PyProof.ExcBaseAll.ValueError
import PyProof.ExcArgs
import PyProof.InstLoad
import PyProof.ExcAttrAll.ValueError
import KE.KIsAll
import PySem.Challenge.RW_pricecover_k03_no_term
set_option Elab.async false
set_option bootstrap.genMatcherCode false
set_option linter.all false
set_option maxRecDepth 100000
set_option maxHeartbeats 4000000
namespace L2
open PySem PySem.Spec PyProof.Rows
abbrev Key := Sum Int Str
noncomputable def keyIs : Key → Value → Bool
 | .inl k, v => Value.isInt k v
 | .inr x, v => Value.isStrOf x v
noncomputable def keyH (w : World) : Key → Int
 | .inl k => hashInt k
 | .inr x => hashStr w x
theorem keyIs_shape : ∀ {k : Key} {v : Value}, keyIs k v = true → (∃ i t, k = Sum.inl i ∧ v = Value.int i t) ∨ (∃ x t, k = Sum.inr x ∧ v = Value.str x t)
 | .inl i, v, h => by
  obtain ⟨t, e⟩ := Value.isInt_shape (k := i) (v := v) h
  exact .inl ⟨i, t, rfl, e⟩
 | .inr x, v, h => by
  obtain ⟨t, e⟩ := Value.isStrOf_shape (x := x) (v := v) h
  exact .inr ⟨x, t, rfl, e⟩
theorem keyIs_int (i : Int) (t : Tok) : keyIs (.inl i) (.int i t) = true := by simp [keyIs, Value.isInt]
theorem keyIs_str (x : Str) (t : Tok) : keyIs (.inr x) (.str x t) = true := by simp [keyIs, Value.isStrOf]
theorem key_ll (a b : Int) : decide ((Sum.inl a : Key) = Sum.inl b) = (a == b) := by
 by_cases e : a = b
 ·subst e; simp
 ·have h : ¬ (Sum.inl a : Key) = Sum.inl b := fun q => e (Sum.inl.inj q)
  rw [decide_eq_false h]
  exact (beq_eq_false_iff_ne.mpr e).symm
theorem key_rr (a b : Str) : decide ((Sum.inr a : Key) = Sum.inr b) = decide (a = b) := by
 by_cases e : a = b
 ·subst e; simp
 ·have h : ¬ (Sum.inr a : Key) = Sum.inr b := fun q => e (Sum.inr.inj q)
  rw [decide_eq_false h, decide_eq_false e]
theorem key_lr (a : Int) (b : Str) : decide ((Sum.inl a : Key) = Sum.inr b) = false := decide_eq_false (fun q => nomatch q)
theorem key_rl (a : Str) (b : Int) : decide ((Sum.inr a : Key) = Sum.inl b) = false := decide_eq_false (fun q => nomatch q)
noncomputable def mixKind (prog : Program) (w : World) : PySem.KeyKind prog w Key where
 is := keyIs
 hash := keyH w
 inj := fun v a b ha hb => by
  rcases keyIs_shape ha with ⟨i, t, rfl, rfl⟩ | ⟨x, t, rfl, rfl⟩
  ·rcases keyIs_shape hb with ⟨j, u, rfl, e⟩ | ⟨y, u, rfl, e⟩
   ·injection e with e1 _; rw [e1]
   ·exact nomatch e
  ·rcases keyIs_shape hb with ⟨j, u, rfl, e⟩ | ⟨y, u, rfl, e⟩
   ·exact nomatch e
   ·injection e with e1 _; rw [e1]
 byValue := fun k v h => by
  rcases keyIs_shape h with ⟨i, t, rfl, rfl⟩ | ⟨x, t, rfl, rfl⟩ <;> rfl
 pyHash := fun hv h => by
  rcases keyIs_shape hv with ⟨i, t, rfl, rfl⟩ | ⟨x, t, rfl, rfl⟩
  ·exact wpAny_pyHash_int h
  ·exact wpAny_pyHash_str h
 eqBool := fun hu hv h => by
  rcases keyIs_shape hu with ⟨i, t, rfl, rfl⟩ | ⟨x, t, rfl, rfl⟩
  ·rcases keyIs_shape hv with ⟨j, u, rfl, rfl⟩ | ⟨y, u, rfl, rfl⟩
   ·rw [key_ll] at h; exact wpAny_eqBool_int h
   ·rw [key_lr] at h; exact SeqAt.EqAt.int_str i t y u _ _ _ _ h
  ·rcases keyIs_shape hv with ⟨j, u, rfl, rfl⟩ | ⟨y, u, rfl, rfl⟩
   ·rw [key_rl] at h; exact SeqAt.EqAt.str_int x t j u _ _ _ _ h
   ·rw [key_rr] at h; exact wpAny_eqBool_str h
 «strs» := fun k x t v h => by
  rcases keyIs_shape h with ⟨i, u, rfl, e⟩ | ⟨y, u, rfl, e⟩
  ·exact nomatch e
  ·injection e with e1 _
   subst e1
   cases v <;> rfl
theorem mixKind_int (prog : Program) (w : World) (i : Int) (t : Tok) : (mixKind prog w).is (.inl i) (.int i t) = true := keyIs_int i t
theorem mixKind_str (prog : Program) (w : World) (x : Str) (t : Tok) : (mixKind prog w).is (.inr x) (.str x t) = true := keyIs_str x t
end L2
namespace L2
open PySem PySem.Spec PyProof.Rows
inductive V where
 | non | bl (b : Bool) | int (i : Int) | str (x : Str) | byt (b : Array UInt8) | flt (b : UInt64) | ref (a : Addr) | ty (n : String)
 deriving DecidableEq
def RelV : V → Value → Prop
 | .non, u => u = Value.none
 | .bl b, u => u = Value.bool b
 | .int i, u => ∃ t, u = Value.int i t
 | .str x, u => ∃ t, u = Value.str x t
 | .byt b, u => ∃ t, u = Value.bytes b t
 | .flt b, u => ∃ t, u = Value.float b t
 | .ref a, u => u = Value.ref a
 | .ty n, u => u = Value.type n
abbrev Vals : List V → List Value → Prop := Paired RelV
theorem Vals.length {xs : List V} {us : List Value} (r : Vals xs us) : xs.length = us.length := Paired.length r
theorem Vals.get : ∀ {xs : List V} {us : List Value} {i : Nat} {x : V}, Vals xs us → xs[i]? = some x → ∃ u, us[i]? = some u ∧ RelV x u
 | _, _, _, _, .nil, e => by simp at e
 | _, _, 0, _, .cons r _, e => by simp at e; subst e; exact ⟨_, rfl, r⟩
 | _, _, i + 1, x, .cons _ t, e => by
  obtain ⟨u, h1, h2⟩ := Vals.get (i := i) (x := x) t (by simpa using e)
  exact ⟨u, by simpa using h1, h2⟩
theorem Vals.set {x : V} {u : Value} (r : RelV x u) : ∀ {xs : List V} {us : List Value} (i : Nat), Vals xs us → Vals (xs.set i x) (us.set i u)
 | _, _, _, .nil => .nil
 | _, _, 0, .cons _ t => .cons r t
 | _, _, i + 1, .cons q t => .cons q (Vals.set r i t)
theorem Vals.append : ∀ {xs ys : List V} {us ws : List Value}, Vals xs us → Vals ys ws → Vals (xs ++ ys) (us ++ ws)
 | _, _, _, _, .nil, s => s
 | _, _, _, _, .cons r t, s => .cons r (Vals.append t s)
theorem Vals.take : ∀ {xs : List V} {us : List Value} (n : Nat), Vals xs us → Vals (xs.take n) (us.take n)
 | _, _, 0, _ => .nil
 | _, _, _ + 1, .nil => .nil
 | _, _, n + 1, .cons r t => .cons r (Vals.take n t)
theorem Vals.drop : ∀ {xs : List V} {us : List Value} (n : Nat), Vals xs us → Vals (xs.drop n) (us.drop n)
 | _, _, 0, r => r
 | _, _, _ + 1, .nil => .nil
 | _, _, n + 1, .cons _ t => Vals.drop n t
def RelO : Option V → Option Value → Prop
 | some v, some u => RelV v u
 | none, none => True
 | _, _ => False
def KV {κ : Type} : List (κ × V) → List (κ × Value) → Prop := Paired fun (p : κ × V) (q : κ × Value) => p.1 = q.1 ∧ RelV p.2 q.2
noncomputable def kV : Key → V
 | .inl i => .int i
 | .inr x => .str x
inductive HO where
  | lst (xs : List V)
  | tup (xs : List V)
  | dK (kvs : List (Key × V)) | dT (kvs : List (List Key × V))
  | set (S : Int → Bool) (n : Nat)
  | ins (C dx : Addr) (fs : List (Str × V))
  | own (x : Addr)
  | xd (fs : List (Str × V))
  | met (f x : Addr)
  | rng (lo hi : Int)
  | frz (o : Obj) (u : HO)
  | tbl (ps : Array Value)
  | ext (φ : Heap → Prop)
abbrev Hp := Addr → Option HO
noncomputable def upd (H : Hp) (a : Addr) (o : HO) : Hp := fun b => if b = a then some o else H b
theorem upd_same {H : Hp} {a : Addr} {o : HO} : upd H a o a = some o := by unfold upd; rw [if_pos rfl]
theorem upd_ne {H : Hp} {a b : Addr} {o : HO} (h : b ≠ a) : upd H a o b = H b := by unfold upd; rw [if_neg h]
theorem ne_of {H : Hp} {a b : Addr} {o u : HO} (h : H a = some o) (h' : H b = some u) (d : o ≠ u) : a ≠ b := by
 intro e; subst e; rw [h] at h'; exact d (Option.some.inj h')
theorem ne_of_none {H : Hp} {a b : Addr} {o : HO} (h : H a = some o) (h' : H b = none) : a ≠ b := by
 intro e; subst e; rw [h] at h'; cases h'
section
variable (P : Program) (w : World)
def IsTupD (h : Heap) (a : Addr) (its : Array Value) : Prop := ∃ o, h.get? a = some o ∧ o.cls = .type "tuple" ∧ ∃ n, o.data = .seq its n ∧ o.dict = none
theorem IsTupD.tup {h : Heap} {a : Addr} {its : Array Value} (x : IsTupD h a its) : IsTup h a its := let ⟨o, h1, h2, n, h3, _⟩ := x; ⟨o, h1, h2, n, h3⟩
def ObjOk (H : Hp) (h : Heap) (a : Addr) : HO → Prop
 | .lst xs => xs.length ≤ sizeLine ∧ ∃ (its : List Value) (n : Nat), Vals xs its ∧ h.get? a = some { cls := .type "list", data := .seq its.toArray n }
 | .tup xs => xs.length ≤ sizeLine ∧ ∃ its : List Value, Vals xs its ∧ IsTupD h a its.toArray
 | .dK kvs => kvs.length ≤ sizeLine ∧ (a == sysModules) = false ∧ ∃ vs, KV kvs vs ∧ h.DictOf (mixKind P w) a vs
 | .dT kvs => kvs.length ≤ sizeLine ∧ (a == sysModules) = false ∧ ∃ xs : List (List Key × Addr × Value),
   Paired (fun (p : List Key × V) (q : List Key × Addr × Value) => p.1 = q.1 ∧ H q.2.1 = some (.tup (p.1.map kV)) ∧ RelV p.2 q.2.2) kvs xs ∧
   ∃ o es ep, h.get? a = some o ∧ o.ExactDict ∧ o.data = .dict es ep ∧ es.toList = xs.map (entryOfKey (tupleKind (mixKind P w))) ∧ (xs.map (·.1)).Nodup
 | .set S n => h.SetOf (intKind P w) a S n
 | .ins C dx fs => H dx = some (.own a) ∧ fs.length ≤ 1000 ∧ dx ≠ a ∧ h.get? a = some (PySem.W.instObj C dx) ∧
   ∃ mA, h.Ns1 dx mA ∧ (∀ f, RelO (fs.lookup f) (mA f)) ∧ PySem.Within mA (fs.map (·.1))
 | .own _ => ∃ o, h.get? a = some o
 | .xd fs => ∃ mA, h.Ns1 a mA ∧ ∀ f, RelO (fs.lookup f) (mA f)
 | .rng lo hi => ∃ t u v, h.get? a = some { cls := .type "range", data := .fields #[.int lo t, .int hi u, .int 1 v] }
 | .frz o u => h.get? a = some o ∧ ObjOk H h a u
 | .tbl ps => h.get? a = some { cls := .none, data := .fields ps }
 | .met f x => h.get? a = some (PySem.W.methodObj (.ref f) (.ref x))
 | .ext φ => φ h ∧ (∃ o, h.get? a = some o) ∧ ∀ h1 h2 : Heap, φ h1 → (∀ o, h1.get? a = some o → h2.get? a = some o) → φ h2
def HOk (H : Hp) (h : Heap) : Prop := ∀ a o, H a = some o → ObjOk P w H h a o
end
section
variable {P : Program} {w : World} {H H' : Hp} {h h' : Heap} {a : Addr} {o : HO}
theorem ObjOk.lt (x : ObjOk P w H h a o) : a < h.objs.size := by
 cases o with
 | lst xs => obtain ⟨_, _, _, _, e⟩ := x; exact Heap.lt_size e
 | tup xs => obtain ⟨_, _, _, p⟩ := x; exact p.tup.lt
 | dK kvs => obtain ⟨_, _, _, _, o, _, _, e, _⟩ := x; exact Heap.lt_size e
 | dT kvs => obtain ⟨_, _, _, _, o, _, _, e, _⟩ := x; exact Heap.lt_size e
 | set S n => obtain ⟨o, _, _, _, e, _⟩ := x; exact Heap.lt_size e
 | ins C dx fs => obtain ⟨_, _, _, e, _⟩ := x; exact Heap.lt_size e
 | own y => obtain ⟨_, e⟩ := x; exact Heap.lt_size e
 | xd fs => obtain ⟨_, ⟨_, _, _, e, _⟩, _⟩ := x; exact Heap.lt_size e
 | rng lo hi => obtain ⟨_, _, _, e⟩ := x; exact Heap.lt_size e
 | frz ob u => obtain ⟨e, _⟩ := x; exact Heap.lt_size e
 | tbl ps => exact Heap.lt_size (show h.get? a = some _ from x)
 | met f y => exact Heap.lt_size (show h.get? a = some _ from x)
 | ext φ => obtain ⟨_, ⟨_, e⟩, _⟩ := x; exact Heap.lt_size e
theorem Paired.mapP {α β : Type} {F G : α → β → Prop} : ∀ {l₁ : List α} {l₂ : List β}, Paired F l₁ l₂ → (∀ a b, F a b → G a b) → Paired G l₁ l₂
 | _, _, .nil, _ => .nil
 | _, _, .cons r t, f => .cons (f _ _ r) (Paired.mapP t f)
theorem ObjOk.stay (x : ObjOk P w H h a o) (k : ∀ b u, (b = a ∨ H b = some (.own a)) → h.get? b = some u → h'.get? b = some u)
  (ho : ∀ b, H b = some (.own a) → H' b = some (.own a)) (ht : ∀ b xs, H b = some (.tup xs) → H' b = some (.tup xs)) : ObjOk P w H' h' a o := by
 induction o with
 | lst xs => obtain ⟨z, its, n, r, e⟩ := x; exact ⟨z, its, n, r, k _ _ (.inl rfl) e⟩
 | tup xs => obtain ⟨z, its, r, ob, e, c⟩ := x; exact ⟨z, its, r, ob, k _ _ (.inl rfl) e, c⟩
 | dK kvs => obtain ⟨z, y, vs, r, ob, es, ep, e, c⟩ := x; exact ⟨z, y, vs, r, ob, es, ep, k _ _ (.inl rfl) e, c⟩
 | dT kvs =>
  obtain ⟨z, y, xs, r, ob, es, ep, e, c⟩ := x
  exact ⟨z, y, xs, Paired.mapP r fun p q z => ⟨z.1, ht _ _ z.2.1, z.2.2⟩, ob, es, ep, k _ _ (.inl rfl) e, c⟩
 | set S n => obtain ⟨ob, es, ep, t, e, c⟩ := x; exact ⟨ob, es, ep, t, k _ _ (.inl rfl) e, c⟩
 | ins C dx fs =>
  obtain ⟨d, z, ne, e, mA, ⟨od, es, ep, e2, c⟩, r⟩ := x
  exact ⟨ho _ d, z, ne, k _ _ (.inl rfl) e, mA, ⟨od, es, ep, k _ _ (.inr d) e2, c⟩, r⟩
 | own y => obtain ⟨ob, e⟩ := x; exact ⟨ob, k _ _ (.inl rfl) e⟩
 | xd fs => obtain ⟨mA, ⟨od, es, ep, e, c⟩, r⟩ := x; exact ⟨mA, ⟨od, es, ep, k _ _ (.inl rfl) e, c⟩, r⟩
 | rng lo hi => obtain ⟨t, u, v, e⟩ := x; exact ⟨t, u, v, k _ _ (.inl rfl) e⟩
 | frz ob u ih => obtain ⟨e, q⟩ := x; exact ⟨k _ _ (.inl rfl) e, ih q⟩
 | tbl ps =>
  have e : h.get? a = some { cls := .none, data := .fields ps } := x
  show h'.get? a = some { cls := .none, data := .fields ps }
  exact k a _ (.inl rfl) e
 | met f y =>
  have e : h.get? a = some (PySem.W.methodObj (.ref f) (.ref y)) := x
  show h'.get? a = some (PySem.W.methodObj (.ref f) (.ref y))
  exact k a _ (.inl rfl) e
 | ext φ => obtain ⟨p, ⟨o, e⟩, st⟩ := x; exact ⟨st _ _ p fun o q => k _ _ (.inl rfl) q, ⟨o, k _ _ (.inl rfl) e⟩, st⟩
theorem HOk.lt (x : HOk P w H h) (e : H a = some o) : a < h.objs.size := (x a o e).lt
theorem HOk.fresh (x : HOk P w H h) (e : h.objs.size ≤ a) : H a = none := by
 cases q : H a with
 | none => rfl
 | some u => exact absurd (Nat.lt_of_lt_of_le (x.lt q) e) (Nat.lt_irrefl _)
theorem HOk.kept (x : HOk P w H h) (k : ∀ b u, h.get? b = some u → h'.get? b = some u) : HOk P w H h' := fun a o e =>
 (x a o e).stay (fun b u _ q => k b u q) (fun _ q => q) fun _ _ q => q
theorem HOk.laid (x : HOk P w H h) (k : ∀ b u, h.get? b = some u → h'.get? b = some u) (hp : h.objs.size ≤ a) (new : ObjOk P w (upd H a o) h' a o) : HOk P w (upd H a o) h' := fun b u e => by
 have hn := x.fresh hp
 by_cases hb : b = a
 ·subst hb; rw [upd_same] at e; cases e; exact new
 ·rw [upd_ne hb] at e
  exact (x b u e).stay (fun c v _ q => k c v q) (fun c q => by rw [upd_ne (ne_of_none q hn)]; exact q) fun c xs q => by rw [upd_ne (ne_of_none q hn)]; exact q
end
def Rd (H : Hp) (a : Addr) (u : HO) : Prop := H a = some u ∨ ∃ o, H a = some (.frz o u)
theorem Rd.ok {P : Program} {w : World} {H : Hp} {h : Heap} {a : Addr} {u : HO} (r : Rd H a u) (x : HOk P w H h) : ObjOk P w H h a u := by
 rcases r with r | ⟨o, r⟩
 ·exact x a u r
 ·obtain ⟨_, q⟩ := x a _ r
  exact q
def Mut : Option HO → Prop
 | some (.lst _) => True
 | some (.dK _) => True
 | some (.dT _) => True
 | some (.set _ _) => True
 | some (.ins _ _ _) => True
 | some (.ext _) => True
 | _ => False
section
variable {P : Program} {w : World} {H : Hp} {h h' : Heap} {x e : Addr} {o' : HO}
theorem HOk.write (ok : HOk P w H h) (mu : Mut (H x)) (he : e = x ∨ H e = some (.own x)) (k : ∀ b u, b ≠ e → h.get? b = some u → h'.get? b = some u) (heo : ∃ u, h'.get? e = some u)
  (new : ObjOk P w (upd H x o') h' x o') : HOk P w (upd H x o') h' := fun b u q => by
 have nown : ∀ c y, H c = some (.own y) → c ≠ x := fun c y r z => by subst z; rw [r] at mu; exact mu
 have ntup : ∀ c xs, H c = some (.tup xs) → c ≠ x := fun c xs r z => by subst z; rw [r] at mu; exact mu
 by_cases hb : b = x
 ·subst hb; rw [upd_same] at q; cases q; exact new
 ·rw [upd_ne hb] at q
  by_cases hbe : b = e
  ·have q' : H b = some (.own x) := by
    rcases he with z | z
    ·exact absurd (hbe.trans z) hb
    ·rw [hbe]; exact z
   rw [q] at q'; cases q'
   obtain ⟨v, hv⟩ := heo
   exact ⟨v, by rw [hbe]; exact hv⟩
  ·refine (ok b u q).stay (fun c v hc r => k c v ?_ r) (fun c r => by rw [upd_ne (nown c b r)]; exact r) fun c xs r => by rw [upd_ne (ntup c xs r)]; exact r
   rcases hc with rfl | hc
   ·exact hbe
   ·rintro rfl
    rcases he with z | z
    ·exact nown c b hc z
    ·rw [hc] at z; cases z; exact hb rfl
end
structure Un (fs ex : List Addr) (H H' : Hp) (h h' : Heap) : Prop where
 keep : ∀ b o, h.get? b = some o → H b = none → b ∉ fs → b ∉ ex → h'.get? b = some o
 slot : ∀ b o, h.get? b = some o → H b = none → b ∈ fs → b ∉ ex → ∃ sl, h'.get? b = some { o with slots := sl }
 free : ∀ b o, h.get? b = some o → H b = none → b ∉ ex → H' b = none
 there : ∀ b o, h.get? b = some o → b ∉ ex → ∃ o', h'.get? b = some o'
 tups : ∀ b xs, H b = some (.tup xs) → H' b = some (.tup xs)
 frzs : ∀ b o u, H b = some (.frz o u) → H' b = some (.frz o u)
 tbls : ∀ b ps, H b = some (.tbl ps) → ∃ more, H' b = some (.tbl (ps ++ more))
section
variable {fs fs' ex ex' : List Addr} {H H1 H2 : Hp} {h h1 h2 h' : Heap} {a x e : Addr} {o : HO}
theorem Un.any (u : Un fs ex H H1 h h1) {b : Addr} {ob : Obj} (q : h.get? b = some ob) (n : H b = none) (hx : b ∉ ex) : ∃ sl, h1.get? b = some { ob with slots := sl } := by
 by_cases hb : b ∈ fs
 ·exact u.slot b ob q n hb hx
 ·exact ⟨ob.slots, u.keep b ob q n hb hx⟩
theorem Un.kept (k : ∀ b u, h.get? b = some u → h'.get? b = some u) : Un fs ex H H h h' :=
 ⟨fun b ob q _ _ _ => k b ob q, fun b ob q _ _ _ => ⟨ob.slots, k b ob q⟩, fun _ _ _ n _ => n, fun b ob q _ => ⟨ob, k b ob q⟩, fun _ _ q => q, fun _ _ _ q => q, fun _ ps q => ⟨#[], by rw [q]; simp⟩⟩
theorem Un.refl : Un fs ex H H h h := Un.kept fun _ _ q => q
theorem Un.laid (k : ∀ b u, h.get? b = some u → h'.get? b = some u) (hp : h.objs.size ≤ a) (hn : H a = none) : Un fs ex H (upd H a o) h h' where
 keep := fun b u q _ _ _ => k b u q
 slot := fun b u q _ _ _ => ⟨u.slots, k b u q⟩
 free := fun b u q n _ => by rw [upd_ne (Nat.ne_of_lt (Nat.lt_of_lt_of_le (Heap.lt_size q) hp))]; exact n
 there := fun b u q _ => ⟨u, k b u q⟩
 tups := fun b xs q => by rw [upd_ne (ne_of_none q hn)]; exact q
 frzs := fun b u xs q => by rw [upd_ne (ne_of_none q hn)]; exact q
 tbls := fun b ps q => ⟨#[], by rw [upd_ne (ne_of_none q hn), q]; simp⟩
theorem Un.write (mu : Mut (H x)) (he : e = x ∨ H e = some (.own x)) (k : ∀ b u, b ≠ e → h.get? b = some u → h'.get? b = some u) (heo : ∃ u, h'.get? e = some u) : Un fs ex H (upd H x o) h h' := by
 have hx : ∀ b, H b = none → b ≠ x := fun b n z => by subst z; rw [n] at mu; exact mu
 have hb : ∀ b, H b = none → b ≠ e := fun b n z => by
  subst z
  rcases he with r | r
  ·exact hx b n r
  ·rw [n] at r; cases r
 have hm : ∀ b u, H b = some u → ¬ Mut (some u) → b ≠ x := fun b u q nm z => by subst z; rw [q] at mu; exact nm mu
 refine ⟨fun b u q n _ _ => k b u (hb b n) q, fun b u q n _ _ => ⟨u.slots, k b u (hb b n) q⟩, fun b u q n _ => by rw [upd_ne (hx b n)]; exact n, fun b u q _ => ?_,
  fun b xs q => by rw [upd_ne (hm b _ q fun z => z)]; exact q, fun b u xs q => by rw [upd_ne (hm b _ q fun z => z)]; exact q, fun b ps q => ⟨#[], by rw [upd_ne (hm b _ q fun z => z), q]; simp⟩⟩
 by_cases hbe : b = e
 ·subst hbe; exact heo
 ·exact ⟨u, k b u hbe q⟩
end
noncomputable def trk (h : Heap) (H : Hp) : List Addr := (List.range h.objs.size).filter fun a => (H a).isSome
noncomputable def hidT (h : Heap) (H : Hp) : Heap := PySem.W.hideAll h (trk h H)
theorem hidT_size (h : Heap) (H : Hp) : (hidT h H).objs.size = h.objs.size := PySem.W.hideAll_size _ _
theorem hidT_get {h : Heap} {H : Hp} {b : Addr} {o : Obj} (e : h.get? b = some o) (n : H b = none) : (hidT h H).get? b = some o :=
 PySem.W.hideAll_get _ e fun hm => by
  have q : (H b).isSome = true := (List.mem_filter.mp hm).2
  rw [n] at q; simp at q
theorem of_hidT {h : Heap} {H : Hp} {b : Addr} {o : Obj} (e : (hidT h H).get? b = some o) : h.get? b = some o ∧ H b = none := by
 have e' : h.get? b = some o := PySem.W.of_hideAll (trk h H) e
 refine ⟨e', ?_⟩
 cases q : H b with
 | none => rfl
 | some x =>
  have hm : b ∈ trk h H := List.mem_filter.mpr ⟨List.mem_range.mpr (Heap.lt_size e'), by simp [q]⟩
  have z : (hidT h H).get? b = none := PySem.W.hideAll_none (trk h H) hm
  rw [z] at e; cases e
noncomputable def allNews (g h : Heap) (L : Addr) : List (Addr × Obj) := (List.range h.objs.size).filterMap fun a => if a = L ∨ (g.get? a).isSome = true then none else (h.get? a).map fun o => (a, o)
noncomputable def rest (g h : Heap) (L d : Addr) : List (Addr × Obj) := (allNews g h L).filter fun p => decide (p.1 ≠ d)
end L2
namespace L2
open PySem PySem.Spec PyProof.Rows
structure Mod (K : PySem.W.Frag) (mg : Str → Option Value) (base : Heap) : Prop where
 kin : K.In base
 glob : base.Ns mainGlobals mg
 blt : ∃ mb, base.Ns builtinsNs mb ∧ ∀ x : Str, x ≠ "__name__" → mb x = bootBuiltins x
 nolimit : base.NoLimit
structure Cx where
 prog : Program
 w : World
 K : PySem.W.Frag
 mg : Str → Option Value
 base : Heap
 A : Around
 N : List Str
 s₀ : Shared
 H₀ : Hp
 env : Env
 outer : List Env
 stack : List Env
 ex : List Addr
 fn : Str → Bool
 calm : Bool
 pn : List (Addr × Obj)
 xe : Value → Shared → Prop
noncomputable def frs (l : List Env) : List Addr := l.filterMap (·.frame)
noncomputable abbrev Cx.fs (X : Cx) : List Addr := frs X.outer
def Vis (sc : Scope) (x : Str) : Prop := sc.names.lookup x = some .local ∨ sc.names.lookup x = some .cell ∨ sc.names.lookup x = some .free
def Loc (sc : Scope) (x : Str) : Prop := sc.names.lookup x = some .local ∨ sc.names.lookup x = some .cell
def Look (env : Env) (h : Heap) (m : Str → Option Value) (x : Str) (u : Value) : Prop :=
 (env.kindOf x = some .local ∧ m x = some u) ∨ ((env.kindOf x = some .cell ∨ env.kindOf x = some .free) ∧ ∃ c, env.cells.lookup x = some c ∧ h.IsCell c (some u))
structure Cx.Ok (X : Cx) : Prop where
 mod : Mod X.K X.mg X.base
 kind : X.env.scope.kind = .function
 glob : X.env.globals = mainGlobals
 blt : X.env.builtins = builtinsNs
 above : X.s₀.heap.objs.size ≤ X.env.locals
 inj : ∀ x y c, X.env.cells.lookup x = some c → X.env.cells.lookup y = some c → x = y
 has : ∀ x, (X.env.kindOf x = some .cell ∨ X.env.kindOf x = some .free) → ∃ c, X.env.cells.lookup x = some c
 cab : ∀ x c, X.fn x = true → X.env.cells.lookup x = some c → X.s₀.heap.objs.size ≤ c
 hd : X.calm = true → X.A.handled = none
 frames : X.A.frames = some X.stack
 stk : X.stack = X.outer ∨ (X.stack = X.env :: X.outer ∧ X.env.frame = some X.env.locals)
 exf : ∀ b ∈ X.ex, b ≠ X.env.locals ∧ ∀ x c, X.env.cells.lookup x = some c → c ≠ b
 bs : ∀ b o, X.base.get? b = some o → X.s₀.heap.get? b = some o ∧ X.H₀ b = none
 bsz : X.base.objs.size ≤ X.s₀.heap.objs.size
 noex : ∀ b o, X.base.get? b = some o → b ∉ X.ex
 exfs : ∀ b ∈ X.ex, b ∉ X.fs
 funs : X.s₀.heap.FunFrames X.base X.outer
 frf : ∀ b ∈ X.fs, X.H₀ b = none
structure Inv (X : Cx) (pins : List (Addr × Obj)) (σ : List (Option V)) (H : Hp) (s : Shared) : Prop where
 ok : X.Ok
 os : s.os = X.s₀.os
 bare : AllBare s.gens
 base : Un X.fs X.ex X.H₀ H X.s₀.heap s.heap
 loc : ∃ m, s.heap.Ns X.env.locals m ∧ ∀ (i : Nat) (x : Str) (v : V), X.N[i]? = some x → σ[i]? = some (some v) → Vis X.env.scope x → ∃ u, RelV v u ∧ Look X.env s.heap m x u
 cell : ∀ x c, X.env.cells.lookup x = some c → ∃ v, s.heap.IsCell c v
 free : H X.env.locals = none
 freeC : ∀ x c, X.env.cells.lookup x = some c → H c = none
 pin : ∀ p ∈ X.pn ++ pins, s.heap.get? p.1 = some p.2 ∧ H p.1 = none ∧ p.1 ≠ X.env.locals ∧ p.1 ∉ X.fs ∧ ∀ v, p.2.data ≠ .cell v
 hok : HOk X.prog X.w H s.heap
 len : σ.length = X.N.length
section
variable {X : Cx} {pins : List (Addr × Obj)} {σ : List (Option V)} {H H' : Hp} {s : Shared} {h' : Heap}
theorem Cx.Ok.nofr (ok : X.Ok) {b : Addr} {o : Obj} (e : X.base.get? b = some o) : b ∉ X.fs := fun hb => by
 have := (ok.funs.mem hb).1
 rw [e] at this; cases this
theorem Inv.bs (I : Inv X pins σ H s) : ∀ b o, X.base.get? b = some o → s.heap.get? b = some o ∧ H b = none := fun b o e =>
 ⟨I.base.keep b o (I.ok.bs b o e).1 (I.ok.bs b o e).2 (I.ok.nofr e) (I.ok.noex b o e), I.base.free b o (I.ok.bs b o e).1 (I.ok.bs b o e).2 (I.ok.noex b o e)⟩
theorem Inv.bk (I : Inv X pins σ H s) : ∀ b o, X.base.get? b = some o → s.heap.get? b = some o := fun b o e => (I.bs b o e).1
theorem Inv.mod (I : Inv X pins σ H s) : Mod X.K X.mg X.base := I.ok.mod
theorem Inv.kIn (I : Inv X pins σ H s) : X.K.In s.heap := I.ok.mod.kin.keeps I.bk
theorem Inv.lt (I : Inv X pins σ H s) : X.env.locals < s.heap.objs.size := let ⟨_, hn, _⟩ := I.loc; hn.lt
theorem Inv.sz (I : Inv X pins σ H s) : X.s₀.heap.objs.size ≤ s.heap.objs.size := Nat.le_trans I.ok.above (Nat.le_of_lt I.lt)
theorem Inv.nofs (I : Inv X pins σ H s) {a : Addr} (h : s.heap.objs.size ≤ a) : a ∉ X.fs := fun hb => by
 obtain ⟨_, o, ho, _⟩ := I.ok.funs.mem hb
 exact absurd (Nat.lt_of_lt_of_le (Heap.lt_size ho) (Nat.le_trans I.sz h)) (Nat.lt_irrefl _)
theorem Inv.cne (I : Inv X pins σ H s) : ∀ x c, X.env.cells.lookup x = some c → c ≠ X.env.locals := fun x c e z => by
 obtain ⟨v, o, ho, hd⟩ := I.cell x c e
 obtain ⟨m, ⟨o', es, ep, ho', hd', _⟩, _⟩ := I.loc
 rw [z, ho'] at ho; cases ho; rw [hd'] at hd; cases hd
theorem Inv.funs (I : Inv X pins σ H s) : s.heap.FunFrames X.base X.outer := by
 have all : ∀ (l : List Env), (∀ b ∈ frs l, b ∈ X.fs) → X.s₀.heap.FunFrames X.base l → s.heap.FunFrames X.base l := by
  intro l
  induction l with
  | nil => intro _ _; trivial
  | cons env r ih =>
   intro hs hl
   obtain ⟨hk, ⟨L, o, hf, hn, ho, hd⟩, hr⟩ := hl
   have hL : L ∈ X.fs := hs L (by unfold frs; rw [List.filterMap_cons, hf]; exact List.mem_cons_self)
   obtain ⟨sl, e⟩ := I.base.slot L o ho (I.ok.frf L hL) hL fun z => I.ok.exfs L z hL
   exact ⟨hk, ⟨L, _, hf, hn, e, hd⟩, ih (fun b hb => hs b (by unfold frs; rw [List.filterMap_cons, hf]; exact List.mem_cons_of_mem _ hb)) hr⟩
 exact all X.outer (fun _ hb => hb) I.ok.funs
theorem Inv.stack (I : Inv X pins σ H s) : s.heap.FunFrames X.base X.stack := by
 rcases I.ok.stk with e | ⟨e, hf⟩
 ·rw [e]; exact I.funs
 ·rw [e]
  obtain ⟨m, hn, _⟩ := I.loc
  refine .cons (by rw [I.ok.kind]; decide) hf hn ?_ I.funs
  exact Heap.get?_none_of_le (Nat.le_trans I.ok.bsz I.ok.above)
theorem Inv.stkSub (I : Inv X pins σ H s) : ∀ b ∈ frs X.stack, b ∈ X.env.locals :: X.fs := fun b hb => by
 rcases I.ok.stk with e | ⟨e, hf⟩
 ·rw [e] at hb; exact List.mem_cons_of_mem _ hb
 ·rw [e] at hb
  unfold frs at hb
  rw [List.filterMap_cons, hf] at hb
  exact hb
theorem Inv.stkFree (I : Inv X pins σ H s) : ∀ b ∈ frs X.stack, H b = none := fun b hb => by
 rcases List.mem_cons.mp (I.stkSub b hb) with e | hb
 ·rw [e]; exact I.free
 ·obtain ⟨_, o, ho, _⟩ := I.ok.funs.mem hb
  exact I.base.free b o ho (I.ok.frf b hb) fun z => I.ok.exfs b z hb
theorem Inv.step {g' : Array GenState} {t' : Nat} {d' : Drawn} {ch : List Addr} (I : Inv X pins σ H s)
  (hch : ∀ b ∈ ch, (b ∈ X.ex ∨ X.s₀.heap.objs.size ≤ b) ∧ b ≠ X.env.locals ∧ (∀ x c, X.env.cells.lookup x = some c → c ≠ b) ∧ ∀ p ∈ X.pn ++ pins, p.1 ≠ b)
  (keep : ∀ b o, b ≠ X.env.locals → b ∉ X.fs → b ∉ ch → s.heap.get? b = some o → H b = none → h'.get? b = some o)
  (slot : ∀ b o, b ≠ X.env.locals → b ∈ X.fs → b ∉ ch → s.heap.get? b = some o → H b = none → ∃ sl, h'.get? b = some { o with slots := sl }) (free : ∀ b o, b ∉ ch → s.heap.get? b = some o → H b = none → H' b = none)
  (there : ∀ b o, b ∉ ch → s.heap.get? b = some o → ∃ o', h'.get? b = some o')
  (tups : ∀ b xs, H b = some (.tup xs) → H' b = some (.tup xs)) (frzs : ∀ b o u, H b = some (.frz o u) → H' b = some (.frz o u)) (tbls : ∀ b ps, H b = some (.tbl ps) → ∃ more, H' b = some (.tbl (ps ++ more)))
  (ns : ∀ m, s.heap.Ns X.env.locals m → h'.Ns X.env.locals m) (hok : HOk X.prog X.w H' h') (hg : AllBare g') :
  Inv X pins σ H' { s with heap := h', gens := g', drawn := d', toks := t' } := by
 have neL : ∀ b o, X.s₀.heap.get? b = some o → b ≠ X.env.locals := fun b o e => Nat.ne_of_lt (Nat.lt_of_lt_of_le (Heap.lt_size e) I.ok.above)
 have neC : ∀ b o, X.s₀.heap.get? b = some o → b ∉ X.ex → b ∉ ch := fun b o e hx hb => by
  rcases (hch b hb).1 with z | z
  ·exact hx z
  ·exact absurd (Nat.lt_of_lt_of_le (Heap.lt_size e) z) (Nat.lt_irrefl _)
 have cellK : ∀ x c, X.env.cells.lookup x = some c → ∀ v, s.heap.IsCell c v → h'.IsCell c v := fun x c e v ⟨o, ho, hd⟩ => by
  have nch : c ∉ ch := fun z => (hch c z).2.2.1 x c e rfl
  by_cases hc : c ∈ X.fs
  ·obtain ⟨sl, q⟩ := slot c o (I.cne x c e) hc nch ho (I.freeC x c e)
   exact ⟨_, q, hd⟩
  ·exact ⟨o, keep c o (I.cne x c e) hc nch ho (I.freeC x c e), hd⟩
 refine ⟨I.ok, I.os, hg, ⟨fun b o e n hb hx => ?_, fun b o e n hb hx => ?_, fun b o e n hx => ?_, fun b o e hx => ?_, fun b xs e => tups b xs (I.base.tups b xs e), fun b o xs e => frzs b o xs (I.base.frzs b o xs e), fun b ps e => ?_⟩, ?_, fun x c e => ?_, ?_, fun x c e => ?_, fun p hp => ?_, hok, I.len⟩
 ·exact keep b o (neL b o e) hb (neC b o e hx) (I.base.keep b o e n hb hx) (I.base.free b o e n hx)
 ·obtain ⟨sl, e1⟩ := I.base.slot b o e n hb hx
  obtain ⟨sl', e2⟩ := slot b _ (neL b o e) hb (neC b o e hx) e1 (I.base.free b o e n hx)
  exact ⟨sl', e2⟩
 ·obtain ⟨o', e1⟩ := I.base.there b o e hx
  exact free b o' (neC b o e hx) e1 (I.base.free b o e n hx)
 ·obtain ⟨o', e1⟩ := I.base.there b o e hx
  exact there b o' (neC b o e hx) e1
 ·obtain ⟨m1, e1⟩ := I.base.tbls b ps e
  obtain ⟨m2, e2⟩ := tbls b _ e1
  exact ⟨m1 ++ m2, by rw [e2, Array.append_assoc]⟩
 ·obtain ⟨m, hn, hl⟩ := I.loc
  refine ⟨m, ns m hn, fun i x v e1 e2 e3 => ?_⟩
  obtain ⟨u, r, l⟩ := hl i x v e1 e2 e3
  refine ⟨u, r, ?_⟩
  rcases l with l | ⟨k, c, e, z⟩
  ·exact .inl l
  ·exact .inr ⟨k, c, e, cellK x c e _ z⟩
 ·obtain ⟨v, z⟩ := I.cell x c e
  exact ⟨v, cellK x c e v z⟩
 ·obtain ⟨m, ⟨o, _, _, ho, _⟩, _⟩ := I.loc
  exact free _ o (fun z => (hch _ z).2.1 rfl) ho I.free
 ·obtain ⟨v, o, ho, hd⟩ := I.cell x c e
  exact free c o (fun z => (hch c z).2.2.1 x c e rfl) ho (I.freeC x c e)
 ·obtain ⟨e, n, ne, nf, d⟩ := I.pin p hp
  have nch : p.1 ∉ ch := fun z => (hch p.1 z).2.2.2 p hp rfl
  exact ⟨keep p.1 p.2 ne nf nch e n, free p.1 p.2 nch e n, ne, nf, d⟩
theorem Inv.un {t' : Nat} (I : Inv X pins σ H s) (u : Un X.fs [] H H' s.heap h') (hok : HOk X.prog X.w H' h') : Inv X pins σ H' { s with heap := h', toks := t' } := by
 obtain ⟨m, ⟨o, es, ep, ho, r⟩, _⟩ := id I.loc
 obtain ⟨sl, hL⟩ := u.any ho I.free (by simp)
 exact I.step (g' := s.gens) (d' := s.drawn) (ch := []) (fun _ z => nomatch z) (fun b o _ hb _ e n => u.keep b o e n hb (by simp)) (fun b o _ hb _ e n => u.slot b o e n hb (by simp)) (fun b o _ e n => u.free b o e n (by simp)) (fun b o _ e => u.there b o e (by simp)) u.tups u.frzs u.tbls (fun m' hm => by
  obtain ⟨o', es', ep', ho', r'⟩ := hm
  rw [ho] at ho'; cases ho'
  exact ⟨_, es', ep', hL, r'⟩) hok I.bare
theorem Inv.call {g' : Array GenState} {t' : Nat} {d' : Drawn} {ch : List Addr} (I : Inv X pins σ H s) (u : Un (frs X.stack) ch H H' s.heap h') (hok : HOk X.prog X.w H' h') (hg : AllBare g')
  (hch : ∀ b ∈ ch, (b ∈ X.ex ∨ X.s₀.heap.objs.size ≤ b) ∧ b ≠ X.env.locals ∧ (∀ x c, X.env.cells.lookup x = some c → c ≠ b) ∧ ∀ p ∈ X.pn ++ pins, p.1 ≠ b) :
  Inv X pins σ H' { s with heap := h', gens := g', drawn := d', toks := t' } := by
 obtain ⟨m, ⟨o, es, ep, ho, r⟩, _⟩ := id I.loc
 obtain ⟨sl, hL⟩ := u.any ho I.free fun z => (hch _ z).2.1 rfl
 exact I.step (ch := ch) hch (fun b o hL hb hc e n => u.keep b o e n (fun z => (List.mem_cons.mp (I.stkSub b z)).elim hL hb) hc) (fun b o _ _ hc e n => u.any e n hc) (fun b o hc e n => u.free b o e n hc) (fun b o hc e => u.there b o e hc) u.tups u.frzs u.tbls (fun m' hm => by
  obtain ⟨o', es', ep', ho', r'⟩ := hm
  rw [ho] at ho'; cases ho'
  exact ⟨_, es', ep', hL, r'⟩) hok hg
theorem Inv.turned {t' : Nat} {it : Addr} (I : Inv X pins σ H s) (k : ∀ b o, b ≠ it → s.heap.get? b = some o → h'.get? b = some o) (hn : H it = none) (hL : it ≠ X.env.locals)
  (h1 : it ∈ X.ex ∨ X.s₀.heap.objs.size ≤ it) (h2 : ∀ x c, X.env.cells.lookup x = some c → c ≠ it) (h3 : ∀ p ∈ X.pn ++ pins, p.1 ≠ it) : Inv X pins σ H { s with heap := h', toks := t' } := by
 have nit : ∀ b u, H b = some u → b ≠ it := fun b u e z => by rw [z, hn] at e; cases e
 refine I.step (g' := s.gens) (d' := s.drawn) (ch := [it]) (fun b hb => ?_) (fun b o _ _ hc e _ => k b o (fun z => hc (by simp [z])) e) (fun b o _ _ hc e _ => ⟨o.slots, k b o (fun z => hc (by simp [z])) e⟩) (fun _ _ _ _ n => n)
  (fun b o hc e => ⟨o, k b o (fun z => hc (by simp [z])) e⟩) (fun _ _ e => e) (fun _ _ _ e => e) (fun b ps e => ⟨#[], by rw [e]; simp⟩) (fun m hm => ?_) (fun b u e => ?_) I.bare
 ·have e : b = it := by simpa using hb
  subst e
  exact ⟨h1, hL, h2, h3⟩
 ·obtain ⟨o, es, ep, ho, r⟩ := hm
  exact ⟨o, es, ep, k _ o (Ne.symm hL) ho, r⟩
 ·refine (I.hok b u e).stay (fun c v hc q => k c v ?_ q) (fun _ q => q) fun _ _ q => q
  rcases hc with z | z
  ·rw [z]; exact nit b u e
  ·exact nit c _ z
theorem Inv.tok (I : Inv X pins σ H s) (t : Nat) : Inv X pins σ H { s with toks := t } := I.un (h' := s.heap) (t' := t) Un.refl I.hok
theorem Inv.kept {t' : Nat} (I : Inv X pins σ H s) (k : ∀ b u, s.heap.get? b = some u → h'.get? b = some u) : Inv X pins σ H { s with heap := h', toks := t' } := I.un (Un.kept k) (I.hok.kept k)
theorem Inv.laid {a : Addr} {o : HO} {t' : Nat} (I : Inv X pins σ H s) (k : ∀ b u, s.heap.get? b = some u → h'.get? b = some u) (hp : s.heap.objs.size ≤ a) (new : ObjOk X.prog X.w (upd H a o) h' a o) :
  Inv X pins σ (upd H a o) { s with heap := h', toks := t' } := I.un (Un.laid k hp (I.hok.fresh hp)) (I.hok.laid k hp new)
theorem Inv.write {x e : Addr} {o : HO} {t' : Nat} (I : Inv X pins σ H s) (mu : Mut (H x)) (he : e = x ∨ H e = some (.own x)) (k : ∀ b u, b ≠ e → s.heap.get? b = some u → h'.get? b = some u) (heo : ∃ u, h'.get? e = some u)
  (new : ObjOk X.prog X.w (upd H x o) h' x o) : Inv X pins σ (upd H x o) { s with heap := h', toks := t' } := I.un (Un.write mu he k heo) (I.hok.write mu he k heo new)
theorem Inv.weak {σ' : List (Option V)} (I : Inv X pins σ H s) (hl : σ'.length = σ.length) (w : ∀ (i : Nat) v, σ'[i]? = some (some v) → σ[i]? = some (some v)) : Inv X pins σ' H s :=
 ⟨I.ok, I.os, I.bare, I.base, let ⟨m, hn, hl'⟩ := I.loc; ⟨m, hn, fun i x v e1 e2 e3 => hl' i x v e1 (w i v e2) e3⟩, I.cell, I.free, I.freeC, I.pin, I.hok, hl.trans I.len⟩
theorem Inv.pins_of {pins' : List (Addr × Obj)} (I : Inv X pins σ H s) (h : ∀ p ∈ pins', s.heap.get? p.1 = some p.2 ∧ H p.1 = none ∧ p.1 ≠ X.env.locals ∧ p.1 ∉ X.fs ∧ ∀ v, p.2.data ≠ .cell v) : Inv X pins' σ H s :=
 ⟨I.ok, I.os, I.bare, I.base, I.loc, I.cell, I.free, I.freeC, fun p hp => (List.mem_append.mp hp).elim (fun z => I.pin p (List.mem_append_left _ z)) (h p), I.hok, I.len⟩
theorem nodup_ix {N : List Str} (hN : N.Nodup) {i j : Nat} {x : Str} (a : N[i]? = some x) (b : N[j]? = some x) : i = j := by
 obtain ⟨h1, e1⟩ := List.getElem?_eq_some_iff.mp a
 obtain ⟨h2, e2⟩ := List.getElem?_eq_some_iff.mp b
 exact (List.getElem_inj hN).mp (e1.trans e2.symm)
theorem store_ok2 {M : Model} {A : Around} {E : Value → Shared → Prop} {i : Nat} {x : Str} {v : V} {u : Value} {Q : Unit → Shared → Prop} (I : Inv X pins σ H s) (hN : X.N.Nodup) (hi : X.N[i]? = some x) (hx : Loc X.env.scope x) (r : RelV v u)
  (h : ∀ s', Inv X pins (σ.set i (some v)) H s' → (∃ a, Heap.SameBut a s.heap s'.heap ∧ (a = X.env.locals ∨ X.env.cells.lookup x = some a)) → Q () s') (hf : X.fn x = true ∨ X.env.scope.names.lookup x = some .local := by first | exact .inl rfl | exact .inr rfl | assumption) : wpAny M A (storeName X.env x u) Q E s := by
 obtain ⟨m, hn, hl⟩ := id I.loc
 have hcls : (X.env.scope.kind == .class || (X.env.scope.kind == .module && X.env.locals != X.env.globals)) = false := by rw [I.ok.kind]; rfl
 have hiσ : i < σ.length := by rw [I.len]; exact (List.getElem?_eq_some_iff.mp hi).1
 have cne := I.cne
 have tracked : ∀ {a : Addr} {h' : Heap}, (∃ o, s.heap.get? a = some o ∧ H a = none) → Heap.SameBut a s.heap h' → HOk X.prog X.w H h' := fun {a h'} ha hs b ob e => by
  obtain ⟨_, _, hfree⟩ := ha
  refine (I.hok b ob e).stay (fun c w' hc q => (hs.2 c ?_).trans q) (fun _ q => q) fun _ _ q => q
  rintro rfl
  rcases hc with rfl | hc
  ·rw [hfree] at e; cases e
  ·rw [hfree] at hc; cases hc
 rcases hx with hk | hk
 ·refine wpAny_storeName_local hk hn (fun h' hn' hs => ?_) hcls
  obtain ⟨oL, _, _, hoL, _⟩ := id hn
  refine h _ ⟨I.ok, I.os, I.bare, ⟨fun b o e n hb hx => ?_, fun b o e n hb hx => ?_, I.base.free, fun b o e hx => ?_, I.base.tups, I.base.frzs, I.base.tbls⟩, ⟨_, hn', fun j y v' e1 e2 e3 => ?_⟩, fun y c e => ?_, I.free, I.freeC, fun p hp => ?_, tracked ⟨oL, hoL, I.free⟩ hs, by simpa using I.len⟩ ⟨_, hs, .inl rfl⟩
  ·exact (hs.2 b (Nat.ne_of_lt (Nat.lt_of_lt_of_le (Heap.lt_size e) I.ok.above))).trans (I.base.keep b o e n hb hx)
  ·obtain ⟨sl, e1⟩ := I.base.slot b o e n hb hx
   exact ⟨sl, (hs.2 b (Nat.ne_of_lt (Nat.lt_of_lt_of_le (Heap.lt_size e) I.ok.above))).trans e1⟩
  ·obtain ⟨o', e1⟩ := I.base.there b o e hx
   exact ⟨o', (hs.2 b (Nat.ne_of_lt (Nat.lt_of_lt_of_le (Heap.lt_size e) I.ok.above))).trans e1⟩
  ·by_cases hj : j = i
   ·subst hj
    rw [hi] at e1; cases e1
    rw [List.getElem?_set_self hiσ] at e2
    cases e2
    exact ⟨u, r, .inl ⟨hk, by simp⟩⟩
   ·rw [List.getElem?_set_ne (Ne.symm hj)] at e2
    obtain ⟨u', r', q⟩ := hl j y v' e1 e2 e3
    refine ⟨u', r', ?_⟩
    rcases q with ⟨k, e⟩ | ⟨k, c, e, z⟩
    ·refine .inl ⟨k, ?_⟩
     have : y ≠ x := fun e => hj (nodup_ix hN e1 (e ▸ hi))
     simp [this, e]
    ·exact .inr ⟨k, c, e, z.sameBut hs (cne y c e)⟩
  ·obtain ⟨w', z⟩ := I.cell y c e
   exact ⟨w', z.sameBut hs (cne y c e)⟩
  ·obtain ⟨e, n, ne, nf, d⟩ := I.pin p hp
   exact ⟨(hs.2 p.1 ne).trans e, n, ne, nf, d⟩
 ·have hfn : X.fn x = true := by
   rcases hf with z | z
   ·exact z
   ·rw [z] at hk; cases hk
  obtain ⟨c, hc⟩ := I.ok.has x (.inl hk)
  obtain ⟨w', z⟩ := I.cell x c hc
  refine wpAny_storeName_cell I.ok.kind hk hc z (fun h' hc' hs => ?_)
  obtain ⟨oc, hoc, hocd⟩ := id z
  refine h { s with heap := h' } ⟨I.ok, I.os, I.bare, ⟨fun b o e n hb hx => ?_, fun b o e n hb hx => ?_, I.base.free, fun b o e hx => ?_, I.base.tups, I.base.frzs, I.base.tbls⟩, ⟨m, hn.sameBut hs (Ne.symm (cne x c hc)), fun j y v' e1 e2 e3 => ?_⟩, fun y c' e => ?_, I.free, I.freeC, fun p hp => ?_, tracked ⟨oc, hoc, I.freeC x c hc⟩ hs, by simpa using I.len⟩ ⟨c, hs, .inr hc⟩
  ·exact (hs.2 b (Nat.ne_of_lt (Nat.lt_of_lt_of_le (Heap.lt_size e) (I.ok.cab x c hfn hc)))).trans (I.base.keep b o e n hb hx)
  ·obtain ⟨sl, e1⟩ := I.base.slot b o e n hb hx
   exact ⟨sl, (hs.2 b (Nat.ne_of_lt (Nat.lt_of_lt_of_le (Heap.lt_size e) (I.ok.cab x c hfn hc)))).trans e1⟩
  ·obtain ⟨o', e1⟩ := I.base.there b o e hx
   exact ⟨o', (hs.2 b (Nat.ne_of_lt (Nat.lt_of_lt_of_le (Heap.lt_size e) (I.ok.cab x c hfn hc)))).trans e1⟩
  ·by_cases hj : j = i
   ·subst hj
    rw [hi] at e1; cases e1
    rw [List.getElem?_set_self hiσ] at e2
    cases e2
    exact ⟨u, r, .inr ⟨.inl hk, c, hc, hc'⟩⟩
   ·rw [List.getElem?_set_ne (Ne.symm hj)] at e2
    obtain ⟨u', r', q⟩ := hl j y v' e1 e2 e3
    refine ⟨u', r', ?_⟩
    rcases q with q | ⟨k, c', e, z'⟩
    ·exact .inl q
    ·refine .inr ⟨k, c', e, z'.sameBut hs ?_⟩
     rintro rfl
     exact hj (nodup_ix hN e1 (I.ok.inj _ _ _ e hc ▸ hi))
  ·by_cases hcc : c' = c
   ·subst hcc; exact ⟨_, hc'⟩
   ·obtain ⟨w2, z2⟩ := I.cell y c' e
    exact ⟨w2, z2.sameBut hs hcc⟩
  ·obtain ⟨e, n, ne, nf, d⟩ := I.pin p hp
   refine ⟨(hs.2 p.1 ?_).trans e, n, ne, nf, d⟩
   intro q
   rw [q, hoc] at e
   have q' : oc = p.2 := Option.some.inj e
   exact d w' (by rw [← q']; exact hocd)
theorem store_ok {M : Model} {A : Around} {E : Value → Shared → Prop} {i : Nat} {x : Str} {v : V} {u : Value} {Q : Unit → Shared → Prop} (I : Inv X pins σ H s) (hN : X.N.Nodup) (hi : X.N[i]? = some x) (hx : Loc X.env.scope x) (r : RelV v u)
  (h : ∀ s', Inv X pins (σ.set i (some v)) H s' → Q () s') (hf : X.fn x = true ∨ X.env.scope.names.lookup x = some .local := by first | exact .inl rfl | exact .inr rfl | assumption) : wpAny M A (storeName X.env x u) Q E s :=
 store_ok2 I hN hi hx r (fun s' I' _ => h s' I') hf
theorem Inv.call' {s' : Shared} {ch : List Addr} (I : Inv X pins σ H s) (ho : s'.os = s.os) (u : Un (frs X.stack) ch H H' s.heap s'.heap) (hok : HOk X.prog X.w H' s'.heap) (hg : AllBare s'.gens)
  (hch : ∀ b ∈ ch, (b ∈ X.ex ∨ X.s₀.heap.objs.size ≤ b) ∧ b ≠ X.env.locals ∧ (∀ x c, X.env.cells.lookup x = some c → c ≠ b) ∧ ∀ p ∈ X.pn ++ pins, p.1 ≠ b) : Inv X pins σ H' s' := by
 obtain ⟨h', g', d', t', o'⟩ := s'
 have e : o' = s.os := ho
 subst e
 exact I.call (g' := g') (t' := t') (d' := d') u hok hg hch
end
abbrev XK := Value → Option Addr → Hp → Prop
abbrev St := List (Option V)
abbrev VK := V → Hp → Prop
abbrev TE := St → Hp → VK → Prop
abbrev TT := St → Hp → (Bool → Hp → Prop) → Prop
abbrev TA := St → Hp → (List V → Hp → Prop) → Prop
structure Ends where
 nx : St → Hp → Prop
 rt : VK
 bk : St → Hp → Prop := fun _ _ => False
 ct : St → Hp → Prop := fun _ _ => False
abbrev TS := Ends → St → Hp → Prop
def EP (X : Cx) (pins : List (Addr × Obj)) (σ : St) (Q : VK) (u : Value) (s' : Shared) : Prop := ∃ v H', Inv X pins σ H' s' ∧ RelV v u ∧ Q v H'
def TP (X : Cx) (pins : List (Addr × Obj)) (σ : St) (Q : Bool → Hp → Prop) (b : Bool) (s' : Shared) : Prop := ∃ H', Inv X pins σ H' s' ∧ Q b H'
def AP (X : Cx) (pins : List (Addr × Obj)) (σ : St) (Q : List V → Hp → Prop) (us : List Value) (s' : Shared) : Prop := ∃ vs H', Inv X pins σ H' s' ∧ Vals vs us ∧ Q vs H'
def SP (X : Cx) (pins : List (Addr × Obj)) (D : Ends) (f : Flow) (s' : Shared) : Prop :=
 match f with
 | .next => ∃ σ' H', Inv X pins σ' H' s' ∧ D.nx σ' H'
 | .brk => ∃ σ' H', Inv X pins σ' H' s' ∧ D.bk σ' H'
 | .cont => ∃ σ' H', Inv X pins σ' H' s' ∧ D.ct σ' H'
 | .ret u => ∃ v σ' H', Inv X pins σ' H' s' ∧ RelV v u ∧ D.rt v H'
def PE (X : Cx) (e : Expr) (t : TE) : Prop :=
 ∀ (pins : List (Addr × Obj)) (s : Shared) (σ : St) (H : Hp) (Q : VK), Inv X pins σ H s → t σ H Q → wpAny (model X.prog X.w) X.A (eval e X.env) (EP X pins σ Q) X.xe s
def PT (X : Cx) (e : Expr) (t : TT) : Prop :=
 ∀ (pins : List (Addr × Obj)) (s : Shared) (σ : St) (H : Hp) (Q : Bool → Hp → Prop), Inv X pins σ H s → t σ H Q → wpAny (model X.prog X.w) X.A (isTrue e X.env (eval e X.env)) (TP X pins σ Q) X.xe s
def PW (X : Cx) (e : Expr) (t : TT) : Prop :=
 ∀ (whole : Sem Value) (pins : List (Addr × Obj)) (s : Shared) (σ : St) (H : Hp) (Q : Bool → Hp → Prop), Inv X pins σ H s → t σ H Q → wpAny (model X.prog X.w) X.A (isTrue e X.env whole) (TP X pins σ Q) X.xe s
theorem PW.pt {X : Cx} {e : Expr} {t : TT} (h : PW X e t) : PT X e t := h _
def PA (X : Cx) (es : List Expr) (t : TA) : Prop :=
 ∀ (pos : Pos) (pins : List (Addr × Obj)) (s : Shared) (σ : St) (H : Hp) (Q : List V → Hp → Prop), Inv X pins σ H s → t σ H Q → wpAny (model X.prog X.w) X.A (spliced (backTo pos (starEach es X.env))) (AP X pins σ Q) X.xe s
def PS (X : Cx) (st : Stmt) (t : TS) : Prop :=
 ∀ (pins : List (Addr × Obj)) (s : Shared) (σ : St) (H : Hp) (D : Ends), Inv X pins σ H s → t D σ H → wpAny (model X.prog X.w) X.A (exec st X.env) (SP X pins D) X.xe s
def PSs (X : Cx) (st : List Stmt) (t : TS) : Prop :=
 ∀ (pins : List (Addr × Obj)) (s : Shared) (σ : St) (H : Hp) (D : Ends), Inv X pins σ H s → t D σ H → wpAny (model X.prog X.w) X.A (execs st X.env) (SP X pins D) X.xe s
theorem thn {α : Type} {t : Sem α} {Q Q' : α → Shared → Prop} {M : Model} {A : Around} {E : Value → Shared → Prop} {s : Shared} (h : wpAny M A t Q E s) (hQ : ∀ a s, Q a s → Q' a s) : wpAny M A t Q' E s := wpAny_mono h hQ fun _ _ x => x
end L2
namespace L2
open PySem PySem.Spec PyProof.Rows
section
variable {X : Cx}
def tVar (i : Nat) : TE := fun σ H Q => ∃ v, σ[i]? = some (some v) ∧ Q v H
def tC (v : V) : TE := fun _ H Q => Q v H
theorem pe_var {i : Nat} {x : Str} {pos : Pos} (hN : X.N[i]? = some x) (hv : Vis X.env.scope x) (hd : (x == ("__debug__" : Str)) = false := by decide) (hcd : (x == ("__classdict__" : Str)) = false := by decide) : PE X (.Name x pos) (tVar i) := by
 intro pins s σ H Q I h
 obtain ⟨v, e, h⟩ := h
 obtain ⟨m, hn, hl⟩ := I.loc
 obtain ⟨u, r, l⟩ := hl i x v hN e hv
 have fin : EP X pins σ Q u s := ⟨v, H, I, r, h⟩
 rcases l with ⟨hk, hm⟩ | ⟨hk, c, hc, hcell⟩
 ·exact wpAny_Name (wpAny_loadName_local I.ok.kind hk hn hm fin) hd
 ·rcases hk with hk | hk
  ·exact wpAny_Name (wpAny_loadName_cell I.ok.kind hk hc hcell fin) hd
  ·exact wpAny_Name (wpAny_loadName_free I.ok.kind hk hc hcell fin hcd) hd
theorem pe_int {i j pos} : PE X (.Constant (.int i) j pos) (tC (.int i)) := fun _ _ _ H _ I h => wpAny_Constant_int ⟨.int i, H, I.tok _, ⟨_, rfl⟩, h⟩
theorem pe_bl {b j pos} : PE X (.Constant (.bool b) j pos) (tC (.bl b)) := fun _ _ _ H _ I h => Constant_bool ⟨.bl b, H, I, rfl, h⟩
theorem pe_non {j pos} : PE X (.Constant .none j pos) (tC .non) := fun _ _ _ H _ I h => Constant_none ⟨.non, H, I, rfl, h⟩
theorem pe_str {x j pos} : PE X (.Constant (.str x) j pos) (tC (.str x)) := fun _ _ _ H _ I h => Calls.Constant_str ⟨.str x, H, I.tok _, ⟨_, rfl⟩, h⟩
def Gl (X : Cx) (x : Str) : Prop := X.env.kindOf x = some .globalImplicit
theorem ld_glob {E : Value → Shared → Prop} {pins : List (Addr × Obj)} {s : Shared} {σ : St} {H : Hp} {x : Str} {u : Value} {pos : Pos} {Q : Value → Shared → Prop} (I : Inv X pins σ H s) (hg : Gl X x) (hm : X.mg x = some u) (h : Q u s)
  (hd : (x == ("__debug__" : Str)) = false := by decide) : wpAny (model X.prog X.w) X.A (eval (.Name x pos) X.env) Q E s :=
 Calls.Name_function_global I.ok.kind hg (Calls.loadGlobal_global (by rw [I.ok.glob]; exact I.mod.glob.keeps I.bk) hm h) hd
theorem ld_blt {E : Value → Shared → Prop} {pins : List (Addr × Obj)} {s : Shared} {σ : St} {H : Hp} {x : Str} {u : Value} {pos : Pos} {Q : Value → Shared → Prop} (I : Inv X pins σ H s) (hg : Gl X x) (hm : X.mg x = none) (hv : bootBuiltins x = some u) (h : Q u s)
  (hn : x ≠ "__name__" := by decide) (hd : (x == ("__debug__" : Str)) = false := by decide) : wpAny (model X.prog X.w) X.A (eval (.Name x pos) X.env) Q E s := by
 obtain ⟨mb, h1, h2⟩ := I.mod.blt
 exact Calls.Name_function_global I.ok.kind hg (Calls.loadGlobal_builtin (by rw [I.ok.glob]; exact I.mod.glob.keeps I.bk) hm (by rw [I.ok.blt]; exact h1.keeps I.bk) ((h2 x hn).trans hv) h) hd
theorem pe_glob {x : Str} {v : V} {u : Value} {pos : Pos} (hg : Gl X x) (hm : X.mg x = some u) (r : RelV v u) (hd : (x == ("__debug__" : Str)) = false := by decide) : PE X (.Name x pos) (tC v) :=
 fun _ _ _ H _ I h => ld_glob I hg hm ⟨v, H, I, r, h⟩ hd
theorem pe_bltn {x : Str} {v : V} {u : Value} {pos : Pos} (hg : Gl X x) (hm : X.mg x = none) (hv : bootBuiltins x = some u) (r : RelV v u) (hn : x ≠ "__name__" := by decide) (hd : (x == ("__debug__" : Str)) = false := by decide) : PE X (.Name x pos) (tC v) :=
 fun _ _ _ H _ I h => ld_blt I hg hm hv ⟨v, H, I, r, h⟩ hn hd
variable {a b : Expr} {ta tb : TE} {pos : Pos}
def PC (X : Cx) (op : CmpOp) (a b : Expr) (t : TE) : Prop :=
 ∀ (pins : List (Addr × Obj)) (s : Shared) (σ : St) (H : Hp) (Q : VK), Inv X pins σ H s → t σ H Q →
  wpAny (model X.prog X.w) X.A (eval a X.env) (fun v s₁ => wpAny (model X.prog X.w) X.A (eval b X.env) (fun u s₂ => wpAny (model X.prog X.w) X.A (compareOp op v u) (EP X pins σ Q) X.xe s₂) X.xe s₁) X.xe s
theorem nobehind (b : Expr) {op : CmpOp} (h : op ≠ .In) (h2 : op ≠ .NotIn) : behindInMarks op b = false := by
 have e1 : (op == CmpOp.In) = false := by cases op <;> first | rfl | exact absurd rfl h
 have e2 : (op == CmpOp.NotIn) = false := by cases op <;> first | rfl | exact absurd rfl h2
 cases b <;> simp [behindInMarks, e1, e2]
def tIsN (ta : TE) : TE := fun σ H Q => ta σ H fun x H1 => Q (.bl (decide (x = .non))) H1
theorem RelV.none_iff {x : V} {v : Value} (r : RelV x v) : (v == Value.none) = decide (x = .non) := by
 cases x with
 | non => cases r; rfl
 | bl _ => cases r; rfl
 | int _ => obtain ⟨t, rfl⟩ := r; rfl
 | str _ => obtain ⟨t, rfl⟩ := r; rfl
 | byt _ => obtain ⟨t, rfl⟩ := r; rfl
 | flt _ => obtain ⟨t, rfl⟩ := r; rfl
 | ref _ => cases r; rfl
 | ty _ => cases r; rfl
theorem pc_isN {j pos'} (ha : PE X a ta) : PC X .Is a (.Constant .none j pos') (tIsN ta) := by
 intro pins s σ H Q I h
 refine thn (ha pins s σ H _ I h) fun v s1 ⟨x, H1, I1, r1, q1⟩ => ?_
 exact Constant_none (is_none_gen ⟨.bl _, H1, I1, by rw [r1.none_iff]; rfl, q1⟩)
def tB (t : TE) : TT := fun σ H Q => t σ H fun x H1 => ∃ c, x = .bl c ∧ Q c H1
theorem pe_cmp {op : CmpOp} {t : TE} (h : PC X op a b t) (h1 : behindInMarks op b = false := by first | exact nobehind _ (by decide) (by decide) | rfl) : PE X (.Compare a [op] [b] pos) t := fun pins s σ H Q I hw => wpAny_Compare1 (h pins s σ H Q I hw) h1
theorem pt_val {e : Expr} {t : TE} (h : PE X e t) (he : ∀ whole, isTrue e X.env whole = (do let v ← whole; standAt e.pos; holding [v] (truthy v)) := by intro _; rfl) : PT X e (tB t) := by
 intro pins s σ H Q I hw
 refine isTrue_plain (thn (h pins s σ H _ I hw) fun v s1 ⟨x, H1, I1, r1, q1⟩ => ?_) (he _)
 obtain ⟨d, rfl, q⟩ := q1
 cases r1
 exact wpAny_truthy_bool ⟨H1, I1, q⟩
variable {tA tB' : TT} {rest : List Expr}
def tAnd (t u : TT) : TT := fun σ H Q => t σ H fun c H1 => if c = true then u σ H1 Q else Q false H1
def tOr (t u : TT) : TT := fun σ H Q => t σ H fun c H1 => if c = true then Q true H1 else u σ H1 Q
def tNot (t : TT) : TT := fun σ H Q => t σ H fun c H1 => Q (!c) H1
theorem pw_and1 (ha : PT X a tA) : PW X (.BoolOp .And [a] pos) tA := by
 intro wh pins s σ H Q I h
 refine isTrue_and (thn (ha pins s σ H Q I h) fun c s1 e => ?_)
 cases c with
 | true => exact isTrue_and_nil e
 | false => exact e
theorem pw_or1 (ha : PT X a tA) : PW X (.BoolOp .Or [a] pos) tA := by
 intro wh pins s σ H Q I h
 refine isTrue_or (thn (ha pins s σ H Q I h) fun c s1 e => ?_)
 cases c with
 | false => exact isTrue_or_nil e
 | true => exact e
theorem pw_and (ha : PT X a tA) (hb : PW X (.BoolOp .And (b :: rest) pos) tB') : PW X (.BoolOp .And (a :: b :: rest) pos) (tAnd tA tB') := by
 intro wh pins s σ H Q I h
 refine isTrue_and (thn (ha pins s σ H _ I h) fun c s1 ⟨H1, I1, q1⟩ => ?_)
 cases c with
 | true => exact hb wh pins s1 σ H1 Q I1 q1
 | false => exact ⟨H1, I1, q1⟩
theorem pw_or (ha : PT X a tA) (hb : PW X (.BoolOp .Or (b :: rest) pos) tB') : PW X (.BoolOp .Or (a :: b :: rest) pos) (tOr tA tB') := by
 intro wh pins s σ H Q I h
 refine isTrue_or (thn (ha pins s σ H _ I h) fun c s1 ⟨H1, I1, q1⟩ => ?_)
 cases c with
 | true => exact ⟨H1, I1, q1⟩
 | false => exact hb wh pins s1 σ H1 Q I1 q1
theorem pt_not (ha : PT X a tA) : PT X (.UnaryOp .Not a pos) (tNot tA) := by
 intro pins s σ H Q I h
 exact isTrue_not (ha pins s σ H (fun c H1 => Q (!c) H1) I h)
def tAndV (ta tb : TE) : TE := fun σ H Q => ta σ H fun x H1 => ∃ c, x = .bl c ∧ if c = true then tb σ H1 Q else Q (.bl false) H1
def tOrV (ta tb : TE) : TE := fun σ H Q => ta σ H fun x H1 => ∃ c, x = .bl c ∧ if c = true then Q (.bl true) H1 else tb σ H1 Q
def tNotV (ta : TE) : TE := fun σ H Q => ta σ H fun x H1 => ∃ c, x = .bl c ∧ Q (.bl (!c)) H1
theorem pe_one {op} {t : TE} (h : PE X a t) : PE X (.BoolOp op [a] pos) t := fun pins s σ H Q I hw => BoolOp_one (h pins s σ H Q I hw)
theorem pe_and (ha : PE X a ta) (hb : PE X (.BoolOp .And (b :: rest) pos) tb) : PE X (.BoolOp .And (a :: b :: rest) pos) (tAndV ta tb) := by
 intro pins s σ H Q I h
 refine BoolOp_and (thn (ha pins s σ H _ I h) fun v s1 ⟨x, H1, I1, r1, q1⟩ => ?_)
 obtain ⟨c, rfl, q1⟩ := q1
 cases r1
 refine wpAny_truthy_bool ?_
 cases c with
 | true => exact hb pins s1 σ H1 Q I1 q1
 | false => exact ⟨.bl false, H1, I1, rfl, q1⟩
theorem pe_or (ha : PE X a ta) (hb : PE X (.BoolOp .Or (b :: rest) pos) tb) : PE X (.BoolOp .Or (a :: b :: rest) pos) (tOrV ta tb) := by
 intro pins s σ H Q I h
 refine BoolOp_or (thn (ha pins s σ H _ I h) fun v s1 ⟨x, H1, I1, r1, q1⟩ => ?_)
 obtain ⟨c, rfl, q1⟩ := q1
 cases r1
 refine wpAny_truthy_bool ?_
 cases c with
 | false => exact hb pins s1 σ H1 Q I1 q1
 | true => exact ⟨.bl true, H1, I1, rfl, q1⟩
def tIf (t : TT) (ta tb : TE) : TE := fun σ H Q => t σ H fun c H1 => if c = true then ta σ H1 Q else tb σ H1 Q
theorem pe_ifExp {c : Expr} (hc : PT X c tA) (ha : PE X a ta) (hb : PE X b tb) : PE X (.IfExp c a b pos) (tIf tA ta tb) := by
 intro pins s σ H Q I h
 refine wpAny_IfExp (thn (hc pins s σ H _ I h) fun d s1 ⟨H1, I1, q1⟩ => ?_)
 cases d with
 | true => exact ha pins s1 σ H1 Q I1 q1
 | false => exact hb pins s1 σ H1 Q I1 q1
end
end L2
namespace L2
open PySem PySem.Spec PyProof.Rows
def SqL (K : PySem.W.Frag) (H : Hp) (a : Addr) (xs : List V) : Prop :=
 Rd H a (.lst xs) ∨
  ∃ (o : Obj) (its : Array Value) (n : Nat), K.lookup a = some o ∧ o.cls = .type "list" ∧ o.dict = none ∧ o.data = .seq its n ∧ its.size ≤ sizeLine ∧ Vals xs its.toList
def SqT (K : PySem.W.Frag) (H : Hp) (a : Addr) (xs : List V) : Prop :=
 Rd H a (.tup xs) ∨
  ∃ (o : Obj) (its : Array Value) (n : Nat), K.lookup a = some o ∧ o.cls = .type "tuple" ∧ o.data = .seq its n ∧ its.size ≤ sizeLine ∧ Vals xs its.toList
noncomputable def absV : Value → Option V
 | .none => some .non
 | .bool b => some (.bl b)
 | .int i _ => some (.int i)
 | .str x _ => some (.str x)
 | .bytes b _ => some (.byt b)
 | .float b _ => some (.flt b)
 | .ref a => some (.ref a)
 | .type n => some (.ty n)
 | _ => none
theorem RelV.abs {x : V} {u : Value} (r : RelV x u) : absV u = some x := by
 cases x with
 | non => cases r; rfl
 | bl _ => cases r; rfl
 | int _ => obtain ⟨t, rfl⟩ := r; rfl
 | str _ => obtain ⟨t, rfl⟩ := r; rfl
 | byt _ => obtain ⟨t, rfl⟩ := r; rfl
 | flt _ => obtain ⟨t, rfl⟩ := r; rfl
 | ref _ => cases r; rfl
 | ty _ => cases r; rfl
theorem RelV.inj {x y : V} {u : Value} (r : RelV x u) (q : RelV y u) : x = y := Option.some.inj (r.abs.symm.trans q.abs)
theorem Vals.inj : ∀ {xs ys : List V} {us : List Value}, Vals xs us → Vals ys us → xs = ys
 | _, _, _, .nil, .nil => rfl
 | _, _, _, .cons r t, .cons r' t' => by rw [r.inj r', Vals.inj t t']
section
variable {X : Cx} {pins : List (Addr × Obj)} {σ : St} {H : Hp} {s : Shared} {a : Addr} {xs ys : List V}
theorem SqL.of {K : PySem.W.Frag} (h : H a = some (.lst xs)) : SqL K H a xs := .inl (.inl h)
theorem SqT.of {K : PySem.W.Frag} (h : H a = some (.tup xs)) : SqT K H a xs := .inl (.inl h)
theorem Inv.list (I : Inv X pins σ H s) (h : SqL X.K H a xs) : ∃ its : List Value, Vals xs its ∧ PlainL s.heap a its.toArray ∧ xs.length ≤ sizeLine := by
 rcases h with h | ⟨o, its, n, hk, hc, hd, hs, hz, r⟩
 ·obtain ⟨z, its, n, r, e⟩ := h.ok I.hok
  exact ⟨its, r, ⟨_, n, e, rfl, rfl, rfl⟩, z⟩
 ·refine ⟨its.toList, r, ⟨o, n, I.kIn a o hk, hc, hd, by simpa using hs⟩, ?_⟩
  have e := r.length
  simp only [Array.length_toList] at e
  omega
theorem Inv.tuple (I : Inv X pins σ H s) (h : SqT X.K H a xs) : ∃ its : List Value, Vals xs its ∧ IsTup s.heap a its.toArray ∧ xs.length ≤ sizeLine := by
 rcases h with h | ⟨o, its, n, hk, hc, hs, hz, r⟩
 ·obtain ⟨z, its, r, p⟩ := h.ok I.hok
  exact ⟨its, r, p.tup, z⟩
 ·refine ⟨its.toList, r, ⟨o, I.kIn a o hk, hc, n, by simpa using hs⟩, ?_⟩
  have e := r.length
  simp only [Array.length_toList] at e
  omega
theorem Inv.list_inj (I : Inv X pins σ H s) (h : SqL X.K H a xs) (h' : SqL X.K H a ys) : xs = ys := by
 obtain ⟨its, r, ⟨o, n, e, _, _, d⟩, _⟩ := I.list h
 obtain ⟨its', r', ⟨o', n', e', _, _, d'⟩, _⟩ := I.list h'
 rw [e] at e'; cases e'
 rw [d] at d'
 injection d' with d1 _
 have : its = its' := by simpa using congrArg Array.toList d1
 subst this
 exact r.inj r'
theorem Inv.tuple_inj (I : Inv X pins σ H s) (h : SqT X.K H a xs) (h' : SqT X.K H a ys) : xs = ys := by
 obtain ⟨its, r, ⟨o, e, _, n, d⟩, _⟩ := I.tuple h
 obtain ⟨its', r', ⟨o', e', _, n', d'⟩, _⟩ := I.tuple h'
 rw [e] at e'; cases e'
 rw [d] at d'
 injection d' with d1 _
 have : its = its' := by simpa using congrArg Array.toList d1
 subst this
 exact r.inj r'
end
noncomputable abbrev Cx.wish (X : Cx) (E : Value → Shared → Prop) : Cx := { X with xe := E }
noncomputable abbrev Cx.nox (X : Cx) : Cx := X.wish fun _ _ => False
theorem Cx.Ok.wish {X : Cx} (ok : X.Ok) (E : Value → Shared → Prop) : (X.wish E).Ok :=
 ⟨ok.mod, ok.kind, ok.glob, ok.blt, ok.above, ok.inj, ok.has, ok.cab, ok.hd, ok.frames, ok.stk, ok.exf, ok.bs, ok.bsz, ok.noex, ok.exfs, ok.funs, ok.frf⟩
theorem Cx.Ok.unwish {X : Cx} {E : Value → Shared → Prop} (ok : (X.wish E).Ok) : X.Ok :=
 ⟨ok.mod, ok.kind, ok.glob, ok.blt, ok.above, ok.inj, ok.has, ok.cab, ok.hd, ok.frames, ok.stk, ok.exf, ok.bs, ok.bsz, ok.noex, ok.exfs, ok.funs, ok.frf⟩
section
variable {X : Cx} {pins : List (Addr × Obj)} {σ : St} {H : Hp} {s : Shared} {E : Value → Shared → Prop}
theorem Inv.wish (I : Inv X pins σ H s) (E : Value → Shared → Prop) : Inv (X.wish E) pins σ H s := ⟨I.ok.wish E, I.os, I.bare, I.base, I.loc, I.cell, I.free, I.freeC, I.pin, I.hok, I.len⟩
theorem Inv.unwish (I : Inv (X.wish E) pins σ H s) : Inv X pins σ H s := ⟨I.ok.unwish, I.os, I.bare, I.base, I.loc, I.cell, I.free, I.freeC, I.pin, I.hok, I.len⟩
theorem SP.unwish {D : Ends} {f : Flow} {s' : Shared} (h : SP (X.wish E) pins D f s') : SP X pins D f s' := by
 cases f with
 | next => obtain ⟨σ', H', I, q⟩ := h; exact ⟨σ', H', I.unwish, q⟩
 | brk => obtain ⟨σ', H', I, q⟩ := h; exact ⟨σ', H', I.unwish, q⟩
 | cont => obtain ⟨σ', H', I, q⟩ := h; exact ⟨σ', H', I.unwish, q⟩
 | ret u => obtain ⟨v, σ', H', I, r, q⟩ := h; exact ⟨v, σ', H', I.unwish, r, q⟩
theorem PSs.nox {st : List Stmt} {t : TS} (h : PSs X.nox st t) : PSs X st t := fun pins s σ H D I hw =>
 wpAny_mono (h pins s σ H D (I.wish _) hw) (fun _ _ q => q.unwish) fun _ _ z => False.elim z
end
section
variable {X : Cx} {st : Stmt} {rest : List Stmt} {t u : TS} {e : Expr} {te : TE} {pos : Pos}
def tNext : TS := fun D σ H => D.nx σ H
def tSeq (t u : TS) : TS := fun D σ H => t { D with nx := u D } σ H
theorem pss_nil : PSs X [] tNext := fun _ _ σ H _ I h => wpAny_execs_nil ⟨σ, H, I, h⟩
theorem pss_cons (h1 : PS X st t) (h2 : PSs X rest u) : PSs X (st :: rest) (tSeq t u) := by
 intro pins s σ H D I h
 refine wpAny_execs_cons (thn (h1 pins s σ H { D with nx := u D } I h) fun f s1 q => ?_)
 cases f with
 | next =>
  obtain ⟨σ', H', I', q⟩ := q
  exact h2 pins s1 σ' H' D I' q
 | ret v => exact q
 | brk => exact q
 | cont => exact q
theorem pss_one (h1 : PS X st t) : PSs X [st] t := by
 intro pins s σ H D I h
 refine wpAny_execs_cons (thn (h1 pins s σ H D I h) fun f s1 q => ?_)
 cases f with
 | next => exact wpAny_execs_nil q
 | ret v => exact q
 | brk => exact q
 | cont => exact q
theorem Inv.quiet {pins : List (Addr × Obj)} {σ : St} {H : Hp} {s : Shared} (I : Inv X pins σ H s) : interactive X.env = false := by simp [interactive, I.ok.kind]
def tDrop (te : TE) : TS := fun D σ H => te σ H fun _ H1 => D.nx σ H1
theorem ps_expr (he : PE X e te) (hs : swapsWith e none pos.line X.env = pure false := by rfl) : PS X (.Expr e pos) (tDrop te) := by
 intro pins s σ H D I h
 exact wpAny_Expr_any (thn (he pins s σ H _ I h) fun v s1 ⟨x, H1, I1, r1, q1⟩ => ⟨σ, H1, I1, q1⟩) I.quiet hs
def tRet (te : TE) : TS := fun D σ H => te σ H D.rt
theorem ps_ret (he : PE X e te) : PS X (.Return (some e) pos) (tRet te) := by
 intro pins s σ H D I h
 exact wpAny_Return_some (thn (he pins s σ H _ I h) fun v s1 ⟨x, H1, I1, r1, q1⟩ => ⟨x, σ, H1, I1, r1, q1⟩)
def tRetN : TS := fun D _ H => D.rt .non H
def tIfS (c : TT) (t u : TS) : TS := fun D σ H => c σ H fun b H1 => if b = true then t D σ H1 else u D σ H1
theorem ps_if {c : Expr} {a b : List Stmt} {tc : TT} (hc : PT X c tc) (ha : PSs X a t) (hb : PSs X b u) : PS X (.If c a b pos) (tIfS tc t u) := by
 intro pins s σ H D I h
 refine wpAny_If (thn (hc pins s σ H _ I h) fun d s1 ⟨H1, I1, q1⟩ => ?_)
 cases d with
 | true => exact ha pins s1 σ H1 D I1 q1
 | false => exact hb pins s1 σ H1 D I1 q1
end
abbrev TG := V → St → Hp → (St → Hp → Prop) → Prop
def PG (X : Cx) (target : Expr) (t : TG) : Prop :=
 ∀ (pins : List (Addr × Obj)) (s : Shared) (σ : St) (H : Hp) (v : V) (u : Value) (Q : St → Hp → Prop), Inv X pins σ H s → RelV v u → t v σ H Q →
  wpAny (model X.prog X.w) X.A (assign target X.env u) (fun _ s' => ∃ σ' H', Inv X pins σ' H' s' ∧ Q σ' H') X.xe s
abbrev TSet := V → V → V → Hp → (Hp → Prop) → Prop
def PSet (X : Cx) (t : TSet) : Prop :=
 ∀ (pins : List (Addr × Obj)) (s : Shared) (σ : St) (H : Hp) (o i v : V) (ov iv u : Value) (Q : Hp → Prop), Inv X pins σ H s → RelV o ov → RelV i iv → RelV v u → t o i v H Q →
  wpAny (model X.prog X.w) X.A (setItem ov iv u) (fun _ s' => ∃ H', Inv X pins σ H' s' ∧ Q H') X.xe s
section
variable {X : Cx} {pos : Pos}
def gName (i : Nat) : TG := fun v σ H Q => Q (σ.set i (some v)) H
theorem pg_name {i : Nat} {x : Str} (hN : X.N.Nodup) (hi : X.N[i]? = some x) (hx : Loc X.env.scope x) (hf : X.fn x = true ∨ X.env.scope.names.lookup x = some .local := by first | exact .inl rfl | exact .inr rfl | assumption) : PG X (.Name x pos) (gName i) := by
 intro pins s σ H v u Q I r h
 exact wpAny_assign_Name (store_ok I hN hi hx r (fun s' I' => ⟨_, H, I', h⟩) hf)
def gSub (to ti : TE) (t : TSet) : TG := fun v σ H Q => to σ H fun o H1 => ti σ H1 fun i H2 => t o i v H2 fun H3 => Q σ H3
theorem pg_sub {o i : Expr} {to ti : TE} {t : TSet} (ho : PE X o to) (hi : PE X i ti) (hs : PSet X t)
  (ha : ∀ v, assign (.Subscript o i pos) X.env v = (do
   let ov ← holding [v] (eval o X.env)
   let iv ← holding [v, ov] (eval i X.env)
   standAt pos
   holding [v, ov, iv] (setItem ov iv v)
   release [v, ov, iv] []) := by intro _; rfl) : PG X (.Subscript o i pos) (gSub to ti t) := by
 intro pins s σ H v u Q I r h
 rw [ha]
 refine wpAny_bind (wpAny_holding (thn (ho pins s σ H _ I h) fun ov s1 ⟨x, H1, I1, r1, q1⟩ => ?_))
 refine wpAny_bind (wpAny_holding (thn (hi pins s1 σ H1 _ I1 q1) fun iv s2 ⟨y, H2, I2, r2, q2⟩ => ?_))
 refine wpAny_bind (wpAny_standAt (wpAny_bind (wpAny_holding (thn (hs pins s2 σ H2 x y v ov iv u _ I2 r1 r2 r q2) fun _ s3 ⟨H3, I3, q3⟩ => ?_))))
 exact wpAny_release ⟨σ, H3, I3, q3⟩
def tAsg (te : TE) (g : TG) : TS := fun D σ H => te σ H fun x H1 => g x σ H1 D.nx
theorem ps_asg {tg e : Expr} {te : TE} {g : TG} (he : PE X e te) (hg : PG X tg g) (hs : swapsWithSole [tg] e pos.line X.env = pure false := by rfl) (hw : swappedStores [tg] e X.env = pure none := by rfl)
  (h1 : (assignEach [tg] X.env).map (·.2) = [assign tg X.env] := by rfl) : PS X (.Assign [tg] e pos) (tAsg te g) := by
 intro pins s σ H D I h
 refine wpAny_Assign_stores (thn (he pins s σ H _ I h) fun v s1 ⟨x, H1, I1, r1, q1⟩ => ?_) hs hw
 rw [h1]
 exact thn (hg pins s1 σ H1 x v _ I1 r1 q1) fun _ s2 q => q
theorem ps_set {i : Nat} {x : Str} {e : Expr} {te : TE} {pos' : Pos} (hN : X.N.Nodup) (hi : X.N[i]? = some x) (hx : Loc X.env.scope x) (he : PE X e te) (hs : swapsWith e (some (.Name x pos')) pos.line X.env = pure false := by rfl) (hf : X.fn x = true ∨ X.env.scope.names.lookup x = some .local := by first | exact .inl rfl | exact .inr rfl | assumption) :
  PS X (.Assign [.Name x pos'] e pos) (tAsg te (gName i)) := by
 intro pins s σ H D I h
 refine wpAny_Assign_Name (thn (he pins s σ H _ I h) fun v s1 ⟨y, H1, I1, r1, q1⟩ => ?_) hs
 exact store_ok I1 hN hi hx r1 (fun s2 I2 => ⟨_, H1, I2, q1⟩) hf
end
section
variable {X : Cx} {pos : Pos}
def tWhile (c : TT) (tb : TS) : TS := fun D σ H => ∃ W : Nat → St → Hp → Prop, (∃ m, W m σ H) ∧ ∀ m σ H, W m σ H →
 c σ H fun b H1 => if b = true then ∃ N : St → Hp → Prop, (∀ σ' H', N σ' H' → ∃ m', m' < m ∧ W m' σ' H') ∧ tb { D with nx := N, ct := N, bk := D.nx } σ H1 else D.nx σ H1
theorem ps_while {c : Expr} {body : List Stmt} {tc : TT} {tb : TS} (hp : PassesOwn (model X.prog X.w) X.A X.env X.xe) (hc : PT X c tc) (hb : PSs X body tb) : PS X (.While c body [] pos) (tWhile tc tb) := by
 intro pins s σ H D I h
 obtain ⟨W, ⟨m0, w0⟩, turn⟩ := h
 refine wpAny_While (codeAny_whileLoop (fun n s' => ∃ σ' H', Inv X pins σ' H' s' ∧ W n σ' H') ?_ m0 ⟨σ, H, I, w0⟩)
 rintro n s1 ⟨σ1, H1, I1, w1⟩
 refine wpAny_passesOwn hp (thn (hc pins s1 σ1 H1 _ I1 (turn n σ1 H1 w1)) fun b s2 ⟨H2, I2, q2⟩ => ?_)
 cases b with
 | true =>
  obtain ⟨N, hN, q2⟩ := q2
  rw [if_pos rfl]
  refine wpAny_passesOwn hp (thn (hb pins s2 σ1 H2 _ I2 q2) fun f s3 q3 => ?_)
  cases f with
  | next =>
   obtain ⟨σ3, H3, I3, n3⟩ := q3
   obtain ⟨m', hm, w3⟩ := hN σ3 H3 n3
   exact ⟨m', hm, σ3, H3, I3, w3⟩
  | cont =>
   obtain ⟨σ3, H3, I3, n3⟩ := q3
   obtain ⟨m', hm, w3⟩ := hN σ3 H3 n3
   exact ⟨m', hm, σ3, H3, I3, w3⟩
  | brk => exact q3
  | ret v => exact q3
 | false =>
  rw [if_neg Bool.false_ne_true]
  exact wpAny_execs_nil ⟨σ1, H2, I2, q2⟩
end
structure It where
 go : Nat → Hp → Prop
 yld : Nat → Hp → V → Hp → Prop
 stop : Nat → Hp → Prop
def FpOk (X : Cx) (pins : List (Addr × Obj)) (H : Hp) (b : Addr) : Prop :=
 H b = none ∧ b ≠ X.env.locals ∧ b ∉ X.fs ∧ (b ∈ X.ex ∨ X.s₀.heap.objs.size ≤ b) ∧ (∀ x c, X.env.cells.lookup x = some c → c ≠ b) ∧ ∀ p ∈ X.pn ++ pins, p.1 ≠ b
theorem Inv.fpOk {X : Cx} {pins : List (Addr × Obj)} {σ : St} {H H' : Hp} {s : Shared} {b : Addr} (I : Inv X pins σ H s) (hb : s.heap.objs.size ≤ b) (hn : H' b = none) : FpOk X pins H' b := by
 refine ⟨hn, Nat.ne_of_gt (Nat.lt_of_lt_of_le I.lt hb), I.nofs hb, .inr (Nat.le_trans I.sz hb), fun x c e z => ?_, fun p hp z => ?_⟩
 ·obtain ⟨v, q⟩ := I.cell x c e
  exact absurd (Nat.lt_of_lt_of_le q.lt (by rw [z]; exact hb)) (Nat.lt_irrefl _)
 ·exact absurd (Nat.lt_of_lt_of_le (Heap.lt_size (I.pin p hp).1) (by rw [z]; exact hb)) (Nat.lt_irrefl _)
structure Turn (P : Program) (w : World) (K : PySem.W.Frag) (tg : Expr) (J : It) (fp : List Addr) (it : Addr) (tn : Nat → Heap → Prop) : Prop where
 mem : it ∈ fp
 obj : ∀ i h, tn i h → ∀ b ∈ fp, ∃ o, h.get? b = some o ∧ ∀ v, o.data ≠ .cell v
 keep : ∀ i h h', tn i h → (∀ b ∈ fp, ∀ o, h.get? b = some o → h'.get? b = some o) → tn i h'
 item : ∀ (X : Cx), X.prog = P → X.w = w → X.K = K → X.calm = true → ∀ (i : Nat) (pins : List (Addr × Obj)) (s : Shared) (σ : St) (H : Hp) (E : Value → Shared → Prop), Inv X pins σ H s → (∀ b ∈ fp, FpOk X pins H b) → tn i s.heap → J.go i H →
  wpAny (model P w) X.A (pyNext (.ref it)) (fun r s1 => ∃ u, r = some u ∧
   wpAny (model P w) X.A (letOwnedTupleGo tg (.ref it) u) (fun _ s2 => ∃ x H', Inv X pins σ H' s2 ∧ RelV x u ∧ J.yld i H x H' ∧ tn (i + 1) s2.heap ∧ ∀ b ∈ fp, H' b = none) E s1) E s
 done : ∀ (X : Cx), X.prog = P → X.w = w → X.K = K → X.calm = true → ∀ (i : Nat) (pins : List (Addr × Obj)) (s : Shared) (σ : St) (H : Hp) (E : Value → Shared → Prop), Inv X pins σ H s → (∀ b ∈ fp, FpOk X pins H b) → tn i s.heap → J.stop i H →
  wpAny (model P w) X.A (pyNext (.ref it)) (fun r s1 => r = none ∧ Inv X pins σ H s1) E s
 self : ∀ (A : Around) (i : Nat) (s : Shared) (Q : Value → Shared → Prop) (E : Value → Shared → Prop), tn i s.heap → Q (.ref it) s → wpAny (model P w) A (pyIter (.ref it)) Q E s
abbrev TI := St → Hp → (It → Hp → Prop) → Prop
def PIE (X : Cx) (pins : List (Addr × Obj)) (σ : St) (tg : Expr) (R : It → Hp → Prop) (itv : Value) (s2 : Shared) : Prop :=
 ∃ (it : Addr) (fp : List Addr) (tn : Nat → Heap → Prop) (J : It) (H' : Hp), itv = .ref it ∧ Inv X pins σ H' s2 ∧ Turn X.prog X.w X.K tg J fp it tn ∧ tn 0 s2.heap ∧ (∀ b ∈ fp, FpOk X pins H' b) ∧ R J H'
def PI (X : Cx) (tg iter : Expr) (wi : TI) : Prop :=
 ∀ (pins : List (Addr × Obj)) (s : Shared) (σ : St) (H : Hp) (R : It → Hp → Prop), Inv X pins σ H s → wi σ H R →
  wpAny (model X.prog X.w) X.A (eval iter X.env) (fun v s1 => wpAny (model X.prog X.w) X.A (pyIter v) (PIE X pins σ tg R) X.xe s1) X.xe s
theorem go_of {M : Model} {A : Around} {E : Value → Shared → Prop} {s : Shared} {tg : Expr} {it : Addr} {u : Value} {o : Obj} {n : String} {vs : Array Value} {Q : Unit → Shared → Prop} (ho : s.heap.get? it = some o) (hc : o.cls = .type n) (hd : o.data = .fields vs)
    (hn : ["enumerate", "zip", "dict_itemiterator", "dict_reverseitemiterator", "odict_iterator", "itertools.zip_longest", "itertools.pairwise"].contains n = false) (hQ : Q () s) : wpAny M A (letOwnedTupleGo tg (.ref it) u) Q E s := by
  unfold letOwnedTupleGo
  cases tg <;> first
    | exact wpAny_pure hQ
    | (cases u <;> first
        | exact wpAny_pure hQ
        | (refine wpAny_bind (wpAny_load ho ?_)
           rw [hc, hd]
           show wpAny M A (if (["enumerate", "zip", "dict_itemiterator", "dict_reverseitemiterator", "odict_iterator", "itertools.zip_longest", "itertools.pairwise"].contains n && vs[0]? == some (rawInt _)) = true then _ else _) Q E s
           rw [if_neg (by intro h; rw [hn, Bool.false_and] at h; cases h)]
           exact wpAny_pure hQ))
noncomputable def Itl (K : PySem.W.Frag) (a : Addr) : It :=
 ⟨fun i H => ∃ xs x, SqL K H a xs ∧ xs[i]? = some x, fun i H x H' => H' = H ∧ ∀ xs, SqL K H a xs → xs[i]? = some x, fun i H => ∃ xs, SqL K H a xs ∧ xs.length ≤ i⟩
noncomputable def Itt (K : PySem.W.Frag) (a : Addr) : It :=
 ⟨fun i H => ∃ xs x, SqT K H a xs ∧ xs[i]? = some x, fun i H x H' => H' = H ∧ ∀ xs, SqT K H a xs → xs[i]? = some x, fun i H => ∃ xs, SqT K H a xs ∧ xs.length ≤ i⟩
noncomputable def Itr (lo : Int) (n : Nat) : It := ⟨fun i _ => i < n, fun i H x H' => H' = H ∧ x = .int (lo + i), fun i _ => n ≤ i⟩
theorem turn_list {P : Program} {w : World} {K : PySem.W.Frag} {tg : Expr} (a it : Addr) : Turn P w K tg (Itl K a) [it] it (fun i h => h.IsListIter it a i) where
 mem := by simp
 obj := fun i h st b hb => by
  have e : b = it := by simpa using hb
  subst e
  obtain ⟨o, e, c, d⟩ := st
  exact ⟨o, e, fun v z => by rw [d] at z; cases z⟩
 keep := fun i h h' st k => st.at fun o e => k it (by simp) o e
 item := by
  intro X hP hw hK hc i pins s σ H E I hf st hg
  subst hP hw hK
  obtain ⟨xs, x, hq, hx⟩ := hg
  obtain ⟨its, rv, p, hz⟩ := I.list hq
  obtain ⟨u, hu, ru⟩ := rv.get hx
  obtain ⟨f0, f1, f2, f3, f4, f5⟩ := hf it (by simp)
  refine wpAny_pyNext_list_item st p.isList (x := u) (by simpa using hu) fun h' st' sb => ?_
  have I1 : Inv X pins σ H { s with heap := h' } := I.turned (t' := s.toks) (fun b o hb e => (sb.2 b hb).trans e) f0 f1 f3 f4 f5
  obtain ⟨o, e, c, d⟩ := id st'
  exact ⟨u, rfl, go_of (s := { s with heap := h' }) e c d (by decide) ⟨x, H, I1, ru, ⟨rfl, fun ys hy => by rw [I.list_inj hy hq]; exact hx⟩, st', fun b hb => (hf b hb).1⟩⟩
 done := by
  intro X hP hw hK hc i pins s σ H E I hf st hg
  subst hP hw hK
  obtain ⟨xs, hq, hx⟩ := hg
  obtain ⟨its, rv, p, hz⟩ := I.list hq
  obtain ⟨f0, f1, f2, f3, f4, f5⟩ := hf it (by simp)
  have hl := rv.length
  exact wpAny_pyNext_list_end (I.ok.hd hc) st p.isList (by simp; omega) fun h' eb => ⟨rfl, I.turned (t' := s.toks) (fun b o hb e => eb b o hb e) f0 f1 f3 f4 f5⟩
 self := fun _ _ _ _ _ st h => wpAny_pyIter_listiter st h
theorem turn_tuple {P : Program} {w : World} {K : PySem.W.Frag} {tg : Expr} (a it : Addr) : Turn P w K tg (Itt K a) [it] it (fun i h => h.IsTupleIter it a i) where
 mem := by simp
 obj := fun i h st b hb => by
  have e : b = it := by simpa using hb
  subst e
  obtain ⟨o, e, c, d⟩ := st
  exact ⟨o, e, fun v z => by rw [d] at z; cases z⟩
 keep := fun i h h' st k => st.at fun o e => k it (by simp) o e
 item := by
  intro X hP hw hK hc i pins s σ H E I hf st hg
  subst hP hw hK
  obtain ⟨xs, x, hq, hx⟩ := hg
  obtain ⟨its, rv, p, hz⟩ := I.tuple hq
  obtain ⟨u, hu, ru⟩ := rv.get hx
  obtain ⟨f0, f1, f2, f3, f4, f5⟩ := hf it (by simp)
  refine wpAny_pyNext_tuple_item st (show s.heap.IsTuple a its.toArray from p) (x := u) (by simpa using hu) fun h' st' sb => ?_
  have I1 : Inv X pins σ H { s with heap := h' } := I.turned (t' := s.toks) (fun b o hb e => (sb.2 b hb).trans e) f0 f1 f3 f4 f5
  obtain ⟨o, e, c, d⟩ := id st'
  exact ⟨u, rfl, go_of (s := { s with heap := h' }) e c d (by decide) ⟨x, H, I1, ru, ⟨rfl, fun ys hy => by rw [I.tuple_inj hy hq]; exact hx⟩, st', fun b hb => (hf b hb).1⟩⟩
 done := by
  intro X hP hw hK hc i pins s σ H E I hf st hg
  subst hP hw hK
  obtain ⟨xs, hq, hx⟩ := hg
  obtain ⟨its, rv, p, hz⟩ := I.tuple hq
  obtain ⟨f0, f1, f2, f3, f4, f5⟩ := hf it (by simp)
  have hl := rv.length
  exact wpAny_pyNext_tuple_end (I.ok.hd hc) st (show s.heap.IsTuple a its.toArray from p) (by simp; omega) fun h' eb => ⟨rfl, I.turned (t' := s.toks) (fun b o hb e => eb b o hb e) f0 f1 f3 f4 f5⟩
 self := fun _ _ _ _ _ st h => wpAny_pyIter_tupleiter st h
theorem turn_range {P : Program} {w : World} {K : PySem.W.Frag} {tg : Expr} (it : Addr) (lo : Int) (n : Nat) : Turn P w K tg (Itr lo n) [it] it (fun i h => IsRangeIter h it (lo + (i : Nat) * 1) ((n : Int) - (i : Nat)) 1) where
 mem := by simp
 obj := fun i h st b hb => by
  have e : b = it := by simpa using hb
  subst e
  exact ⟨_, st, fun v z => by
   have z' : Data.fields _ = Data.cell v := z
   cases z'⟩
 keep := fun i h h' st k => k it (by simp) _ st
 item := by
  intro X hP hw hK hc i pins s σ H E I hf st hg
  subst hP hw hK
  obtain ⟨f0, f1, f2, f3, f4, f5⟩ := hf it (by simp)
  have W := Walks.range (prog := X.prog) (w := X.w) (I.ok.hd hc) it lo 1 n
  refine W.item i s _ _ hg st fun v h' tk hv st' kk => ?_
  obtain ⟨t, rfl⟩ := hv
  have I1 : Inv X pins σ H { s with heap := h', toks := tk } := I.turned (fun b o hb e => kk b o (by simpa using hb) e) f0 f1 f3 f4 f5
  refine ⟨_, rfl, go_of (s := { s with heap := h', toks := tk }) (n := "range_iterator") st' rfl rfl (by decide) ⟨.int (lo + i), H, I1, ⟨t, ?_⟩, ⟨rfl, rfl⟩, st', fun b hb => (hf b hb).1⟩⟩
  rw [Int.mul_one]
 done := by
  intro X hP hw hK hc i pins s σ H E I hf st hg
  subst hP hw hK
  obtain ⟨f0, f1, f2, f3, f4, f5⟩ := hf it (by simp)
  exact wpAny_pyNext_range_end (I.ok.hd hc) st (by have : n ≤ i := hg; omega) fun h' eb => ⟨rfl, I.turned (t' := s.toks) (fun b o hb e => eb b o hb e) f0 f1 f3 f4 f5⟩
 self := fun _ _ _ _ _ st h => wpAny_pyIter_rangeiter st h
end L2
namespace L2
open PySem PySem.Spec PyProof.Rows
section
variable {X : Cx} {tg : Expr}
def iList (K : PySem.W.Frag) (tl : TE) : TI := fun σ H R => tl σ H fun x H1 => ∃ a, x = .ref a ∧ (∃ xs, SqL K H1 a xs) ∧ R (Itl K a) H1
def iTup (K : PySem.W.Frag) (tl : TE) : TI := fun σ H R => tl σ H fun x H1 => ∃ a, x = .ref a ∧ (∃ xs, SqT K H1 a xs) ∧ R (Itt K a) H1
theorem pi_list {l : Expr} {tl : TE} (hl : PE X l tl) : PI X tg l (iList X.K tl) := by
 intro pins s σ H R I h
 refine thn (hl pins s σ H _ I h) fun v s1 ⟨x, H1, I1, r1, q1⟩ => ?_
 obtain ⟨a, e, ⟨xs, hq⟩, q⟩ := q1
 subst e
 cases r1
 obtain ⟨its, rv, p, hz⟩ := I1.list hq
 refine wpAny_pyIter_list p.isList ?_
 refine ⟨s1.heap.objs.size, [s1.heap.objs.size], _, _, H1, rfl, I1.kept (t' := s1.toks) fun b o e => Heap.get?_push_of_some _ e, turn_list a _, ⟨_, Heap.get?_push_size _ rfl, rfl, rfl⟩, fun b hb => ?_, q⟩
 have e : b = s1.heap.objs.size := by simpa using hb
 subst e
 exact I1.fpOk (Nat.le_refl _) (I1.hok.fresh (Nat.le_refl _))
theorem pi_tup {l : Expr} {tl : TE} (hl : PE X l tl) : PI X tg l (iTup X.K tl) := by
 intro pins s σ H R I h
 refine thn (hl pins s σ H _ I h) fun v s1 ⟨x, H1, I1, r1, q1⟩ => ?_
 obtain ⟨a, e, ⟨xs, hq⟩, q⟩ := q1
 subst e
 cases r1
 obtain ⟨its, rv, p, hz⟩ := I1.tuple hq
 refine wpAny_pyIter_tuple (show s1.heap.IsTuple a its.toArray from p) ?_
 refine ⟨s1.heap.objs.size, [s1.heap.objs.size], _, _, H1, rfl, I1.kept (t' := s1.toks) fun b o e => Heap.get?_push_of_some _ e, turn_tuple a _, ⟨_, Heap.get?_push_size _ rfl, rfl, rfl⟩, fun b hb => ?_, q⟩
 have e : b = s1.heap.objs.size := by simpa using hb
 subst e
 exact I1.fpOk (Nat.le_refl _) (I1.hok.fresh (Nat.le_refl _))
theorem range_it {pins : List (Addr × Obj)} {σ : St} {H : Hp} {s : Shared} {R : It → Hp → Prop} {E : Value → Shared → Prop} {lo hi : Int} {t u v : Tok} {tk : Nat} (I : Inv X pins σ H s) (h1 : -(2 ^ 62) ≤ lo) (h2 : lo < 2 ^ 62) (h3 : -(2 ^ 62) ≤ hi) (h4 : hi < 2 ^ 62)
  (q : R (Itr lo (hi - lo).toNat) H) : wpAny (model X.prog X.w) X.A (pyIter (.ref s.heap.objs.size)) (PIE X pins σ tg R) E { s with heap := s.heap.push { cls := .type "range", data := .fields #[.int lo t, .int hi u, .int 1 v] }, toks := tk } := by
 refine wpAny_pyIter_range (IsRange.new ..) (small_one h1 h2 h3 h4) ?_
 have I1 : Inv X pins σ H { s with heap := s.heap.push { cls := .type "range", data := .fields #[.int lo t, .int hi u, .int 1 v] }, toks := tk } := I.kept fun b o e => Heap.get?_push_of_some _ e
 refine ⟨(s.heap.push { cls := .type "range", data := .fields #[.int lo t, .int hi u, .int 1 v] }).objs.size, [(s.heap.push { cls := .type "range", data := .fields #[.int lo t, .int hi u, .int 1 v] }).objs.size], _, _, H, rfl,
  I1.kept (t' := tk) fun b o e => Heap.get?_push_of_some _ e, turn_range _ lo (hi - lo).toNat, ?_, fun b hb => ?_, q⟩
 ·have e1 : lo + ((0 : Nat) : Int) * 1 = lo := by simp
  have e2 : (((hi - lo).toNat : Nat) : Int) - ((0 : Nat) : Int) = Builtin.Range.rangeSize lo hi 1 := by rw [rangeSize_one]; split <;> omega
  show IsRangeIter _ _ (lo + ((0 : Nat) : Int) * 1) ((((hi - lo).toNat : Nat) : Int) - ((0 : Nat) : Int)) 1
  rw [e1, e2]
  exact Heap.get?_push_size _ rfl
 ·have e : b = (s.heap.push { cls := .type "range", data := .fields #[.int lo t, .int hi u, .int 1 v] }).objs.size := by simpa using hb
  subst e
  exact I1.fpOk (Nat.le_refl _) (I1.hok.fresh (Nat.le_refl _))
def iRng1 (ta : TA) : TI := fun σ H R => ta σ H fun vs H1 => ∃ j : Int, vs = [.int j] ∧ -(2 ^ 62) ≤ j ∧ j < 2 ^ 62 ∧ R (Itr 0 j.toNat) H1
def iRng2 (ta : TA) : TI := fun σ H R => ta σ H fun vs H1 => ∃ i j : Int, vs = [.int i, .int j] ∧ (-(2 ^ 62) ≤ i ∧ i < 2 ^ 62 ∧ -(2 ^ 62) ≤ j ∧ j < 2 ^ 62) ∧ R (Itr i (j - i).toNat) H1
theorem pi_range1 {a : Expr} {ta : TA} {p pos : Pos} (hg : Gl X "range") (hm : X.mg "range" = none) (ha : PA X [a] ta) (hs : starEach [a] X.env = [(false, eval a X.env)] := by rfl) : PI X tg (.Call (.Name "range" p) [a] [] pos) (iRng1 ta) := by
 intro pins s σ H R I h
 refine Call_ (ld_blt I hg hm boot_range (PyProof.Rows.callWith_type1 (thn (ha pos pins s σ H _ I h) fun us s1 ⟨vs, H1, I1, r1, q1⟩ => ?_) hs rfl))
 obtain ⟨j, e, q1, q2, q⟩ := q1
 subst e
 cases r1 with
 | cons r rr =>
  cases rr
  obtain ⟨t, rfl⟩ := r
  exact call_range_1 (range_it I1 (by omega) (by omega) q1 q2 (by simpa using q))
def tFor (wi : TI) (g : TG) (tb : TS) : TS := fun D σ H => wi σ H fun J H1 => ∃ W : Nat → Nat → St → Hp → Prop, (∃ m, W 0 m σ H1) ∧ ∀ i m σ H, W i m σ H →
 (J.stop i H ∧ D.nx σ H) ∨ (J.go i H ∧ ∃ N : St → Hp → Prop, (∀ σ' H', N σ' H' → ∃ m', m' < m ∧ W (i + 1) m' σ' H') ∧ ∀ x H', J.yld i H x H' → g x σ H' fun σ2 H2 => tb { D with nx := N, ct := N, bk := D.nx } σ2 H2)
noncomputable def pinsAt (fp : List Addr) (h : Heap) : List (Addr × Obj) := fp.filterMap fun b => (h.get? b).map fun o => (b, o)
theorem mem_pinsAt {fp : List Addr} {h : Heap} {b : Addr} {o : Obj} (hb : b ∈ fp) (e : h.get? b = some o) : (b, o) ∈ pinsAt fp h := List.mem_filterMap.mpr ⟨b, hb, by rw [e]; rfl⟩
theorem of_pinsAt {fp : List Addr} {h : Heap} {p : Addr × Obj} (hp : p ∈ pinsAt fp h) : p.1 ∈ fp ∧ h.get? p.1 = some p.2 := by
 obtain ⟨b, hb, e⟩ := List.mem_filterMap.mp hp
 cases q : h.get? b with
 | none => rw [q] at e; cases e
 | some o =>
  rw [q] at e
  have e' : (b, o) = p := Option.some.inj e
  subst e'
  exact ⟨hb, q⟩
theorem Inv.pinned {pins : List (Addr × Obj)} {σ : St} {H : Hp} {s : Shared} {fp : List Addr} (I : Inv X pins σ H s) (hf : ∀ b ∈ fp, FpOk X pins H b) (ho : ∀ b ∈ fp, ∃ o, s.heap.get? b = some o ∧ ∀ v, o.data ≠ .cell v) : Inv X (pins ++ pinsAt fp s.heap) σ H s :=
 I.pins_of fun p hp => (List.mem_append.mp hp).elim (fun z => I.pin p (List.mem_append_right _ z)) fun z => by
  obtain ⟨hb, e⟩ := of_pinsAt z
  obtain ⟨f0, f1, f2, _⟩ := hf p.1 hb
  obtain ⟨o, e', d⟩ := ho p.1 hb
  rw [e] at e'; cases e'
  exact ⟨e, f0, f1, f2, d⟩
theorem Inv.unpinned {pins pl : List (Addr × Obj)} {σ : St} {H : Hp} {s : Shared} (I : Inv X (pins ++ pl) σ H s) : Inv X pins σ H s := I.pins_of fun p hp => I.pin p (List.mem_append_right _ (List.mem_append_left _ hp))
theorem ps_for {iter : Expr} {body : List Stmt} {wi : TI} {g : TG} {tb : TS} {pos : Pos} (hp : PassesOwn (model X.prog X.w) X.A X.env X.xe) (hc : X.calm = true) (hi : PI X tg iter wi) (hg : PG X tg g) (hb : PSs X body tb)
  (hs : ∀ x, foldedSetIterable iter X.env x = pure x := by intro _; rfl) : PS X (.For tg iter body [] pos) (tFor wi g tb) := by
 intro pins s σ H D I h
 refine wpAny_For (thn (hi pins s σ H _ I h) fun v s1 h1 => thn h1 fun itv s2 h2 => ?_) hs
 obtain ⟨it, fp, tn, J, H2, e, I2, T, st2, f2, W, ⟨m0, w0⟩, turn⟩ := h2
 subst e
 have stat : ∀ {H' : Hp}, (∀ b ∈ fp, H' b = none) → ∀ b ∈ fp, FpOk X pins H' b := fun hn b hb => ⟨hn b hb, (f2 b hb).2⟩
 refine codeAny_forLoop_any (fun n s' => ∃ i σ' H', Inv X pins σ' H' s' ∧ tn i s'.heap ∧ (∀ b ∈ fp, H' b = none) ∧ W i n σ' H') ?_ m0 ⟨0, σ, H2, I2, st2, fun b hb => (f2 b hb).1, w0⟩
 rintro n s3 ⟨i, σ3, H3, I3, st3, fr3, w3⟩
 rcases turn i n σ3 H3 w3 with ⟨stop, qn⟩ | ⟨go, N, hN, step⟩
 ·refine wpAny_passesOwn hp (thn (T.done X rfl rfl rfl hc i pins s3 σ3 H3 X.xe I3 (stat fr3) st3 stop) fun r s4 ⟨hr, I4⟩ => ?_)
  subst hr
  exact wpAny_execs_nil ⟨σ3, H3, I4, qn⟩
 ·refine wpAny_passesOwn hp (thn (T.item X rfl rfl rfl hc i pins s3 σ3 H3 X.xe I3 (stat fr3) st3 go) fun r s4 ⟨u, hr, h4⟩ => ?_)
  subst hr
  refine wpAny_passesOwn hp (thn h4 fun _ s5 ⟨x, H5, I5, r5, y5, st5, fr5⟩ => ?_)
  have I5' := I5.pinned (stat fr5) (T.obj _ _ st5)
  refine wpAny_passesOwn hp (thn (hg _ s5 σ3 H5 x u _ I5' r5 (step x H5 y5)) fun _ s6 ⟨σ6, H6, I6, q6⟩ => ?_)
  refine wpAny_passesOwn hp (thn (hb _ s6 σ6 H6 _ I6 q6) fun f s7 q7 => ?_)
  have again : ∀ {σ7 : St} {H7 : Hp}, Inv X (pins ++ pinsAt fp s5.heap) σ7 H7 s7 → N σ7 H7 → ∃ m, m < n ∧ ∃ i σ' H', Inv X pins σ' H' s7 ∧ tn i s7.heap ∧ (∀ b ∈ fp, H' b = none) ∧ W i m σ' H' := fun {σ7 H7} I7 n7 => by
   obtain ⟨m', hm, w7⟩ := hN σ7 H7 n7
   refine ⟨m', hm, i + 1, σ7, H7, I7.unpinned, T.keep _ _ _ st5 fun b hb o e => (I7.pin (b, o) (List.mem_append_right _ (List.mem_append_right _ (mem_pinsAt hb e)))).1, fun b hb => ?_, w7⟩
   obtain ⟨o, e, d⟩ := T.obj _ _ st5 b hb
   exact (I7.pin (b, o) (List.mem_append_right _ (List.mem_append_right _ (mem_pinsAt hb e)))).2.1
  cases f with
  | next => obtain ⟨σ7, H7, I7, n7⟩ := q7; exact again I7 n7
  | cont => obtain ⟨σ7, H7, I7, n7⟩ := q7; exact again I7 n7
  | brk => obtain ⟨σ7, H7, I7, q7⟩ := q7; exact ⟨σ7, H7, I7.unpinned, q7⟩
  | ret v => obtain ⟨x7, σ7, H7, I7, r7, q7⟩ := q7; exact ⟨x7, σ7, H7, I7.unpinned, r7, q7⟩
end
theorem for_list {K : PySem.W.Frag} {a : Addr} {xs : List V} {g : TG} {tb : TS} {D : Ends} {σ : St} {H : Hp} (Pv : Nat → St → Hp → Prop) (h0 : Pv 0 σ H) (hl : ∀ i σ H, i ≤ xs.length → Pv i σ H → SqL K H a xs)
  (hs : ∀ i x σ H, xs[i]? = some x → Pv i σ H → g x σ H fun σ2 H2 => tb { D with nx := Pv (i + 1), ct := Pv (i + 1), bk := D.nx } σ2 H2) (hd : ∀ σ H, Pv xs.length σ H → D.nx σ H) :
  ∃ W : Nat → Nat → St → Hp → Prop, (∃ m, W 0 m σ H) ∧ ∀ i m σ H, W i m σ H →
   ((Itl K a).stop i H ∧ D.nx σ H) ∨ ((Itl K a).go i H ∧ ∃ N : St → Hp → Prop, (∀ σ' H', N σ' H' → ∃ m', m' < m ∧ W (i + 1) m' σ' H') ∧ ∀ x H', (Itl K a).yld i H x H' → g x σ H' fun σ2 H2 => tb { D with nx := N, ct := N, bk := D.nx } σ2 H2) := by
 refine ⟨fun i m σ H => m = xs.length - i ∧ i ≤ xs.length ∧ Pv i σ H, ⟨xs.length, by simp, Nat.zero_le _, h0⟩, ?_⟩
 rintro i m σ H ⟨rfl, hi, p⟩
 have q := hl i σ H hi p
 by_cases hlt : i < xs.length
 ·refine .inr ⟨⟨xs, xs[i], q, by simp [hlt]⟩, Pv (i + 1), fun σ' H' p' => ⟨xs.length - (i + 1), by omega, rfl, hlt, p'⟩, fun x H' y => ?_⟩
  obtain ⟨e, y⟩ := y
  subst e
  exact hs i x σ _ (y xs q) p
 ·have e : i = xs.length := by omega
  subst e
  exact .inl ⟨⟨xs, q, Nat.le_refl _⟩, hd σ H p⟩
theorem for_tup {K : PySem.W.Frag} {a : Addr} {xs : List V} {g : TG} {tb : TS} {D : Ends} {σ : St} {H : Hp} (Pv : Nat → St → Hp → Prop) (h0 : Pv 0 σ H) (hl : ∀ i σ H, i ≤ xs.length → Pv i σ H → SqT K H a xs)
  (hs : ∀ i x σ H, xs[i]? = some x → Pv i σ H → g x σ H fun σ2 H2 => tb { D with nx := Pv (i + 1), ct := Pv (i + 1), bk := D.nx } σ2 H2) (hd : ∀ σ H, Pv xs.length σ H → D.nx σ H) :
  ∃ W : Nat → Nat → St → Hp → Prop, (∃ m, W 0 m σ H) ∧ ∀ i m σ H, W i m σ H →
   ((Itt K a).stop i H ∧ D.nx σ H) ∨ ((Itt K a).go i H ∧ ∃ N : St → Hp → Prop, (∀ σ' H', N σ' H' → ∃ m', m' < m ∧ W (i + 1) m' σ' H') ∧ ∀ x H', (Itt K a).yld i H x H' → g x σ H' fun σ2 H2 => tb { D with nx := N, ct := N, bk := D.nx } σ2 H2) := by
 refine ⟨fun i m σ H => m = xs.length - i ∧ i ≤ xs.length ∧ Pv i σ H, ⟨xs.length, by simp, Nat.zero_le _, h0⟩, ?_⟩
 rintro i m σ H ⟨rfl, hi, p⟩
 have q := hl i σ H hi p
 by_cases hlt : i < xs.length
 ·refine .inr ⟨⟨xs, xs[i], q, by simp [hlt]⟩, Pv (i + 1), fun σ' H' p' => ⟨xs.length - (i + 1), by omega, rfl, hlt, p'⟩, fun x H' y => ?_⟩
  obtain ⟨e, y⟩ := y
  subst e
  exact hs i x σ _ (y xs q) p
 ·have e : i = xs.length := by omega
  subst e
  exact .inl ⟨⟨xs, q, Nat.le_refl _⟩, hd σ H p⟩
theorem for_range {lo : Int} {n : Nat} {g : TG} {tb : TS} {D : Ends} {σ : St} {H : Hp} (Pv : Nat → St → Hp → Prop) (h0 : Pv 0 σ H)
  (hs : ∀ i σ H, i < n → Pv i σ H → g (.int (lo + i)) σ H fun σ2 H2 => tb { D with nx := Pv (i + 1), ct := Pv (i + 1), bk := D.nx } σ2 H2) (hd : ∀ σ H, Pv n σ H → D.nx σ H) :
  ∃ W : Nat → Nat → St → Hp → Prop, (∃ m, W 0 m σ H) ∧ ∀ i m σ H, W i m σ H →
   ((Itr lo n).stop i H ∧ D.nx σ H) ∨ ((Itr lo n).go i H ∧ ∃ N : St → Hp → Prop, (∀ σ' H', N σ' H' → ∃ m', m' < m ∧ W (i + 1) m' σ' H') ∧ ∀ x H', (Itr lo n).yld i H x H' → g x σ H' fun σ2 H2 => tb { D with nx := N, ct := N, bk := D.nx } σ2 H2) := by
 refine ⟨fun i m σ H => m = n - i ∧ i ≤ n ∧ Pv i σ H, ⟨n, by simp, Nat.zero_le _, h0⟩, ?_⟩
 rintro i m σ H ⟨rfl, hi, p⟩
 by_cases hlt : i < n
 ·refine .inr ⟨hlt, Pv (i + 1), fun σ' H' p' => ⟨n - (i + 1), by omega, rfl, hlt, p'⟩, fun x H' y => ?_⟩
  obtain ⟨e, y⟩ := y
  subst e y
  exact hs i σ _ hlt p
 ·have e : i = n := by omega
  subst e
  exact .inl ⟨Nat.le_refl _, hd σ H p⟩
theorem while_by {c : TT} {tb : TS} {D : Ends} {σ : St} {H : Hp} (Pv : St → Hp → Prop) (μ : St → Hp → Nat) (h0 : Pv σ H)
  (hs : ∀ σ H, Pv σ H → c σ H fun b H1 => if b = true then tb { D with nx := fun σ' H' => Pv σ' H' ∧ μ σ' H' < μ σ H, ct := fun σ' H' => Pv σ' H' ∧ μ σ' H' < μ σ H, bk := D.nx } σ H1 else D.nx σ H1)
  (mono : ∀ σ H Q Q', (∀ b H1, Q b H1 → Q' b H1) → c σ H Q → c σ H Q') : tWhile c tb D σ H := by
 refine ⟨fun m σ H => m = μ σ H ∧ Pv σ H, ⟨_, rfl, h0⟩, ?_⟩
 rintro m σ H ⟨rfl, p⟩
 refine mono σ H _ _ (fun b H1 q => ?_) (hs σ H p)
 cases b with
 | true => exact ⟨_, fun σ' H' ⟨p', l⟩ => ⟨_, l, rfl, p'⟩, q⟩
 | false => exact q
end L2
namespace L2
open PySem PySem.Spec PyProof.Rows
abbrev R2 := V → V → Hp → VK → Prop
def OpR (X : Cx) (f : Value → Value → Sem Value) (r : R2) : Prop :=
 ∀ (pins : List (Addr × Obj)) (s : Shared) (σ : St) (H : Hp) (x y : V) (v u : Value) (Q : VK), Inv X pins σ H s → RelV x v → RelV y u → r x y H Q →
  wpAny (model X.prog X.w) X.A (f v u) (EP X pins σ Q) X.xe s
def UnR (X : Cx) (f : Value → Sem Value) (r : V → Hp → VK → Prop) : Prop :=
 ∀ (pins : List (Addr × Obj)) (s : Shared) (σ : St) (H : Hp) (x : V) (v : Value) (Q : VK), Inv X pins σ H s → RelV x v → r x H Q →
  wpAny (model X.prog X.w) X.A (f v) (EP X pins σ Q) X.xe s
def CallR (X : Cx) (f : Value) (r : List V → Hp → VK → Prop) : Prop :=
 ∀ (pins : List (Addr × Obj)) (s : Shared) (σ : St) (H : Hp) (xs : List V) (us : List Value) (Q : VK), Inv X pins σ H s → Vals xs us → r xs H Q →
  wpAny (model X.prog X.w) X.A (call f us) (EP X pins σ Q) X.xe s
def tOp (r : R2) (ta tb : TE) : TE := fun σ H Q => ta σ H fun x H1 => tb σ H1 fun y H2 => r x y H2 Q
def tUn (r : V → Hp → VK → Prop) (ta : TE) : TE := fun σ H Q => ta σ H fun x H1 => r x H1 Q
def rI (C : Int → Int → Prop) (g : Int → Int → V) : R2 := fun x y H Q => ∃ i j, x = .int i ∧ y = .int j ∧ C i j ∧ Q (g i j) H
def rI0 (g : Int → Int → V) : R2 := fun x y H Q => ∃ i j, x = .int i ∧ y = .int j ∧ Q (g i j) H
def rU (g : Int → V) : V → Hp → VK → Prop := fun x H Q => ∃ i, x = .int i ∧ Q (g i) H
section
variable {X : Cx} {a b c : Expr} {ta tb tc : TE} {pos : Pos}
theorem binT (ha : PE X a ta) (hb : PE X b tb) {pins : List (Addr × Obj)} {s : Shared} {σ : St} {H : Hp} {R : V → V → Hp → Prop} (I : Inv X pins σ H s)
  (h : ta σ H fun x H1 => tb σ H1 fun y H2 => R x y H2) {Q : Value → Shared → Prop} {f : Value → Value → Sem Value}
  (hf : ∀ v u s2 x y H2, Inv X pins σ H2 s2 → RelV x v → RelV y u → R x y H2 → wpAny (model X.prog X.w) X.A (f v u) Q X.xe s2) :
  wpAny (model X.prog X.w) X.A (eval a X.env) (fun v s₁ => wpAny (model X.prog X.w) X.A (eval b X.env) (fun u s₂ => wpAny (model X.prog X.w) X.A (f v u) Q X.xe s₂) X.xe s₁) X.xe s := by
 refine thn (ha pins s σ H _ I h) fun v s1 ⟨x, H1, I1, r1, q1⟩ => ?_
 refine thn (hb pins s1 σ H1 _ I1 q1) fun u s2 ⟨y, H2, I2, r2, q2⟩ => ?_
 exact hf v u s2 x y H2 I2 r1 r2 q2
theorem pe_op {op : Operator} {r : R2} (ho : OpR X (binaryOp op) r) (ha : PE X a ta) (hb : PE X b tb) : PE X (.BinOp a op b pos) (tOp r ta tb) := by
 intro pins s σ H Q I h
 exact wpAny_BinOp (binT ha hb I h fun v u s2 x y H2 I2 rx ry q => ho pins s2 σ H2 x y v u Q I2 rx ry q)
theorem pe_un {op : UnaryOp} {r : V → Hp → VK → Prop} (ho : UnR X (unaryOp op) r) (ha : PE X a ta) : PE X (.UnaryOp op a pos) (tUn r ta) := by
 intro pins s σ H Q I h
 exact UnaryOp_ (thn (ha pins s σ H _ I h) fun v s1 ⟨x, H1, I1, r1, q1⟩ => ho pins s1 σ H1 x v Q I1 r1 q1)
theorem opI {f : Value → Value → Sem Value} {C : Int → Int → Prop} {g : Int → Int → Int}
  (rule : ∀ (i j : Int) (t u : Tok) (s : Shared) (Q : Value → Shared → Prop) (E : Value → Shared → Prop), C i j → Q (.int (g i j) s.toks) { s with toks := s.toks + 1 } → wpAny (model X.prog X.w) X.A (f (.int i t) (.int j u)) Q E s) :
  OpR X f (rI C fun i j => .int (g i j)) := by
 intro pins s σ H x y v u Q I rx ry h
 obtain ⟨i, j, rfl, rfl, hc, q⟩ := h
 obtain ⟨t, rfl⟩ := rx
 obtain ⟨t', rfl⟩ := ry
 exact rule i j t t' s _ _ hc ⟨.int (g i j), H, I.tok _, ⟨_, rfl⟩, q⟩
theorem opI0 {f : Value → Value → Sem Value} {g : Int → Int → Int}
  (rule : ∀ (i j : Int) (t u : Tok) (s : Shared) (Q : Value → Shared → Prop) (E : Value → Shared → Prop), Q (.int (g i j) s.toks) { s with toks := s.toks + 1 } → wpAny (model X.prog X.w) X.A (f (.int i t) (.int j u)) Q E s) :
  OpR X f (rI0 fun i j => .int (g i j)) := by
 intro pins s σ H x y v u Q I rx ry h
 obtain ⟨i, j, rfl, rfl, q⟩ := h
 obtain ⟨t, rfl⟩ := rx
 obtain ⟨t', rfl⟩ := ry
 exact rule i j t t' s _ _ ⟨.int (g i j), H, I.tok _, ⟨_, rfl⟩, q⟩
theorem opB0 {f : Value → Value → Sem Value} {g : Int → Int → Bool}
  (rule : ∀ (i j : Int) (t u : Tok) (s : Shared) (Q : Value → Shared → Prop) (E : Value → Shared → Prop), Q (.bool (g i j)) s → wpAny (model X.prog X.w) X.A (f (.int i t) (.int j u)) Q E s) :
  OpR X f (rI0 fun i j => .bl (g i j)) := by
 intro pins s σ H x y v u Q I rx ry h
 obtain ⟨i, j, rfl, rfl, q⟩ := h
 obtain ⟨t, rfl⟩ := rx
 obtain ⟨t', rfl⟩ := ry
 exact rule i j t t' s _ _ ⟨.bl (g i j), H, I, rfl, q⟩
def CDiv (i j : Int) : Prop := 0 < j ∧ j < 1073741824
def CPow (i j : Int) : Prop := 0 ≤ j ∧ j ≤ 1000000 ∧ i.natAbs < 2 ^ 64
def CMul (i j : Int) : Prop := (-(2 ^ 64) < i ∧ i < 2 ^ 64) ∨ (-(2 ^ 64) < j ∧ j < 2 ^ 64)
theorem CMul.ok {i j : Int} (h : CMul i j) : IntMulOk i j := by
 rcases h with ⟨h1, h2⟩ | ⟨h1, h2⟩
 ·exact .of_left (intBits_le_64 h1 h2)
 ·exact .of_right (intBits_le_64 h1 h2)
theorem op_add : OpR X (binaryOp .Add) (rI0 fun i j => .int (i + j)) := opI0 fun _ _ _ _ _ _ _ q => add_int q
theorem op_sub : OpR X (binaryOp .Sub) (rI0 fun i j => .int (i - j)) := opI0 fun _ _ _ _ _ _ _ q => sub_int q
theorem op_mul : OpR X (binaryOp .Mult) (rI CMul fun i j => .int (i * j)) := opI fun _ _ _ _ _ _ _ hc q => mul_int q hc.ok
theorem op_fdiv : OpR X (binaryOp .FloorDiv) (rI CDiv fun i j => .int (i / j)) := opI fun i j _ _ _ _ _ hc q => by
 have h1 : (0 : Int) < j := hc.1
 have h2 : j < 1073741824 := hc.2
 exact floordiv_int (by omega) (by rw [Int.fdiv_eq_ediv_of_nonneg i (by omega)]; exact q) (.inl (PyProof.noPylong_small (by omega)))
theorem op_mod : OpR X (binaryOp .Mod) (rI (fun _ j => 0 < j) fun i j => .int (i % j)) := opI fun i j _ _ _ _ _ hc q => by
 have h1 : (0 : Int) < j := hc
 exact mod_int' (by omega) (by rw [Int.fmod_eq_emod_of_nonneg i (by omega)]; exact q)
theorem op_pow : OpR X (binaryOp .Pow) (rI CPow fun i j => .int (i ^ j.toNat)) := opI fun _ _ _ _ _ _ _ hc q => pow_int_small hc.1 hc.2.1 hc.2.2 q
theorem unI {f : Value → Sem Value} {g : Int → Int}
  (rule : ∀ (i : Int) (t : Tok) (s : Shared) (Q : Value → Shared → Prop) (E : Value → Shared → Prop), Q (.int (g i) s.toks) { s with toks := s.toks + 1 } → wpAny (model X.prog X.w) X.A (f (.int i t)) Q E s) :
  UnR X f (rU fun i => .int (g i)) := by
 intro pins s σ H x v Q I rx h
 obtain ⟨i, rfl, q⟩ := h
 obtain ⟨t, rfl⟩ := rx
 exact rule i t s _ _ ⟨.int (g i), H, I.tok _, ⟨_, rfl⟩, q⟩
theorem un_neg : UnR X (unaryOp .USub) (rU fun i => .int (-i)) := unI fun _ _ _ _ _ q => neg_int q
end
noncomputable def scal : V → V → Bool
 | .non, .non => true | .non, .int _ => true | .int _, .non => true | .non, .bl _ => true | .bl _, .non => true | .non, .str _ => true | .str _, .non => true
 | .int _, .int _ => true | .bl _, .bl _ => true | .str _, .str _ => true | .byt _, .byt _ => true
 | .int _, .str _ => true | .str _, .int _ => true | .bl _, .str _ => true | .str _, .bl _ => true
 | _, _ => false
def rEq : R2 := fun x y H Q => scal x y = true ∧ Q (.bl (decide (x = y))) H
def rNe : R2 := fun x y H Q => scal x y = true ∧ Q (.bl (!decide (x = y))) H
theorem dec_int {i j : Int} : decide (V.int i = V.int j) = (i == j) := by
 rw [Bool.eq_iff_iff]
 simp
theorem dec_bl {i j : Bool} : decide (V.bl i = V.bl j) = (i == j) := by
 rw [Bool.eq_iff_iff]
 simp
theorem dec_str {i j : Str} : decide (V.str i = V.str j) = (i == j) := by
 rw [Bool.eq_iff_iff]
 simp
theorem dec_byt {i j : Array UInt8} : decide (V.byt i = V.byt j) = (i.toList == j.toList) := by
 rw [Bool.eq_iff_iff]
 cases i
 cases j
 simp
section
variable {X : Cx} {a b c : Expr} {ta tb tc : TE} {pos : Pos}
theorem fin_bl {pins : List (Addr × Obj)} {σ : St} {H : Hp} {s : Shared} {Q : VK} {k k' : Bool} (I : Inv X pins σ H s) (q : Q (.bl k) H) (e : k = k') : EP X pins σ Q (.bool k') s := by
 subst e
 exact ⟨.bl k, H, I, rfl, q⟩
theorem op_eq : OpR X (compareOp .Eq) rEq := by
 intro pins s σ H x y v u Q I rx ry h
 obtain ⟨hs, q⟩ := h
 cases x with
 | non =>
  cases rx
  cases y with
  | non => cases ry; exact PySem.EqNone.eq_none_none (fin_bl I q (by simp))
  | bl j => cases ry; exact PySem.EqNone.eq_none_bool (fin_bl I q (by simp))
  | int j => obtain ⟨t', rfl⟩ := ry; exact PySem.EqNone.eq_none_int (fin_bl I q (by simp))
  | str j => obtain ⟨t', rfl⟩ := ry; exact PySem.EqNone.eq_none_str (fin_bl I q (by simp))
  | _ => exact absurd (show false = true from hs) Bool.false_ne_true
 | bl i =>
  cases rx
  cases y with
  | non => cases ry; exact PySem.EqNone.eq_bool_none (fin_bl I q (by simp))
  | bl j => cases ry; exact eq_bool (fin_bl I q dec_bl)
  | str j => obtain ⟨t', rfl⟩ := ry; exact PySem.EqMixed.eq_bool_str (fin_bl I q (by simp))
  | _ => exact absurd (show false = true from hs) Bool.false_ne_true
 | int i =>
  obtain ⟨t, rfl⟩ := rx
  cases y with
  | non => cases ry; exact PySem.EqNone.eq_int_none (fin_bl I q (by simp))
  | int j => obtain ⟨t', rfl⟩ := ry; exact eq_int (fin_bl I q dec_int)
  | str j => obtain ⟨t', rfl⟩ := ry; exact PySem.EqMixed.eq_int_str (fin_bl I q (by simp))
  | _ => exact absurd (show false = true from hs) Bool.false_ne_true
 | str i =>
  obtain ⟨t, rfl⟩ := rx
  cases y with
  | non => cases ry; exact PySem.EqNone.eq_str_none (fin_bl I q (by simp))
  | bl j => cases ry; exact PySem.EqMixed.eq_str_bool (fin_bl I q (by simp))
  | int j => obtain ⟨t', rfl⟩ := ry; exact PySem.EqMixed.eq_str_int (fin_bl I q (by simp))
  | str j => obtain ⟨t', rfl⟩ := ry; exact eq_str (fin_bl I q dec_str)
  | _ => exact absurd (show false = true from hs) Bool.false_ne_true
 | byt i =>
  obtain ⟨t, rfl⟩ := rx
  cases y with
  | byt j => obtain ⟨t', rfl⟩ := ry; exact PySem.W.eq_bytes (fin_bl I q dec_byt)
  | _ => exact absurd (show false = true from hs) Bool.false_ne_true
 | _ => cases y <;> exact absurd (show false = true from hs) Bool.false_ne_true
theorem op_ne : OpR X (compareOp .NotEq) rNe := by
 intro pins s σ H x y v u Q I rx ry h
 obtain ⟨hs, q⟩ := h
 cases x with
 | non =>
  cases rx
  cases y with
  | non => cases ry; exact PySem.EqNone.ne_none_none (fin_bl I q (by simp))
  | bl j => cases ry; exact PySem.EqNone.ne_none_bool (fin_bl I q (by simp))
  | int j => obtain ⟨t', rfl⟩ := ry; exact PySem.EqNone.ne_none_int (fin_bl I q (by simp))
  | str j => obtain ⟨t', rfl⟩ := ry; exact PySem.EqNone.ne_none_str (fin_bl I q (by simp))
  | _ => exact absurd (show false = true from hs) Bool.false_ne_true
 | bl i =>
  cases rx
  cases y with
  | non => cases ry; exact PySem.EqNone.ne_bool_none (fin_bl I q (by simp))
  | bl j => cases ry; exact ne_bool (fin_bl I q (congrArg not dec_bl))
  | str j => obtain ⟨t', rfl⟩ := ry; exact PySem.EqMixed.ne_bool_str (fin_bl I q (by simp))
  | _ => exact absurd (show false = true from hs) Bool.false_ne_true
 | int i =>
  obtain ⟨t, rfl⟩ := rx
  cases y with
  | non => cases ry; exact PySem.EqNone.ne_int_none (fin_bl I q (by simp))
  | int j => obtain ⟨t', rfl⟩ := ry; exact ne_int (fin_bl I q (congrArg not dec_int))
  | str j => obtain ⟨t', rfl⟩ := ry; exact PySem.EqMixed.ne_int_str (fin_bl I q (by simp))
  | _ => exact absurd (show false = true from hs) Bool.false_ne_true
 | str i =>
  obtain ⟨t, rfl⟩ := rx
  cases y with
  | non => cases ry; exact PySem.EqNone.ne_str_none (fin_bl I q (by simp))
  | bl j => cases ry; exact PySem.EqMixed.ne_str_bool (fin_bl I q (by simp))
  | int j => obtain ⟨t', rfl⟩ := ry; exact PySem.EqMixed.ne_str_int (fin_bl I q (by simp))
  | str j => obtain ⟨t', rfl⟩ := ry; exact ne_str (fin_bl I q (congrArg not dec_str))
  | _ => exact absurd (show false = true from hs) Bool.false_ne_true
 | byt i =>
  obtain ⟨t, rfl⟩ := rx
  cases y with
  | byt j => obtain ⟨t', rfl⟩ := ry; exact PySem.W.ne_bytes (fin_bl I q (congrArg not dec_byt))
  | _ => exact absurd (show false = true from hs) Bool.false_ne_true
 | _ => cases y <;> exact absurd (show false = true from hs) Bool.false_ne_true
theorem op_lt : OpR X (compareOp .Lt) (rI0 fun i j => .bl (decide (i < j))) := opB0 fun _ _ _ _ _ _ _ q => lt_int q
theorem op_gt : OpR X (compareOp .Gt) (rI0 fun i j => .bl (decide (j < i))) := opB0 fun _ _ _ _ _ _ _ q => gt_int q
theorem op_in_str : OpR X (compareOp .In) (fun x y H Q => ∃ i j, x = .str i ∧ y = .str j ∧ Q (.bl (!(Builtin.Str.occurrences j i 0 j.length 1).isEmpty)) H) := by
 intro pins s σ H x y v u Q I rx ry h
 obtain ⟨i, j, rfl, rfl, q⟩ := h
 obtain ⟨t, rfl⟩ := rx
 obtain ⟨t', rfl⟩ := ry
 exact in_str (fin_bl I q rfl)
theorem nomark (b : Expr) {op : CmpOp} (h : op ≠ .In := by decide) (h2 : op ≠ .NotIn := by decide) : behindInMarks op b = false := by
 have e1 : (op == CmpOp.In) = false := by cases op <;> first | rfl | exact absurd rfl h
 have e2 : (op == CmpOp.NotIn) = false := by cases op <;> first | rfl | exact absurd rfl h2
 cases b <;> simp [behindInMarks, e1, e2]
theorem pe_cmpR {op : CmpOp} {r : R2} (ho : OpR X (compareOp op) r) (ha : PE X a ta) (hb : PE X b tb) (hm : behindInMarks op b = false) : PE X (.Compare a [op] [b] pos) (tOp r ta tb) := by
 intro pins s σ H Q I h
 exact wpAny_Compare1 (binT ha hb I h fun v u s2 x y H2 I2 rx ry q => ho pins s2 σ H2 x y v u Q I2 rx ry q) hm
def tTest (t : TE) : TT := fun σ H Q => t σ H fun x H' => ∃ k, x = .bl k ∧ Q k H'
theorem pt_cmpR {op : CmpOp} {r : R2} (ho : OpR X (compareOp op) r) (ha : PE X a ta) (hb : PE X b tb) (hm : behindInMarks op b = false) : PT X (.Compare a [op] [b] pos) (tTest (tOp r ta tb)) := by
 intro pins s σ H Q I h
 refine wpAny_isTrue_Compare1 (thn (ha pins s σ H _ I h) fun v s1 ⟨x, H1, I1, r1, q1⟩ => thn (hb pins s1 σ H1 _ I1 q1) fun u s2 ⟨y, H2, I2, r2, q2⟩ =>
  thn (ho pins s2 σ H2 x y v u _ I2 r1 r2 q2) fun c s3 ⟨z, H3, I3, r3, k, e, q3⟩ => ?_) hm
 subst e
 cases r3
 exact wpAny_truthy_bool ⟨H3, I3, q3⟩
def tChain (r r' : R2) (ta tb tc : TE) : TE := fun σ H Q => ta σ H fun x H1 => tb σ H1 fun y H2 => r x y H2 fun z H3 => ∃ k, z = .bl k ∧
 (if k = true then tc σ H3 fun w' H4 => r' y w' H4 Q else Q (.bl false) H3)
theorem pt_chain {op op' : CmpOp} {r r' : R2} (ho : OpR X (compareOp op) r) (ho' : OpR X (compareOp op') r') (ha : PE X a ta) (hb : PE X b tb) (hc : PE X c tc)
  (hm : lastMarks [op, op'] [b, c] = false := by with_unfolding_all rfl) : PT X (.Compare a [op, op'] [b, c] pos) (tTest (tChain r r' ta tb tc)) := by
 intro pins s σ H Q I h
 refine isTrue_chain (thn (ha pins s σ H _ I h) fun v s1 ⟨x, H1, I1, r1, q1⟩ => test_link (thn (hb pins s1 σ H1 _ I1 q1) fun u s2 ⟨y, H2, I2, r2, q2⟩ =>
  thn (ho pins s2 σ H2 x y v u _ I2 r1 r2 q2) fun d s3 ⟨z, H3, I3, r3, k, e, q3⟩ => ?_)) hm
 subst e
 cases r3
 refine wpAny_truthy_bool ?_
 cases k with
 | false =>
  obtain ⟨k', e', q'⟩ := q3
  cases e'
  exact ite_ff ⟨H3, I3, q'⟩
 | true =>
  refine ite_tt (test_last (thn (hc pins s3 σ H3 _ I3 q3) fun w' s4 ⟨z', H4, I4, r4, q4⟩ => thn (ho' pins s4 σ H4 y z' u w' _ I4 r2 r4 q4) fun d' s5 ⟨z2, H5, I5, r5, k2, e2, q5⟩ => ?_))
  subst e2
  cases r5
  exact wpAny_truthy_bool ⟨H5, I5, q5⟩
theorem line63 : (sizeLine : Nat) < 2 ^ 63 := by rw [sizeLine_eq]; decide
theorem op_add_str : OpR X (binaryOp .Add) (fun x y H Q => ∃ i j, x = .str i ∧ y = .str j ∧ i.length + j.length ≤ sizeLine ∧ Q (.str (i ++ j)) H) := by
 intro pins s σ H x y v u Q I rx ry h
 obtain ⟨i, j, rfl, rfl, hz, q⟩ := h
 obtain ⟨t, rfl⟩ := rx
 obtain ⟨t', rfl⟩ := ry
 exact add_str (fun t' tk => ⟨.str (i ++ j), H, I.tok _, ⟨_, rfl⟩, q⟩) hz
theorem vals1 {x : V} {us : List Value} (r : Vals [x] us) : ∃ u, us = [u] ∧ RelV x u := by
 cases r with
 | cons r1 r2 => cases r2; exact ⟨_, rfl, r1⟩
theorem vals2 {x y : V} {us : List Value} (r : Vals [x, y] us) : ∃ u w', us = [u, w'] ∧ RelV x u ∧ RelV y w' := by
 cases r with
 | cons r1 r2 =>
  cases r2 with
  | cons r3 r4 => cases r4; exact ⟨_, _, rfl, r1, r3⟩
end
end L2
namespace L2
open PySem PySem.Spec PyProof.Rows
structure ObjM (h : Heap) (x dx C : Addr) (mA : Str → Option Value) : Prop where
 obj : h.get? x = some (PySem.W.instObj C dx)
 ns : h.Ns1 dx mA
 ne : dx ≠ x
theorem lookIn_ns {h : Heap} {dx : Addr} {mA : Str → Option Value} (n : h.Ns1 dx mA) : ∃ od, h.get? dx = some od ∧ ∀ name, PySem.W.lookIn name od = some (mA name) := by
 obtain ⟨o, es, ep, ho, hd, hk, _, hm⟩ := n
 refine ⟨o, ho, fun name => ?_⟩
 have e := hm name
 unfold nsFind findBy at e
 rw [← Array.find?_toList] at e
 unfold PySem.W.lookIn
 rw [hd]
 dsimp only
 split
 ·rename_i y q
  rw [q] at e
  exact congrArg some e
 ·rename_i q
  rw [q] at e
  have a : es.toList.any (·.refKey) = false := by
   rw [List.any_eq_false]
   intro y hy
   obtain ⟨z, t, hkey⟩ := hk y (Array.mem_toList_iff.mp hy)
   simp [DictEntry.refKey, hkey]
  have a' : ¬ es.toList.any (·.refKey) = true := by rw [a]; exact Bool.false_ne_true
  rw [if_neg a']
  exact congrArg some e
theorem ObjM.look {h : Heap} {x dx C : Addr} {mA : Str → Option Value} (I : ObjM h x dx C mA) : ∃ od, PySem.W.InstAt h x (PySem.W.instObj C dx) C (some od) ∧ ∀ name, PySem.W.lookIn name od = some (mA name) :=
 let ⟨od, ho, hl⟩ := lookIn_ns I.ns
 ⟨od, ⟨I.obj, rfl, rfl, ho⟩, hl⟩
section
variable {prog : Program} {w : World} {A : Around} {E : Value → Shared → Prop} {s : Shared} {K : PySem.W.Frag} {x dx C f : Addr} {mA : Str → Option Value} {name : Str} {v : Value}
end
section
variable {P : Program} {w : World} {H H' : Hp} {h h' : Heap} {a C dx : Addr} {fs fs' : List (Str × V)}
theorem ins_get (hok : HOk P w H h) (e : H a = some (.ins C dx fs)) : ∃ mA, ObjM h a dx C mA ∧ (∀ f, RelO (fs.lookup f) (mA f)) ∧ PySem.Within mA (fs.map (·.1)) ∧ fs.length ≤ 1000 ∧ H dx = some (.own a) := by
 obtain ⟨d, z, ne, ob, mA, n, r, q⟩ := (show ObjOk P w H h a (.ins C dx fs) from hok a _ e)
 exact ⟨mA, ⟨ob, n, ne⟩, r, q, z, d⟩
end
structure Cls (K : PySem.W.Frag) (C : Addr) : Prop where
 pg : PySem.W.plainGet K C Str.empty = true
 hd : PySem.W.hasDictIn K C = true
 po : PySem.W.plainOver K C = true
 sa : PySem.W.findIn K (.ref C) "__setattr__" = some (some (.builtin "object.__setattr__"))
theorem Cls.get {K : PySem.W.Frag} {C : Addr} (c : Cls K C) (f : Str) : PySem.W.plainGet K C f = true := c.pg
section
variable {X : Cx} {pins : List (Addr × Obj)} {σ : St} {H : Hp} {s : Shared} {a C dx : Addr} {fs : List (Str × V)} {f : Str} {v : V} {A : Around} {E : Value → Shared → Prop}
end
section
variable {X : Cx} {o e value : Expr} {f : Str} {pos pos' tpos : Pos} {ta tv : TE}
end
section
variable {X : Cx} {pins : List (Addr × Obj)} {σ : St} {H : Hp} {s : Shared} {A : Around} {E : Value → Shared → Prop} {Q : Value → Shared → Prop} {c : Value} {b : Bool}
inductive TyOf (K : PySem.W.Frag) (H : Hp) : V → Value → Prop where
 | non : TyOf K H .non (.type "NoneType")
 | bl (x : Bool) : TyOf K H (.bl x) (.type "bool")
 | int (i : Int) : TyOf K H (.int i) (.type "int")
 | str (x : Str) : TyOf K H (.str x) (.type "str")
 | flt (x : UInt64) : TyOf K H (.flt x) (.type "float")
 | lst {a : Addr} {xs : List V} (e : H a = some (.lst xs)) : TyOf K H (.ref a) (.type "list")
 | frz {a : Addr} {o : Obj} {xs : List V} (e : H a = some (.frz o (.lst xs))) : TyOf K H (.ref a) (.type "list")
 | tup {a : Addr} {xs : List V} (e : H a = some (.tup xs)) : TyOf K H (.ref a) (.type "tuple")
 | dK {a : Addr} {kvs : List (Key × V)} (e : H a = some (.dK kvs)) : TyOf K H (.ref a) (.type "dict")
 | dT {a : Addr} {kvs : List (List Key × V)} (e : H a = some (.dT kvs)) : TyOf K H (.ref a) (.type "dict")
 | ins {a C dx : Addr} {fs : List (Str × V)} (e : H a = some (.ins C dx fs)) (cl : Cls K C) (ha : PySem.W.findIn K (.ref C) "__class__" = some (some (.builtin "object.__class__")))
   (hn : PySem.W.specialIn K (.builtin "object.__class__") "__get__" = some (some (.builtin "getset_descriptor.__get__"))) (htk : PySem.W.takesIn K (.builtin "object.__class__") = some true)
   (hm : PySem.W.mroIn K C (.type "object") = some true) : TyOf K H (.ref a) (.ref C)
theorem isinst_ok {x : V} {u t : Value} (I : Inv X pins σ H s) (rx : RelV x u) (ty : TyOf X.K H x t) (e : PySem.W.kitOne X.K t c = some b) (h : ∀ tk, Q (.bool b) { s with toks := tk }) :
  wpAny (model X.prog X.w) A (call (.builtin "isinstance") [u, c]) Q E s := by
 cases ty with
 | non => cases (show u = Value.none from rx); exact PySem.W.kia_one PySem.W.kitx_none I.kIn True.intro e (fun z => nomatch z) h
 | bl y => cases (show u = Value.bool y from rx); exact PySem.W.kia_one PySem.W.kitx_bool I.kIn True.intro e (fun z => nomatch z) h
 | int i => obtain ⟨t, q⟩ := (show ∃ t, u = Value.int i t from rx); cases q; exact PySem.W.kia_one PySem.W.kitx_int I.kIn True.intro e (fun z => nomatch z) h
 | str y => obtain ⟨t, q⟩ := (show ∃ t, u = Value.str y t from rx); cases q; exact PySem.W.kia_one PySem.W.kitx_str I.kIn True.intro e (fun z => nomatch z) h
 | flt y => obtain ⟨t, q⟩ := (show ∃ t, u = Value.float y t from rx); cases q; exact PySem.W.kia_one PySem.W.kitx_float I.kIn True.intro e (fun z => nomatch z) h
 | @lst a xs ea =>
  cases (show u = Value.ref a from rx)
  obtain ⟨_, _, n, _, h1⟩ := (show ObjOk X.prog X.w H s.heap a (.lst xs) from I.hok a _ ea)
  exact PySem.W.kia_one PySem.W.kitx_list I.kIn ⟨_, h1, rfl⟩ e (fun z => nomatch z) h
 | @frz a ob xs ea =>
  cases (show u = Value.ref a from rx)
  obtain ⟨_, _, _, n, _, h1⟩ := (show ObjOk X.prog X.w H s.heap a (.frz ob (.lst xs)) from I.hok a _ ea)
  exact PySem.W.kia_one PySem.W.kitx_list I.kIn ⟨_, h1, rfl⟩ e (fun z => nomatch z) h
 | @tup a xs ea =>
  cases (show u = Value.ref a from rx)
  obtain ⟨_, _, _, p⟩ := (show ObjOk X.prog X.w H s.heap a (.tup xs) from I.hok a _ ea)
  obtain ⟨o, h1, h2, _⟩ := p
  exact PySem.W.kia_one PySem.W.kitx_tuple I.kIn ⟨o, h1, h2⟩ e (fun z => nomatch z) h
 | @dK a kvs ea =>
  cases (show u = Value.ref a from rx)
  obtain ⟨_, _, vs, _, p⟩ := (show ObjOk X.prog X.w H s.heap a (.dK kvs) from I.hok a _ ea)
  obtain ⟨o, es, ep, h1, h2, _⟩ := p
  exact PySem.W.kia_one PySem.W.kitx_dict I.kIn ⟨o, h1, h2.1⟩ e (fun z => nomatch z) h
 | @dT a kvs ea =>
  cases (show u = Value.ref a from rx)
  obtain ⟨_, _, xs, _, o, es, ep, h1, h2, _⟩ := (show ObjOk X.prog X.w H s.heap a (.dT kvs) from I.hok a _ ea)
  exact PySem.W.kia_one PySem.W.kitx_dict I.kIn ⟨o, h1, h2.1⟩ e (fun z => nomatch z) h
 | @ins a C dx fs ea cl ha hn htk hm =>
  cases (show u = Value.ref a from rx)
  obtain ⟨mA, O, _⟩ := ins_get I.hok ea
  obtain ⟨od, J, _⟩ := O.look
  exact PySem.W.kia_one (PySem.W.kitx_own (cl.get _) cl.hd ha hn htk hm) I.kIn J e (fun z => nomatch z) h
end
end L2
namespace L2
open PySem PySem.Spec PyProof.Rows
structure Room (k : Nat) (A : Around) : Prop where
 hd : A.handled = none
 dp : A.depth + 3 * k + 5 < recursionLimit
 un : A.units + 16 * k + 200 < cLine
theorem Room.mono {j k : Nat} {A : Around} (r : Room k A) (h : j ≤ k) : Room j A := ⟨r.hd, by have := r.dp; omega, by have := r.un; omega⟩
theorem Room.deeper {k : Nat} {A : Around} (r : Room (k + 1) A) (env : Env) : Room k (A.deeper env) :=
 ⟨r.hd, by have := r.dp; show A.depth + 1 + 3 * k + 5 < _; omega, by have := r.un; show A.units + 3 + 16 * k + 200 < _; omega⟩
theorem Room.depth {k : Nat} {A : Around} (r : Room k A) : A.depth < recursionLimit := by have := r.dp; omega
theorem Room.units {k : Nat} {A : Around} (r : Room k A) : A.units + 64 < cLine := by have := r.un; omega
def tNil : TA := fun _ H Q => Q [] H
def tCons (ta : TE) (tr : TA) : TA := fun σ H Q => ta σ H fun x H1 => tr σ H1 fun xs H2 => Q (x :: xs) H2
section
variable {X : Cx} {e : Expr} {es : List Expr} {te : TE} {t : TA} {pos : Pos}
theorem pa_nil : PA X [] tNil := fun _ _ _ _ H Q I h => Calls.spliced_nil ⟨[], H, I, .nil, h⟩
theorem pa_cons (ha : PE X e te) (hr : PA X es t) (hs : starEach (e :: es) X.env = (false, eval e X.env) :: starEach es X.env := by rfl) : PA X (e :: es) (tCons te t) := by
 intro pos pins s σ H Q I h
 rw [hs]
 show wpAny _ _ (spliced ((false, eval e X.env) :: backTo pos (starEach es X.env))) _ _ s
 refine Calls.spliced_cons (thn (ha pins s σ H _ I h) fun u s1 ⟨x, H1, I1, r1, q1⟩ => ?_)
 exact thn (hr pos pins s1 σ H1 _ I1 q1) fun us s2 ⟨xs, H2, I2, r2, q2⟩ => ⟨x :: xs, H2, I2, .cons r1 r2, q2⟩
def tTup (t : TA) : TE := fun σ H Q => t σ H fun xs H1 => xs.length ≤ sizeLine ∧ ∀ p, H1 p = none → Q (.ref p) (upd H1 p (.tup xs))
def tLst (t : TA) : TE := fun σ H Q => t σ H fun xs H1 => xs.length ≤ sizeLine ∧ ∀ p, H1 p = none → Q (.ref p) (upd H1 p (.lst xs))
theorem pe_tup {x1} (h : PA X es t) : PE X (.Tuple es x1 pos) (tTup t) := by
 intro pins s σ H Q I hq
 refine wpAny_Tuple_spliced (thn (h pos pins s σ H _ I hq) fun us s1 ⟨xs, H1, I1, r, z, q⟩ => ⟨by rw [← r.length]; exact z, ?_⟩)
 have hf : H1 s1.heap.objs.size = none := I1.hok.fresh (Nat.le_refl _)
 refine ⟨.ref s1.heap.objs.size, upd H1 s1.heap.objs.size (.tup xs), I1.laid (t' := s1.toks) (fun b u e => Heap.get?_push_of_some _ e) (Nat.le_refl _) ?_, rfl, q _ hf⟩
 exact ⟨z, us, r, ⟨_, Heap.get?_push_size _ rfl, rfl, _, rfl, rfl⟩⟩
theorem pe_lst (h : PA X es t) : PE X (.List es pos) (tLst t) := by
 intro pins s σ H Q I hq
 refine wpAny_List_spliced (thn (h pos pins s σ H _ I hq) fun us s1 ⟨xs, H1, I1, r, z, q⟩ => ⟨by rw [← r.length]; exact z, ?_⟩)
 have hf : H1 s1.heap.objs.size = none := I1.hok.fresh (Nat.le_refl _)
 refine ⟨.ref s1.heap.objs.size, upd H1 s1.heap.objs.size (.lst xs), I1.laid (t' := s1.toks) (fun b u e => Heap.get?_push_of_some _ e) (Nat.le_refl _) ?_, rfl, q _ hf⟩
 exact ⟨z, us, 0, r, Heap.get?_push_size _ rfl⟩
end
abbrev Sp := List V → Hp → VK → XK → Prop
abbrev CXT := List Env → Hp → Shared → XK → Value → Shared → Prop
structure Env0 (P : Program) (w : World) (K : PySem.W.Frag) (mg : Str → Option Value) (base : Heap) (A : Around) (outer : List Env) (s : Shared) (H : Hp) : Prop where
 frames : A.frames = some outer
 mod : Mod K mg base
 bs : ∀ b o, base.get? b = some o → s.heap.get? b = some o ∧ H b = none
 bsz : base.objs.size ≤ s.heap.objs.size
 funs : s.heap.FunFrames base outer
 frf : ∀ b ∈ frs outer, H b = none
 hok : HOk P w H s.heap
 bare : AllBare s.gens
def CE (outer : List Env) (P : Program) (w : World) (H : Hp) (s : Shared) (Q : VK) (u : Value) (s' : Shared) : Prop :=
 ∃ v H', s'.os = s.os ∧ AllBare s'.gens ∧ Un (frs outer) [] H H' s.heap s'.heap ∧ HOk P w H' s'.heap ∧ RelV v u ∧ Q v H'
def CR (CX : CXT) (outer : List Env) (P : Program) (w : World) (H : Hp) (s : Shared) (Q : VK) (E : XK) (r : Result) (s' : Shared) : Prop :=
 match r with
 | .ok (.ret u) => CE outer P w H s Q u s'
 | .ok _ => False
 | .error e => CX outer H s E e s'
structure FnOk (P : Program) (w : World) (K : PySem.W.Frag) (mg : Str → Option Value) (base : Heap) (CX : CXT) (k : Nat) (f : Addr) (fd : FuncData) (ps : List Str) (sp : Sp) : Prop where
 len : ∀ vs H Q E, sp vs H Q E → vs.length = ps.length
 run : ∀ (A : Around) (outer : List Env) (s : Shared) (H : Hp) (args : Args) (us : List Value) (vs : List V) (Q : VK) (E : XK), Room k A → Env0 P w K mg base A outer s H → BindsTo s fd args (ps.zip us) → Vals vs us → sp vs H Q E →
  codeAny (model P w) A (.call (.ref f) args) (CR CX outer P w H s Q E) s
theorem FnOk.mono {P : Program} {w : World} {K : PySem.W.Frag} {mg : Str → Option Value} {base : Heap} {CX : CXT} {j k : Nat} {f : Addr} {fd : FuncData} {ps : List Str} {sp : Sp} (F : FnOk P w K mg base CX j f fd ps sp) (h : j ≤ k) :
  FnOk P w K mg base CX k f fd ps sp := ⟨F.len, fun A outer s H args us vs Q E hr => F.run A outer s H args us vs Q E (hr.mono h)⟩
section
variable {X : Cx} {pins : List (Addr × Obj)} {σ : St} {H : Hp} {s s' : Shared}
theorem Inv.env0 (I : Inv X pins σ H s) : Env0 X.prog X.w X.K X.mg X.base X.A X.stack s H :=
 ⟨I.ok.frames, I.ok.mod, I.bs, Nat.le_trans I.ok.bsz I.sz, I.stack, I.stkFree, I.hok, I.bare⟩
theorem Inv.after {Q : VK} {u : Value} (I : Inv X pins σ H s) (h : CE X.stack X.prog X.w H s Q u s') : EP X pins σ Q u s' := by
 obtain ⟨v, H', os, bare, un, hok, r, q⟩ := h
 obtain ⟨hh, g, d, t, os'⟩ := s'
 obtain rfl : os' = s.os := os
 exact ⟨v, H', I.call (h' := hh) (g' := g) (d' := d) (t' := t) (ch := []) un hok bare (fun b z => absurd z (by simp)), r, q⟩
end
def tCall (sp : Sp) (dvs : List V) (E : XK) (t : TA) : TE := fun σ H Q => t σ H fun vs H1 => sp (vs ++ dvs) H1 Q E
def Binds (K : PySem.W.Frag) (fd : FuncData) (ps : List Str) (ds : List Value) : Prop :=
 ∀ (s : Shared) (us : List Value), K.In s.heap → (us ++ ds).length = ps.length → BindsTo s fd ⟨us, []⟩ (ps.zip (us ++ ds))
theorem Binds.all {K : PySem.W.Frag} {fd : FuncData} {ps : List Str} (h : ∀ us : List Value, us.length = ps.length → bindArgs fd ⟨us, []⟩ = pure (ps.zip us)) : Binds K fd ps [] := fun s us _ hl => by
 rw [List.append_nil] at hl ⊢
 exact .of_eq (h us hl)
def Passes (CX : CXT) (X : Cx) (E : XK) : Prop := ∀ (pins : List (Addr × Obj)) (σ : St) (H : Hp) (s : Shared) (e : Value) (s' : Shared), Inv X pins σ H s → CX X.stack H s E e s' → X.xe e s'
section
variable {X : Cx} {CX : CXT} {k : Nat} {f C : Addr} {fd : FuncData} {ps : List Str} {sp : Sp} {dvs : List V} {ds : List Value} {E : XK} {x m : Str} {p pos apos : Pos} {e o : Expr} {es : List Expr} {ta : TE} {t : TA}
theorem run_fn {pins : List (Addr × Obj)} {σ : St} {H : Hp} {s : Shared} {Q : VK} {us : List Value} {vs : List V} (F : FnOk X.prog X.w X.K X.mg X.base CX k f fd ps sp) (hr : Room k X.A) (hb : Binds X.K fd ps ds) (hd : Vals dvs ds) (hx : Passes CX X E)
  (I : Inv X pins σ H s) (r : Vals vs us) (h : sp (vs ++ dvs) H Q E) : wpAny (model X.prog X.w) X.A (call (.ref f) us) (EP X pins σ Q) X.xe s := by
 have r2 : Vals (vs ++ dvs) (us ++ ds) := r.append hd
 have hl : (us ++ ds).length = ps.length := by rw [← r2.length]; exact F.len _ _ _ _ h
 refine wpAny_call (codeAny_mono (F.run X.A X.stack s H ⟨us, []⟩ (us ++ ds) (vs ++ dvs) Q E hr I.env0 (hb s us I.kIn hl) r2 h) fun r s' hq => ?_)
 cases r with
 | error e => exact hx pins σ H s e s' I hq
 | ok fl =>
  cases fl with
  | ret u => exact I.after hq
  | next => exact False.elim hq
  | brk => exact False.elim hq
  | cont => exact False.elim hq
theorem pe_call (F : FnOk X.prog X.w X.K X.mg X.base CX k f fd ps sp) (hr : Room k X.A) (hg : Gl X x) (hm : X.mg x = some (.ref f)) (hk : PySem.W.keepIn X.K (.ref f) = true) (hb : Binds X.K fd ps ds) (hd : Vals dvs ds) (hx : Passes CX X E)
  (ha : PA X (e :: es) t) (hdb : (x == ("__debug__" : Str)) = false := by decide) (he : starEach (e :: es) X.env = (false, eval e X.env) :: starEach es X.env := by rfl) (hpl : (backTo pos (starEach es X.env)).any (·.1) = false := by rfl) :
  PE X (.Call (.Name x p) (e :: es) [] pos) (tCall sp dvs E t) := by
 intro pins s σ H Q I h
 refine wpAny_Call_Name_kw (ld_glob I hg hm ?_ hdb)
 refine PySem.W.callWith_K (h₀ := X.base) I.ok.mod.kin hk (thn (ha pos pins s σ H _ I h) fun us s1 ⟨vs, H1, I1, r, q⟩ => ⟨I1.kIn, ?_⟩) he hpl
 exact run_fn F hr hb hd hx I1 r q
end
section
variable {X : Cx} {CX : CXT} {k : Nat} {f C : Addr} {fd : FuncData} {ps ks : List Str} {sp : Sp} {E : XK} {x m : Str} {p pos apos kpos : Pos} {e o : Expr} {es : List Expr} {kws : List Keyword} {te ta : TE} {t tk : TA} {nm : Option Str}
variable {g : List Value → List Value → List Value} {gV : List V → List V → List V}
end
structure FnScope (N P : List Str) (sc : Scope) : Prop where
 kind : sc.kind = .function
 co : sc.isCoroutine = false
 gen : sc.isGenerator = false
 nd : N.Nodup
 pre : N.take P.length = P
 par : ∀ x ∈ P, sc.names.lookup x = some .local ∨ sc.names.lookup x = some .cell
 nofree : ∀ y ∈ sc.names, y.2 ≠ .free
theorem bindL_out {kindOf : Str → Option NameKind} {x : Str} : ∀ {binds : List (Str × Value)} {m : Str → Option Value}, (∀ v, (x, v) ∉ binds) → bindL kindOf binds m x = m x
 | [], _, _ => rfl
 | (n, v) :: r, m, h => by
  unfold bindL
  rw [bindL_out fun w hw => h w (List.mem_cons_of_mem _ hw)]
  split
  ·have : x ≠ n := by rintro rfl; exact h v List.mem_cons_self
   simp [this]
  ·rfl
theorem bindC_out {kindOf : Str → Option NameKind} {x : Str} : ∀ {binds : List (Str × Value)} {m : Str → Option Value}, (∀ v, (x, v) ∉ binds) → bindC kindOf binds m x = m x
 | [], _, _ => rfl
 | (n, v) :: r, m, h => by
  unfold bindC
  rw [bindC_out fun w hw => h w (List.mem_cons_of_mem _ hw)]
  split
  ·rfl
  ·have : x ≠ n := by rintro rfl; exact h v List.mem_cons_self
   simp [this]
theorem bindL_get {kindOf : Str → Option NameKind} {x : Str} {v : Value} : ∀ {P : List Str} {vs : List Value} {i : Nat} {m : Str → Option Value}, P.Nodup → P[i]? = some x → vs[i]? = some v → kindOf x = some .local →
  bindL kindOf (P.zip vs) m x = some v
 | [], _, _, _, _, h, _, _ => by simp at h
 | _ :: _, [], _, _, _, _, h, _ => by simp at h
 | p :: P, w :: vs, 0, m, nd, h1, h2, hk => by
  simp at h1 h2; subst h1; subst h2
  show bindL kindOf ((p, w) :: P.zip vs) m p = _
  unfold bindL
  rw [bindL_out fun v hv => (List.nodup_cons.mp nd).1 (List.of_mem_zip hv).1, if_pos hk]
  simp
 | p :: P, w :: vs, i + 1, m, nd, h1, h2, hk => by
  show bindL kindOf ((p, w) :: P.zip vs) m x = _
  unfold bindL
  exact bindL_get (i := i) (List.nodup_cons.mp nd).2 (by simpa using h1) (by simpa using h2) hk
theorem bindC_get {kindOf : Str → Option NameKind} {x : Str} {v : Value} : ∀ {P : List Str} {vs : List Value} {i : Nat} {m : Str → Option Value}, P.Nodup → P[i]? = some x → vs[i]? = some v → kindOf x ≠ some .local →
  bindC kindOf (P.zip vs) m x = some v
 | [], _, _, _, _, h, _, _ => by simp at h
 | _ :: _, [], _, _, _, _, h, _ => by simp at h
 | p :: P, w :: vs, 0, m, nd, h1, h2, hk => by
  simp at h1 h2; subst h1; subst h2
  show bindC kindOf ((p, w) :: P.zip vs) m p = _
  unfold bindC
  rw [bindC_out fun v hv => (List.nodup_cons.mp nd).1 (List.of_mem_zip hv).1, if_neg hk]
  simp
 | p :: P, w :: vs, i + 1, m, nd, h1, h2, hk => by
  show bindC kindOf ((p, w) :: P.zip vs) m x = _
  unfold bindC
  exact bindC_get (i := i) (List.nodup_cons.mp nd).2 (by simpa using h1) (by simpa using h2) hk
noncomputable def start (N : List Str) (vs : List V) : St := vs.map some ++ List.replicate (N.length - vs.length) none
noncomputable def cxOf (CX : CXT) (P : Program) (w : World) (K : PySem.W.Frag) (mg : Str → Option Value) (base : Heap) (N : List Str) (qual : Str) (scope : Scope) (f : Addr) (cd : Value) (A : Around) (outer : List Env) (s : Shared) (H : Hp) (E : XK) : Cx where
 prog := P
 w := w
 K := K
 mg := mg
 base := base
 A := A.deeper (envOfC qual scope s.heap.objs.size f cd)
 N := N
 s₀ := s
 H₀ := H
 env := envOfC qual scope s.heap.objs.size f cd
 outer := outer
 stack := envOfC qual scope s.heap.objs.size f cd :: outer
 ex := []
 calm := true
 fn := fun _ => true
 pn := []
 xe := fun e s' => wpAny (model P w) (A.deeper (envOfC qual scope s.heap.objs.size f cd)) (leaving (envOfC qual scope s.heap.objs.size f cd) e) (fun _ s'' => CX outer H s E e s'') (fun e' s'' => CX outer H s E e' s'') s'
theorem cell_has {sc : Scope} {n : Nat} {x : Str} (h : sc.names.lookup x = some .cell) : ∃ c, (cellsFrom n sc.names []).lookup x = some c := by
 have q := PySem.W.cellsFrom_some sc.names n [] (.inl h)
 exact Option.isSome_iff_exists.mp q
theorem inv_start {CX : CXT} {P : Program} {w : World} {K : PySem.W.Frag} {mg : Str → Option Value} {base : Heap} {N ps : List Str} {qual : Str} {scope : Scope} {f : Addr} {cd : Value} {A : Around} {outer : List Env} {s s1 : Shared} {H : Hp} {E : XK} {us : List Value} {vs : List V}
  (S : FnScope N ps scope) (hd : A.handled = none) (e0 : Env0 P w K mg base A outer s H) (hl : vs.length = ps.length) (r : Vals vs us)
  (x : InCallC s s.heap.objs.size (bindL (envOfC qual scope s.heap.objs.size f cd).kindOf (ps.zip us) fun _ => none) (cellsFrom (s.heap.objs.size + 1) scope.names []) (bindC (envOfC qual scope s.heap.objs.size f cd).kindOf (ps.zip us) fun _ => none) s1) :
  Inv (cxOf CX P w K mg base N qual scope f cd A outer s H E) [] (start N vs) H s1 := by
 have hpl : ps.length ≤ N.length := by have := congrArg List.length S.pre; rw [List.length_take] at this; omega
 obtain ⟨h1, tk, rfl, hk⟩ := x.done
 have noA : ∀ b : Addr, b ∉ (cxOf CX P w K mg base N qual scope f cd A outer s H E).ex := fun b z => absurd (show b ∈ ([] : List Addr) from z) (by simp)
 refine ⟨⟨e0.mod, S.kind, rfl, rfl, Nat.le_refl _, fun y z c h1 h2 => ?_, fun y hy => ?_, fun y c _ h => ?_, fun _ => hd, Around.frames_deeper e0.frames, .inr ⟨rfl, rfl⟩, fun b z => absurd z (noA b), e0.bs, e0.bsz, fun b _ _ => noA b, fun b z => absurd z (noA b), e0.funs, e0.frf⟩,
  rfl, e0.bare, Un.kept hk, ⟨_, x.toInCall.ns, fun i y v h1 h2 h3 => ?_⟩, fun y c h => ⟨_, x.cell y c h⟩, e0.hok.fresh (Nat.le_refl _), fun y c h => ?_, fun p hp => absurd (show p ∈ ([] : List (Addr × Obj)) from hp) (by simp), e0.hok.kept hk, ?_⟩
 ·exact name_of_addr x.apart (PySem.mem_of_lookup h1) (PySem.mem_of_lookup h2)
 ·have hy : scope.names.lookup y = some .cell ∨ scope.names.lookup y = some .free := hy
  rcases hy with hy | hy
  ·exact cell_has hy
  ·exact absurd rfl (S.nofree _ (PySem.mem_of_lookup hy))
 ·exact Nat.le_of_lt (x.above y c (PySem.mem_of_lookup h))
 ·have hi : i < vs.length := by
   unfold start at h2
   by_cases hi : i < vs.length
   ·exact hi
   ·rw [List.getElem?_append_right (by simpa using hi)] at h2
    rw [List.getElem?_replicate] at h2
    split at h2 <;> cases h2
  have ha : vs[i]? = some v := by
   unfold start at h2
   rw [List.getElem?_append_left (by simpa using hi), List.getElem?_map] at h2
   cases e : vs[i]? with
   | none => rw [e] at h2; cases h2
   | some a => rw [e] at h2; cases h2; rfl
  obtain ⟨u, hu, rv⟩ := r.get ha
  have hp : ps[i]? = some y := by
   rw [← S.pre, List.getElem?_take_of_lt (by omega)]; exact h1
  have ndP : ps.Nodup := by rw [← S.pre]; exact S.nd.sublist (List.take_sublist _ _)
  refine ⟨u, rv, ?_⟩
  rcases S.par y (List.mem_of_getElem? hp) with k | k
  ·exact .inl ⟨k, bindL_get ndP hp hu k⟩
  ·obtain ⟨c, e⟩ := cell_has (n := s.heap.objs.size + 1) k
   refine .inr ⟨.inl k, c, e, ?_⟩
   have q := x.cell y c e
   rw [bindC_get ndP hp hu (by show scope.names.lookup y ≠ _; rw [k]; decide)] at q
   exact q
 ·exact e0.hok.fresh (Nat.le_of_lt (x.above y c (PySem.mem_of_lookup h)))
 ·unfold start
  show _ = N.length
  rw [List.length_append, List.length_map, List.length_replicate]
  omega
theorem fn_of {CX : CXT} {P : Program} {w : World} {K : PySem.W.Frag} {mg : Str → Option Value} {base : Heap} {k : Nat} {f : Addr} {name qual : Str} {params : Arguments} {body : List Stmt} {scope : Scope} {dV kV doc pm cdv ct oc : Value} {an od : Option Addr}
  {osl : Array (Option Value)} {N ps : List Str} {sp : Sp} (lk : K.lookup f = some ⟨oc, od, .func (PySem.W.fnOf name qual params body scope dV kV doc pm an cdv ct), osl⟩) (hcd : PySem.W.codeIn K cdv qual = true) (S : FnScope N ps scope)
  (len : ∀ vs H Q E, sp vs H Q E → vs.length = ps.length)
  (hbody : ∀ (A : Around) (outer : List Env) (s : Shared) (H : Hp) (vs : List V) (Q : VK) (E : XK), Room k (A.deeper (envOfC qual scope s.heap.objs.size f cdv)) → sp vs H Q E →
   ∃ t, PSs (cxOf CX P w K mg base N qual scope f cdv A outer s H E) body t ∧ t { nx := fun _ H' => Q .non H', rt := Q } (start N vs) H) :
  FnOk P w K mg base CX (k + 1) f (PySem.W.fnOf name qual params body scope dV kV doc pm an cdv ct) ps sp := by
 refine ⟨len, fun A outer s H args us vs Q E hr e0 hb r hsp => ?_⟩
 have hl := len _ _ _ _ hsp
 have KX : K.In s.heap := e0.mod.kin.keeps fun b o e => (e0.bs b o e).1
 have lim : s.heap.NoLimit := e0.mod.nolimit.keeps fun b o e => (e0.bs b o e).1
 have hkind : ∀ y ∈ ps.zip us, scope.names.lookup y.1 = some .local ∨ (scope.names.lookup y.1 = some .cell ∧ ((cellsFrom (s.heap.objs.size + 1) scope.names []).lookup y.1).isSome = true) := fun ⟨n, v⟩ hy => by
  rcases S.par n (List.of_mem_zip hy).1 with q | q
  ·exact .inl q
  ·exact .inr ⟨q, PySem.W.cellsFrom_some _ _ _ (.inl q)⟩
 refine codeAny_call_function hr.depth (KX _ _ lk) rfl S.co S.gen rfl (PySem.W.codeRec_of KX hcd) (hb _ _ _ _ ?_)
 refine wpAny_newFunctionEnv_cells S.kind hkind fun env he s1 x => ?_
 subst he
 refine ⟨lim.keeps x.toInCall.keep, codeAny_func ?_⟩
 obtain ⟨t, ht, hq⟩ := hbody A outer s H vs Q E (hr.deeper _) hsp
 have I : Inv (cxOf CX P w K mg base N qual scope f cdv A outer s H E) [] (start N vs) H s1 := inv_start S hr.hd e0 hl r x
 refine wpAny_mono (ht [] s1 (start N vs) H _ I hq) (fun fl s' hs => ?_) fun e s' hs => hs
 have fin : ∀ {σ' : St} {H' : Hp} {v : V} {u : Value}, Inv (cxOf CX P w K mg base N qual scope f cdv A outer s H E) [] σ' H' s' → RelV v u → Q v H' → CE outer P w H s Q u s' :=
  fun {σ' H' v u} J rv q => ⟨v, H', J.os, J.bare, J.base, J.hok, rv, q⟩
 cases fl with
 | ret u =>
  obtain ⟨v, σ', H', J, rv, q⟩ := hs
  exact fin J rv q
 | next =>
  obtain ⟨σ', H', J, q⟩ := hs
  exact fin (v := V.non) (u := Value.none) J rfl q
 | brk =>
  obtain ⟨_, _, _, q⟩ := hs
  exact False.elim q
 | cont =>
  obtain ⟨_, _, _, q⟩ := hs
  exact False.elim q
end L2
namespace L2
open PySem PySem.Spec PyProof.Rows
section
variable {X : Cx} {x : Str} {p pos : Pos} {e : Expr} {es : List Expr} {t : TA} {id T : String} {r : List V → Hp → VK → Prop}
def tCB (r : List V → Hp → VK → Prop) (t : TA) : TE := fun σ H Q => t σ H fun vs H1 => r vs H1 Q
theorem pe_callB (hc : CallR X (.builtin id) r) (hg : Gl X x) (hm : X.mg x = none) (hv : bootBuiltins x = some (.builtin id)) (ha : PA X (e :: es) t) (hn : x ≠ "__name__" := by decide) (hdb : (x == ("__debug__" : Str)) = false := by decide)
  (he : starEach (e :: es) X.env = (false, eval e X.env) :: starEach es X.env := by rfl) (hpl : (backTo pos (starEach es X.env)).any (·.1) = false := by rfl) : PE X (.Call (.Name x p) (e :: es) [] pos) (tCB r t) := by
 intro pins s σ H Q I h
 refine wpAny_Call_Name_kw (ld_blt I hg hm hv ?_ hn hdb)
 exact PyProof.Rows.callWith_builtin1 (thn (ha pos pins s σ H _ I h) fun us s1 ⟨vs, H1, I1, r1, q1⟩ => hc pins s1 σ H1 vs us Q I1 r1 q1) he hpl
theorem pe_callTy (hc : CallR X (.type T) r) (hg : Gl X x) (hm : X.mg x = none) (hv : bootBuiltins x = some (.type T)) (ha : PA X (e :: es) t) (hn : x ≠ "__name__" := by decide) (hdb : (x == ("__debug__" : Str)) = false := by decide)
  (he : starEach (e :: es) X.env = (false, eval e X.env) :: starEach es X.env := by rfl) (hpl : (backTo pos (starEach es X.env)).any (·.1) = false := by rfl) : PE X (.Call (.Name x p) (e :: es) [] pos) (tCB r t) := by
 intro pins s σ H Q I h
 refine wpAny_Call_Name_kw (ld_blt I hg hm hv ?_ hn hdb)
 exact PyProof.Rows.callWith_type1 (thn (ha pos pins s σ H _ I h) fun us s1 ⟨vs, H1, I1, r1, q1⟩ => hc pins s1 σ H1 vs us Q I1 r1 q1) he hpl
end
end L2
namespace HT
open PySem PyProof.Rows
section
open PySem.SeqAt
open PySem.AutoSeq1 (wpAny_loadPart')
open PySem.MeetsSeq PySem.MeetsSeq2 PySem.MeetsSeq3
end
section
variable {prog : Program} {w : World} {A : Around} {E : Value → Shared → Prop} {s : Shared}
noncomputable def sIx (n d : Nat) : Option Int → Nat
 | none => d
 | some v => if v < 0 then (v + (n : Int)).toNat else min v.toNat n
theorem sIx_le (n d : Nat) (hd : d ≤ n) (o : Option Int) : sIx n d o ≤ n := by
 cases o with
 | none => exact hd
 | some v =>
  show (if v < 0 then (v + (n : Int)).toNat else min v.toNat n) ≤ n
  by_cases hv : v < 0
  ·rw [if_pos hv]; omega
  ·rw [if_neg hv]; exact Nat.min_le_right _ _
end
end HT
namespace L2
open PySem PySem.Spec PyProof.Rows
abbrev TO := St → Hp → (Option Int → Hp → Prop) → Prop
def PO (X : Cx) (e : Option Expr) (t : TO) : Prop :=
 ∀ (pins : List (Addr × Obj)) (s : Shared) (σ : St) (H : Hp) (Q : Option Int → Hp → Prop), Inv X pins σ H s → t σ H Q →
  wpAny (model X.prog X.w) X.A (evalPart e X.env) (fun u s' => ∃ o H', Inv X pins σ H' s' ∧ IsPart u o ∧ Q o H') X.xe s
def tNoPart : TO := fun _ H Q => Q none H
def tPart (t : TE) : TO := fun σ H Q => t σ H fun x H1 => ∃ i, x = .int i ∧ Q (some i) H1
theorem intsAre_of {ns : List Int} : ∀ {us : List Value}, Vals (ns.map V.int) us → IntsAre us ns := by
 induction ns with
 | nil => intro us r; rw [List.map_nil] at r; cases r; exact .nil
 | cons n ns ih =>
  intro us r
  rw [List.map_cons] at r
  cases r with
  | cons r1 r2 =>
   obtain ⟨t, e⟩ := r1
   subst e
   exact .cons n t (ih r2)
section
variable {X : Cx} {e : Expr} {te : TE} {lo hi : Option Expr} {tl th : TO} {pos p2 : Pos}
theorem po_none : PO X none tNoPart := by
 intro pins s σ H Q I h
 rw [evalPart_none]
 exact wpAny_pure ⟨none, H, I, .none, h⟩
theorem po_some (h : PE X e te) : PO X (some e) (tPart te) := by
 intro pins s σ H Q I hw
 rw [evalPart_some]
 refine thn (h pins s σ H _ I hw) fun u s1 ⟨x, H1, I1, r1, q1⟩ => ?_
 obtain ⟨i, rfl, q⟩ := q1
 obtain ⟨t, rfl⟩ := r1
 exact ⟨some i, H1, I1, .int i t, q⟩
def SlR (X : Cx) (r : V → Option Int → Option Int → Hp → VK → Prop) : Prop :=
 ∀ (pins : List (Addr × Obj)) (s : Shared) (σ : St) (H : Hp) (x : V) (v vl vu : Value) (lo hi : Option Int) (sl : Addr) (Q : VK), Inv X pins σ H s → RelV x v → s.heap.IsSliceOf sl vl vu .none → IsPart vl lo → IsPart vu hi → r x lo hi H Q →
  ∃ T id, typeLookup (.type T) "__getitem__" = pure (some (.builtin id)) ∧ s.TypeIs v T ∧ wpAny (model X.prog X.w) X.A (getItem v (.ref sl)) (EP X pins σ Q) X.xe s
def tSl (r : V → Option Int → Option Int → Hp → VK → Prop) (te : TE) (tl th : TO) : TE := fun σ H Q => te σ H fun x H1 => tl σ H1 fun l H2 => th σ H2 fun u H3 => r x l u H3 Q
theorem pe_slice {r : V → Option Int → Option Int → Hp → VK → Prop} (hr : SlR X r) (he : PE X e te) (hl : PO X lo tl) (hu : PO X hi th) : PE X (.Subscript e (.Slice lo hi none p2) pos) (tSl r te tl th) := by
 intro pins s σ H Q I h
 refine Subscript_ (thn (he pins s σ H _ I h) fun v s1 ⟨x, H1, I1, r1, q1⟩ => ?_)
 refine wpAny_Slice (thn (hl pins s1 σ H1 _ I1 q1) fun vl s2 ⟨l, H2, I2, pl, q2⟩ => thn (hu pins s2 σ H2 _ I2 q2) fun vu s3 ⟨u, H3, I3, pu, q3⟩ => ?_)
 rw [evalPart_none]
 refine wpAny_pure ?_
 have I4 : Inv X pins σ H3 { s3 with heap := s3.heap.push { cls := .type "slice", data := .fields #[vl, vu, .none] } } := I3.kept (t' := s3.toks) fun b ob q => Heap.get?_push_of_some _ q
 obtain ⟨T, id, hT, ht, hg⟩ := hr pins { s3 with heap := s3.heap.push { cls := .type "slice", data := .fields #[vl, vu, .none] } } σ H3 x v vl vu l u s3.heap.objs.size Q I4 r1 (Heap.IsSliceOf.new ..) pl pu q3
 show wpAny (model X.prog X.w) X.A (subscriptTail e (.Slice lo hi none p2) v (.ref s3.heap.objs.size)) (EP X pins σ Q) X.xe { s3 with heap := s3.heap.push { cls := .type "slice", data := .fields #[vl, vu, .none] } }
 exact tail_any (ops := [.ref s3.heap.objs.size, v]) ht hT hg (by with_unfolding_all rfl)
noncomputable def cutV (xs : List V) (lo hi : Option Int) : List V := (xs.drop (HT.sIx xs.length 0 lo)).take (HT.sIx xs.length xs.length hi - HT.sIx xs.length 0 lo)
theorem cutV_length (xs : List V) (lo hi : Option Int) : (cutV xs lo hi).length ≤ xs.length := by
 unfold cutV
 rw [List.length_take, List.length_drop]
 omega
end
end L2
namespace L2
open PySem PySem.Spec PyProof.Rows
noncomputable def ixN (n : Nat) (i : Int) : Option Nat := if 0 ≤ i then (if i < n then some i.toNat else none) else if -(n : Int) ≤ i then some (i + n).toNat else none
noncomputable def atI {α : Type} (xs : List α) (i : Int) : Option α := (ixN xs.length i).bind fun j => xs[j]?
theorem ixN_seq {n : Nat} {i : Int} {j : Nat} (h : ixN n i = some j) : seqIndex? i n = some j ∧ j < n ∧ -(n : Int) ≤ i ∧ i < n := by
 unfold ixN at h
 by_cases h0 : 0 ≤ i
 ·rw [if_pos h0] at h
  by_cases h1 : i < n
  ·rw [if_pos h1] at h
   have e : i.toNat = j := Option.some.inj h
   exact ⟨by rw [seqIndex_of h0 h1, e], by omega, by omega, h1⟩
  ·rw [if_neg h1] at h; cases h
 ·rw [if_neg h0] at h
  by_cases h1 : -(n : Int) ≤ i
  ·rw [if_pos h1] at h
   have e : (i + n).toNat = j := Option.some.inj h
   exact ⟨by rw [seqIndex_neg (by omega) h1, e], by omega, h1, by omega⟩
  ·rw [if_neg h1] at h; cases h
theorem atI_get {α : Type} {xs : List α} {i : Int} {v : α} (h : atI xs i = some v) : ∃ j, seqIndex? i xs.length = some j ∧ xs[j]? = some v ∧ j < xs.length ∧ -(xs.length : Int) ≤ i ∧ i < xs.length := by
 unfold atI at h
 cases e : ixN xs.length i with
 | none => rw [e] at h; cases h
 | some j =>
  rw [e] at h
  obtain ⟨h1, h2, h3, h4⟩ := ixN_seq e
  exact ⟨j, h1, h, h2, h3, h4⟩
theorem atI_nat {α : Type} {xs : List α} {j : Nat} {v : α} (h : xs[j]? = some v) : atI xs (j : Int) = some v := by
 have hj : j < xs.length := (List.getElem?_eq_some_iff.mp h).1
 have e : ixN xs.length (j : Int) = some j := by
  unfold ixN
  rw [if_pos (by omega), if_pos (by omega)]; simp
 unfold atI; rw [e]; exact h
def PlainIx (b : Expr) : Prop := ∀ o i, subscripted b false o i = operate [o, i] (getItem o i)
def IxR (X : Cx) (r : R2) : Prop :=
 ∀ (value slice : Expr) (pins : List (Addr × Obj)) (s : Shared) (σ : St) (H : Hp) (x y : V) (v u : Value) (Q : VK), Inv X pins σ H s → RelV x v → RelV y u → r x y H Q →
  subscripted slice false v u = operate [v, u] (getItem v u) → wpAny (model X.prog X.w) X.A (subscriptTail value slice v u) (EP X pins σ Q) X.xe s
def MtR (X : Cx) (id : String) (r : V → List V → Hp → VK → Prop) : Prop :=
 ∀ (pins : List (Addr × Obj)) (s : Shared) (σ : St) (H : Hp) (x : V) (xs : List V) (v : Value) (us : List Value) (Q : VK), Inv X pins σ H s → RelV x v → Vals xs us → r x xs H Q →
  wpAny (model X.prog X.w) X.A (call (.builtin id) (v :: us)) (EP X pins σ Q) X.xe s
section
variable {X : Cx} {a b : Expr} {ta tb : TE} {pos : Pos}
theorem pe_ix {r : R2} (hr : IxR X r) (ha : PE X a ta) (hb : PE X b tb) (hs : PlainIx b) : PE X (.Subscript a b pos) (tOp r ta tb) := by
 intro pins s σ H Q I h
 exact Subscript_ (binT ha hb I h fun v u s2 x y H2 I2 rx ry q => hr a b pins s2 σ H2 x y v u Q I2 rx ry q (hs _ _))
def rIxL (K : PySem.W.Frag) : R2 := fun x y H Q => ∃ p xs i v, x = .ref p ∧ y = .int i ∧ SqL K H p xs ∧ atI xs i = some v ∧ Q v H
def rIxS : R2 := fun x y H Q => ∃ z i c, x = .str z ∧ y = .int i ∧ z.length ≤ sizeLine ∧ atI z.cps.toList i = some c ∧ Q (.str ⟨#[c]⟩) H
theorem ix_list : IxR X (rIxL X.K) := by
 intro value slice pins s σ H x y v u Q I rx ry h hs
 obtain ⟨p, xs, i, z, rfl, rfl, hq, he, q⟩ := h
 cases rx
 obtain ⟨t, rfl⟩ := ry
 obtain ⟨its, r, pl, hz⟩ := I.list hq
 obtain ⟨j, h1, h2, h3, h4, h5⟩ := atI_get he
 obtain ⟨w, ew, rw'⟩ := r.get h2
 have hl := r.length
 have hn := line63
 have fin : EP X pins σ Q w s := ⟨z, H, I, rw', q⟩
 by_cases h0 : 0 ≤ i
 ·have hj : i.toNat = j := by
   rw [seqIndex_of h0 h5] at h1
   exact Option.some.inj h1
  exact item_listR pl.isList h0 (by omega) (by rw [hj]; simpa using ew) fin hs
 ·have hj : (i + (its.toArray.size : Int)).toNat = j := by
   rw [seqIndex_neg (by omega) h4] at h1
   rw [List.size_toArray, ← hl]
   exact Option.some.inj h1
  exact subscriptTail_builtinR (x := w) pl.isList.typeIs slot_list_getitem.lookup
   (wpAny_getItem_list_neg (Q := fun r s' => r = w ∧ EP X pins σ Q r s') pl.isList (by omega) (by rw [List.size_toArray] <;> omega) (by omega) (by rw [hj]; simpa using ew) ⟨rfl, fin⟩) hs
theorem ix_str : IxR X rIxS := by
 intro value slice pins s σ H x y v u Q I rx ry h hs
 obtain ⟨z, i, c, rfl, rfl, hz, he, q⟩ := h
 obtain ⟨t, rfl⟩ := rx
 obtain ⟨t', rfl⟩ := ry
 obtain ⟨j, h1, h2, h3, h4, h5⟩ := atI_get he
 have hl : z.cps.toList.length = z.length := by simp [Str.length]
 rw [hl] at h1 h4 h5
 have hn := line63
 exact tail_any (typeIs_str s z t) slot_str_getitem.lookup (getItem_str (c := c) (by
  have e1 : decide (i < -(2 ^ 63 : Int)) = false := decide_eq_false (by omega)
  have e2 : decide (i ≥ 2 ^ 63) = false := decide_eq_false (by omega)
  rw [e1, e2, Bool.or_false]) (by rw [h1]; simpa using h2) ⟨.str ⟨#[c]⟩, H, I.tok _, ⟨_, rfl⟩, q⟩) hs
theorem mapSeq_set (its : List Value) (n j : Nat) (u : Value) : Obj.mapSeq (·.setIfInBounds j u) { cls := .type "list", data := .seq its.toArray n } = { cls := .type "list", data := .seq (its.set j u).toArray n } := by
 simp [Obj.mapSeq]
theorem Inv.lst {pins : List (Addr × Obj)} {σ : St} {H : Hp} {s : Shared} {p : Addr} {xs : List V} (I : Inv X pins σ H s) (h : H p = some (.lst xs)) :
  ∃ (its : List Value) (n : Nat), Vals xs its ∧ s.heap.get? p = some { cls := .type "list", data := .seq its.toArray n } ∧ xs.length ≤ sizeLine := by
 obtain ⟨z, its, n, r, e⟩ := I.hok p _ h
 exact ⟨its, n, r, e, z⟩
theorem Inv.lstUpd {pins : List (Addr × Obj)} {σ : St} {H : Hp} {s : Shared} {p : Addr} {xs ys : List V} {its its' : List Value} {n n' : Nat} {f : Obj → Obj} (I : Inv X pins σ H s) (h : H p = some (.lst xs))
  (ho : s.heap.get? p = some { cls := .type "list", data := .seq its.toArray n }) (hf : f { cls := .type "list", data := .seq its.toArray n } = { cls := .type "list", data := .seq its'.toArray n' }) (r : Vals ys its') (hz : ys.length ≤ sizeLine) (t : Nat) :
  Inv X pins σ (upd H p (.lst ys)) { s with heap := s.heap.update p f, toks := t } := by
 have e : (s.heap.update p f).get? p = some { cls := .type "list", data := .seq its'.toArray n' } := by
  rw [Heap.get?_update_self f ho (by rw [hf] <;> rfl), hf]
 refine I.write (x := p) (e := p) (by rw [h]; trivial) (.inl rfl) (fun b u hb q => (Heap.get?_update_other _ _ (Ne.symm hb)).trans q) ⟨_, e⟩ ?_
 exact ⟨hz, its', n', r, e⟩
def rSetL : V → V → V → Hp → (Hp → Prop) → Prop := fun o i v H Q => ∃ p xs k j, o = .ref p ∧ i = .int k ∧ H p = some (.lst xs) ∧ ixN xs.length k = some j ∧ Q (upd H p (.lst (xs.set j v)))
theorem set_list : PSet X rSetL := by
 intro pins s σ H o i v ov iv u Q I ro ri rv h
 obtain ⟨p, xs, k, j, rfl, rfl, hp, hj, q⟩ := h
 cases ro
 obtain ⟨t, rfl⟩ := ri
 obtain ⟨its, n, r, ho, hz⟩ := I.lst hp
 obtain ⟨h1, h2, h3, h4⟩ := ixN_seq hj
 have hl := r.length
 have hn := line63
 have I' : Inv X pins σ (upd H p (.lst (xs.set j v))) { s with heap := s.heap.update p (Obj.mapSeq (·.setIfInBounds j u)) } :=
  I.lstUpd hp ho (mapSeq_set its n j u) (r.set rv j) (by rw [List.length_set]; exact hz) s.toks
 by_cases h0 : 0 ≤ k
 ·have hk : k.toNat = j := by
   rw [seqIndex_of h0 h4] at h1
   exact Option.some.inj h1
  exact PySem.W.ki_setAt ho h0 (by omega) (by rw [List.size_toArray, ← hl]; exact h4) (by rw [hk]; exact ⟨_, I', q⟩)
 ·have hk : (k + (its.toArray.size : Int)).toNat = j := by
   rw [seqIndex_neg (by omega) h3] at h1
   rw [List.size_toArray, ← hl]
   exact Option.some.inj h1
  exact PySem.W.ki_setBack ho (by omega) (by rw [List.size_toArray, ← hl]; exact h3) (by omega) (by rw [hk]; exact ⟨_, I', q⟩)
theorem slice_bounds (lo hi : Option Int) (n : Nat) : (sliceBounds lo hi none n).1 = ((HT.sIx n 0 lo : Nat) : Int) ∧ (sliceBounds lo hi none n).2.1 = ((HT.sIx n n hi : Nat) : Int) ∧ (sliceBounds lo hi none n).2.2 = 1 := by
 refine ⟨?_, ?_, rfl⟩
 ·cases lo with
  | none => simp [sliceBounds, HT.sIx]
  | some i =>
   simp only [sliceBounds, HT.sIx, Option.getD_none, show (1 : Int) > 0 by decide, if_true]
   by_cases h : i < 0
   ·simp only [h, if_true] <;> omega
   ·simp only [h, if_false] <;> omega
 ·cases hi with
  | none => simp [sliceBounds, HT.sIx]
  | some i =>
   simp only [sliceBounds, HT.sIx, Option.getD_none, show (1 : Int) > 0 by decide, if_true]
   by_cases h : i < 0
   ·simp only [h, if_true] <;> omega
   ·simp only [h, if_false] <;> omega
theorem slicePick_cut (its : List Value) (lo hi : Option Int) : slicePick its.toArray lo hi none = ((its.drop (HT.sIx its.length 0 lo)).take (HT.sIx its.length its.length hi - HT.sIx its.length 0 lo)).toArray := by
 obtain ⟨h1, h2, h3⟩ := slice_bounds lo hi its.toArray.size
 unfold slicePick
 rw [h1, h2, h3]
 simp only [sliceRange_one, pick_run, List.size_toArray] <;> rfl
def rSlL (K : PySem.W.Frag) : V → Option Int → Option Int → Hp → VK → Prop := fun x lo hi H Q => ∃ a xs, x = .ref a ∧ SqL K H a xs ∧ ∀ p, H p = none → Q (.ref p) (upd H p (.lst (cutV xs lo hi)))
theorem sl_list : SlR X (rSlL X.K) := by
 intro pins s σ H x v vl vu lo hi sl Q I rx hs pl pu h
 obtain ⟨a, xs, rfl, hx, q⟩ := h
 cases rx
 obtain ⟨its, r, ht, hz⟩ := I.list hx
 have hlen := r.length
 refine ⟨"list", _, slot_list_getitem.lookup, ht.isList.typeIs, ?_⟩
 refine wpAny_getItem_list_slice ht.isList hs pl pu .none (by simp) ?_ (by rw [List.size_toArray] <;> omega)
 rw [slicePick_cut, ← hlen]
 refine ⟨.ref s.heap.objs.size, _, I.laid (t' := s.toks) (o := .lst (cutV xs lo hi)) (fun b ob q => Heap.get?_push_of_some _ q) (Nat.le_refl _) ?_, rfl, q _ (I.hok.fresh (Nat.le_refl _))⟩
 exact ⟨Nat.le_trans (cutV_length xs lo hi) hz, _, 0, (r.drop (HT.sIx xs.length 0 lo)).take (HT.sIx xs.length xs.length hi - HT.sIx xs.length 0 lo), Heap.get?_push_size _ rfl⟩
noncomputable def flatV : V → Bool
 | .non => true
 | .bl _ => true
 | .int _ => true
 | .str _ => true
 | _ => false
noncomputable def eqV : V → V → Bool
 | .non, .non => true
 | .bl a, .bl b => a == b
 | .bl a, .int b => (if a then 1 else 0) == b
 | .int a, .bl b => a == (if b then 1 else 0)
 | .int a, .int b => a == b
 | .str a, .str b => a == b
 | _, _ => false
theorem eqAt_V {A : Around} {s : Shared} {y x : V} {u v : Value} (ry : RelV y u) (rx : RelV x v) (fy : flatV y = true) (fx : flatV x = true) : SeqAt.EqAt A s u v (eqV y x) := by
 cases y with
 | non =>
  cases ry
  cases x with
  | non => cases rx; exact SeqAt.EqAt.same _
  | bl b => cases rx; exact SeqAt.EqAt.none_bool b
  | int b => obtain ⟨t, rfl⟩ := rx; exact SeqAt.EqAt.none_int b t
  | str b => obtain ⟨t, rfl⟩ := rx; exact SeqAt.EqAt.none_str b t
  | _ => exact absurd (show false = true from fx) Bool.false_ne_true
 | bl a =>
  cases ry
  cases x with
  | non => cases rx; exact SeqAt.EqAt.bool_none a
  | bl b => cases rx; exact SeqAt.EqAt.bool_bool a b
  | int b => obtain ⟨t, rfl⟩ := rx; exact SeqAt.EqAt.bool_int a b t
  | str b => obtain ⟨t, rfl⟩ := rx; exact SeqAt.EqAt.bool_str a b t
  | _ => exact absurd (show false = true from fx) Bool.false_ne_true
 | int a =>
  obtain ⟨t', rfl⟩ := ry
  cases x with
  | non => cases rx; exact SeqAt.EqAt.int_none a t'
  | bl b => cases rx; exact SeqAt.EqAt.int_bool a t' b
  | int b => obtain ⟨t, rfl⟩ := rx; exact SeqAt.EqAt.int_int a t' b t
  | str b => obtain ⟨t, rfl⟩ := rx; exact SeqAt.EqAt.int_str a t' b t
  | _ => exact absurd (show false = true from fx) Bool.false_ne_true
 | str a =>
  obtain ⟨t', rfl⟩ := ry
  cases x with
  | non => cases rx; exact SeqAt.EqAt.str_none a t'
  | bl b => cases rx; exact SeqAt.EqAt.str_bool a t' b
  | int b => obtain ⟨t, rfl⟩ := rx; exact SeqAt.EqAt.str_int a t' b t
  | str b => obtain ⟨t, rfl⟩ := rx; exact SeqAt.EqAt.str_str a t' b t
  | _ => exact absurd (show false = true from fx) Bool.false_ne_true
 | _ => exact absurd (show false = true from fy) Bool.false_ne_true
noncomputable def eqU (x : V) (u : Value) : Bool := match u with
 | .none => eqV .non x
 | .bool b => eqV (.bl b) x
 | .int i _ => eqV (.int i) x
 | .str z _ => eqV (.str z) x
 | _ => false
theorem eqU_of {x y : V} {u : Value} (r : RelV y u) (f : flatV y = true) : eqU x u = eqV y x := by
 cases y with
 | non => cases r; rfl
 | bl b => cases r; rfl
 | int i => obtain ⟨t, rfl⟩ := r; rfl
 | str z => obtain ⟨t, rfl⟩ := r; rfl
 | _ => exact absurd (show false = true from f) Bool.false_ne_true
theorem any_eqU {x : V} : ∀ {xs : List V} {us : List Value}, Vals xs us → xs.all flatV = true → us.any (eqU x) = xs.any fun y => eqV y x
 | _, _, .nil, _ => rfl
 | y :: xs, u :: us, .cons r t, f => by
  rw [List.all_cons, Bool.and_eq_true] at f
  rw [List.any_cons, List.any_cons, eqU_of r f.1, any_eqU t f.2]
theorem mem_eqAt {A : Around} {s : Shared} {x : V} {v : Value} (rx : RelV x v) (fx : flatV x = true) : ∀ {xs : List V} {us : List Value}, Vals xs us → xs.all flatV = true → ∀ u ∈ us, SeqAt.EqAt A s u v (eqU x u)
 | _, _, .nil, _ => fun u hu => by cases hu
 | y :: xs, u :: us, .cons r t, f => fun u' hu => by
  rw [List.all_cons, Bool.and_eq_true] at f
  rcases List.mem_cons.mp hu with rfl | hu
  ·rw [eqU_of r f.1]; exact eqAt_V r rx f.1 fx
  ·exact mem_eqAt rx fx t f.2 u' hu
noncomputable def inV (x : V) (xs : List V) : Bool := xs.any fun y => eqV y x
def rIn (K : PySem.W.Frag) (neg : Bool) : R2 := fun x y H Q => ∃ p xs, y = .ref p ∧ (SqL K H p xs ∨ SqT K H p xs) ∧ flatV x = true ∧ xs.all flatV = true ∧ Q (.bl (if neg then !inV x xs else inV x xs)) H
theorem op_in_seq : OpR X (compareOp .In) (rIn X.K false) := by
 intro pins s σ H x y v u Q I rx ry h
 obtain ⟨p, xs, rfl, hq, fx, fs, q⟩ := h
 cases ry
 rcases hq with hq | hq
 ·obtain ⟨its, r, pl, hz⟩ := I.list hq
  refine SeqAt.in_listAt (eqU x) pl.isList (fun w hw => mem_eqAt rx fx r fs w (by simpa using hw)) ⟨.bl _, H, I, rfl, ?_⟩
  rw [show its.toArray.any (eqU x) = its.any (eqU x) by simp, any_eqU r fs]
  exact q
 ·obtain ⟨its, r, pl, hz⟩ := I.tuple hq
  refine SeqAt.in_tupleAt (eqU x) pl (fun w hw => mem_eqAt rx fx r fs w (by simpa using hw)) ⟨.bl _, H, I, rfl, ?_⟩
  rw [show its.toArray.any (eqU x) = its.any (eqU x) by simp, any_eqU r fs]
  exact q
theorem op_notIn_seq : OpR X (compareOp .NotIn) (rIn X.K true) := by
 intro pins s σ H x y v u Q I rx ry h
 obtain ⟨p, xs, rfl, hq, fx, fs, q⟩ := h
 cases ry
 rcases hq with hq | hq
 ·obtain ⟨its, r, pl, hz⟩ := I.list hq
  refine SeqAt.notIn_listAt (eqU x) pl.isList (fun w hw => mem_eqAt rx fx r fs w (by simpa using hw)) ⟨.bl _, H, I, rfl, ?_⟩
  rw [show its.toArray.any (eqU x) = its.any (eqU x) by simp, any_eqU r fs]
  exact q
 ·obtain ⟨its, r, pl, hz⟩ := I.tuple hq
  refine SeqAt.notIn_tupleAt (eqU x) pl (fun w hw => mem_eqAt rx fx r fs w (by simpa using hw)) ⟨.bl _, H, I, rfl, ?_⟩
  rw [show its.toArray.any (eqU x) = its.any (eqU x) by simp, any_eqU r fs]
  exact q
theorem call_len_seq : CallR X (.builtin "len") (fun xs H Q => ∃ p ys, xs = [.ref p] ∧ (SqL X.K H p ys ∨ SqT X.K H p ys) ∧ Q (.int ys.length) H) := by
 intro pins s σ H xs us Q I r h
 obtain ⟨p, ys, rfl, hq, q⟩ := h
 obtain ⟨u, rfl, rx⟩ := vals1 r
 cases rx
 have hn := line63
 rcases hq with hq | hq
 ·obtain ⟨its, r', pl, hz⟩ := I.list hq
  have hlen := r'.length
  exact Calls.call_len_list pl.isList (by simp only [List.size_toArray] <;> omega) ⟨.int ys.length, H, I.tok _, ⟨s.toks + 1, by rw [List.size_toArray, hlen]⟩, q⟩
 ·obtain ⟨its, r', pl, hz⟩ := I.tuple hq
  have hlen := r'.length
  exact len_tuple pl (by simp only [List.size_toArray] <;> omega) ⟨.int ys.length, H, I.tok _, ⟨s.toks + 1, by rw [List.size_toArray, hlen]⟩, q⟩
theorem call_len_str : CallR X (.builtin "len") (fun xs H Q => ∃ z, xs = [.str z] ∧ z.length ≤ sizeLine ∧ Q (.int z.length) H) := by
 intro pins s σ H xs us Q I r h
 obtain ⟨z, rfl, hz, q⟩ := h
 obtain ⟨u, rfl, t, rfl⟩ := vals1 r
 have hn := line63
 exact len_str (by omega) ⟨.int z.length, H, I.tok _, ⟨_, rfl⟩, q⟩
theorem call_list_of : CallR X (.type "list") (fun xs H Q => ∃ p ys, xs = [.ref p] ∧ (SqL X.K H p ys ∨ SqT X.K H p ys) ∧ ∀ l, H l = none → Q (.ref l) (upd H l (.lst ys))) := by
 intro pins s σ H xs us Q I r h
 obtain ⟨p, ys, rfl, hq, q⟩ := h
 obtain ⟨u, rfl, rx⟩ := vals1 r
 cases rx
 have fin : ∀ (its : List Value), Vals ys its → ys.length ≤ sizeLine → ∀ (h' : Heap) (c' : Nat), (∀ b o', s.heap.get? b = some o' → h'.get? b = some o') →
   h'.get? s.heap.objs.size = some { cls := .type "list", dict := none, data := .seq its.toArray c', slots := #[] } → EP X pins σ Q (.ref s.heap.objs.size) { s with heap := h' } := fun its r' hz h' c' kp e =>
  ⟨.ref s.heap.objs.size, _, I.laid (t' := s.toks) kp (Nat.le_refl _) (show ObjOk X.prog X.w _ h' _ (.lst ys) from ⟨hz, its, c', r', e⟩), rfl, q _ (I.hok.fresh (Nat.le_refl _))⟩
 rcases hq with hq | hq
 ·obtain ⟨its, r', pl, hz⟩ := I.list hq
  have hlen := r'.length
  obtain ⟨o, ho, hc, n, hd⟩ := pl.isList
  exact call_list_seq p (.inl rfl) ho hc hd (fun h' c' kp e => fin its r' hz h' c' kp e) (by simp only [List.size_toArray] <;> omega)
 ·obtain ⟨its, r', pl, hz⟩ := I.tuple hq
  have hlen := r'.length
  obtain ⟨o, ho, hc, n, hd⟩ := pl
  exact call_list_seq p (.inr rfl) ho hc hd (fun h' c' kp e => fin its r' hz h' c' kp e) (by simp only [List.size_toArray] <;> omega)
theorem call_tuple_of : CallR X (.type "tuple") (fun xs H Q => ∃ p ys, xs = [.ref p] ∧ ((SqL X.K H p ys ∧ ∀ l, H l = none → Q (.ref l) (upd H l (.tup ys))) ∨ (SqT X.K H p ys ∧ Q (.ref p) H))) := by
 intro pins s σ H xs us Q I r h
 obtain ⟨p, ys, rfl, h⟩ := h
 obtain ⟨u, rfl, rx⟩ := vals1 r
 cases rx
 rcases h with ⟨hq, q⟩ | ⟨hq, q⟩
 ·obtain ⟨its, r', pl, hz⟩ := I.list hq
  have hlen := r'.length
  refine call_tuple_list pl.isList (fun h' kp => ?_) (by simp only [List.size_toArray] <;> omega)
  have I1 : Inv X pins σ H { s with heap := h' } := I.kept (t' := s.toks) kp
  have I2 : Inv X pins σ (upd H h'.objs.size (.tup ys)) { s with heap := h'.push { cls := .type "tuple", data := .seq its.toArray } } :=
   I1.laid (t' := s.toks) (fun b o e => Heap.get?_push_of_some _ e) (Nat.le_refl _) (show ObjOk X.prog X.w _ _ _ (.tup ys) from ⟨hz, its, r', ⟨_, Heap.get?_push_size _ rfl, rfl, _, rfl, rfl⟩⟩)
  exact ⟨.ref h'.objs.size, _, I2, rfl, q _ (I1.hok.fresh (Nat.le_refl _))⟩
 ·obtain ⟨its, r', pl, hz⟩ := I.tuple hq
  exact call_tuple_same pl ⟨.ref p, H, I, rfl, q⟩
def tyV (K : PySem.W.Frag) (T : String) (x : V) (H : Hp) : Prop := match x with
 | .str _ => T = "str"
 | .int _ => T = "int"
 | .ref p => (T = "list" ∧ ∃ xs, SqL K H p xs) ∨ (T = "tuple" ∧ ((∃ o, K.lookup p = some o ∧ o.cls = .type "tuple" ∧ o.dict = none) ∨ ∃ xs, H p = some (.tup xs))) ∨
   (T = "dict" ∧ ((∃ kvs, H p = some (.dK kvs)) ∨ ∃ kvs, H p = some (.dT kvs))) ∨ (T = "set" ∧ ∃ S n, H p = some (.set S n))
 | _ => False
theorem tyV_is {pins : List (Addr × Obj)} {σ : St} {H : Hp} {s : Shared} {T : String} {x : V} {v : Value} (I : Inv X pins σ H s) (r : RelV x v) (ty : tyV X.K T x H) :
  s.TypeIs v T ∧ ∀ a, v = .ref a → ∃ ob, s.heap.get? a = some ob ∧ ob.dict = none := by
 cases x with
 | str z =>
  obtain ⟨t, rfl⟩ := r
  cases (show T = "str" from ty)
  exact ⟨typeIs_str s z t, fun _ e => nomatch e⟩
 | int i =>
  obtain ⟨t, rfl⟩ := r
  cases (show T = "int" from ty)
  exact ⟨typeIs_int s i t, fun _ e => nomatch e⟩
 | ref p =>
  cases r
  rcases ty with ⟨rfl, xs, hq⟩ | ⟨rfl, ⟨o, hk, hc, hd⟩ | ⟨xs, hx⟩⟩ | ⟨rfl, hk⟩ | ⟨rfl, S, n, hk⟩
  ·obtain ⟨its, _, pl, _⟩ := I.list hq
   refine ⟨pl.isList.typeIs, fun a e => ?_⟩
   cases e
   obtain ⟨o, n, e, c, hd, _⟩ := pl
   exact ⟨o, e, hd⟩
  ·refine ⟨⟨o, I.kIn p o hk, hc⟩, fun a e => ?_⟩
   cases e
   exact ⟨o, I.kIn _ o hk, hd⟩
  ·obtain ⟨_, its, _, o, h1, h2, n, _, h3⟩ := I.hok p _ hx
   refine ⟨⟨o, h1, h2⟩, fun a e => ?_⟩
   cases e
   exact ⟨o, h1, h3⟩
  ·have z : ∃ o, s.heap.get? p = some o ∧ o.ExactDict := by
    rcases hk with ⟨kvs, hk⟩ | ⟨kvs, hk⟩
    ·obtain ⟨_, _, _, _, o, _, _, e, ex, _⟩ := I.hok p _ hk
     exact ⟨o, e, ex⟩
    ·obtain ⟨_, _, _, _, o, _, _, e, ex, _⟩ := I.hok p _ hk
     exact ⟨o, e, ex⟩
   obtain ⟨o, e, ex⟩ := z
   refine ⟨⟨o, e, ex.1⟩, fun a e2 => ?_⟩
   cases e2
   exact ⟨o, e, ex.2.1⟩
  ·obtain ⟨o, _, _, _, e, ex, _⟩ := I.hok p _ hk
   refine ⟨⟨o, e, ex.1⟩, fun a e2 => ?_⟩
   cases e2
   exact ⟨o, e, ex.2.1⟩
 | _ => exact False.elim ty
def tBM0 (K : PySem.W.Frag) (T : String) (r : V → List V → Hp → VK → Prop) (to : TE) : TE := fun σ H Q => to σ H fun x H1 => tyV K T x H1 ∧ r x [] H1 Q
def tBM (K : PySem.W.Frag) (T : String) (r : V → List V → Hp → VK → Prop) (to : TE) (t : TA) : TE := fun σ H Q => to σ H fun x H1 => tyV K T x H1 ∧ t σ H1 fun xs H2 => r x xs H2 Q
variable {o e : Expr} {es : List Expr} {to : TE} {t : TA} {name : Str} {apos cpos : Pos} {T id : String} {r : V → List V → Hp → VK → Prop}
theorem pe_bm0 (pa : PlainAttrs T) (slot : Slot T name id) (hty : typeOf (.builtin id) = pure (.type "method_descriptor")) (hm : MtR X id r) (ho : PE X o to)
  (hbase : attributeBase o name X.env (eval o X.env) = eval o X.env := by rfl) (hline : (apos.endLine == cpos.line) = true := by rfl) : PE X (.Call (.Attribute o name apos) [] [] cpos) (tBM0 X.K T r to) := by
 intro pins s σ H Q I h
 refine wpAny_Call_method0_late hbase hline (thn (ho pins s σ H _ I h) fun v s1 ⟨x, H1, I1, r1, ty, q1⟩ => ?_)
 obtain ⟨h1, h2⟩ := tyV_is I1 r1 ty
 exact ⟨T, id, pa, slot, hty, h1, h2, Calls.callWith_builtin rfl (PySem.evalArgs_none (hm pins s1 σ H1 x [] v [] Q I1 r1 .nil q1))⟩
theorem pe_bm (pa : PlainAttrs T) (slot : Slot T name id) (hty : typeOf (.builtin id) = pure (.type "method_descriptor")) (hm : MtR X id r) (ho : PE X o to) (ha : PA X (e :: es) t)
  (hbase : attributeBase o name X.env (eval o X.env) = eval o X.env := by rfl)
  (hfew : ((backTo cpos (starEach (e :: es) X.env)).all (fun x => !x.1) && (backToKw cpos (keywordEach [] X.env)).all (fun x => x.1.isSome)
   && decide ((e :: es).length + ([] : List Keyword).length + (if ([] : List Keyword).isEmpty then 0 else 1) < 30)) = true := by rfl)
  (hline : (apos.endLine == cpos.line) = true := by rfl) (hs : starEach (e :: es) X.env = (false, eval e X.env) :: starEach es X.env := by rfl) (hplain : (backTo cpos (starEach es X.env)).any (·.1) = false := by rfl) :
  PE X (.Call (.Attribute o name apos) (e :: es) [] cpos) (tBM X.K T r to t) := by
 intro pins s σ H Q I h
 refine wpAny_Call_method_late hbase hfew hline rfl (thn (ho pins s σ H _ I h) fun v s1 ⟨x, H1, I1, r1, ty, q1⟩ => ?_)
 obtain ⟨h1, h2⟩ := tyV_is I1 r1 ty
 refine ⟨T, id, pa, slot, hty, h1, h2, ?_⟩
 have hA := ha cpos pins s1 σ H1 _ I1 q1
 rw [hs] at hA ⊢
 refine Calls.callWith_builtin (by show (false || (backTo cpos (starEach es X.env)).any (·.1)) = false; rw [hplain] <;> rfl) (Calls.evalArgs_plain ?_)
 exact thn hA fun us s2 ⟨vs, H2, I2, r2, q2⟩ => hm pins s2 σ H2 x vs v us Q I2 r1 r2 q2
end
end L2
namespace L2
open PySem PySem.Spec PyProof.Rows
def MtM (X : Cx) (id : String) (r : V → List V → Hp → VK → Prop) : Prop :=
 ∀ (pins : List (Addr × Obj)) (s : Shared) (σ : St) (H : Hp) (x : V) (xs : List V) (v : Value) (us : List Value) (Q : VK), Inv X pins σ H s → RelV x v → Vals xs us → r x xs H Q →
  wpAny (model X.prog X.w) X.A (call (.builtin id) (v :: us)) (EP X pins σ Q) X.xe s
theorem Vals.one : ∀ {x : V} {us : List Value}, Vals [x] us → ∃ u, us = [u] ∧ RelV x u
 | _, _, .cons r .nil => ⟨_, rfl, r⟩
theorem Vals.zero : ∀ {us : List Value}, Vals [] us → us = []
 | _, .nil => rfl
section
variable {X : Cx} {pins : List (Addr × Obj)} {σ : St} {H : Hp} {s : Shared} {l b : Addr} {xs ys zs : List V}
theorem Inv.lset {its its' : List Value} {n : Nat} {f : Array Value → Array Value} {t' : Nat} (I : Inv X pins σ H s) (hH : H l = some (.lst xs))
  (e : s.heap.get? l = some { cls := .type "list", data := .seq its.toArray n }) (hf : f its.toArray = its'.toArray) (hv : Vals ys its') (hz : ys.length ≤ sizeLine) :
  Inv X pins σ (upd H l (.lst ys)) { s with heap := s.heap.update l (Obj.mapSeq f), toks := t' } := by
 have q := PySem.IsL.update e f
 rw [hf] at q
 refine I.write (x := l) (e := l) (by rw [hH]; exact trivial) (.inl rfl) (fun b' u hb hu => (Heap.get?_update_other s.heap (Obj.mapSeq f) (Ne.symm hb)).trans hu) ⟨_, q⟩ ?_
 exact ⟨hz, its', _, hv, q⟩
theorem Inv.lnew {its : List Value} {t' : Nat} (I : Inv X pins σ H s) (hv : Vals ys its) (hz : ys.length ≤ sizeLine) :
  Inv X pins σ (upd H s.heap.objs.size (.lst ys)) { s with heap := s.heap.push { cls := .type "list", data := .seq its.toArray }, toks := t' } :=
 I.laid (fun _ _ q => Heap.get?_push_of_some _ q) (Nat.le_refl _) ⟨hz, its, 0, hv, Heap.get?_push_size _ rfl⟩
theorem Inv.fresh (I : Inv X pins σ H s) : H s.heap.objs.size = none := I.hok.fresh (Nat.le_refl _)
theorem Inv.lstM (I : Inv X pins σ H s) (hH : H l = some (.lst xs)) : xs.length ≤ sizeLine ∧ ∃ (its : List Value) (n : Nat), Vals xs its ∧ xs.length = its.length ∧ s.heap.get? l = some { cls := .type "list", data := .seq its.toArray n } := by
 obtain ⟨z, its, n, r, e⟩ := I.hok l _ hH
 exact ⟨z, its, n, r, r.length, e⟩
end
section
variable {X : Cx}
def rAppend : V → List V → Hp → VK → Prop := fun x vs H Q => ∃ l xs y, x = .ref l ∧ vs = [y] ∧ H l = some (.lst xs) ∧ xs.length < sizeLine ∧ Q .non (upd H l (.lst (xs ++ [y])))
theorem mt_append : MtM X "list.append" rAppend := by
 intro pins s σ H x vs v us Q I rx rv h
 obtain ⟨l, xs, y, rfl, rfl, hH, hz, q⟩ := h
 cases rx
 obtain ⟨u, rfl, ru⟩ := rv.one
 obtain ⟨z, its, n, r, hl, e⟩ := I.lstM hH
 refine call_meets F.slot_list_append ⟨_, e, rfl⟩ F.entry_list_append (F.args_list_append_2 _ _) (PySem.list_append l its.toArray n u (by rw [List.size_toArray]; omega)) ⟨e, ?_⟩
 refine ⟨.non, _, I.lset (its' := its ++ [u]) hH e (by simp) (r.append (.cons ru .nil)) ?_, rfl, q⟩
 rw [List.length_append, List.length_singleton]
 omega
def rCat : R2 := fun x y H Q => ∃ l b xs zs, x = .ref l ∧ y = .ref b ∧ H l = some (.lst xs) ∧ H b = some (.lst zs) ∧ xs.length + zs.length ≤ sizeLine ∧ ∀ p, H p = none → Q (.ref p) (upd H p (.lst (xs ++ zs)))
theorem op_cat : OpR X (binaryOp .Add) rCat := by
 intro pins s σ H x y v u Q I rx ry h
 obtain ⟨l, b, xs, zs, rfl, rfl, hH, hB, hz, q⟩ := h
 cases rx
 cases ry
 obtain ⟨z, its, n, r, hl, e⟩ := I.lstM hH
 obtain ⟨z2, its2, n2, r2, hl2, e2⟩ := I.lstM hB
 refine PySem.P.add_list e e2 ?_ (by rw [List.size_toArray, List.size_toArray]; omega)
 have ea : its.toArray ++ its2.toArray = (its ++ its2).toArray := by simp
 rw [ea]
 exact ⟨.ref _, _, I.lnew (t' := s.toks) (r.append r2) (by rw [List.length_append]; omega), rfl, q _ I.fresh⟩
end
section
variable {prog : Program} {w : World} {A : Around} {E : Value → Shared → Prop} {s : Shared}
set_option maxRecDepth 100000 in
end
section
variable {X : Cx}
end
end L2
namespace Att
open PySem PySem.W PySem.Calls PyProof.Rows
theorem ints_of_wellAll {P : Params} {h : Heap} : ∀ (ns : List Int) (vs : List Value), WellAll P h vs (ns.map WData.int) → IntsAre vs ns := by
 intro ns
 induction ns with
 | nil =>
  intro vs w
  rw [List.map_nil] at w
  cases w
  exact .nil
 | cons n ns ih =>
  intro vs w
  rw [List.map_cons] at w
  cases w with
  | cons a b =>
   cases a
   exact .cons _ _ (ih _ b)
theorem script_of {l : OpenLaw} {n : Nat} (hn : l.most = some n) {P : Params} {h : Heap} {args : List WData} {vals : List Value}
  (hpre : l.row.toRowW.claim.pre args = true) (hwl : WellAll P h vals args) :
  ∃ a vs ns, vals = [Value.ref a] ∧ args = [WData.list (ns.map WData.int)] ∧ h.get? a = some { cls := .type "list", data := .seq vs.toArray } ∧ IntsAre vs ns ∧ ns.length ≤ n := by
 have hsh : WShape.hasAll [] args [.list .int] = true := (pre_splitW hpre).1
 have hc : l.pre.holds [] { args := args } = true := (pre_splitW hpre).2
 obtain ⟨d, r, rfl, h1, h2⟩ := hasAllW_cons hsh
 obtain rfl := hasAllW_nil h2
 obtain ⟨xs, rfl, h3⟩ := hasW_list h1
 obtain ⟨ns, rfl⟩ := items_int h3
 have hlen : ns.length ≤ n := by
  unfold OpenLaw.pre at hc
  have h4 : (WTm.not (.lt (.lit (.int (n : Int))) (.len (.arg 0)))).holds [] { args := [.list (ns.map .int)] } = true := by
   have h4 := (holds_andW hc).1
   rw [hn] at h4
   exact h4
  have h5 := condW_of h4 (w_not (w_lt w_lit (w_len_list (w_arg rfl))))
  rw [List.length_map] at h5
  refine Nat.le_of_not_lt fun q => ?_
  have q' : (n : Int) < ((ns.length : Nat) : Int) := by omega
  first
   | (rw [decide_eq_true q'] at h5; exact absurd h5 (by decide))
   | (simp at h5; omega)
 cases hwl with
 | cons w1 w2 =>
  cases w2
  cases w1 with
  | list ho hall => exact ⟨_, _, ns, rfl, rfl, ho, ints_of_wellAll ns _ hall, hlen⟩
theorem post_true (l : OpenLaw) (args : List WData) : l.row.toRowW.claim.post args (.bool true) args = true :=
 postW_of (r := l.row.toRowW) (X := (true == true))
  (show WShape.has [] (.bool true) .bool = true by first | rfl | decide | simp [WShape.has, WShape.arms, WShape.armsAll])
  (show (WTm.eq .res (.lit (.bool true))).value [] { args := args, res := some (.bool true), after := args } = some (.bool (true == true)) from w_eq_bool (w_res rfl) w_lit) rfl
theorem attach_call {l : OpenLaw} {n : Nat} {q : Program} {loose : List Str} {XP : (Str → Option Value) → Heap → Prop} {YP : World → Heap → Prop} {d : DefRec}
  (hn : l.most = some n) (hdf : d.params.defaults = [])
  (call : ∀ (w : World) (s₀ s₁ : Shared) (mg mb : Str → Option Value) (fa : Addr) (o : Obj) (pm cd doc : Value) (a : Addr) (vs : List Value) (ns : List Int),
   Ground q loose [] XP w s₀ mg mb s₁.heap → YP w s₁.heap →
   s₁.heap.get? fa = some o → o.data = .func (docDef d.name d.params d.body d.scope pm cd doc) → s₁.heap.CodeRec cd d.name → mg d.name = some (.ref fa) →
   s₁.heap.get? a = some { cls := .type "list", data := .seq vs.toArray } → IntsAre vs ns → ns.length ≤ n → s₁.gens = #[] →
   codeAny (model l.prog w) callerA (.call (.ref fa) ⟨[.ref a], []⟩) (fun r s' => r = .ok (.ret (.bool true)) ∧ OldK s₁.heap s'.heap ∧ s'.os = s₁.os ∧ AllBare s'.gens) s₁) :
  WalkO q loose XP YP l.row.toRowW d [] (fun f vs => PySem.call f vs) := by
 intro w s₀ s₁ mg mb G Y fa o pm cd doc dV kV ho hd hcd hD hmg hg args vals as hpre hlay hrd hwl hlo
 obtain rfl : dV = .none := Dflts.none hD hdf
 obtain rfl : kV = .none := Dflts.noKw hD
 obtain ⟨a, vs, ns, rfl, rfl, hobj, hints, hlen⟩ := script_of hn hpre hwl
 refine enter_call (codeAny_mono (call w s₀ s₁ mg mb fa o pm cd doc a vs ns G Y ho (fd_plain hd) hcd hmg hobj hints hlen hg) fun r s' hq => ?_)
 obtain ⟨rfl, h2, h3, h4⟩ := hq
 exact ⟨.inl ⟨.bool true, .bool true, [], rfl, fun _ => rfl, .bool true, post_true l _, fun _ => ⟨List.Pairwise.nil, fun _ hm => (nomatch hm)⟩⟩, h2, h3, h4⟩
section
variable {prog : Program} {w : World} {A : Around} {E : Value → Shared → Prop} {s : Shared} {K : Frag}
noncomputable def ledger (h : Heap) (L d : Addr) : List (Addr × Obj) := (List.range h.objs.size).filterMap fun a => if a = L ∨ a = d then none else (h.get? a).map fun o => (a, o)
end
end Att
namespace L2
open PySem PySem.Spec PyProof.Rows
theorem vals_ints : ∀ {vs : List Value} {ns : List Int}, IntsAre vs ns → Vals (ns.map V.int) vs
 | _, _, .nil => .nil
 | _, _, .cons n t h => .cons ⟨t, rfl⟩ (vals_ints h)
def Only (H : Hp) : Prop := ∀ b, H b = none ∨ ∃ o xs, H b = some (.frz o (.lst xs))
theorem law_call {P : Program} {w : World} {K : PySem.W.Frag} {mg mb : Str → Option Value} {CX : CXT} {k : Nat} {fa a : Addr} {fd : FuncData} {x : Str} {sp : Sp} {s₁ : Shared} {vs : List Value} {ns : List Int}
  (KX : K.In s₁.heap) (hns : s₁.heap.Ns mainGlobals mg) (hb : s₁.heap.Ns builtinsNs mb) (hbb : ∀ x : Str, x ≠ "__name__" → mb x = bootBuiltins x) (hlim : s₁.heap.NoLimit) (hg : s₁.gens = #[])
  (ha : s₁.heap.get? a = some { cls := .type "list", data := .seq vs.toArray }) (hi : IntsAre vs ns) (hl : ns.length ≤ sizeLine) (hr : Room k callerA)
  (F : ∀ base : Heap, K.In base → base.Ns mainGlobals mg → FnOk P w K mg base CX k fa fd [x] sp) (hbind : ∀ (s : Shared) (u : Value), BindsTo s fd ⟨[u], []⟩ [(x, u)])
  (hsp : ∀ H : Hp, Only H → SqL K H a (ns.map V.int) → sp [.ref a] H (fun v _ => v = .bl true) fun _ _ _ => False)
  (hCX : ∀ H e s', CX [] H s₁ (fun _ _ _ => False) e s' → False) :
  codeAny (model P w) callerA (.call (.ref fa) ⟨[.ref a], []⟩) (fun r s' => r = .ok (.ret (.bool true)) ∧ OldK s₁.heap s'.heap ∧ s'.os = s₁.os ∧ AllBare s'.gens) s₁ := by
 have rv := vals_ints hi
 have lenV := hi.length
 have core : ∀ H : Hp, Only H → SqL K H a (ns.map V.int) → HOk P w H s₁.heap → (∀ b, H b ≠ none → b = a) → (H a ≠ none → K.lookup a = none) →
   codeAny (model P w) callerA (.call (.ref fa) ⟨[.ref a], []⟩) (fun r s' => r = .ok (.ret (.bool true)) ∧ OldK s₁.heap s'.heap ∧ s'.os = s₁.os ∧ AllBare s'.gens) s₁ := by
  intro H hO hS hok hA hK
  have base_of : ∀ {b : Addr} {o : Obj}, s₁.heap.get? b = some o → H b = none → (hidT s₁.heap H).get? b = some o := fun e n => hidT_get e n
  have noA : ∀ {b : Addr} {o : Obj} {es : Array DictEntry} {ep : Nat}, s₁.heap.get? b = some o → o.data = .dict es ep → H b = none := fun {b o es ep} e d => by
   cases q : H b with
   | none => rfl
   | some u =>
    have e' : b = a := hA b (by rw [q]; simp)
    subst e'
    rw [ha] at e; cases e
    have d' : Data.seq vs.toArray _ = Data.dict es ep := d
    cases d'
  have nsK : ∀ {b : Addr} {m : Str → Option Value}, s₁.heap.Ns b m → (hidT s₁.heap H).Ns b m := fun {b m} ⟨o, es, ep, e, d, r⟩ => ⟨o, es, ep, base_of e (noA e d), d, r⟩
  have hKb : K.In (hidT s₁.heap H) := fun b o e => base_of (KX b o e) (by
   cases q : H b with
   | none => rfl
   | some u =>
    have e' : b = a := hA b (by rw [q]; simp)
    subst e'
    rw [hK (by rw [q]; simp)] at e; cases e)
  have hM : Mod K mg (hidT s₁.heap H) := ⟨hKb, nsK hns, ⟨mb, nsK hb, hbb⟩, let ⟨mc, h1, h2⟩ := hlim; ⟨mc, nsK h1, h2⟩⟩
  have e0 : Env0 P w K mg (hidT s₁.heap H) callerA [] s₁ H := ⟨rfl, hM, fun b o e => of_hidT e, Nat.le_of_eq (hidT_size _ _), trivial, fun b hb => absurd (show b ∈ ([] : List Addr) from hb) (by simp), hok, .of_eq hg⟩
  refine codeAny_mono ((F _ hKb (nsK hns)).run callerA [] s₁ H ⟨[.ref a], []⟩ [.ref a] [.ref a] _ _ hr e0 (hbind s₁ (.ref a)) (.cons rfl .nil) (hsp H hO hS)) fun r s' h => ?_
  cases r with
  | error e => exact (hCX H e s' h).elim
  | ok fl =>
   cases fl with
   | next => exact False.elim h
   | brk => exact False.elim h
   | cont => exact False.elim h
   | ret u =>
    obtain ⟨v, H', os, bare, un, hok', r', q⟩ := h
    have q' : v = .bl true := q
    subst q'
    obtain rfl : u = Value.bool true := r'
    refine ⟨rfl, OldK.of_keep fun b o e => ?_, os, bare⟩
    cases q : H b with
    | none => exact un.keep b o e q (by intro z; exact absurd (show b ∈ ([] : List Addr) from z) (by simp)) (by simp)
    | some u =>
     rcases hO b with z | ⟨ob, xs, z⟩
     ·rw [q] at z; cases z
     ·have z2 := un.frzs b ob _ z
      obtain ⟨e1, _⟩ := hok b _ z
      obtain ⟨e2, _⟩ := hok' b _ z2
      rw [e] at e1; cases e1
      exact e2
 cases hk : K.lookup a with
 | some o =>
  have e := KX a o hk
  rw [ha] at e
  cases e
  refine core (fun _ => none) (fun _ => .inl rfl) (.inr ⟨_, vs.toArray, _, hk, rfl, rfl, rfl, by rw [List.size_toArray, lenV]; exact hl, by simpa using rv⟩) (fun b u z => by have z' : (none : Option HO) = some u := z; cases z') (fun b z => absurd rfl z) fun z => absurd rfl z
 | none =>
  refine core (fun b => if b = a then some (.frz { cls := .type "list", data := .seq vs.toArray } (.lst (ns.map V.int))) else none) (fun b => ?_) (.inl (.inr ⟨{ cls := .type "list", data := .seq vs.toArray }, if_pos rfl⟩)) (fun b u z => ?_) (fun b z => ?_) fun _ => hk
  ·by_cases hb : b = a
   ·exact .inr ⟨_, _, if_pos hb⟩
   ·exact .inl (if_neg hb)
  ·by_cases hb : b = a
   ·have z' := (if_pos hb).symm.trans z
    cases z'
    subst hb
    exact ⟨ha, by rw [List.length_map]; exact hl, vs, _, rv, ha⟩
   ·have z' := (if_neg hb).symm.trans z
    cases z'
  ·by_cases hb : b = a
   ·exact hb
   ·exact absurd (if_neg hb) z
end L2
namespace L2
open PySem PySem.Spec PyProof.Rows
noncomputable abbrev KOf {K : PySem.W.Frag} {h : Heap} (_ : K.In h) : PySem.W.Frag := K
theorem walk_of {l : PySem.W.OpenLaw} {n k : Nat} {q : Program} {loose : List Str} {XP : (Str → Option Value) → Heap → Prop} {YP : World → Heap → Prop} {d : DefRec} {K : Params → PySem.W.Frag} {CX : World → CXT} {sp : World → Sp} {x : Str}
  (hn : l.most = some n) (hn2 : n ≤ sizeLine) (hdf : d.params.defaults = []) (hr : Room k callerA)
  (hY : ∀ (w : World) (h : Heap), YP w h → (K w.params).In h)
  (F : ∀ (w : World) (mg : Str → Option Value) (fa : Addr) (h : Heap), (K w.params).In h → h.Ns mainGlobals mg → mg d.name = some (.ref fa) →
   ∃ fd : FuncData, (∀ (s : Shared) (u : Value), BindsTo s fd ⟨[u], []⟩ [(x, u)]) ∧
    ∀ base : Heap, (K w.params).In base → base.Ns mainGlobals mg → FnOk l.prog w (K w.params) mg base (CX w) k fa fd [x] (sp w))
  (hsp : ∀ (w : World) (H : Hp) (a : Addr) (ns : List Int), ns.length ≤ n → Only H → SqL (K w.params) H a (ns.map V.int) → sp w [.ref a] H (fun v _ => v = .bl true) fun _ _ _ => False)
  (hCX : ∀ (w : World) (H : Hp) (s : Shared) (e : Value) (s' : Shared), CX w [] H s (fun _ _ _ => False) e s' → False) :
  PySem.W.WalkO q loose XP YP l.row.toRowW d [] (fun f vs => PySem.call f vs) := by
 refine Att.attach_call hn hdf fun w s₀ s₁ mg mb fa o pm cd doc a vs ns G Y ho hd hcd hmg hobj hints hlen hg => ?_
 have KX := hY w _ Y
 obtain ⟨fd, hb, hF⟩ := F w mg fa _ KX G.T.g hmg
 exact law_call KX G.T.g G.T.b G.T.builtins G.T.nolimit hg hobj hints (Nat.le_trans hlen hn2) hr hF hb (fun H hO hS => hsp w H a ns hlen hO hS) fun H e s' => hCX w H s₁ e s'
end L2
namespace L2
open PySem PySem.Spec PyProof.Rows
noncomputable def defArgs (s : Stmt) : Arguments := match s with
 | .FunctionDef _ a _ _ _ _ _ _ _ _ => a
 | _ => { posonlyargs := [], args := [], vararg := none, kwonlyargs := [], kw_defaults := [], kwarg := none, defaults := [] }
noncomputable def defBody (s : Stmt) : List Stmt := match s with
 | .FunctionDef _ _ b _ _ _ _ _ _ _ => b
 | _ => []
noncomputable def defScope (s : Stmt) : Scope := match s with
 | .FunctionDef _ _ _ _ _ _ sc _ _ _ => sc
 | _ => { kind := .function, names := [], isGenerator := false, isCoroutine := false }
noncomputable abbrev CX0 : CXT := fun _ _ _ _ _ _ => False
abbrev E0 : XK := fun _ _ _ => False
theorem pass0 {X : Cx} : Passes CX0 X E0 := fun _ _ _ _ _ _ _ h => h.elim
structure Fun (K : PySem.W.Frag) (x qual : Str) (st : Stmt) (f : Addr) (fd : FuncData) : Prop where
 ex : ∃ (oc : Value) (od : Option Addr) (kV doc pm : Value) (an : Option Addr) (cdv ct : Value) (osl : Array (Option Value)),
  fd = PySem.W.fnOf x qual (defArgs st) (defBody st) (defScope st) .none kV doc pm an cdv ct ∧ K.lookup f = some ⟨oc, od, .func fd, osl⟩ ∧ PySem.W.codeIn K cdv qual = true
 kp : PySem.W.keepIn K (.ref f) = true
section
variable {P : Program} {w : World} {K : PySem.W.Frag} {mg : Str → Option Value} {base : Heap}
theorem Fun.ok {x qual : Str} {st : Stmt} {f : Addr} {fd : FuncData} {N ps : List Str} {k : Nat} {sp : Sp} (F : Fun K x qual st f fd) (S : FnScope N ps (defScope st)) (len : ∀ vs H Q E, sp vs H Q E → vs.length = ps.length)
  (hbody : ∀ (cdv : Value) (A : Around) (outer : List Env) (s : Shared) (H : Hp) (vs : List V) (Q : VK) (E : XK), Room k (A.deeper (envOfC qual (defScope st) s.heap.objs.size f cdv)) → sp vs H Q E →
   ∃ t, PSs (cxOf CX0 P w K mg base N qual (defScope st) f cdv A outer s H E).nox (defBody st) t ∧ t { nx := fun _ H' => Q .non H', rt := Q } (start N vs) H) : FnOk P w K mg base CX0 (k + 1) f fd ps sp := by
 obtain ⟨oc, od, kV, doc, pm, an, cdv, ct, osl, rfl, lk, hcd⟩ := F.ex
 refine fn_of lk hcd S len fun A outer s H vs Q E hr hsp => ?_
 obtain ⟨t, h, q⟩ := hbody cdv A outer s H vs Q E hr hsp
 exact ⟨t, h.nox, q⟩
theorem Fun.binds {x qual : Str} {st : Stmt} {f : Addr} {fd : FuncData} {ps : List Str} (F : Fun K x qual st f fd)
  (h : ∀ (kV doc pm : Value) (an : Option Addr) (cdv ct : Value) (us : List Value), us.length = ps.length → bindArgs (PySem.W.fnOf x qual (defArgs st) (defBody st) (defScope st) .none kV doc pm an cdv ct) ⟨us, []⟩ = pure (ps.zip us)) : Binds K fd ps [] := by
 obtain ⟨oc, od, kV, doc, pm, an, cdv, ct, osl, rfl, lk, hcd⟩ := F.ex
 exact .all (h kV doc pm an cdv ct)
theorem fun_mk {x qual : Str} {st : Stmt} {f : Addr} {oc : Value} {od an : Option Addr} {osl : Array (Option Value)} {kV doc pm cdv ct : Value} (l : K.lookup f = some ⟨oc, od, .func (PySem.W.fnOf x qual (defArgs st) (defBody st) (defScope st) .none kV doc pm an cdv ct), osl⟩)
  (c : PySem.W.codeIn K cdv qual = true) (k : PySem.W.keepIn K (.ref f) = true) : Fun K x qual st f (PySem.W.fnOf x qual (defArgs st) (defBody st) (defScope st) .none kV doc pm an cdv ct) := ⟨⟨oc, od, kV, doc, pm, an, cdv, ct, osl, rfl, l, c⟩, k⟩
end
theorem hu_of {A : Around} {k : Nat} (hr : Room k A) : A.units + 1 < cLine := Nat.lt_of_le_of_lt (Nat.add_le_add_left (by decide : 1 ≤ 64) _) hr.units
section
variable {X : Cx}
theorem pv (i : Nat) {x : Str} {pos : Pos} (hN : X.N[i]? = some x := by rfl) (hv : Vis X.env.scope x := by first | exact Or.inl rfl | exact Or.inr (Or.inl rfl) | exact Or.inr (Or.inr rfl)) (hd : (x == ("__debug__" : Str)) = false := by decide)
  (hcd : (x == ("__classdict__" : Str)) = false := by decide) : PE X (.Name x pos) (tVar i) := pe_var hN hv hd hcd
end
theorem iteF {A B : Prop} (h : B) : if false = true then A else B := by
 rw [if_neg Bool.false_ne_true]
 exact h
theorem iteT {A B : Prop} (h : A) : if true = true then A else B := by
 rw [if_pos rfl]
 exact h
theorem ite2 {c A B : Prop} [Decidable c] (h1 : c → A) (h2 : ¬ c → B) : if c then A else B := by
 by_cases h : c
 ·rw [if_pos h]
  exact h1 h
 ·rw [if_neg h]
  exact h2 h
def Same (H H' : Hp) : Prop := ∀ b o, H b = some o → H' b = some o
theorem Same.refl (H : Hp) : Same H H := fun _ _ h => h
theorem Same.trans {H H1 H2 : Hp} (a : Same H H1) (b : Same H1 H2) : Same H H2 := fun c o h => b c o (a c o h)
theorem Same.free {H H' : Hp} (e : Same H H') {l : Addr} (h : H' l = Option.none) : H l = Option.none := by
 cases q : H l with
 | none => rfl
 | some o =>
  rw [e l o q] at h
  cases h
theorem Same.seq {K : PySem.W.Frag} {H H' : Hp} {a : Addr} {xs : List V} (e : Same H H') (h : SqL K H a xs) : SqL K H' a xs := by
 rcases h with (h | ⟨o, h⟩) | h
 ·exact .inl (.inl (e _ _ h))
 ·exact .inl (.inr ⟨o, e _ _ h⟩)
 ·exact .inr h
end L2
namespace L2
open PySem PySem.Spec PyProof.Rows
section
variable {κ : Type} [DecidableEq κ]
noncomputable def valV (kvs : List (κ × V)) (k : κ) : Option V := (kvs.find? fun kv => decide (kv.1 = k)).map (·.2)
noncomputable def putK (kvs : List (κ × V)) (k : κ) (v : V) : List (κ × V) :=
 if (kvs.any fun kv => decide (kv.1 = k)) = true then kvs.map (fun kv => if kv.1 = k then (kv.1, v) else kv) else kvs ++ [(k, v)]
noncomputable def dropK (kvs : List (κ × V)) (k : κ) : List (κ × V) := kvs.filter fun kv => decide (kv.1 ≠ k)
theorem valV_pos {p : κ × V} {r : List (κ × V)} {k : κ} (e : p.1 = k) : valV (p :: r) k = some p.2 := by simp [valV, List.find?_cons, e]
theorem valV_neg {p : κ × V} {r : List (κ × V)} {k : κ} (e : ¬ p.1 = k) : valV (p :: r) k = valV r k := by simp [valV, List.find?_cons, e]
theorem RelO.isSome_eq {o : Option V} {u : Option Value} (r : RelO o u) : o.isSome = u.isSome := by
 cases o with
 | none => cases u with
  | none => rfl
  | some _ => exact (show False from r).elim
 | some _ => cases u with
  | none => exact (show False from r).elim
  | some _ => rfl
theorem RelO.getD {o : Option V} {u : Option Value} {d : V} {d' : Value} (r : RelO o u) (rd : RelV d d') : RelV (o.getD d) (u.getD d') := by
 cases o with
 | none => cases u with
  | none => exact rd
  | some _ => exact (show False from r).elim
 | some _ => cases u with
  | none => exact (show False from r).elim
  | some _ => exact r
theorem KV.val {kvs : List (κ × V)} {vs : List (κ × Value)} (r : KV kvs vs) (k : κ) : RelO (valV kvs k) (valueAt vs k) := by
 unfold KV at r
 induction r with
 | nil => exact True.intro
 | @cons p q ps qs h t ih =>
  obtain ⟨h1, h2⟩ := h
  by_cases e : p.1 = k
  ·have e' : q.1 = k := h1.symm.trans e
   have b : valueAt (q :: qs) k = some q.2 := by simp [valueAt, List.find?_cons, e']
   rw [valV_pos e, b]; exact h2
  ·have e' : ¬ q.1 = k := fun z => e (h1.trans z)
   have b : valueAt (q :: qs) k = valueAt qs k := by simp [valueAt, List.find?_cons, e']
   rw [valV_neg e, b]; exact ih
end
theorem kV_is {P : Program} {w : World} {k : Key} {u : Value} (r : RelV (kV k) u) : (mixKind P w).is k u = true := by
 cases k with
 | inl i => obtain ⟨t, e⟩ := (show ∃ t, u = Value.int i t from r); subst e; exact mixKind_int P w i t
 | inr x => obtain ⟨t, e⟩ := (show ∃ t, u = Value.str x t from r); subst e; exact mixKind_str P w x t
abbrev KT (H : Hp) : List (List Key × V) → List (List Key × Addr × Value) → Prop := Paired fun p q => p.1 = q.1 ∧ H q.2.1 = some (.tup (p.1.map kV)) ∧ RelV p.2 q.2.2
section
variable {P : Program} {w : World} {H : Hp} {h : Heap} {a : Addr}
end
def DGet (H : Hp) (a : Addr) (y : V) (r : Option V) : Prop :=
 (∃ kvs k, Rd H a (.dK kvs) ∧ y = kV k ∧ r = valV kvs k) ∨ ∃ kvs k b, Rd H a (.dT kvs) ∧ y = .ref b ∧ H b = some (.tup (k.map kV)) ∧ r = valV kvs k
def DPut (H : Hp) (a : Addr) (y v : V) (H' : Hp) : Prop :=
 (∃ kvs k, H a = some (.dK kvs) ∧ y = kV k ∧ kvs.length < sizeLine ∧ H' = upd H a (.dK (putK kvs k v))) ∨
 ∃ kvs k b, H a = some (.dT kvs) ∧ y = .ref b ∧ H b = some (.tup (k.map kV)) ∧ kvs.length < sizeLine ∧ H' = upd H a (.dT (putK kvs k v))
section
variable {X : Cx} {pins : List (Addr × Obj)} {σ : St} {H : Hp} {s : Shared} {a : Addr} {y v : V} {u r : Value} {o : Option V} {A : Around} {E : Value → Shared → Prop}
end
section
variable {X : Cx} {pins : List (Addr × Obj)} {σ : St} {H : Hp} {s : Shared} {a : Addr} {kvs : List (Key × V)} {k : Key} {u : Value} {A : Around} {E : Value → Shared → Prop}
end
def tDGet (td ty : TE) : TE := fun σ H Q => td σ H fun x H1 => ty σ H1 fun y H2 => ∃ a v, x = .ref a ∧ DGet H2 a y (some v) ∧ Q v H2
def tDIn (ty td : TE) : TE := fun σ H Q => ty σ H fun y H1 => td σ H1 fun x H2 => ∃ a o, x = .ref a ∧ DGet H2 a y o ∧ Q (.bl o.isSome) H2
def tDNotIn (ty td : TE) : TE := fun σ H Q => ty σ H fun y H1 => td σ H1 fun x H2 => ∃ a o, x = .ref a ∧ DGet H2 a y o ∧ Q (.bl (!o.isSome)) H2
def sDPut (td ty tv : TE) : TS := fun D σ H => tv σ H fun v H1 => td σ H1 fun x H2 => ty σ H2 fun y H3 => ∃ a H4, x = .ref a ∧ DPut H3 a y v H4 ∧ D.nx σ H4
section
variable {X : Cx} {o i e value : Expr} {pos pos' tpos : Pos} {td ty tv : TE}
end
def tDNewK : TE := fun _ H Q => ∀ p, H p = none → Q (.ref p) (upd H p (.dK []))
section
variable {X : Cx} {pos : Pos}
end
structure M2 (X : Cx) (o : Expr) (m : Str) (apos : Pos) (e f : Expr) (cpos : Pos) : Prop where
 base : attributeBase o m X.env (eval o X.env) = eval o X.env
 few : ((backTo cpos (starEach [e, f] X.env)).all (fun x => !x.1) && (backToKw cpos (keywordEach [] X.env)).all (fun x => x.1.isSome)
  && decide (([e, f] : List Expr).length + ([] : List Keyword).length + (if ([] : List Keyword).isEmpty then 0 else 1) < 30)) = true
 line : (apos.endLine == cpos.line) = true
 trees : backTo cpos (starEach [e, f] X.env) = [(false, eval e X.env), (false, eval f X.env)]
section
variable {X : Cx} {pins : List (Addr × Obj)} {σ : St} {H : Hp} {s : Shared} {a : Addr} {y d : V} {u r : Value} {o : Option V} {A : Around} {E : Value → Shared → Prop}
end
section
variable {X : Cx} {o e f : Expr} {apos cpos : Pos} {td ty tx : TE}
end
section
variable {X : Cx} {pins : List (Addr × Obj)} {σ : St} {H : Hp} {s : Shared} {a : Addr} {kvs : List (Key × V)} {A : Around} {E : Value → Shared → Prop}
end
section
variable {X : Cx} {pins : List (Addr × Obj)} {σ : St} {H : Hp} {s : Shared} {a : Addr} {y : V} {u : Value} {A : Around} {E : Value → Shared → Prop}
end
end L2
namespace L2
open PySem PySem.Spec PyProof.Rows
section
variable {X : Cx}
end
section
variable {κ : Type} [DecidableEq κ]
end
end L2
namespace L2
open PySem PySem.Spec PyProof.Rows
def tVarD (i : Nat) : TE := fun σ H Q => match σ[i]? with | some (some v) => Q v H | _ => False
theorem pvD {X : Cx} (i : Nat) {x : Str} {pos : Pos} (hN : X.N[i]? = some x) (hv : Vis X.env.scope x) (hd : (x == ("__debug__" : Str)) = false) (hcd : (x == ("__classdict__" : Str)) = false) : PE X (.Name x pos) (tVarD i) := fun pins s σ H Q I h => pv i hN hv hd hcd pins s σ H Q I (by
 unfold tVarD at h
 split at h
 ·exact ⟨_, ‹_›, h⟩
 ·exact h.elim)
theorem pl {X : Cx} (i : Nat) {x : Str} {pos : Pos} (hN : X.N[i]? = some x) (hv : X.env.scope.names.lookup x = some .local) (hd : (x == ("__debug__" : Str) || x == ("__classdict__" : Str)) = false) : PE X (.Name x pos) (tVarD i) := pvD i hN (.inl hv) (Bool.or_eq_false_iff.mp hd).1 (Bool.or_eq_false_iff.mp hd).2
theorem tVarD_any {i : Nat} {σ : L2.St} {H : Hp} {Q : VK} : tVarD i σ H Q = ∃ v, σ[i]? = some (some v) ∧ Q v H := by
 unfold tVarD
 refine propext ⟨fun h => ?_, fun ⟨v, e, h⟩ => ?_⟩
 ·split at h
  ·exact ⟨_, ‹_›, h⟩
  ·exact h.elim
 ·rw [e]
  exact h
theorem cons_same {α : Type} {a : α} {x y : List α} : (a :: x = a :: y) = (x = y) := propext ⟨fun h => (List.cons.inj h).2, fun h => by rw [h]⟩
theorem l1_same {α : Type} {a b : α} : ([a] = [b]) = (a = b) := propext ⟨fun h => (List.cons.inj h).1, fun h => by rw [h]⟩
theorem l2_same {α : Type} {a b c d : α} : ([a, c] = [b, d]) = (a = b ∧ c = d) := propext ⟨fun h => ⟨(List.cons.inj h).1, (List.cons.inj (List.cons.inj h).2).1⟩, fun ⟨h, k⟩ => by rw [h, k]⟩
theorem l3_same {α : Type} {a b c d e f : α} : ([a, c, e] = [b, d, f]) = (a = b ∧ c = d ∧ e = f) := propext ⟨fun h => ⟨(List.cons.inj h).1, (List.cons.inj (List.cons.inj h).2).1, (List.cons.inj (List.cons.inj (List.cons.inj h).2).2).1⟩, fun ⟨h, k, l⟩ => by rw [h, k, l]⟩
theorem int_ex {a : Int} {p : Int → Prop} : (∃ x, V.int a = V.int x ∧ p x) = p a := propext ⟨fun ⟨x, e, h⟩ => by cases e; exact h, fun h => ⟨a, rfl, h⟩⟩
theorem ref_ex {a : Addr} {p : Addr → Prop} : (∃ x, V.ref a = V.ref x ∧ p x) = p a := propext ⟨fun ⟨x, e, h⟩ => by cases e; exact h, fun h => ⟨a, rfl, h⟩⟩
theorem bl_ex {a : Bool} {p : Bool → Prop} : (∃ x, V.bl a = V.bl x ∧ p x) = p a := propext ⟨fun ⟨x, e, h⟩ => by cases e; exact h, fun h => ⟨a, rfl, h⟩⟩
theorem int_ex2 {a b : Int} {p : Int → Int → Prop} : (∃ x y, V.int a = V.int x ∧ V.int b = V.int y ∧ p x y) = p a b := propext ⟨fun ⟨x, y, e, e2, h⟩ => by cases e; cases e2; exact h, fun h => ⟨a, b, rfl, rfl, h⟩⟩
theorem us0 {α : Type} {P : List α → Prop} {us : List α} (hl : us.length = 0) (h : P []) : P us := by
 rw [List.length_eq_zero_iff.mp hl]
 exact h
theorem usS {α : Type} {P : List α → Prop} {us : List α} {n : Nat} (hl : us.length = n + 1) (h : ∀ a us, us.length = n → P (a :: us)) : P us := by
 cases us with
 | nil => exact absurd hl.symm (Nat.succ_ne_zero n)
 | cons a l => exact h a l (Nat.succ.inj hl)
theorem us1 {α : Type} {P : List α → Prop} {us : List α} (hl : us.length = 1) (h : ∀ a, P [a]) : P us := usS hl fun a us hl => us0 (P := fun us => P (a :: us)) hl (h a)
theorem us2 {α : Type} {P : List α → Prop} {us : List α} (hl : us.length = 2) (h : ∀ a b, P [a, b]) : P us := usS hl fun a us hl => us1 (P := fun us => P (a :: us)) hl (h a)
variable {X : Cx}
end L2
namespace L2
open PySem PySem.Spec PyProof.Rows
theorem lookup_mem {α : Type} {x : Str} {c : α} : ∀ {l : List (Str × α)}, l.lookup x = some c → (x, c) ∈ l
 | [], h => by cases h
 | (y, d) :: r, h => by
  rw [List.lookup_cons] at h
  cases e : x == y with
  | true =>
   rw [e] at h
   have e' : x = y := eq_of_beq e
   cases h
   subst e'
   exact List.mem_cons_self
  | false =>
   rw [e] at h
   exact List.mem_cons_of_mem _ (lookup_mem h)
noncomputable def frOf (ix : List Nat) (σ : St) : St := ix.map fun j => (σ[j]?).getD none
def SubP (cs : List (Str × Addr)) : List (Str × Addr) → Prop
 | [] => True
 | p :: r => cs.lookup p.1 = some p.2 ∧ SubP cs r
theorem SubP.of {cs : List (Str × Addr)} : ∀ {cl : List (Str × Addr)}, SubP cs cl → ∀ p ∈ cl, cs.lookup p.1 = some p.2
 | [], _, _, h => by cases h
 | p :: r, ⟨h1, h2⟩, q, hq => by
  rcases List.mem_cons.mp hq with e | e
  ·rw [e]; exact h1
  ·exact SubP.of h2 q e
def OutP (X : Cx) (scope : Scope) : List Str → List Nat → Prop
 | [], [] => True
 | x :: fr, j :: ix => (X.N[j]? = some x ∧ X.env.kindOf x = some .cell ∧ (relabel scope X.env).names.lookup x = some .cell) ∧ OutP X scope fr ix
 | _, _ => False
theorem OutP.len {X : Cx} {scope : Scope} : ∀ {fr : List Str} {ix : List Nat}, OutP X scope fr ix → fr.length = ix.length
 | [], [], _ => rfl
 | x :: fr, j :: ix, h => by rw [List.length_cons, List.length_cons, OutP.len h.2]
 | [], _ :: _, h => h.elim
 | _ :: _, [], h => h.elim
theorem OutP.get {X : Cx} {scope : Scope} : ∀ {fr : List Str} {ix : List Nat}, OutP X scope fr ix → ∀ (k j : Nat), ix[k]? = some j → ∃ x, fr[k]? = some x ∧ X.N[j]? = some x ∧ X.env.kindOf x = some .cell ∧ (relabel scope X.env).names.lookup x = some .cell
 | [], [], _, k, j, e => by simp at e
 | x :: fr, i :: ix, h, 0, j, e => by
  have e' : i = j := by simpa using e
  subst e'
  exact ⟨x, rfl, h.1⟩
 | x :: fr, i :: ix, h, k + 1, j, e => by
  obtain ⟨y, hy, r⟩ := OutP.get h.2 k j (by simpa using e)
  exact ⟨y, by simpa using hy, r⟩
 | [], _ :: _, h, _, _, _ => h.elim
 | _ :: _, [], h, _, _, _ => h.elim
structure ClOk (X : Cx) (scope : Scope) (own fr : List Str) (ix : List Nat) (cl : List (Str × Addr)) : Prop where
 clos : closureFor scope X.env = pure cl
 kind : scope.kind = .function
 nocell : (scope.names.all fun y => decide (y.2 ≠ .cell)) = true
 names : (scope.names.all fun y => decide (y.2 ≠ .local) || decide (scope.names.lookup y.1 = some .local)) = true
 sub : SubP X.env.cells cl
 has : ((relabel scope X.env).names.all fun y => !(decide (y.2 = .cell) || decide (y.2 = .free)) || (cl.lookup y.1).isSome) = true
 out' : OutP X scope fr ix
section
variable {X : Cx} {scope : Scope} {own fr : List Str} {ix : List Nat} {cl : List (Str × Addr)}
theorem ClOk.len (C : ClOk X scope own fr ix cl) : fr.length = ix.length := C.out'.len
theorem ClOk.out (C : ClOk X scope own fr ix cl) : ∀ (k j : Nat), ix[k]? = some j → ∃ x, fr[k]? = some x ∧ X.N[j]? = some x ∧ Vis X.env.scope x ∧ X.env.kindOf x ≠ some .local ∧ (relabel scope X.env).names.lookup x ≠ some .local := fun k j e => by
 obtain ⟨x, h1, h2, h3, h4⟩ := C.out'.get k j e
 exact ⟨x, h1, h2, .inr (.inl h3), (by rw [h3]; intro z; cases z), (by rw [h4]; intro z; cases z)⟩
theorem ClOk.nocell' (C : ClOk X scope own fr ix cl) : ∀ x ∈ scope.names, x.2 ≠ .cell := fun x hx => of_decide_eq_true (List.all_eq_true.mp C.nocell x hx)
theorem ClOk.names' (C : ClOk X scope own fr ix cl) : ∀ x ∈ scope.names, x.2 = .local → scope.names.lookup x.1 = some .local := fun x hx e => by
 have h := List.all_eq_true.mp C.names x hx
 rw [Bool.or_eq_true] at h
 rcases h with h | h
 ·exact absurd e (of_decide_eq_true h)
 ·exact of_decide_eq_true h
theorem ClOk.sub' (C : ClOk X scope own fr ix cl) : ∀ x c, cl.lookup x = some c → X.env.cells.lookup x = some c := fun x c h => C.sub.of _ (lookup_mem h)
theorem ClOk.has' (C : ClOk X scope own fr ix cl) : ∀ x, ((relabel scope X.env).names.lookup x = some .cell ∨ (relabel scope X.env).names.lookup x = some .free) → ∃ c, cl.lookup x = some c := fun x hx => by
 have key : ∀ k, (relabel scope X.env).names.lookup x = some k → (k = .cell ∨ k = .free) → ∃ c, cl.lookup x = some c := fun k e hk => by
  have h := List.all_eq_true.mp C.has (x, k) (lookup_mem e)
  rw [Bool.or_eq_true] at h
  rcases h with h | h
  ·rcases hk with rfl | rfl
   ·simp at h
   ·simp at h
  ·exact Option.isSome_iff_exists.mp h
 rcases hx with h | h
 ·exact key _ h (.inl rfl)
 ·exact key _ h (.inr rfl)
end
noncomputable def cxC (X : Cx) (scope : Scope) (cl : List (Str × Addr)) (ns : List Str) (fp : List Addr) (s : Shared) (H : Hp) : Cx where
 prog := X.prog
 w := X.w
 K := X.K
 mg := X.mg
 base := X.base
 A := X.A
 N := ns
 s₀ := s
 H₀ := H
 env := compEnvC scope cl s.heap.objs.size X.env
 outer := X.stack
 stack := X.stack
 ex := fp
 fn := fun _ => false
 calm := X.calm
 pn := []
 xe := fun _ _ => False
section
variable {X : Cx} {scope : Scope} {own fr : List Str} {ix : List Nat} {cl : List (Str × Addr)} {pins : List (Addr × Obj)} {σ : St} {H : Hp} {s : Shared} {fp : List Addr}
theorem cxC_ok (C : ClOk X scope own fr ix cl) (I : Inv X pins σ H s) (f : ∀ b ∈ fp, FpOk X pins H b) (lt : ∀ b ∈ fp, b < s.heap.objs.size) : (cxC X scope cl (own ++ fr) fp s H).Ok where
 mod := I.ok.mod
 kind := C.kind
 glob := I.ok.glob
 blt := I.ok.blt
 above := Nat.le_refl _
 inj := fun x y c h1 h2 => I.ok.inj x y c (C.sub' x c h1) (C.sub' y c h2)
 has := fun x hx => C.has' x hx
 cab := fun x c h _ => Bool.noConfusion h
 hd := I.ok.hd
 frames := I.ok.frames
 stk := .inl rfl
 exf := fun b hb => ⟨Nat.ne_of_lt (lt b hb), fun x c e => (f b hb).2.2.2.2.1 x c (C.sub' x c e)⟩
 bs := fun b o e => I.bs b o e
 bsz := Nat.le_trans I.ok.bsz I.sz
 noex := fun b o e hb => by
  rcases (f b hb).2.2.2.1 with z | z
  ·exact I.ok.noex b o e z
  ·exact absurd (Nat.lt_of_lt_of_le (Heap.lt_size e) (Nat.le_trans I.ok.bsz z)) (Nat.lt_irrefl _)
 exfs := fun b hb z => by
  rcases List.mem_cons.mp (I.stkSub b z) with q | q
  ·exact (f b hb).2.1 q
  ·exact (f b hb).2.2.1 q
 funs := I.stack
 frf := I.stkFree
theorem inv_comp (C : ClOk X scope own fr ix cl) (I : Inv X pins σ H s) (f : ∀ b ∈ fp, FpOk X pins H b) (lt : ∀ b ∈ fp, b < s.heap.objs.size) {h₁ : Heap} {t : Nat} {m : Str → Option Value}
  (hns : h₁.Ns s.heap.objs.size m) (k : ∀ b o, s.heap.get? b = some o → h₁.get? b = some o) :
  Inv (cxC X scope cl (own ++ fr) fp s H) [] (List.replicate own.length none ++ frOf ix σ) H { s with heap := h₁, toks := t } where
 ok := cxC_ok C I f lt
 os := rfl
 bare := I.bare
 base := Un.kept k
 loc := ⟨m, hns, fun i x v e1 e2 e3 => by
  have e1 : (own ++ fr)[i]? = some x := e1
  by_cases hi : i < own.length
  ·rw [List.getElem?_append_left (by simpa using hi), List.getElem?_replicate] at e2
   rw [if_pos hi] at e2
   cases e2
  ·have hi' : own.length ≤ i := Nat.le_of_not_lt hi
   rw [List.getElem?_append_right (by simpa using hi')] at e2
   rw [List.getElem?_append_right hi'] at e1
   rw [List.length_replicate] at e2
   unfold frOf at e2
   rw [List.getElem?_map] at e2
   cases q : ix[i - own.length]? with
   | none => rw [q] at e2; cases e2
   | some j =>
    rw [q] at e2
    have e2' : (σ[j]?).getD none = some v := Option.some.inj e2
    obtain ⟨x', hx', hN, hv, hk, hl'⟩ := C.out _ j q
    rw [e1] at hx'
    cases hx'
    have e4 : σ[j]? = some (some v) := by
     cases z : σ[j]? with
     | none => rw [z] at e2'; cases e2'
     | some w => rw [z] at e2'; exact congrArg some e2'
    obtain ⟨mX, hnX, hl⟩ := I.loc
    obtain ⟨u, r, l⟩ := hl j x v hN e4 hv
    rcases l with ⟨kl, _⟩ | ⟨kk, c, ec, z⟩
    ·exact absurd kl hk
    ·have kY : (relabel scope X.env).names.lookup x = some .cell ∨ (relabel scope X.env).names.lookup x = some .free := by
      rcases e3 with e3 | e3 | e3
      ·exact absurd e3 hl'
      ·exact .inl e3
      ·exact .inr e3
     obtain ⟨c', hc'⟩ := C.has' x kY
     have hcc := C.sub' x c' hc'
     rw [ec] at hcc
     cases hcc
     obtain ⟨o, ho, hd⟩ := z
     exact ⟨u, r, .inr ⟨kY, c, hc', ⟨o, k c o ho, hd⟩⟩⟩⟩
 cell := fun x c e => by
  obtain ⟨v, o, ho, hd⟩ := I.cell x c (C.sub' x c e)
  exact ⟨v, o, k c o ho, hd⟩
 free := I.hok.fresh (Nat.le_refl _)
 freeC := fun x c e => I.freeC x c (C.sub' x c e)
 pin := fun p hp => by cases hp
 hok := I.hok.kept k
 len := by
  show (List.replicate own.length none ++ frOf ix σ).length = (own ++ fr).length
  rw [List.length_append, List.length_append, List.length_replicate, C.len]
  unfold frOf
  rw [List.length_map]
theorem inv_back (I : Inv X pins σ H s) (f : ∀ b ∈ fp, FpOk X pins H b) {ns : List Str} {τ : St} {H' : Hp} {s' : Shared} {pins' : List (Addr × Obj)} (J : Inv (cxC X scope cl ns fp s H) pins' τ H' s') : Inv X pins σ H' s' :=
 I.call' (ch := fp) J.os J.base J.hok J.bare fun b hb => ⟨(f b hb).2.2.2.1, (f b hb).2.1, (f b hb).2.2.2.2.1, (f b hb).2.2.2.2.2⟩
theorem inv_gone {σ' : St} (I : Inv X pins σ H s) {H' : Hp} {s' : Shared} {h' : Heap} (J : Inv X pins σ' H' s') (free : H' s.heap.objs.size = none) (sb : Heap.SameBut s.heap.objs.size s'.heap h') : Inv X pins σ' H' { s' with heap := h' } :=
 J.turned (it := s.heap.objs.size) (t' := s'.toks) (fun b o hb e => (sb.2 b hb).trans e) free (Nat.ne_of_gt I.lt) (.inr I.sz)
  (fun x c e z => by
   obtain ⟨v, q⟩ := I.cell x c e
   exact absurd (z ▸ q.lt) (Nat.lt_irrefl _))
  (fun p hp z => absurd (z ▸ Heap.lt_size (I.pin p hp).1) (Nat.lt_irrefl _))
end
section
variable {prog : Program} {w : World} {A : Around} {R : Result → Shared → Prop} {s : Shared}
theorem compLoop_any {elt target iter : Expr} {ifs : List Expr} {scope : Scope} {pos : Pos} {it acc : Value} {env : Env} (I : Nat → Shared → Prop)
  (turn : ∀ n s, I n s → wpAny (model prog w) A (pyNext it) (fun r s₁ => match r with
   | none => R (.ok .next) s₁
   | some v => wpAny (model prog w) A (letOwnedTupleGo target it v) (fun _ s₁' => wpAny (model prog w) A (assign target env v) (fun _ s₂ =>
     wpAny (model prog w) A (forIn ifs true fun c r => if r = true then do let ok ← isTrue c env (eval c env); pure (ForInStep.yield ok) else pure (ForInStep.yield r)) (fun ok s₃ =>
      if ok = true then wpAny (model prog w) A (eval elt env) (fun x s₄ =>
       wpAny (model prog w) A (call (.builtin "list.append") [acc, x]) (fun _ s₅ => ∃ m, m < n ∧ I m s₅) (notedBy (model prog w) A env fun e s' => R (.error e) s') s₄) (notedBy (model prog w) A env fun e s' => R (.error e) s') s₃
      else ∃ m, m < n ∧ I m s₃) (notedBy (model prog w) A env fun e s' => R (.error e) s') s₂) (notedBy (model prog w) A env fun e s' => R (.error e) s') s₁') (notedBy (model prog w) A env fun e s' => R (.error e) s') s₁)
    (notedBy (model prog w) A env fun e s' => R (.error e) s') s)
  (n : Nat) (h : I n s) :
  codeAny (model prog w) A (.compLoop (.ListComp elt [⟨target, iter, ifs, 0⟩] scope pos) 0 it acc env) R s := by
 refine codeAny_loop rfl I (fun n s hI => ?_) n h
 show wpAny _ A ((compTurn (.ListComp elt [⟨target, iter, ifs, 0⟩] scope pos) 0 it acc env).onRaise (fun x => do noteFrame x env; theTreesLotGoes x)) _ _ s
 refine wpAny_noted ?_
 rw [compTurn_list]
 refine wpAny_bind (wpAny_standAt (wpAny_bind (wpAny_mono (turn n s hI) (fun r s₁ h₁ => ?_) fun _ _ h' => h')))
 cases r with
 | none => exact wpAny_pure h₁
 | some v =>
  refine wpAny_bind (wpAny_mono h₁ (fun _ s₁' h₁' => ?_) fun _ _ h' => h')
  refine wpAny_bind (wpAny_mono h₁' (fun _ s₂ h₂ => wpAny_bind (wpAny_mono h₂ (fun ok s₃ h₃ => ?_) fun _ _ h' => h')) fun _ _ h' => h')
  cases ok with
  | false => exact wpAny_pure ⟨rfl, h₃⟩
  | true =>
   exact wpAny_bind (wpAny_bind (wpAny_mono h₃ (fun x s₄ h₄ => wpAny_bind (wpAny_mono h₄ (fun _ s₅ h₅ => wpAny_pure (wpAny_pure ⟨rfl, h₅⟩)) fun _ _ h' => h')) fun _ _ h' => h'))
end
def PIfs (X : Cx) (ifs : List Expr) (t : TT) : Prop :=
 ∀ (pins : List (Addr × Obj)) (s : Shared) (σ : St) (H : Hp) (Q : Bool → Hp → Prop), Inv X pins σ H s → t σ H Q →
  wpAny (model X.prog X.w) X.A (forIn ifs true fun c r => if r = true then do let ok ← isTrue c X.env (eval c X.env); pure (ForInStep.yield ok) else pure (ForInStep.yield r)) (TP X pins σ Q) X.xe s
def tNoIf : TT := fun _ H Q => Q true H
theorem pif0 {X : Cx} : PIfs X [] tNoIf := fun pins s σ H Q I h => wpAny_tests_nil ⟨H, I, h⟩
theorem pif1 {X : Cx} {c : Expr} {t : TT} (h : PT X c t) : PIfs X [c] t := fun pins s σ H Q I q => wpAny_tests_one (h pins s σ H Q I q)
def LC (n : Nat) (fr : St) (g : TG) (tc : TT) (te : TE) (J : It) (D : Addr) (H1 : Hp) (Q : Hp → Prop) : Prop :=
 ∃ W : Nat → Nat → Hp → Prop, (∃ m, W 0 m (upd H1 D (.lst []))) ∧ ∀ i m H, W i m H →
  (J.stop i H ∧ Q H) ∨ (J.go i H ∧ ∀ (τ : St) x H', τ.length = n → J.yld i H x H' → g x (τ ++ fr) H' fun σ2 H2 => (∃ τ' : St, τ'.length = n ∧ σ2 = τ' ++ fr) ∧ tc σ2 H2 fun b H3 =>
   if b = true then te σ2 H3 fun y H4 => ∃ ys, H4 D = some (.lst ys) ∧ ys.length < sizeLine ∧ ∃ m', m' < m ∧ W (i + 1) m' (upd H4 D (.lst (ys ++ [y]))) else ∃ m', m' < m ∧ W (i + 1) m' H3)
def tLC (n : Nat) (ix : List Nat) (wi : TI) (g : TG) (tc : TT) (te : TE) : TE := fun σ H Q => wi σ H fun J H1 => ∀ D, H1 D = none → LC n (frOf ix σ) g tc te J D H1 fun H' => Q (.ref D) H'
section
variable {X : Cx} {scope : Scope} {own fr : List Str} {ix : List Nat} {cl : List (Str × Addr)} {elt iter tg : Expr} {ifs : List Expr} {pos : Pos} {wi : TI} {g : TG} {tc : TT} {te : TE}
theorem comp_block {E : Value → Shared → Prop} {RR : Value → Addr → Result → Shared → Prop} (C : ClOk X scope own fr ix cl) (hc : X.calm = true)
  (hg : ∀ fp s H, PG (cxC X scope cl (own ++ fr) fp s H) tg g) (ht : ∀ fp s H, PIfs (cxC X scope cl (own ++ fr) fp s H) ifs tc) (he : ∀ fp s H, PE (cxC X scope cl (own ++ fr) fp s H) elt te)
  {pins : List (Addr × Obj)} {σ : St} {H2 : Hp} {s2 : Shared} {it : Addr} {fp : List Addr} {tn : Nat → Heap → Prop} {J : It} {Q : Hp → Prop} (I2 : Inv X pins σ H2 s2) (T : Turn X.prog X.w X.K tg J fp it tn) (st2 : tn 0 s2.heap) (f2 : ∀ b ∈ fp, FpOk X pins H2 b)
  (q : LC own.length (frOf ix σ) g tc te J s2.heap.objs.size H2 Q)
  (hRR : ∀ (s3 s' : Shared) (H3 H' : Hp) (τ : St), Inv X pins σ H3 s3 → Inv X pins σ H' s' → H' s3.heap.objs.size = none → (∃ m, s'.heap.Ns s3.heap.objs.size m) → Q H' → RR (.ref s2.heap.objs.size) s3.heap.objs.size (.ok .next) s') :
  wpAny (model X.prog X.w) X.A (newList []) (fun acc s₃ => wpAny (model X.prog X.w) X.A (newFunctionEnv scope X.env.globals cl [] X.env.qual none .none (some X.env)) (fun cenv s₄ =>
   codeAny (model X.prog X.w) X.A (.compStart (.ListComp elt [⟨tg, iter, ifs, 0⟩] scope pos) 0 (.ref it) acc { cenv with scope := relabel scope X.env }) (RR acc cenv.locals) s₄) E s₃) E s2 := by
 refine wpAny_newObj_type ?_
 have I3 : Inv X pins σ (upd H2 s2.heap.objs.size (.lst [])) { s2 with heap := s2.heap.push { cls := .type "list", dict := none, data := .seq ([] : List Value).toArray } } := I2.lnew (t' := s2.toks) (its := []) .nil (Nat.zero_le _)
 have lt2 : ∀ b ∈ fp, b < s2.heap.objs.size := fun b hb => by
  obtain ⟨o, e, _⟩ := T.obj 0 _ st2 b hb
  exact Heap.lt_size e
 have fneD : ∀ b ∈ fp, b ≠ s2.heap.objs.size := fun b hb => Nat.ne_of_lt (lt2 b hb)
 generalize hs3 : ({ s2 with heap := s2.heap.push { cls := .type "list", dict := none, data := .seq ([] : List Value).toArray } } : Shared) = s3 at I3 ⊢
 have hsz : s3.heap.objs.size = s2.heap.objs.size + 1 := by rw [← hs3]; exact Heap.size_push ..
 have kp23 : ∀ b o, s2.heap.get? b = some o → s3.heap.get? b = some o := fun b o e => by rw [← hs3]; exact Heap.get?_push_of_some _ e
 have f3 : ∀ b ∈ fp, FpOk X pins (upd H2 s2.heap.objs.size (.lst [])) b := fun b hb => by
  obtain ⟨f0, fr⟩ := f2 b hb
  exact ⟨by rw [upd_ne (fneD b hb)]; exact f0, fr⟩
 have lt3 : ∀ b ∈ fp, b < s3.heap.objs.size := fun b hb => by rw [hsz]; exact Nat.lt_succ_of_lt (lt2 b hb)
 refine wpAny_newFunctionEnv C.nocell' (by intro y hy; simp at hy) (fun h₁ hns₁ hsb₁ => ?_) C.kind
 have k34 : ∀ b o, s3.heap.get? b = some o → h₁.get? b = some o := fun b o e =>
  (hsb₁.2 b (Nat.ne_of_lt (Heap.lt_size e))).trans (Heap.get?_push_of_some _ e)
 have I4 := inv_comp C I3 f3 lt3 (t := s3.toks + ([] : List (Str × Value)).length) hns₁ k34
 have st4 : tn 0 h₁ := T.keep 0 _ _ st2 fun b _ o e => k34 b o (kp23 b o e)
 obtain ⟨W, ⟨m0, w0⟩, turn⟩ := q
 have loop : ∀ s4 : Shared, s4 = { s3 with heap := h₁, toks := s3.toks + ([] : List (Str × Value)).length } →
   codeAny (model X.prog X.w) X.A (.compLoop (.ListComp elt [⟨tg, iter, ifs, 0⟩] scope pos) 0 (.ref it) (.ref s2.heap.objs.size) (compEnvC scope cl s3.heap.objs.size X.env)) (RR (.ref s2.heap.objs.size) s3.heap.objs.size) s4 := by
  rintro s4 rfl
  have stat : ∀ {H' : Hp}, (∀ b ∈ fp, H' b = none) → ∀ b ∈ fp, FpOk (cxC X scope cl (own ++ fr) fp s3 (upd H2 s2.heap.objs.size (.lst []))) [] H' b := fun {H'} hn b hb =>
   ⟨hn b hb, Nat.ne_of_lt (lt3 b hb), I4.ok.exfs b hb, .inl hb, (I4.ok.exf b hb).2, fun p hp => by cases hp⟩
  refine compLoop_any (fun n s' => ∃ i τ H', τ.length = own.length ∧ Inv (cxC X scope cl (own ++ fr) fp s3 (upd H2 s2.heap.objs.size (.lst []))) [] (τ ++ frOf ix σ) H' s' ∧ tn i s'.heap ∧ (∀ b ∈ fp, H' b = none) ∧ W i n H') ?_ m0
   ⟨0, List.replicate own.length none, _, List.length_replicate, I4, st4, fun b hb => (f3 b hb).1, w0⟩
  rintro n s5 ⟨i, τ, H5, hτ, I5, st5, fr5, w5⟩
  rcases turn i n H5 w5 with ⟨stop, qn⟩ | ⟨go, step⟩
  ·refine wpAny_mono (T.done (cxC X scope cl (own ++ fr) fp s3 (upd H2 s2.heap.objs.size (.lst []))) rfl rfl rfl hc i [] s5 _ H5 (fun _ _ => False) I5 (stat fr5) st5 stop) (fun r s6 ⟨hr, I6⟩ => ?_) fun _ _ z => z.elim
   subst hr
   obtain ⟨mm, hmm, _⟩ := I6.loc
   exact hRR s3 s6 _ H5 τ I3 (inv_back I3 f3 I6) I6.free ⟨mm, hmm⟩ qn
  ·refine wpAny_mono (T.item (cxC X scope cl (own ++ fr) fp s3 (upd H2 s2.heap.objs.size (.lst []))) rfl rfl rfl hc i [] s5 _ H5 (fun _ _ => False) I5 (stat fr5) st5 go) (fun r s6 ⟨u, hr, h6⟩ => ?_) fun _ _ z => z.elim
   subst hr
   refine wpAny_mono h6 (fun _ s7 ⟨x, H7, I7, r7, y7, st7, fr7⟩ => ?_) fun _ _ z => z.elim
   have I7' := I7.pinned (stat fr7) (T.obj _ _ st7)
   refine wpAny_mono (hg fp s3 _ _ s7 _ H7 x u _ I7' r7 (step τ x H7 hτ y7)) (fun _ s8 ⟨σ8, H8, I8, ⟨τ', hτ', e8⟩, q8⟩ => ?_) fun _ _ z => z.elim
   have fin : ∀ {H9 : Hp} {s9 : Shared}, Inv (cxC X scope cl (own ++ fr) fp s3 (upd H2 s2.heap.objs.size (.lst []))) ([] ++ pinsAt fp s7.heap) σ8 H9 s9 → (∃ m', m' < n ∧ W (i + 1) m' H9) →
     ∃ m, m < n ∧ ∃ i τ H', τ.length = own.length ∧ Inv (cxC X scope cl (own ++ fr) fp s3 (upd H2 s2.heap.objs.size (.lst []))) [] (τ ++ frOf ix σ) H' s9 ∧ tn i s9.heap ∧ (∀ b ∈ fp, H' b = none) ∧ W i m H' := fun {H9 s9} I9 hw => by
    obtain ⟨m', hm, w9⟩ := hw
    refine ⟨m', hm, i + 1, τ', H9, hτ', e8 ▸ I9.unpinned, T.keep _ _ _ st7 fun b hb o e => (I9.pin (b, o) (List.mem_append_right _ (List.mem_append_right _ (mem_pinsAt hb e)))).1, fun b hb => ?_, w9⟩
    obtain ⟨o, e, d⟩ := T.obj _ _ st7 b hb
    exact (I9.pin (b, o) (List.mem_append_right _ (List.mem_append_right _ (mem_pinsAt hb e)))).2.1
   refine wpAny_mono (ht fp s3 _ _ s8 σ8 H8 _ I8 q8) (fun ok s9 ⟨H9, I9, q9⟩ => ?_) fun _ _ z => z.elim
   cases ok with
   | false => exact fin I9 q9
   | true =>
    refine wpAny_mono (he fp s3 _ _ s9 σ8 H9 _ I9 q9) (fun y s10 ⟨v10, H10, I10, r10, ys, hD, hz, q10⟩ => ?_) fun _ _ z => z.elim
    refine wpAny_mono (mt_append (X := cxC X scope cl (own ++ fr) fp s3 (upd H2 s2.heap.objs.size (.lst []))) _ s10 σ8 H10 (.ref s2.heap.objs.size) [v10] _ [y] (fun _ H' => ∃ m', m' < n ∧ W (i + 1) m' H') I10 rfl (.cons r10 .nil) ⟨_, ys, v10, rfl, rfl, hD, hz, q10⟩) (fun _ s11 ⟨_, H11, I11, _, q11⟩ => ?_) fun _ _ z => z.elim
    exact fin I11 q11
 exact codeAny_compStart_list (loop _ rfl) (T.self _ 0 _ _ _ st4 (loop _ rfl))
theorem pe_lc (C : ClOk X scope own fr ix cl) (hc : X.calm = true) (hi : PI X tg iter wi) (hg : ∀ fp s H, PG (cxC X scope cl (own ++ fr) fp s H) tg g)
  (ht : ∀ fp s H, PIfs (cxC X scope cl (own ++ fr) fp s H) ifs tc) (he : ∀ fp s H, PE (cxC X scope cl (own ++ fr) fp s H) elt te)
  (hs : ∀ x, foldedSetIterable iter X.env x = pure x := by intro _; rfl) : PE X (.ListComp elt [⟨tg, iter, ifs, 0⟩] scope pos) (tLC own.length ix wi g tc te) := by
 intro pins s σ H Q I h
 rw [eval_ListComp]
 refine wpAny_comprehension_free (use := none) rfl hs C.clos C.kind C.names' (thn (hi pins s σ H _ I h) fun v s1 h1 => thn h1 fun itv s2 h2 => ?_)
 obtain ⟨it, fp, tn, J, H2, e, I2, T, st2, f2, q⟩ := h2
 subst e
 refine comp_block (RR := fun acc D => compPost (model X.prog X.w) X.A X.xe none (EP X pins σ Q) acc D) C hc hg ht he I2 T st2 f2 (q _ (I2.hok.fresh (Nat.le_refl _))) fun s3 s' H3 H' τ I3 I' hn hm q' => ?_
 obtain ⟨m, hm⟩ := hm
 exact ⟨m, hm, fun h' sb => ⟨.ref s2.heap.objs.size, H', inv_gone I3 I' hn sb, rfl, q'⟩⟩
def tSetLC (i n : Nat) (ix : List Nat) (wi : TI) (g : TG) (tc : TT) (te : TE) : TS := fun D σ H => wi σ H fun J H1 => ∀ l, H1 l = none → LC n (frOf ix σ) g tc te J l H1 fun H' => D.nx (σ.set i (some (.ref l))) H'
theorem ps_setlc {i : Nat} {x : Str} {px spos : Pos} (hN : X.N.Nodup) (hx : X.N[i]? = some x) (hl : Loc X.env.scope x) (C : ClOk X scope own fr ix cl) (hc : X.calm = true) (hi : PI X tg iter wi)
  (hg : ∀ fp s H, PG (cxC X scope cl (own ++ fr) fp s H) tg g) (ht : ∀ fp s H, PIfs (cxC X scope cl (own ++ fr) fp s H) ifs tc) (he : ∀ fp s H, PE (cxC X scope cl (own ++ fr) fp s H) elt te)
  (hsw : swapsWith (.ListComp elt [⟨tg, iter, ifs, 0⟩] scope pos) (some (.Name x px)) spos.line X.env = pure true := by rfl)
  (hs : ∀ x, foldedSetIterable iter X.env x = pure x := by intro _; rfl) (hf : X.fn x = true ∨ X.env.scope.names.lookup x = some .local := by first | exact .inl rfl | exact .inr rfl | assumption) :
  PS X (.Assign [.Name x px] (.ListComp elt [⟨tg, iter, ifs, 0⟩] scope pos) spos) (tSetLC i own.length ix wi g tc te) := by
 intro pins s σ H D I h
 rw [exec_Assign_Name_used _ _ _ _ hsw]
 refine wpAny_bind (wpAny_standAt (wpAny_bind ?_))
 show wpAny _ X.A (do let _ ← comprehension (.ListComp elt [⟨tg, iter, ifs, 0⟩] scope pos) scope X.env _ (newList []) false (eval iter X.env) (some (assign (.Name x px) X.env))) _ _ s
 refine wpAny_bind (wpAny_mono (wpAny_comprehension_free (use := some (assign (.Name x px) X.env)) (Q := fun _ s' => SP X pins D .next s') rfl hs C.clos C.kind C.names'
  (thn (hi pins s σ H _ I h) fun v s1 h1 => thn h1 fun itv s2 h2 => ?_)) (fun _ s' hq => wpAny_pure (wpAny_pure hq)) fun _ _ e => e)
 obtain ⟨it, fp, tn, J, H2, e, I2, T, st2, f2, q⟩ := h2
 subst e
 refine comp_block (RR := fun acc C => compPost (model X.prog X.w) X.A X.xe (some (assign (.Name x px) X.env)) (fun _ s' => SP X pins D .next s') acc C) C hc hg ht he I2 T st2 f2 (q _ (I2.hok.fresh (Nat.le_refl _))) fun s3 s' H3 H' τ I3 I' hn hm q' => ?_
 obtain ⟨m, hm⟩ := hm
 show wpAny _ X.A (assign (.Name x px) X.env (.ref s2.heap.objs.size)) _ _ _
 refine wpAny_assign_Name (store_ok2 I' hN hx hl (v := .ref s2.heap.objs.size) rfl (fun s'' I'' hsb => ?_) hf)
 obtain ⟨a, sba, ha⟩ := hsb
 have hne : s3.heap.objs.size ≠ a := by
  rcases ha with rfl | ha
  ·exact Nat.ne_of_gt I3.lt
  ·obtain ⟨v, qv⟩ := I3.cell x a ha
   exact Nat.ne_of_gt qv.lt
 exact ⟨m, hm.sameBut sba hne, fun h' sb => ⟨_, H', inv_gone I3 I'' hn sb, q'⟩⟩
end
end L2
namespace L2
open PySem PySem.Spec PyProof.Rows
noncomputable def Its (z : Str) : It := ⟨fun i _ => i < z.cps.size, fun i H x H' => H' = H ∧ ∃ c, z.cps[i]? = some c ∧ x = .str ⟨#[c]⟩, fun i _ => i = z.cps.size⟩
theorem turn_str {P : Program} {w : World} {K : PySem.W.Frag} {tg : Expr} (it : Addr) (z : Str) (t : Tok) (ty : String)
  (hn : ["enumerate", "zip", "dict_itemiterator", "dict_reverseitemiterator", "odict_iterator", "itertools.zip_longest", "itertools.pairwise"].contains ty = false)
  (W : ∀ A' : Around, A'.handled = none → Walks P w A' it [it] [it] z.cps.size (SignAt z) (fun i h => h.IsStrIter it ty z t i))
  (self : ∀ (A : Around) (i : Nat) (s : Shared) (Q : Value → Shared → Prop) (E : Value → Shared → Prop), s.heap.IsStrIter it ty z t i → Q (.ref it) s → wpAny (model P w) A (pyIter (.ref it)) Q E s) :
  Turn P w K tg (Its z) [it] it (fun i h => h.IsStrIter it ty z t i) where
 mem := by simp
 obj := fun i h st b hb => by
  have e : b = it := by simpa using hb
  subst e
  obtain ⟨o, e, c, d⟩ := st
  exact ⟨o, e, fun v z => by rw [d] at z; cases z⟩
 keep := fun i h h' st k => by
  obtain ⟨o, ho, r⟩ := st
  exact ⟨o, k it (by simp) o ho, r⟩
 item := by
  intro X hP hw hK hc i pins s σ H E I hf st hg
  subst hP hw hK
  obtain ⟨f0, f1, f2, f3, f4, f5⟩ := hf it (by simp)
  refine (W X.A (I.ok.hd hc)).item i s _ _ hg st fun v h' tk hv st' kk => ?_
  obtain ⟨c, u, hcc, rfl⟩ := hv
  have I1 : Inv X pins σ H { s with heap := h', toks := tk } := I.turned (fun b o hb e => kk b o (by simpa using hb) e) f0 f1 f3 f4 f5
  obtain ⟨o, e, c', d⟩ := id st'
  exact ⟨_, rfl, go_of (s := { s with heap := h', toks := tk }) (n := ty) e c' d hn ⟨.str ⟨#[c]⟩, H, I1, ⟨u, rfl⟩, ⟨rfl, c, hcc, rfl⟩, st', fun b hb => (hf b hb).1⟩⟩
 done := by
  intro X hP hw hK hc i pins s σ H E I hf st hg
  subst hP hw hK
  obtain ⟨f0, f1, f2, f3, f4, f5⟩ := hf it (by simp)
  have hg : i = z.cps.size := hg
  subst hg
  exact (W X.A (I.ok.hd hc)).done s _ _ st fun h' tk kk => ⟨rfl, I.turned (fun b o hb e => kk b o (by simpa using hb) e) f0 f1 f3 f4 f5⟩
 self := fun A i s Q E st h => self A i s Q E st h
def iStr (tl : TE) : TI := fun σ H R => tl σ H fun x H1 => ∃ z, x = .str z ∧ R (Its z) H1
section
variable {X : Cx} {tg : Expr}
theorem pi_str {l : Expr} {tl : TE} (hl : PE X l tl) : PI X tg l (iStr tl) := by
 intro pins s σ H R I h
 refine thn (hl pins s σ H _ I h) fun v s1 ⟨x, H1, I1, r1, q1⟩ => ?_
 obtain ⟨z, e, q⟩ := q1
 subst e
 obtain ⟨t, rfl⟩ := r1
 cases ha : z.cps.all (· < 128)
 ·refine wpAny_pyIter_wide ha ?_
  refine ⟨s1.heap.objs.size, [s1.heap.objs.size], _, _, H1, rfl, I1.kept (t' := s1.toks) fun b o e => Heap.get?_push_of_some _ e,
   turn_str s1.heap.objs.size z t "str_iterator" (by decide) (fun A' hA => Walks.strWide hA _ z t) (fun _ _ _ _ _ st h => wpAny_pyIter_striter_wide st h), ⟨_, Heap.get?_push_size _ rfl, rfl, rfl⟩, fun b hb => ?_, q⟩
  have e : b = s1.heap.objs.size := by simpa using hb
  subst e
  exact I1.fpOk (Nat.le_refl _) (I1.hok.fresh (Nat.le_refl _))
 ·refine wpAny_pyIter_ascii ha ?_
  refine ⟨s1.heap.objs.size, [s1.heap.objs.size], _, _, H1, rfl, I1.kept (t' := s1.toks) fun b o e => Heap.get?_push_of_some _ e,
   turn_str s1.heap.objs.size z t "str_ascii_iterator" (by decide) (fun A' hA => Walks.strAscii hA _ z t) (fun _ _ _ _ _ st h => wpAny_pyIter_striter_ascii st h), ⟨_, Heap.get?_push_size _ rfl, rfl, rfl⟩, fun b hb => ?_, q⟩
  have e : b = s1.heap.objs.size := by simpa using hb
  subst e
  exact I1.fpOk (Nat.le_refl _) (I1.hok.fresh (Nat.le_refl _))
end
theorem range_all (bs : List Bool) (tr : Nat → Bool) (h : ∀ (i : Nat) b, bs[i]? = some b → tr i = b) : (List.range bs.length).all tr = bs.all id := by
 apply Bool.eq_iff_iff.mpr
 constructor
 ·intro h1
  refine List.all_eq_true.mpr fun b hb => ?_
  obtain ⟨i, hi⟩ := List.getElem?_of_mem hb
  have hl : i < bs.length := (List.getElem?_eq_some_iff.mp hi).1
  have := List.all_eq_true.mp h1 i (List.mem_range.mpr hl)
  rw [h i b hi] at this
  exact this
 ·intro h1
  refine List.all_eq_true.mpr fun i hi => ?_
  have hl : i < bs.length := List.mem_range.mp hi
  have hg : bs[i]? = some bs[i] := List.getElem?_eq_getElem hl
  rw [h i _ hg]
  exact List.all_eq_true.mp h1 _ (List.getElem_mem hl)
section
variable {X : Cx}
theorem call_all_list (hc : X.calm = true) : CallR X (.builtin "all") (fun xs H Q => ∃ p bs, xs = [.ref p] ∧ SqL X.K H p (List.map V.bl bs) ∧ Q (.bl (bs.all id)) H) := by
 intro pins s σ H xs us Q I r h
 obtain ⟨p, bs, rfl, hq, q⟩ := h
 obtain ⟨u, rfl, rx⟩ := vals1 r
 cases rx
 obtain ⟨its, rv, pl, hz⟩ := I.list hq
 have hlen : bs.length = its.length := by rw [← rv.length, List.length_map]
 refine call_all_walk (wpAny_pyIter_list pl.isList ?_)
 have hne : p ≠ s.heap.objs.size := by
  obtain ⟨o, n, e, _⟩ := pl
  exact Nat.ne_of_lt (Heap.lt_size e)
 have I1 : Inv X pins σ H { s with heap := s.heap.push { cls := .type "list_iterator", data := .fields #[.ref p, .int 0 0] } } := I.kept (t' := s.toks) fun b o e => Heap.get?_push_of_some _ e
 have fp := I.fpOk (H' := H) (Nat.le_refl s.heap.objs.size) (I.hok.fresh (Nat.le_refl _))
 obtain ⟨f0, f1, f2, f3, f4, f5⟩ := fp
 refine ⟨s.heap.objs.size, _, _, its.toArray.size, _, _, fun i => (bs[i]?).getD false, rfl, Walks.list (A := X.A.in1) (by show X.A.handled = none; exact I.ok.hd hc) s.heap.objs.size p hne its.toArray, ⟨⟨_, Heap.get?_push_size _ rfl, rfl, rfl⟩, ?_⟩, ?_, fun h' tk kk => ?_⟩
 ·obtain ⟨o, ho, r⟩ := pl.isList
  exact ⟨o, Heap.get?_push_of_some _ ho, r⟩
 ·intro i v s' Q' E' hv hQ
  have hv' : its[i]? = some v := by simpa using hv
  have hi : i < bs.length := by rw [hlen]; exact (List.getElem?_eq_some_iff.mp hv').1
  have hb : (bs.map V.bl)[i]? = some (V.bl bs[i]) := by rw [List.getElem?_map, List.getElem?_eq_getElem hi]; rfl
  obtain ⟨u', hu', ru'⟩ := rv.get hb
  rw [hv'] at hu'
  cases hu'
  cases ru'
  dsimp only at hQ
  rw [List.getElem?_eq_getElem hi] at hQ
  exact wpAny_truthy_bool hQ
 ·rw [List.size_toArray, ← hlen, range_all bs _ (fun i b e => by rw [e]; rfl)]
  exact ⟨.bl _, H, I1.turned (it := s.heap.objs.size) (fun b o hb e => kk b o (by simpa using hb) e) f0 f1 f3 f4 f5, rfl, q⟩
end
noncomputable def cutS (z : Str) (lo hi : Option Int) : Str := ⟨((z.cps.toList.drop (HT.sIx z.length 0 lo)).take (HT.sIx z.length z.length hi - HT.sIx z.length 0 lo)).toArray⟩
theorem cutS_le (z : Str) (lo hi : Option Int) : (cutS z lo hi).length ≤ z.length := by
 show ((z.cps.toList.drop _).take _).toArray.size ≤ z.cps.size
 rw [List.size_toArray, List.length_take, List.length_drop, Array.length_toList]
 omega
theorem clip_lo (n : Nat) (lo : Option Int) : (match lo with | none => (0 : Int) | some i => max 0 (min (if i < 0 then i + (n : Int) else i) n)) = ((HT.sIx n 0 lo : Nat) : Int) := by
 cases lo with
 | none => rfl
 | some i =>
  show max 0 (min (if i < 0 then i + (n : Int) else i) n) = ((HT.sIx n 0 (some i) : Nat) : Int)
  unfold HT.sIx
  by_cases h : i < 0
  ·simp only [h, if_true] <;> omega
  ·simp only [h, if_false] <;> omega
theorem clip_hi (n : Nat) (hi : Option Int) : (match hi with | none => (n : Int) | some i => max 0 (min (if i < 0 then i + (n : Int) else i) n)) = ((HT.sIx n n hi : Nat) : Int) := by
 cases hi with
 | none => rfl
 | some i =>
  show max 0 (min (if i < 0 then i + (n : Int) else i) n) = ((HT.sIx n n (some i) : Nat) : Int)
  unfold HT.sIx
  by_cases h : i < 0
  ·simp only [h, if_true] <;> omega
  ·simp only [h, if_false] <;> omega
theorem strSlice_run (lo hi : Option Int) (n : Nat) : Builtin.Str.strSliceIndices lo hi 1 n = (List.range (HT.sIx n n hi - HT.sIx n 0 lo)).map (HT.sIx n 0 lo + ·) := by
 have e : Builtin.Str.strSliceIndices lo hi 1 n = sliceRange (match lo with | none => (0 : Int) | some i => max 0 (min (if i < 0 then i + (n : Int) else i) n)) (match hi with | none => (n : Int) | some i => max 0 (min (if i < 0 then i + (n : Int) else i) n)) 1 := by
  cases lo <;> cases hi <;> rfl
 rw [e, clip_lo n lo, clip_hi n hi, sliceRange_one]
theorem cutS_made (z : Str) (lo hi : Option Int) : (⟨((Builtin.Str.strSliceIndices lo hi 1 z.length).filterMap (z.cps[·]?)).toArray⟩ : Str) = cutS z lo hi := by
 rw [strSlice_run, pick_run]
 rfl
theorem cutS_whole (z : Str) (lo hi : Option Int) (h : (Builtin.Str.strSliceIndices lo hi 1 z.length).length = z.length) : cutS z lo hi = z := by
 rw [strSlice_run, List.length_map, List.length_range] at h
 have h1 : HT.sIx z.length 0 lo ≤ z.length := HT.sIx_le _ _ (Nat.zero_le _) lo
 have h2 : HT.sIx z.length z.length hi ≤ z.length := HT.sIx_le _ _ (Nat.le_refl _) hi
 unfold cutS
 by_cases h0 : z.length = 0
 ·have e0 : z.cps.toList = [] := by
   apply List.eq_nil_of_length_eq_zero
   rw [Array.length_toList]
   exact h0
  rw [e0]
  have e1 : z.cps = #[] := by
   apply Array.eq_empty_of_size_eq_zero
   exact h0
  cases z with
  | mk c => cases e1; simp
 ·have a : HT.sIx z.length 0 lo = 0 := by omega
  have b : HT.sIx z.length z.length hi = z.length := by omega
  rw [a, b, List.drop_zero, Nat.sub_zero]
  have e : z.cps.toList.take z.length = z.cps.toList := by
   apply List.take_of_length_le
   rw [Array.length_toList]
   exact Nat.le_refl _
  rw [e]
section
variable {X : Cx}
def rSlS : V → Option Int → Option Int → Hp → VK → Prop := fun x lo hi H Q => ∃ z, x = .str z ∧ z.length ≤ sizeLine ∧ Q (.str (cutS z lo hi)) H
theorem part_of {v : Value} {o : Option Int} (p : IsPart v o) : ∃ l : Option (Int × Tok), partValue l = v ∧ l.map (·.1) = o := by
 cases p with
 | none => exact ⟨none, rfl, rfl⟩
 | int i t => exact ⟨some (i, t), rfl, rfl⟩
theorem sl_str : SlR X rSlS := by
 intro pins s σ H x v vl vu lo hi sl Q I rx hs pl pu h
 obtain ⟨z, rfl, hz, q⟩ := h
 obtain ⟨t, rfl⟩ := rx
 obtain ⟨l, el, e1⟩ := part_of pl
 obtain ⟨u, eu, e2⟩ := part_of pu
 subst el eu e1 e2
 refine ⟨"str", _, F.slot_str_getitem.lookup, typeIs_str s z t, wpAny_getItem_str_slice (l := l) (u := u) (st := none) hs rfl ?_⟩
 unfold sliceMade slicePicked
 by_cases c : (((none : Option (Int × Tok)).map (·.1)).getD 1 == 1 && (Builtin.Str.strSliceIndices (l.map (·.1)) (u.map (·.1)) (((none : Option (Int × Tok)).map (·.1)).getD 1) z.length).length == z.length) = true
 ·rw [if_pos c]
  rw [Bool.and_eq_true] at c
  have c2 : (Builtin.Str.strSliceIndices (l.map (·.1)) (u.map (·.1)) 1 z.length).length = z.length := eq_of_beq c.2
  have e := cutS_whole z _ _ c2
  rw [e] at q
  exact ⟨.str z, H, I, ⟨t, rfl⟩, q⟩
 ·rw [if_neg c]
  have e := cutS_made z (l.map (·.1)) (u.map (·.1))
  show ((⟨((Builtin.Str.strSliceIndices (l.map (·.1)) (u.map (·.1)) 1 z.length).filterMap (z.cps[·]?)).toArray⟩ : Str).length ≤ sizeLine ∧ EP X pins σ Q (.str ⟨((Builtin.Str.strSliceIndices (l.map (·.1)) (u.map (·.1)) 1 z.length).filterMap (z.cps[·]?)).toArray⟩ s.toks) { s with toks := s.toks + 1 })
  rw [e]
  exact ⟨Nat.le_trans (cutS_le z _ _) hz, ⟨.str _, H, I.tok _, ⟨_, rfl⟩, q⟩⟩
noncomputable def mulS (z : Str) (n : Nat) : Str := ⟨(List.replicate n z.cps.toList).flatten.toArray⟩
theorem foldl_cat (x : List Nat) : ∀ (n : Nat) (acc : Array Nat), (List.replicate n x.toArray).foldl (· ++ ·) acc = acc ++ (List.replicate n x).flatten.toArray
 | 0, acc => by simp
 | n + 1, acc => by
  rw [List.replicate_succ, List.foldl_cons, foldl_cat x n, List.replicate_succ, List.flatten_cons]
  apply Array.toList_inj.mp
  simp
theorem mulS_eq (z : Str) (n : Int) (h : 0 ≤ n) : Txt.mul z n = mulS z n.toNat := by
 unfold Txt.mul mulS
 by_cases h1 : n < 1
 ·rw [if_pos h1]
  have e : n.toNat = 0 := by omega
  rw [e]
  rfl
 ·rw [if_neg h1]
  by_cases h2 : (n == 1 || z.length == 0) = true
  ·rw [if_pos h2]
   rw [Bool.or_eq_true] at h2
   rcases h2 with h2 | h2
   ·have e : n = 1 := eq_of_beq h2
    subst e
    show z = ⟨(List.replicate 1 z.cps.toList).flatten.toArray⟩
    simp
   ·have e : z.length = 0 := eq_of_beq h2
    have e0 : z.cps = #[] := Array.eq_empty_of_size_eq_zero e
    cases z with
    | mk c => cases e0; simp
  ·rw [if_neg h2]
   have e := foldl_cat z.cps.toList n.toNat #[]
   have e3 : z.cps.toList.toArray = z.cps := by simp
   rw [e3] at e
   rw [e]
   simp
theorem op_mul_str : OpR X (binaryOp .Mult) (fun x y H Q => ∃ z n, x = .str z ∧ y = .int n ∧ 0 ≤ n ∧ n ≤ 1000 ∧ z.length ≤ 1000 ∧ Q (.str (mulS z n.toNat)) H) := by
 intro pins s σ H x y v u Q I rx ry h
 obtain ⟨z, n, rfl, rfl, h0, h1, h2, q⟩ := h
 obtain ⟨t, rfl⟩ := rx
 obtain ⟨t', rfl⟩ := ry
 have hb : z.length * n.toNat ≤ 1000 * 1000 := Nat.mul_le_mul h2 (by omega)
 refine SB.mul ⟨by rw [Bool.or_eq_false_iff]; exact ⟨decide_eq_false (by omega), decide_eq_false (by omega)⟩, fun hn1 _ => ?_, fun _ _ => ?_⟩ fun t' k => ⟨.str _, H, I.tok _, ⟨_, rfl⟩, by rw [mulS_eq z n h0]; exact q⟩
 ·have hp : 0 < n := by omega
  have h3 : (z.length : Int) * n ≤ 1000 * n := Int.mul_le_mul_of_nonneg_right (by omega) h0
  have h4 : (z.length : Int) ≤ (2 ^ 63 - 1) / n := Int.le_ediv_of_mul_le hp (by omega)
  omega
 ·unfold Builtin.Str.tooLong
  exact decide_eq_false (by have := sizeLine_eq; omega)
theorem length_mulS (z : Str) (n : Nat) : (mulS z n).length = n * z.length := by
 show (List.replicate n z.cps.toList).flatten.toArray.size = n * z.cps.size
 rw [List.size_toArray, List.length_flatten, List.map_replicate, List.sum_replicate_nat, Array.length_toList]
theorem strsAre_of : ∀ {ys : List Str} {us : List Value}, Vals (ys.map V.str) us → StrsAre us ys
 | [], _, .nil => .nil
 | y :: ys, u :: us, .cons r t => by
  obtain ⟨t', rfl⟩ := r
  exact .cons _ _ (strsAre_of t)
theorem mt_join : MtR X "str.join" (fun x xs H Q => ∃ sep p ys, x = .str sep ∧ xs = [.ref p] ∧ SqL X.K H p (List.map V.str ys) ∧ (ys.map (·.length)).sum + ys.length * sep.length ≤ 1000000 ∧ Q (.str (Txt.join sep ys)) H) := by
 intro pins s σ H x xs v us Q I rx rv h
 obtain ⟨sep, p, ys, rfl, rfl, hq, hb, q⟩ := h
 obtain ⟨t, rfl⟩ := rx
 obtain ⟨u, rfl, ru⟩ := rv.one
 cases ru
 obtain ⟨its, r, pl, hz⟩ := I.list hq
 exact join_list pl.isList (by simpa using strsAre_of r) (by omega) fun t' k => ⟨.str _, H, I.tok _, ⟨_, rfl⟩, q⟩
def asciiS (z : Str) : Prop := ∀ c ∈ z.cps.toList, c < 128
noncomputable def upS (z : Str) : Str := ⟨z.cps.map up1⟩
theorem mt_upper : MtR X "str.upper" (fun x xs H Q => ∃ z, x = .str z ∧ xs = [] ∧ asciiS z ∧ z.length ≤ 1000000 ∧ Q (.str (upS z)) H) := by
 intro pins s σ H x xs v us Q I rx rv h
 obtain ⟨z, rfl, rfl, ha, hz, q⟩ := h
 obtain ⟨t, rfl⟩ := rx
 obtain rfl := rv.zero
 have e : Txt.upper z = upS z := upper_ascii ha
 have hl : (upS z).length = z.length := by show (z.cps.map up1).size = z.cps.size; exact Array.size_map ..
 refine SC.upper ?_ ⟨.str _, H, I.tok _, ⟨_, rfl⟩, by rw [e]; exact q⟩
 rw [e, hl]
 unfold Builtin.Str.tooLong
 exact decide_eq_false (by have := sizeLine_eq; omega)
theorem mt_startswith : MtR X "str.startswith" (fun x xs H Q => ∃ z y, x = .str z ∧ xs = [.str y] ∧ Q (.bl (Txt.startswith z y)) H) := by
 intro pins s σ H x xs v us Q I rx rv h
 obtain ⟨z, y, rfl, rfl, q⟩ := h
 obtain ⟨t, rfl⟩ := rx
 obtain ⟨u, rfl, ru⟩ := rv.one
 obtain ⟨t', rfl⟩ := ru
 exact SC.startswith ⟨.bl _, H, I, rfl, q⟩
theorem call_isinst : CallR X (.builtin "isinstance") (fun xs H Q => ∃ x n t b, xs = [x, .ty n] ∧ TyOf X.K H x t ∧ PySem.W.kitOne X.K t (.type n) = some b ∧ Q (.bl b) H) := by
 intro pins s σ H xs us Q I r h
 obtain ⟨x, n, t, b, rfl, ty, e, q⟩ := h
 obtain ⟨u, u2, rfl, r1, r2⟩ := vals2 r
 cases (show u2 = Value.type n from r2)
 exact isinst_ok I r1 ty e fun tk => ⟨.bl b, H, I.tok tk, rfl, q⟩
end
end L2
namespace L2
open PySem PySem.Spec PyProof.Rows
theorem same_new {H : Hp} {p : Addr} (h : H p = none) (o : HO) : Same H (upd H p o) := fun b u q => by rw [upd_ne (ne_of_none q h)]; exact q
theorem Same.upd {H H' : Hp} {p : Addr} (e : Same H H') (h : H p = none) (o : HO) : Same H (L2.upd H' p o) := fun b u q => by rw [upd_ne (ne_of_none q h)]; exact e b u q
def Has (P : Program) (w : World) (K : PySem.W.Frag) (mg : Str → Option Value) (base : Heap) (k : Nat) (x : Str) (ps : List Str) (sp : Sp) : Prop :=
 ∃ (f : Addr) (fd : FuncData), FnOk P w K mg base CX0 k f fd ps sp ∧ Binds K fd ps [] ∧ PySem.W.keepIn K (.ref f) = true ∧ mg x = some (.ref f)
theorem Has.up {P : Program} {w : World} {K : PySem.W.Frag} {mg : Str → Option Value} {base : Heap} {j k : Nat} {x : Str} {ps : List Str} {sp : Sp} (h : Has P w K mg base j x ps sp) (l : j ≤ k) : Has P w K mg base k x ps sp := by
 obtain ⟨f, fd, F, r⟩ := h
 exact ⟨f, fd, F.mono l, r⟩
def Def (K : PySem.W.Frag) (mg : Str → Option Value) (x : Str) (st : Stmt) (ps : List Str) : Prop :=
 ∃ (f : Addr) (fd : FuncData), Fun K x x st f fd ∧ Binds K fd ps [] ∧ mg x = some (.ref f)
theorem Def.has {P : Program} {w : World} {K : PySem.W.Frag} {mg : Str → Option Value} {base : Heap} {k : Nat} {x : Str} {st : Stmt} {N ps : List Str} {sp : Sp} (D : Def K mg x st ps) (S : FnScope N ps (defScope st)) (len : ∀ vs H Q E, sp vs H Q E → vs.length = ps.length)
  (hbody : ∀ (f : Addr) (cdv : Value) (A : Around) (outer : List Env) (s : Shared) (H : Hp) (vs : List V) (Q : VK) (E : XK), Room k (A.deeper (envOfC x (defScope st) s.heap.objs.size f cdv)) → sp vs H Q E →
   ∃ t, PSs (cxOf CX0 P w K mg base N x (defScope st) f cdv A outer s H E).nox (defBody st) t ∧ t { nx := fun _ H' => Q .non H', rt := Q } (start N vs) H) : Has P w K mg base (k + 1) x ps sp := by
 obtain ⟨f, fd, F, b, m⟩ := D
 exact ⟨f, fd, F.ok S len fun cdv A outer s H vs Q E hr h => hbody f cdv A outer s H vs Q E hr h, b, F.kp, m⟩
section
variable {X : Cx} {k : Nat} {ps : List Str} {sp : Sp} {x : Str} {p pos : Pos} {e : Expr} {es : List Expr} {t : TA}
theorem pe_has (h : Has X.prog X.w X.K X.mg X.base k x ps sp) (hr : Room k X.A) (ha : PA X (e :: es) t) (hg : Gl X x := by rfl) (hdb : (x == ("__debug__" : Str)) = false := by decide +kernel)
  (he : starEach (e :: es) X.env = (false, eval e X.env) :: starEach es X.env := by rfl) (hpl : (backTo pos (starEach es X.env)).any (·.1) = false := by rfl) :
  PE X (.Call (.Name x p) (e :: es) [] pos) (tCall sp [] E0 t) := by
 obtain ⟨f, fd, F, b, kp, m⟩ := h
 exact pe_call F hr hg m kp b .nil pass0 ha hdb he hpl
end
theorem lc_gen {J : It} {fr : St} {tc : TT} {te : TE} {D : Addr} {H1 : Hp} {Q : Hp → Prop} (n : Nat) (item : Nat → V) (P : Nat → List V → Prop) (hn : n < sizeLine) (hD : H1 D = none)
  (hgo : ∀ i H, i < n → Same H1 H → J.go i H) (hyld : ∀ i H x H', i < n → Same H1 H → J.yld i H x H' → H' = H ∧ x = item i) (hstop : ∀ H, Same H1 H → J.stop n H)
  (h0 : P 0 [])
  (step : ∀ i ys H (G : Hp → Prop) (K' : V → Hp → Prop), i < n → P i ys → ys.length ≤ i → Same H1 H → (∀ H3, Same H H3 → P (i + 1) ys → G H3) → (∀ y H4, Same H H4 → P (i + 1) (ys ++ [y]) → K' y H4) → tc ([some (item i)] ++ fr) H fun b H3 => if b = true then te ([some (item i)] ++ fr) H3 K' else G H3)
  (done : ∀ ys H, P n ys → ys.length ≤ n → Same H1 H → H D = some (.lst ys) → Q H) : LC 1 fr (gName 0) tc te J D H1 Q := by
 refine ⟨fun i m H => m = n - i ∧ i ≤ n ∧ ∃ ys, H D = some (.lst ys) ∧ P i ys ∧ ys.length ≤ i ∧ Same H1 H, ⟨n, by simp, Nat.zero_le _, [], upd_same, h0, Nat.le_refl _, same_new hD _⟩, ?_⟩
 rintro i m H ⟨rfl, hi, ys, hys, hP, hl, hS⟩
 by_cases hlt : i < n
 ·refine .inr ⟨hgo i H hlt hS, fun τ x H' hτ hy => ?_⟩
  obtain ⟨e1, e2⟩ := hyld i H x H' hlt hS hy
  subst e1 e2
  obtain ⟨a, rfl⟩ : ∃ a, τ = [a] := List.length_eq_one_iff.mp hτ
  refine ⟨⟨[some (item i)], rfl, rfl⟩, step i ys H' (fun H3 => ∃ m', m' < n - i ∧ m' = n - (i + 1) ∧ i + 1 ≤ n ∧ ∃ ys, H3 D = some (.lst ys) ∧ P (i + 1) ys ∧ ys.length ≤ i + 1 ∧ Same H1 H3)
   (fun y H4 => ∃ zs, H4 D = some (.lst zs) ∧ zs.length < sizeLine ∧ ∃ m', m' < n - i ∧ m' = n - (i + 1) ∧ i + 1 ≤ n ∧ ∃ ys, upd H4 D (.lst (zs ++ [y])) D = some (.lst ys) ∧ P (i + 1) ys ∧ ys.length ≤ i + 1 ∧ Same H1 (upd H4 D (.lst (zs ++ [y])))) hlt hP hl hS (fun H3 q1 q2 => ?_) (fun y H4 q1 q2 => ?_)⟩
  ·exact ⟨n - (i + 1), by omega, rfl, hlt, ys, q1 _ _ hys, q2, Nat.le_succ_of_le hl, hS.trans q1⟩
  ·refine ⟨ys, q1 _ _ hys, by omega, n - (i + 1), by omega, rfl, hlt, ys ++ [y], upd_same, q2, ?_, (hS.trans q1).upd hD _⟩
   rw [List.length_append, List.length_singleton]
   omega
 ·have e : i = n := by omega
  subst e
  exact .inl ⟨hstop H hS, done ys H hP hl hS hys⟩
theorem lc_list {K : PySem.W.Frag} {a : Addr} {xs : List V} {fr : St} {tc : TT} {te : TE} {D : Addr} {H1 : Hp} {Q : Hp → Prop} (P : Nat → List V → Prop) (hS : SqL K H1 a xs) (hn : xs.length < sizeLine) (hD : H1 D = none) (h0 : P 0 [])
  (step : ∀ i x ys H (G : Hp → Prop) (K' : V → Hp → Prop), xs[i]? = some x → P i ys → ys.length ≤ i → Same H1 H → (∀ H3, Same H H3 → P (i + 1) ys → G H3) → (∀ y H4, Same H H4 → P (i + 1) (ys ++ [y]) → K' y H4) → tc ([some x] ++ fr) H fun b H3 => if b = true then te ([some x] ++ fr) H3 K' else G H3)
  (done : ∀ ys H, P xs.length ys → ys.length ≤ xs.length → Same H1 H → H D = some (.lst ys) → Q H) : LC 1 fr (gName 0) tc te (Itl K a) D H1 Q := by
 have at' : ∀ i, i < xs.length → xs[i]? = some (xs.getD i .non) := fun i hi => by
  rw [List.getD_eq_getElem?_getD, List.getElem?_eq_getElem hi]
  rfl
 exact lc_gen xs.length (fun i => xs.getD i .non) P hn hD (fun i H hi hs => ⟨xs, _, hs.seq hS, at' i hi⟩)
  (fun i H x H' hi hs hy => ⟨hy.1, Option.some.inj ((hy.2 xs (hs.seq hS)).symm.trans (at' i hi))⟩) (fun H hs => ⟨xs, hs.seq hS, Nat.le_refl _⟩) h0
  (fun i ys H G K' hi hp hl hs hG hK => step i _ ys H G K' (at' i hi) hp hl hs hG hK) done
theorem lc_str {z : Str} {fr : St} {tc : TT} {te : TE} {D : Addr} {H1 : Hp} {Q : Hp → Prop} (P : Nat → List V → Prop) (hn : z.length < sizeLine) (hD : H1 D = none) (h0 : P 0 [])
  (step : ∀ i c ys H (G : Hp → Prop) (K' : V → Hp → Prop), z.cps.toList[i]? = some c → P i ys → ys.length ≤ i → Same H1 H → (∀ H3, Same H H3 → P (i + 1) ys → G H3) → (∀ y H4, Same H H4 → P (i + 1) (ys ++ [y]) → K' y H4) → tc ([some (.str ⟨#[c]⟩)] ++ fr) H fun b H3 => if b = true then te ([some (.str ⟨#[c]⟩)] ++ fr) H3 K' else G H3)
  (done : ∀ ys H, P z.length ys → ys.length ≤ z.length → Same H1 H → H D = some (.lst ys) → Q H) : LC 1 fr (gName 0) tc te (Its z) D H1 Q := by
 have at' : ∀ i, i < z.length → z.cps[i]? = some (z.cps.getD i 0) := fun i hi => by
  have hi' : i < z.cps.size := hi
  rw [Array.getElem?_eq_getElem hi', Array.getD_eq_getD_getElem?, Array.getElem?_eq_getElem hi']
  rfl
 refine lc_gen z.length (fun i => .str ⟨#[z.cps.getD i 0]⟩) P hn hD (fun i H hi _ => hi) (fun i H x H' hi hs hy => ?_) (fun H hs => rfl) h0
  (fun i ys H G K' hi hp hl hs hG hK => step i _ ys H G K' (by rw [Array.getElem?_toList]; exact at' i hi) hp hl hs hG hK) done
 obtain ⟨e, c, hc, rfl⟩ := hy
 rw [at' i hi] at hc
 cases hc
 exact ⟨e, rfl⟩
theorem lc_range {lo : Int} {n : Nat} {fr : St} {tc : TT} {te : TE} {D : Addr} {H1 : Hp} {Q : Hp → Prop} (P : Nat → List V → Prop) (hn : n < sizeLine) (hD : H1 D = none) (h0 : P 0 [])
  (step : ∀ (i : Nat) ys H (G : Hp → Prop) (K' : V → Hp → Prop), i < n → P i ys → ys.length ≤ i → Same H1 H → (∀ H3, Same H H3 → P (i + 1) ys → G H3) → (∀ y H4, Same H H4 → P (i + 1) (ys ++ [y]) → K' y H4) → tc ([some (.int (lo + i))] ++ fr) H fun b H3 => if b = true then te ([some (.int (lo + i))] ++ fr) H3 K' else G H3)
  (done : ∀ ys H, P n ys → ys.length ≤ n → Same H1 H → H D = some (.lst ys) → Q H) : LC 1 fr (gName 0) tc te (Itr lo n) D H1 Q :=
 lc_gen n (fun i => .int (lo + i)) P hn hD (fun i H hi _ => hi) (fun i H x H' hi hs hy => hy) (fun H hs => Nat.le_refl _) h0 step done
end L2
namespace L2
open PySem PySem.Spec PyProof.Rows
section
variable {X : Cx} {x : Str} {pos : Pos}
theorem pe_gstr {z : Str} {t : Tok} (hm : X.mg x = some (.str z t)) (hg : Gl X x := by rfl) (hd : (x == ("__debug__" : Str)) = false := by decide +kernel) : PE X (.Name x pos) (tC (.str z)) := pe_glob hg hm ⟨t, rfl⟩ hd
theorem pe_gint {z : Int} {t : Tok} (hm : X.mg x = some (.int z t)) (hg : Gl X x := by rfl) (hd : (x == ("__debug__" : Str)) = false := by decide +kernel) : PE X (.Name x pos) (tC (.int z)) := pe_glob hg hm ⟨t, rfl⟩ hd
theorem pe_gref {a : Addr} (hm : X.mg x = some (.ref a)) (hg : Gl X x := by rfl) (hd : (x == ("__debug__" : Str)) = false := by decide +kernel) : PE X (.Name x pos) (tC (.ref a)) := pe_glob hg hm rfl hd
theorem pe_gty {T : String} (hm : X.mg x = none) (hv : bootBuiltins x = some (.type T)) (hg : Gl X x := by rfl) (hn : x ≠ "__name__" := by decide +kernel) (hd : (x == ("__debug__" : Str)) = false := by decide +kernel) : PE X (.Name x pos) (tC (.ty T)) := pe_bltn hg hm hv rfl hn hd
end
theorem b_len : bootBuiltins "len" = some (.builtin "len") := by decide +kernel
theorem b_all : bootBuiltins "all" = some (.builtin "all") := by decide +kernel
theorem b_sum : bootBuiltins "sum" = some (.builtin "sum") := by decide +kernel
theorem b_isinstance : bootBuiltins "isinstance" = some (.builtin "isinstance") := by decide +kernel
theorem b_int : bootBuiltins "int" = some (.type "int") := by decide +kernel
theorem b_str : bootBuiltins "str" = some (.type "str") := by decide +kernel
theorem b_list : bootBuiltins "list" = some (.type "list") := by decide +kernel
theorem b_tuple : bootBuiltins "tuple" = some (.type "tuple") := by decide +kernel
end L2
namespace L2
open PySem PySem.Spec PyProof.Rows
theorem minusS : ("-" : Str) = ⟨#[45]⟩ := by decide +kernel
theorem nullS : ("0" : Str) = ⟨#[48]⟩ := by decide +kernel
theorem emptyS : ("" : Str) = ⟨#[]⟩ := by decide +kernel
theorem mnullS : ("-0" : Str) = ⟨#[45, 48]⟩ := by decide +kernel
theorem str_eq {a b : Str} : a = b ↔ a.cps.toList = b.cps.toList := by
 constructor
 ·intro e; rw [e]
 ·intro e
  cases a; cases b
  exact congrArg Str.mk (Array.toList_inj.mp e)
theorem len_list (z : Str) : z.length = z.cps.toList.length := by
 show z.cps.size = _
 rw [Array.length_toList]
theorem starts1 (z : Str) : Txt.startswith z ("-" : Str) = decide (z.cps.toList.head? = some 45) := by
 rw [minusS]
 unfold Txt.startswith
 rw [Bool.eq_iff_iff, Bool.and_eq_true, decide_eq_true_eq, decide_eq_true_eq, StrLaws.subAt_one z 45 0, List.head?_eq_getElem?]
theorem cut1 (z : Str) : (cutS z (some 1) none).cps.toList = z.cps.toList.tail := by
 unfold cutS
 show ((z.cps.toList.drop (HT.sIx z.length 0 (some 1))).take (z.length - HT.sIx z.length 0 (some 1))) = z.cps.toList.tail
 have e : HT.sIx z.length 0 (some 1) = min 1 z.length := by
  show (if (1 : Int) < 0 then ((1 : Int) + (z.length : Int)).toNat else min (1 : Int).toNat z.length) = _
  rw [if_neg (by decide)]
  rfl
 rw [e]
 have hl := len_list z
 cases h : z.cps.toList with
 | nil => rw [h] at hl; simp
 | cons c r =>
  rw [h] at hl
  have h1 : min 1 z.length = 1 := by rw [hl, List.length_cons]; omega
  rw [h1, List.drop_one, List.tail_cons, hl, List.length_cons, Nat.add_sub_cancel, List.take_length]
theorem cutTo1 (z : Str) : cutS z none (some 1) = ("-" : Str) ↔ z.cps.toList.head? = some 45 := by
 rw [minusS, str_eq]
 unfold cutS
 show ((z.cps.toList.drop 0).take (HT.sIx z.length z.length (some 1) - 0)) = [45] ↔ _
 have e : HT.sIx z.length z.length (some 1) = min 1 z.length := by
  show (if (1 : Int) < 0 then ((1 : Int) + (z.length : Int)).toNat else min (1 : Int).toNat z.length) = _
  rw [if_neg (by decide)]
  rfl
 rw [e]
 have hl := len_list z
 cases h : z.cps.toList with
 | nil => rw [h] at hl; simp
 | cons c r =>
  rw [h] at hl
  have h1 : min 1 z.length = 1 := by rw [hl, List.length_cons]; omega
  rw [h1]
  simp
theorem filter_all {p : Nat → Bool} (l : List Nat) : decide ((l.filter p).length = l.length) = l.all p := by
 rw [Bool.eq_iff_iff, decide_eq_true_eq, List.all_eq_true]
 exact ⟨fun h => List.length_filter_eq_length_iff.mp h, fun h => List.length_filter_eq_length_iff.mpr h⟩
theorem mem_cut {z : Str} {lo hi : Option Int} {c : Nat} (h : c ∈ (cutS z lo hi).cps.toList) : c ∈ z.cps.toList := by
 unfold cutS at h
 exact List.mem_of_mem_drop (List.mem_of_mem_take (by simpa using h))
theorem cxOf_K {CX : CXT} {P : Program} {w : World} {K : PySem.W.Frag} {mg : Str → Option Value} {base : Heap} {N : List Str} {qual : Str} {scope : Scope} {f : Addr} {cd : Value} {A : Around} {outer : List Env} {s : Shared} {H : Hp} {E : XK} : (cxOf CX P w K mg base N qual scope f cd A outer s H E).K = K := rfl
theorem nox_K {X : Cx} : X.nox.K = X.K := rfl
end L2
namespace L2
open PySem PySem.Spec PyProof.Rows
theorem slen (z : Str) : z.length = z.cps.toList.length := len_list z
inductive CsOk : List Expr → List V → Prop where
 | nil : CsOk [] []
 | str {x : Str} {j : Nat} {pos : Pos} {es : List Expr} {vs : List V} (h : CsOk es vs) : CsOk (.Constant (.str x) j pos :: es) (.str x :: vs)
 | int {i : Int} {j : Nat} {pos : Pos} {es : List Expr} {vs : List V} (h : CsOk es vs) : CsOk (.Constant (.int i) j pos :: es) (.int i :: vs)
def tVals (vs : List V) : TA := fun _ H Q => Q vs H
theorem pa_const {X : Cx} {es : List Expr} {vs : List V} (h : CsOk es vs) : PA X es (tVals vs) := by
 induction h with
 | nil => exact pa_nil
 | str _ ih => exact pa_cons pe_str ih
 | int _ ih => exact pa_cons pe_int ih
end L2
namespace L2
open PySem PySem.Spec PyProof.Rows
def ForW (g : TG) (tb : TS) (D : Ends) (J : It) (σ : St) (H1 : Hp) : Prop := ∃ W : Nat → Nat → St → Hp → Prop, (∃ m, W 0 m σ H1) ∧ ∀ i m σ H, W i m σ H →
 (J.stop i H ∧ D.nx σ H) ∨ (J.go i H ∧ ∃ N : St → Hp → Prop, (∀ σ' H', N σ' H' → ∃ m', m' < m ∧ W (i + 1) m' σ' H') ∧ ∀ x H', J.yld i H x H' → g x σ H' fun σ2 H2 => tb { D with nx := N, ct := N, bk := D.nx } σ2 H2)
theorem tFor_eq (wi : TI) (g : TG) (tb : TS) (D : Ends) (σ : St) (H : Hp) : tFor wi g tb D σ H = wi σ H fun J H1 => ForW g tb D J σ H1 := rfl
section
variable {K : PySem.W.Frag} {a : Addr} {xs : List V} {g : TG} {tb : TS} {D : Ends} {σ : St} {H : Hp}
theorem forW_list (Pv : Nat → St → Hp → Prop) (h0 : Pv 0 σ H) (hl : ∀ i σ H, i ≤ xs.length → Pv i σ H → SqL K H a xs)
  (hs : ∀ i x σ H, xs[i]? = some x → Pv i σ H → g x σ H fun σ2 H2 => tb { D with nx := Pv (i + 1), ct := Pv (i + 1), bk := D.nx } σ2 H2) (hd : ∀ σ H, Pv xs.length σ H → D.nx σ H) : ForW g tb D (Itl K a) σ H := for_list Pv h0 hl hs hd
theorem forW_tup (Pv : Nat → St → Hp → Prop) (h0 : Pv 0 σ H) (hl : ∀ i σ H, i ≤ xs.length → Pv i σ H → SqT K H a xs)
  (hs : ∀ i x σ H, xs[i]? = some x → Pv i σ H → g x σ H fun σ2 H2 => tb { D with nx := Pv (i + 1), ct := Pv (i + 1), bk := D.nx } σ2 H2) (hd : ∀ σ H, Pv xs.length σ H → D.nx σ H) : ForW g tb D (Itt K a) σ H := for_tup Pv h0 hl hs hd
theorem forW_range {lo : Int} {n : Nat} (Pv : Nat → St → Hp → Prop) (h0 : Pv 0 σ H)
  (hs : ∀ i σ H, i < n → Pv i σ H → g (.int (lo + i)) σ H fun σ2 H2 => tb { D with nx := Pv (i + 1), ct := Pv (i + 1), bk := D.nx } σ2 H2) (hd : ∀ σ H, Pv n σ H → D.nx σ H) : ForW g tb D (Itr lo n) σ H := for_range Pv h0 hs hd
end
theorem mem_cutV {xs : List V} {lo hi : Option Int} {v : V} (h : v ∈ cutV xs lo hi) : v ∈ xs := List.mem_of_mem_drop (List.mem_of_mem_take h)
end L2
namespace L2
open PySem PySem.Spec PyProof.Rows Builtin Builtin.Str
def ModD (w : World) (K : PySem.W.Frag) (a : Addr) (kvs : List (Key × V)) : Prop :=
 (a == sysModules) = false ∧ ∀ (P : Program) (h : Heap), K.In h → ∃ vs, KV kvs vs ∧ h.DictOf (mixKind P w) a vs
abbrev SIRow := Int × Str × Tok × Int × Tok
noncomputable def siE (e : SIRow) : DictEntry := ⟨e.1, .str e.2.1 e.2.2.1, .int e.2.2.2.1 e.2.2.2.2⟩
theorem si_pairs (P : Program) (w : World) : ∀ es : List SIRow, Pairs (mixKind P w) (es.map siE) (es.map fun e => ((Sum.inr e.2.1 : Key), Value.int e.2.2.2.1 e.2.2.2.2))
 | [] => .nil
 | e :: r => .cons (mixKind_str P w e.2.1 e.2.2.1) rfl (si_pairs P w r)
theorem si_kv : ∀ es : List SIRow, KV (es.map fun e => ((Sum.inr e.2.1 : Key), V.int e.2.2.2.1)) (es.map fun e => ((Sum.inr e.2.1 : Key), Value.int e.2.2.2.1 e.2.2.2.2))
 | [] => .nil
 | e :: r => .cons ⟨rfl, ⟨_, rfl⟩⟩ (si_kv r)
theorem modD_mk {w : World} {K : PySem.W.Frag} {a : Addr} {ep : Nat} (es : List SIRow) (hl : K.lookup a = some ⟨.type "dict", none, .dict (es.map siE).toArray ep, #[]⟩) (ha : (a == sysModules) = false)
  (hh : ∀ e ∈ es, e.1 = hashStr w e.2.1) (nd : (es.map fun e => (Sum.inr e.2.1 : Key)).Nodup) : ModD w K a (es.map fun e => (Sum.inr e.2.1, V.int e.2.2.2.1)) := by
 refine ⟨ha, fun P h hk => ⟨_, si_kv es, _, _, ep, hk a _ hl, ⟨rfl, rfl, rfl⟩, rfl, fun e he => ?_, by simpa using si_pairs P w es, ?_⟩⟩
 ·have he' : e ∈ es.map siE := List.mem_toArray.mp he
  obtain ⟨r, hr, rfl⟩ := List.mem_map.mp he'
  exact ⟨Sum.inr r.2.1, mixKind_str P w r.2.1 r.2.2.1, hh r hr⟩
 ·rw [List.map_map]
  exact nd
section
variable {X : Cx} {a : Addr} {kvs : List (Key × V)}
theorem op_in_mod (md : ModD X.w X.K a kvs) : OpR X (compareOp .In) (fun x y H Q => ∃ k, x = kV k ∧ y = .ref a ∧ Q (.bl (valV kvs k).isSome) H) := by
 intro pins s σ H x y v u Q I rx ry h
 obtain ⟨k, rfl, rfl, q⟩ := h
 cases (show u = Value.ref a from ry)
 obtain ⟨vs, rel, dd⟩ := md.2 X.prog _ I.kIn
 refine wpAny_in_of (kV_is rx) md.1 dd.mapOf ?_
 rw [← (rel.val k).isSome_eq]
 exact ⟨.bl _, H, I.tok _, rfl, q⟩
def tMGet2 (kvs : List (Key × V)) (ty tx : TE) : TE := fun σ H Q => ty σ H fun y H2 => tx σ H2 fun z H3 => ∃ k, y = kV k ∧ Q ((valV kvs k).getD z) H3
theorem pe_mget2 {o e f : Expr} {apos cpos : Pos} {ty tx : TE} (ho : PE X o (tC (.ref a))) (md : ModD X.w X.K a kvs) (he : PE X e ty) (hf : PE X f tx) (m : M2 X o "get" apos e f cpos) : PE X (.Call (.Attribute o "get" apos) [e, f] [] cpos) (tMGet2 kvs ty tx) := by
 intro pins s σ H Q I h
 refine wpAny_Call_method m.base m.few m.line PySem.F.plainAttrs_dict PySem.F.slot_dict_get PySem.F.type_dict_get (thn (ho pins s σ H (fun x H1 => x = .ref a ∧ H1 = H) I ⟨rfl, rfl⟩) fun u s1 ⟨x, H1, I1, rx, ex, eH⟩ => ?_)
 subst ex eH
 obtain rfl : u = Value.ref a := rx
 obtain ⟨vs, rel, dd⟩ := md.2 X.prog _ I1.kIn
 refine ⟨dd.typeIs, fun b q => ?_, ?_⟩
 ·cases q
  obtain ⟨ob, _, _, h1, h2, _⟩ := dd
  exact ⟨ob, h1, h2.2.1⟩
 rw [m.trees]
 refine Calls.callWith_builtin rfl (Calls.evalArgs_plain (Calls.spliced_cons (thn (he pins s1 σ H1 _ I1 h) fun iv s2 ⟨y, H2, I2, ry, q2⟩ =>
  Calls.spliced_cons (thn (hf pins s2 σ H2 _ I2 q2) fun fv s3 ⟨z, H3, I3, rz, k, ek, q3⟩ => Calls.spliced_nil ?_))))
 subst ek
 obtain ⟨vs', rel', dd'⟩ := md.2 X.prog _ I3.kIn
 refine call_meetsIn PySem.F.slot_dict_get dd'.typeIs PySem.F.entry_dict_get (PySem.F.args_dict_get_3 _ _ _) (meets_dict_get_default (mixKind X.prog X.w) a (kV_is ry) md.1 fv) ⟨_, dd'.mapOf, ⟨_, H3, I3.tok _, ?_, q3⟩⟩
 exact (rel'.val k).getD rz
theorem call_sum_list (hc : X.calm = true) : CallR X (.builtin "sum") (fun xs H Q => ∃ p ns, xs = [.ref p] ∧ SqL X.K H p (List.map V.int ns) ∧ Q (.int ns.sum) H) := by
 intro pins s σ H xs us Q I r h
 obtain ⟨p, ns, rfl, hq, q⟩ := h
 obtain ⟨u, rfl, rx⟩ := vals1 r
 cases rx
 obtain ⟨its, rv, pl, hz⟩ := I.list hq
 have hi : IntsAre its ns := L2.intsAre_of rv
 obtain ⟨ys, hy⟩ := hi.allInts.items
 refine sum_intListG (I.ok.hd hc) (by rw [← hy]; exact pl.isList) fun h' tk t' hk => ⟨.int ns.sum, H, I.kept hk, ⟨t', ?_⟩, q⟩
 have e : ys.toList.map (·.1) = ns := by
  rw [← nums_intItems, ← hy]
  exact hi.numsOf
 rw [preSum_eq, List.take_of_length_le (by simp), e]
noncomputable def textV : V → Str
 | .str z => z
 | .int i => (toString i : String)
 | _ => Str.empty
def wordV : V → Prop
 | .str _ => True
 | .int i => i.natAbs.log2 < 1920
 | _ => False
theorem call_str_any : CallR X (.type "str") (fun xs H Q => ∃ x, xs = [x] ∧ wordV x ∧ Q (.str (textV x)) H) := by
 intro pins s σ H xs us Q I r h
 obtain ⟨x, rfl, hw, q⟩ := h
 obtain ⟨u, rfl, rx⟩ := vals1 r
 cases x with
 | str z => obtain ⟨t, rfl⟩ := rx; exact PySem.P.str_of_str ⟨.str z, H, I, ⟨t, rfl⟩, q⟩
 | int i => obtain ⟨t, rfl⟩ := rx; exact PySem.P.str_of_int hw ⟨.str _, H, I.tok _, ⟨_, rfl⟩, q⟩
 | _ => exact hw.elim
theorem call_int_str : CallR X (.type "int") (fun xs H Q => ∃ z n, xs = [.str z] ∧ PySem.intText? z = some n ∧ z.length ≤ 640 ∧ Q (.int n) H) := by
 intro pins s σ H xs us Q I r h
 obtain ⟨z, n, rfl, hn, hl, q⟩ := h
 obtain ⟨u, rfl, rx⟩ := vals1 r
 obtain ⟨t, rfl⟩ := rx
 exact PySem.W.KIN.call_text hn hl ⟨.int n, H, I.tok _, ⟨_, rfl⟩, q⟩
theorem split_at {prog : Program} {w : World} {A : Around} {E : Value → Shared → Prop} {s : Shared} {x y : Str} {t u : Tok} {Q : Value → Shared → Prop} (hy : (y.length == 0) = false) (hx : x.length ≤ 1000000)
  (hq : ∀ (l : List (Str × Tok)) (k : Nat), l.map (·.1) = Txt.split x y → Q (.ref s.heap.objs.size) { s with heap := s.heap.push { cls := .type "list", data := .seq (strValues l).toArray }, toks := k }) :
  wpAny (model prog w) A (call (.builtin "str.split") [.str x t, .str y u]) Q E s := by
 have hz := sizeLine_eq
 cases h1 : (decide (x.length < y.length) || decide (Builtin.Str.strKind x < Builtin.Str.strKind y))
 ·cases hf : (occurrences x y 0 x.length (x.length + 1)).isEmpty
  ·refine call_meets F.slot_str_split (typeIs_str _ _ _) F.entry_str_split (F.args_str_split_2 _ _) (meets_str_split_sep x y t u h1 hy hf (by omega) ?_) ?_
   ·rw [length_partsBetween]
    have := StrLaws.occ_length_le x y 0 x.length (x.length + 1)
    omega
   show wants Q E _ { s with toks := _, heap := s.heap.push { cls := .type "list", data := .seq (strsFrom s.toks (partsBetween x (occurrences x y 0 x.length (x.length + 1)) y.length)).toArray } }
   rw [strsFrom_eq]
   exact hq (numbered s.toks _) _ ((numbered_texts _ _).trans ((if_neg (ne_true_of_eq_false h1)).trans (if_neg (ne_true_of_eq_false hf))).symm)
  ·exact call_meets F.slot_str_split (typeIs_str _ _ _) F.entry_str_split (F.args_str_split_2 _ _) (meets_str_split_not_found x y t u h1 hy hf)
    (hq [(x, t)] _ ((if_neg (ne_true_of_eq_false h1)).trans (if_pos hf)).symm)
 ·exact call_meets F.slot_str_split (typeIs_str _ _ _) F.entry_str_split (F.args_str_split_2 _ _) (meets_str_split_cannot_occur x y t u h1)
   (hq [(x, t)] _ (if_pos h1).symm)
theorem vals_strs : ∀ l : List (Str × Tok), Vals ((l.map (·.1)).map V.str) (strValues l)
 | [] => .nil
 | (x, t) :: r => .cons ⟨t, rfl⟩ (vals_strs r)
theorem split_len (x y : Str) : (Txt.split x y).length ≤ x.length + 2 := by
 unfold Txt.split
 split
 ·show 1 ≤ _; omega
 ·split
  ·show 1 ≤ _; omega
  ·rw [length_partsBetween]
   have := StrLaws.occ_length_le x y 0 x.length (x.length + 1)
   omega
theorem mt_split : MtR X "str.split" (fun x xs H Q => ∃ z y, x = .str z ∧ xs = [.str y] ∧ (y.length == 0) = false ∧ z.length ≤ 1000000 ∧ ∀ p, H p = none → Q (.ref p) (upd H p (.lst ((Txt.split z y).map V.str)))) := by
 intro pins s σ H x xs v us Q I rx rv h
 obtain ⟨z, y, rfl, rfl, hy, hz, q⟩ := h
 obtain ⟨t, rfl⟩ := rx
 obtain ⟨u, rfl, ru⟩ := rv.one
 obtain ⟨t', rfl⟩ := ru
 refine split_at hy hz fun l k hl => ?_
 have hs := sizeLine_eq
 have hn := split_len z y
 refine ⟨.ref s.heap.objs.size, _, I.lnew (t' := k) (ys := (Txt.split z y).map V.str) (by rw [← hl]; exact vals_strs l) (by rw [List.length_map]; omega), rfl, q _ I.fresh⟩
end
end L2
namespace L2
open PySem PySem.Spec PyProof.Rows
section
variable {X : Cx} (K : PySem.W.Frag) (hK : X.K = K)
include hK
end
end L2
namespace L2
open PySem PySem.Spec PyProof.Rows
def tMid (t u : TS) : TS := fun D σ H => ∃ M : St → Hp → Prop, t { D with nx := M } σ H ∧ ∀ σ' H', M σ' H' → u D σ' H'
theorem tMid_of {t u : TS} {D : Ends} {σ : St} {H : Hp} (M : St → Hp → Prop) (h1 : t { D with nx := M } σ H) (h2 : ∀ σ' H', M σ' H' → u D σ' H') : tMid t u D σ H := ⟨M, h1, h2⟩
section
variable {X : Cx} {st : Stmt} {rest : List Stmt} {t u : TS}
theorem pss_mid (h1 : PS X st t) (h2 : PSs X rest u) : PSs X (st :: rest) (tMid t u) := by
 intro pins s σ H D I h
 obtain ⟨M, h, hM⟩ := h
 refine wpAny_execs_cons (thn (h1 pins s σ H { D with nx := M } I h) fun f s1 q => ?_)
 cases f with
 | next =>
  obtain ⟨σ', H', I', q⟩ := q
  exact h2 pins s1 σ' H' D I' (hM σ' H' q)
 | ret v => exact q
 | brk => exact q
 | cont => exact q
end
theorem tyV_str {K : PySem.W.Frag} {z : Str} {H : Hp} : tyV K "str" (.str z) H = True := eq_true rfl
theorem tyV_list {K : PySem.W.Frag} {a : Addr} {xs : List V} {H : Hp} (h : H a = some (.lst xs)) : tyV K "list" (.ref a) H := .inl ⟨rfl, xs, SqL.of h⟩
theorem rIxL_ok {K : PySem.W.Frag} {H : Hp} {t : Addr} {xs : List V} {i : Int} {v : V} {Q : VK} (h : H t = some (.lst xs)) (hv : atI xs i = some v) (q : Q v H) : rIxL K (.ref t) (.int i) H Q := ⟨t, xs, i, v, rfl, rfl, SqL.of h, hv, q⟩
theorem rCat_ok {H : Hp} {a b : Addr} {xs ys : List V} {Q : VK} (h1 : H a = some (.lst xs)) (h2 : H b = some (.lst ys)) (hz : xs.length + ys.length ≤ sizeLine) (q : ∀ p, H p = none → Q (.ref p) (upd H p (.lst (xs ++ ys)))) : rCat (.ref a) (.ref b) H Q := ⟨a, b, xs, ys, rfl, rfl, h1, h2, hz, q⟩
end L2
namespace HT
open PySem PySem.Spec PyProof.Rows L2
section
variable {prog : Program} {w : World} {A : Around} {E : Value → Shared → Prop} {s : Shared}
end
end HT
namespace L2
open PySem PySem.Spec PyProof.Rows
section
variable {X : Cx}
end
section
variable {X : Cx} {k : Nat} {ps : List Str} {sp : Sp} {x : Str} {p pos : Pos} {e : Expr} {es : List Expr} {t : TA}
def FnV (P : Program) (w : World) (K : PySem.W.Frag) (mg : Str → Option Value) (base : Heap) (k : Nat) (ps : List Str) (sp : Sp) (v : V) : Prop :=
 ∃ (f : Addr) (fd : FuncData), v = .ref f ∧ FnOk P w K mg base CX0 k f fd ps sp ∧ Binds K fd ps [] ∧ PySem.W.keepIn K (.ref f) = true
def tCallV (P : Program) (w : World) (K : PySem.W.Frag) (mg : Str → Option Value) (base : Heap) (k : Nat) (ps : List Str) (i : Nat) (t : TA) : TE := fun σ H Q => ∃ v sp, σ[i]? = some (some v) ∧ FnV P w K mg base k ps sp v ∧ t σ H fun vs H1 => sp vs H1 Q E0
end
end L2
namespace L2
open PySem PySem.Spec PyProof.Rows
noncomputable def Itv (K : PySem.W.Frag) (a : Addr) (n : Nat) : It :=
 ⟨fun i H => i < n ∧ ∃ xs, SqL K H a xs ∧ xs.length = n, fun i H x H' => H' = H ∧ ∀ xs, SqL K H a xs → xs[n - 1 - i]? = some x, fun i H => i = n⟩
def iRev (K : PySem.W.Frag) (ta : TA) : TI := fun σ H R => ta σ H fun vs H1 => ∃ a xs, vs = [.ref a] ∧ SqL K H1 a xs ∧ R (Itv K a xs.length) H1
section
variable {X : Cx} {tg : Expr}
end
end L2
namespace L2
open PySem PySem.Spec PyProof.Rows
section
variable {CX : CXT} {P : Program} {w : World} {K : PySem.W.Frag} {mg : Str → Option Value} {base : Heap} {N : List Str} {qual : Str} {scope : Scope} {f : Addr} {cd : Value} {A : Around} {outer : List Env} {s : Shared} {H : Hp} {E : XK}
theorem cxOf_P : (cxOf CX P w K mg base N qual scope f cd A outer s H E).prog = P := rfl
theorem cxOf_w : (cxOf CX P w K mg base N qual scope f cd A outer s H E).w = w := rfl
theorem cxOf_mg : (cxOf CX P w K mg base N qual scope f cd A outer s H E).mg = mg := rfl
theorem cxOf_b : (cxOf CX P w K mg base N qual scope f cd A outer s H E).base = base := rfl
end
end L2
namespace Pc
noncomputable def pend : Nat → List Nat → Option Nat
 | l, [] => some l
 | 0, _ :: _ => none
 | l + 1, a :: r => pend (l + a) r
theorem pend_app : ∀ (xs ys : List Nat) (l : Nat), pend l (xs ++ ys) = (pend l xs).bind fun m => pend m ys
 | [], ys, l => by cases l <;> rfl
 | a :: r, ys, 0 => rfl
 | a :: r, ys, l + 1 => by
  show pend (l + a) (r ++ ys) = (pend (l + a) r).bind _
  exact pend_app r ys (l + a)
theorem pend_one (l a : Nat) (h : 0 < l) : pend l [a] = some (l - 1 + a) := by
 cases l with
 | zero => omega
 | succ l => show some (l + a) = some (l + 1 - 1 + a); rw [Nat.add_sub_cancel]
theorem pend_snoc (xs : List Nat) (a l d : Nat) (h : pend l xs = some d) (hd : 0 < d) : pend l (xs ++ [a]) = some (d - 1 + a) := by
 rw [pend_app, h]
 exact pend_one d a hd
end Pc
namespace Pc
end Pc
namespace Pc
open PySem PySem.Spec L2 PyProof.Rows
noncomputable abbrev letS : Str := "abcdefghijklmnopqrstuvwxyz"
noncomputable abbrev figS : Str := "0123456789"
noncomputable def keptV : List V := [.str "add", .str "sub", .str "mul", .str "neg", .str "any", .str "var", .str "put", .str "load", .str "out"]
noncomputable def madeB (z y : Str) : Bool := z.cps.toList.all fun c => decide (c ∈ y.cps.toList)
noncomputable def nameB (z : Str) : Bool := decide (1 ≤ z.length) && (decide (z.length ≤ 8) && (madeB z letS && !inV (.str z) keptV))
noncomputable def figL (l : List Nat) : List Nat := if l.head? = some 45 then l.tail else l
noncomputable def numB (z : Str) : Bool := decide (1 ≤ (figL z.cps.toList).length) && (decide ((figL z.cps.toList).length ≤ 60) && (((figL z.cps.toList).all fun c => decide (c ∈ figS.cps.toList)) && (decide (z.cps.toList = [48]) || decide ((figL z.cps.toList).head? ≠ some 48))))
def spMade : Sp := fun vs H Q _ => ∃ z y, vs = [.str z, .str y] ∧ z.length ≤ 1000 ∧ ∀ H', Same H H' → Q (.bl (madeB z y)) H'
def spName : Sp := fun vs H Q _ => ∃ z, vs = [.str z] ∧ z.length ≤ 1000 ∧ ∀ H', Same H H' → Q (.bl (nameB z)) H'
def spNum : Sp := fun vs H Q _ => ∃ z, vs = [.str z] ∧ z.length ≤ 1000 ∧ ∀ H', Same H H' → Q (.bl (numB z)) H'
theorem big {n : Nat} (h : n ≤ 1000) : n ≤ sizeLine := Nat.le_trans h (by decide)
theorem at0 (l : List Nat) (h : l ≠ []) : ∃ c, atI l 0 = some c ∧ l.head? = some c := by
 cases l with
 | nil => exact absurd rfl h
 | cons a r => exact ⟨a, atI_nat (xs := a :: r) (j := 0) rfl, rfl⟩
theorem one_null (c : Nat) : ((⟨#[c]⟩ : Str) = ("0" : Str)) ↔ c = 48 := by
 rw [nullS, str_eq]
 show [c] = [48] ↔ c = 48
 simp
theorem fig_len (z f : Str) (hf : f.cps.toList = figL z.cps.toList) : f.length = (figL z.cps.toList).length := by rw [slen, hf]
theorem atI_in {α : Type} (l : List α) (k : Int) (h0 : 0 ≤ k) (h1 : k < (l.length : Int)) : ∃ c, atI l k = some c ∧ c ∈ l := by
 have hk : k.toNat < l.length := by omega
 have e : k = ((k.toNat : Nat) : Int) := by omega
 have q : atI l ((k.toNat : Nat) : Int) = some l[k.toNat] := atI_nat (List.getElem?_eq_getElem hk)
 rw [← e] at q
 exact ⟨_, q, List.getElem_mem hk⟩
theorem join_le (sep : Str) (ys : List Str) : (Txt.join sep ys).length ≤ (ys.map (·.length)).sum + ys.length * sep.length := by
 show (Builtin.Str.glued sep ys).length ≤ _
 rw [StrLaws.glued_eq_join]
 exact StrLaws.join_length_le sep ys
theorem sum_ones : ∀ (ys : List Str), (∀ z ∈ ys, z.length = 1) → (ys.map (·.length)).sum = ys.length
 | [], _ => rfl
 | y :: r, h => by
  rw [List.map_cons, List.sum_cons, h y List.mem_cons_self, sum_ones r fun z hz => h z (List.mem_cons_of_mem _ hz), List.length_cons]
  omega
theorem empty_len : (Str.ofString "").length = 0 := by decide +kernel
def Ones (i : Nat) (ys : List V) : Prop := ∃ zs : List Str, ys = zs.map V.str ∧ zs.length = i ∧ ∀ z ∈ zs, z.length = 1
theorem kept_at (i : Int) : ∃ wd : Str, atI keptV (i % 9) = some (.str wd) ∧ wd.length ≤ 4 ∧ asciiS wd := by
 obtain ⟨c, h1, h2⟩ := atI_in keptV (i % 9) (Int.emod_nonneg _ (by decide)) (by show i % 9 < 9; omega)
 have all : ∀ v ∈ keptV, ∃ wd : Str, v = .str wd ∧ wd.length ≤ 4 ∧ (wd.cps.toList.all fun c => decide (c < 128)) = true := by
  intro v hv
  simp only [keptV, List.mem_cons, List.not_mem_nil, or_false] at hv
  rcases hv with rfl | rfl | rfl | rfl | rfl | rfl | rfl | rfl | rfl <;> exact ⟨_, rfl, by decide +kernel, by decide +kernel⟩
 obtain ⟨wd, rfl, hl, ha⟩ := all c h2
 exact ⟨wd, h1, hl, fun c hc => of_decide_eq_true (List.all_eq_true.mp ha c hc)⟩
theorem cut_sum (z : Str) (a : Int) : (cutS z none (some a)).length + (cutS z (some a) none).length ≤ z.length := by
 show ((z.cps.toList.drop 0).take (HT.sIx z.length z.length (some a) - 0)).toArray.size + ((z.cps.toList.drop (HT.sIx z.length 0 (some a))).take (z.length - HT.sIx z.length 0 (some a))).toArray.size ≤ z.length
 have e : HT.sIx z.length z.length (some a) = HT.sIx z.length 0 (some a) := rfl
 rw [e]
 generalize HT.sIx z.length 0 (some a) = k
 have hl := slen z
 simp only [List.size_toArray, List.length_take, List.length_drop]
 omega
def Txts (xs : List V) : Prop := ∀ v ∈ xs, ∃ z : Str, v = .str z ∧ z.length ≤ 1000
theorem ascii_cut {z : Str} (h : asciiS z) (lo hi : Option Int) : asciiS (cutS z lo hi) := fun c hc => h c (mem_cut hc)
theorem upS_len (z : Str) : (upS z).length = z.length := by show (z.cps.map up1).size = z.cps.size; exact Array.size_map ..
theorem one_len (x : Nat) : (⟨#[x]⟩ : Str).length = 1 := rfl
theorem num_fin (z f : Str) (hf : f.cps.toList = figL z.cps.toList) (hfl : f.length ≤ 1000) {Q : VK} {H : Hp} (q : ∀ H', Same H H' → Q (.bl (numB z)) H') :
  f.length ≤ sizeLine ∧ if (f.length : Int) < 1 then Q (.bl false) H else f.length ≤ sizeLine ∧ if 60 < (f.length : Int) then Q (.bl false) H else f.length ≤ 1000 ∧ ∀ H', Same H H' →
   if (!madeB f figS) = true then Q (.bl false) H' else if z = ("0" : Str) then Q (.bl true) H' else f.length ≤ sizeLine ∧ ∃ x, atI f.cps.toList 0 = some x ∧ Q (.bl !decide ((⟨#[x]⟩ : Str) = ("0" : Str))) H' := by
 have el := fig_len z f hf
 refine ⟨big hfl, ite2 (fun c => ?_) fun c => ⟨big hfl, ite2 (fun c2 => ?_) fun c2 => ⟨hfl, fun H' hS => ite2 (fun c3 => ?_) fun c3 => ite2 (fun c4 => ?_) fun c4 => ⟨big hfl, ?_⟩⟩⟩⟩
 ·have e : numB z = false := by unfold numB; rw [decide_eq_false (by omega)]; rfl
  exact e ▸ q H (Same.refl H)
 ·have e : numB z = false := by unfold numB; rw [decide_eq_false (show ¬ (figL z.cps.toList).length ≤ 60 by omega)]; simp
  exact e ▸ q H (Same.refl H)
 ·have e : numB z = false := by
   unfold madeB at c3
   unfold numB
   rw [← hf]
   rw [Bool.not_eq_true'] at c3
   rw [c3]
   simp
  exact e ▸ q H' hS
 all_goals
  have c3' : ((figL z.cps.toList).all fun c => decide (c ∈ figS.cps.toList)) = true := by
   unfold madeB at c3
   rw [hf] at c3
   simpa using c3
 ·have e : numB z = true := by
   unfold numB
   rw [c3', decide_eq_true (show 1 ≤ (figL z.cps.toList).length by omega), decide_eq_true (show (figL z.cps.toList).length ≤ 60 by omega), decide_eq_true (show z.cps.toList = [48] by rw [c4, nullS])]
   rfl
  exact e ▸ q H' hS
 ·obtain ⟨x, h1, h2⟩ := at0 f.cps.toList (by intro h; rw [hf] at h; rw [el, h] at c; simp at c)
  refine ⟨x, h1, ?_⟩
  have e : numB z = !decide ((⟨#[x]⟩ : Str) = ("0" : Str)) := by
   unfold numB
   have n1 : ¬ z.cps.toList = [48] := fun h => c4 (str_eq.mpr (by rw [h, nullS]))
   rw [c3', decide_eq_true (show 1 ≤ (figL z.cps.toList).length by omega), decide_eq_true (show (figL z.cps.toList).length ≤ 60 by omega), decide_eq_false n1, ← hf, h2]
   simp only [Bool.true_and, Bool.false_or]
   rw [← decide_not]
   apply decide_eq_decide.mpr
   rw [one_null]
   simp
  exact e ▸ q H' hS
end Pc
namespace Pc
open PySem PySem.Spec L2 PyProof.Rows
noncomputable abbrev parts : List (Key × V) := [(Sum.inr "add", .int 2), (Sum.inr "sub", .int 2), (Sum.inr "mul", .int 2), (Sum.inr "neg", .int 1)]
noncomputable def arS (z : Str) : Nat := if z = "add" then 2 else if z = "sub" then 2 else if z = "mul" then 2 else if z = "neg" then 1 else 0
noncomputable def arV : V → Nat
 | .str z => arS z
 | _ => 0
def isW (v : V) : Prop := ∃ k : Key, v = kV k
theorem isW.str (z : Str) : isW (.str z) := ⟨Sum.inr z, rfl⟩
theorem isW.int (i : Int) : isW (.int i) := ⟨Sum.inl i, rfl⟩
theorem val_parts (k : Key) : (valV parts k).getD (.int 0) = .int (arV (kV k)) := by
 cases k with
 | inl i => rfl
 | inr z =>
  show (valV parts (Sum.inr z)).getD (.int 0) = .int (arS z)
  unfold arS
  by_cases h1 : z = "add"
  ·subst h1; rw [valV_pos rfl, if_pos rfl]; rfl
  rw [valV_neg (fun e => h1 (Sum.inr.inj e).symm), if_neg h1]
  by_cases h2 : z = "sub"
  ·subst h2; rw [valV_pos rfl, if_pos rfl]; rfl
  rw [valV_neg (fun e => h2 (Sum.inr.inj e).symm), if_neg h2]
  by_cases h3 : z = "mul"
  ·subst h3; rw [valV_pos rfl, if_pos rfl]; rfl
  rw [valV_neg (fun e => h3 (Sum.inr.inj e).symm), if_neg h3]
  by_cases h4 : z = "neg"
  ·subst h4; rw [valV_pos rfl, if_pos rfl]; rfl
  rw [valV_neg (fun e => h4 (Sum.inr.inj e).symm), if_neg h4]
  rfl
theorem in_parts (z : Str) : (valV parts (Sum.inr z)).isSome = decide (0 < arS z) := by
 unfold arS
 by_cases h1 : z = "add"
 ·subst h1; rw [valV_pos rfl, if_pos rfl]; rfl
 rw [valV_neg (fun e => h1 (Sum.inr.inj e).symm), if_neg h1]
 by_cases h2 : z = "sub"
 ·subst h2; rw [valV_pos rfl, if_pos rfl]; rfl
 rw [valV_neg (fun e => h2 (Sum.inr.inj e).symm), if_neg h2]
 by_cases h3 : z = "mul"
 ·subst h3; rw [valV_pos rfl, if_pos rfl]; rfl
 rw [valV_neg (fun e => h3 (Sum.inr.inj e).symm), if_neg h3]
 by_cases h4 : z = "neg"
 ·subst h4; rw [valV_pos rfl, if_pos rfl]; rfl
 rw [valV_neg (fun e => h4 (Sum.inr.inj e).symm), if_neg h4]
 rfl
theorem arS_cases {z : Str} (h : 0 < arS z) : z = "add" ∨ z = "sub" ∨ z = "mul" ∨ z = "neg" := by
 unfold arS at h
 by_cases h1 : z = "add"
 ·exact .inl h1
 by_cases h2 : z = "sub"
 ·exact .inr (.inl h2)
 by_cases h3 : z = "mul"
 ·exact .inr (.inr (.inl h3))
 by_cases h4 : z = "neg"
 ·exact .inr (.inr (.inr h4))
 rw [if_neg h1, if_neg h2, if_neg h3, if_neg h4] at h
 exact absurd h (by decide)
theorem toDigits_len : ∀ (n m : Nat), m < 10 ^ (n + 1) → (Nat.toDigits 10 m).length ≤ n + 1
 | 0, m, h => by rw [Nat.toDigits_of_lt_base (by simpa using h)]; exact Nat.le_refl _
 | n + 1, m, h => by
  by_cases hm : m < 10
  ·rw [Nat.toDigits_of_lt_base hm]
   show 1 ≤ _
   omega
  have hr : m % 10 < 10 := Nat.mod_lt m (by decide)
  have t : Nat.toDigits 10 (m / 10) ++ Nat.toDigits 10 (m % 10) = Nat.toDigits 10 (10 * (m / 10) + m % 10) := Nat.toDigits_append_toDigits (by decide) (by omega) hr
  rw [Nat.div_add_mod] at t
  have ih := toDigits_len n (m / 10) (by rw [Nat.pow_succ] at h; omega)
  rw [← t, List.length_append, Nat.toDigits_of_lt_base hr]
  show _ + 1 ≤ _
  omega
theorem digitChar_ne : ∀ d : Nat, 0 < d → d < 10 → (Nat.digitChar d).toNat ≠ 48 := by
 intro d h1 h2
 have : d = 1 ∨ d = 2 ∨ d = 3 ∨ d = 4 ∨ d = 5 ∨ d = 6 ∨ d = 7 ∨ d = 8 ∨ d = 9 := by omega
 rcases this with rfl | rfl | rfl | rfl | rfl | rfl | rfl | rfl | rfl <;> decide
theorem toDigits_head (m : Nat) : 0 < m → ∃ c r, (Nat.toDigits 10 m).map Char.toNat = c :: r ∧ c ≠ 48 := by
 induction m using Nat.strongRecOn with
 | _ m ih =>
  intro h0
  by_cases h : m < 10
  ·rw [Nat.toDigits_of_lt_base h]
   exact ⟨_, _, rfl, digitChar_ne m h0 h⟩
  ·have hm : m % 10 < 10 := Nat.mod_lt m (by decide)
   have t : Nat.toDigits 10 (m / 10) ++ Nat.toDigits 10 (m % 10) = Nat.toDigits 10 (10 * (m / 10) + m % 10) := Nat.toDigits_append_toDigits (by decide) (by omega) hm
   rw [Nat.div_add_mod] at t
   obtain ⟨c, r, e, hc⟩ := ih (m / 10) (by omega) (by omega)
   rw [← t, List.map_append, e]
   exact ⟨c, _, rfl, hc⟩
noncomputable def digs (m : Nat) : List Nat := (Nat.toDigits 10 m).map Char.toNat
theorem digs_digit (m : Nat) : NumText.AllDigits (digs m) := by
 intro c hc
 obtain ⟨ch, hch, e⟩ := List.mem_map.mp hc
 have r := PyProof.Rows.digit_range (Nat.isDigit_of_mem_toDigits (by decide) (by decide) hch)
 rw [← e]
 exact r
theorem digs_ne (m : Nat) : digs m ≠ [] := by
 unfold digs
 intro e
 have h := PySem.toDigits_len_ge 10 m
 rw [List.map_eq_nil_iff.mp e] at h
 exact absurd h (by decide)
theorem digs_len {m : Nat} (h : m < 10 ^ 60) : (digs m).length ≤ 60 := by
 unfold digs
 rw [List.length_map]
 exact toDigits_len 59 m h
theorem digs_head (m : Nat) : digs m = [48] ∨ ∃ c r, digs m = c :: r ∧ c ≠ 48 := by
 cases m with
 | zero => exact .inl rfl
 | succ m => exact .inr (toDigits_head (m + 1) (Nat.succ_pos m))
theorem text_nat (m : Nat) : (textV (.int (m : Int))).cps.toList = digs m := PySem.W.KIN.signs_num m
theorem text_neg (m : Nat) : (textV (.int (Int.negSucc m))).cps.toList = 45 :: digs (m + 1) := by
 show (Str.ofString (toString (Int.negSucc m))).cps.toList = _
 rw [PyProof.Rows.signs_ofString]
 show ("-" ++ Nat.repr (m + 1)).toList.map Char.toNat = _
 rw [String.toList_append, List.map_append, Nat.toList_repr]
 rfl
theorem mem_fig (c : Nat) : c ∈ figS.cps.toList ↔ (48 ≤ c ∧ c ≤ 57) := by
 have e : figS.cps.toList = [48, 49, 50, 51, 52, 53, 54, 55, 56, 57] := by decide +kernel
 rw [e]
 simp only [List.mem_cons, List.not_mem_nil, or_false]
 omega
theorem mem_let (c : Nat) : c ∈ letS.cps.toList ↔ (97 ≤ c ∧ c ≤ 122) := by
 have e : letS.cps.toList = List.range' 97 26 := by decide +kernel
 rw [e, List.mem_range']
 constructor
 ·rintro ⟨i, h1, h2⟩; omega
 ·intro h; exact ⟨c - 97, by omega, by omega⟩
theorem digs_all (m : Nat) : ((digs m).all fun c => decide (c ∈ figS.cps.toList)) = true := by
 rw [List.all_eq_true]
 intro c hc
 exact decide_eq_true ((mem_fig c).mpr (digs_digit m c hc))
theorem digs_no45 (m : Nat) : (digs m).head? ≠ some 45 := by
 rcases digs_head m with h | ⟨c, r, h, _⟩
 ·rw [h]; decide
 ·rw [h]
  intro e
  have := digs_digit m c (by rw [h]; exact List.mem_cons_self)
  have e' : c = 45 := by simpa using e
  omega
theorem read_nat {m : Nat} (h : m < 10 ^ 60) : numB (textV (.int (m : Int))) = true ∧ PySem.intText? (textV (.int (m : Int))) = some (m : Int) ∧ (textV (.int (m : Int))).length ≤ 61 := by
 have e := text_nat m
 have hl := digs_len h
 have hn := digs_ne m
 refine ⟨?_, ?_, by rw [slen, e]; omega⟩
 ·unfold numB
  rw [e]
  have f : figL (digs m) = digs m := by unfold figL; rw [if_neg (digs_no45 m)]
  rw [f, digs_all, decide_eq_true (show 1 ≤ (digs m).length from List.length_pos_iff.mpr hn), decide_eq_true hl]
  rcases digs_head m with h | ⟨c, r, h, hc⟩
  ·rw [h]; rfl
  ·have : (digs m).head? ≠ some 48 := by rw [h]; intro q; exact hc (by simpa using q)
   rw [decide_eq_true this]
   simp
 ·have q := PySem.intText_digits (x := textV (.int (m : Int))) (by rw [e]; exact digs_digit m) (by rw [e]; exact hn) (by rw [slen, e]; omega)
  rw [e] at q
  rw [q]
  unfold digs
  rw [PySem.W.KIN.val_back]
theorem read_negS {m : Nat} (h : m + 1 < 10 ^ 60) : numB (textV (.int (Int.negSucc m))) = true ∧ PySem.intText? (textV (.int (Int.negSucc m))) = some (Int.negSucc m) ∧ (textV (.int (Int.negSucc m))).length ≤ 61 := by
 have e := text_neg m
 have hl := digs_len h
 have hn := digs_ne (m + 1)
 refine ⟨?_, ?_, by rw [slen, e, List.length_cons]; omega⟩
 ·unfold numB
  rw [e]
  have f : figL (45 :: digs (m + 1)) = digs (m + 1) := by unfold figL; simp
  rw [f, digs_all, decide_eq_true (show 1 ≤ (digs (m + 1)).length from List.length_pos_iff.mpr hn), decide_eq_true hl]
  rcases toDigits_head (m + 1) (Nat.succ_pos m) with ⟨c, r, h, hc⟩
  have : (digs (m + 1)).head? ≠ some 48 := by
   show ((Nat.toDigits 10 (m + 1)).map Char.toNat).head? ≠ some 48
   rw [h]; intro q; exact hc (by simpa using q)
  rw [decide_eq_true this]
  simp
 ·have q := PySem.intText_neg (x := textV (.int (Int.negSucc m))) e (digs_digit _) hn (by rw [slen, e, List.length_cons]; omega)
  rw [q]
  unfold digs
  rw [PySem.W.KIN.val_back]
  rfl
def okW : V → Prop
 | .int i => i.natAbs < 10 ^ 60
 | .str z => nameB z = true ∨ 0 < arS z
 | _ => False
theorem read_int {i : Int} (h : i.natAbs < 10 ^ 60) : numB (textV (.int i)) = true ∧ PySem.intText? (textV (.int i)) = some i ∧ (textV (.int i)).length ≤ 61 := by
 cases i with
 | ofNat m => exact read_nat h
 | negSucc m => exact read_negS h
theorem log_small {m : Nat} (h : m < 10 ^ 60) : m.log2 < 1920 := by
 by_cases h0 : m = 0
 ·subst h0; decide
 ·exact (Nat.log2_lt h0).mpr (Nat.lt_of_lt_of_le h (by decide))
theorem name_codes {z : Str} (h : nameB z = true) : z.cps.toList ≠ [] ∧ z.length ≤ 8 ∧ ∀ c ∈ z.cps.toList, 97 ≤ c ∧ c ≤ 122 := by
 unfold nameB madeB at h
 simp only [Bool.and_eq_true, decide_eq_true_eq, List.all_eq_true] at h
 obtain ⟨h1, h2, h3, _⟩ := h
 exact ⟨fun e => by rw [slen, e] at h1; exact absurd h1 (by decide), h2, fun c hc => (mem_let c).mp (h3 c hc)⟩
theorem op_codes {z : Str} (h : 0 < arS z) : z.cps.toList ≠ [] ∧ z.length ≤ 8 ∧ ∀ c ∈ z.cps.toList, 97 ≤ c ∧ c ≤ 122 := by
 rcases arS_cases h with rfl | rfl | rfl | rfl <;> refine ⟨by decide +kernel, by decide +kernel, ?_⟩ <;> decide +kernel
theorem str_codes {z : Str} (h : okW (.str z)) : z.cps.toList ≠ [] ∧ z.length ≤ 8 ∧ ∀ c ∈ z.cps.toList, 97 ≤ c ∧ c ≤ 122 := h.elim name_codes op_codes
theorem str_noNum {z : Str} (h : okW (.str z)) : numB z = false := by
 obtain ⟨h1, h2, h3⟩ := str_codes h
 unfold numB
 have f : figL z.cps.toList = z.cps.toList := by
  unfold figL
  rw [if_neg]
  intro e
  have := h3 45 (by rw [List.head?_eq_some_iff] at e; obtain ⟨r, e⟩ := e; rw [e]; exact List.mem_cons_self)
  omega
 rw [f]
 have : (z.cps.toList.all fun c => decide (c ∈ figS.cps.toList)) = false := by
  rw [Bool.eq_false_iff]
  intro q
  rw [List.all_eq_true] at q
  obtain ⟨c, r, e⟩ := List.exists_cons_of_ne_nil h1
  have hc : c ∈ z.cps.toList := by rw [e]; exact List.mem_cons_self
  have := (mem_fig c).mp (of_decide_eq_true (q c hc))
  have := h3 c hc
  omega
 rw [this]
 simp
def isTerm (ws : List V) : Prop := pend 1 (ws.map arV) = some 0
noncomputable def textT (ws : List V) : Str := Txt.join " " (ws.map textV)
def spHow : Sp := fun vs H Q _ => ∃ v, vs = [v] ∧ isW v ∧ Q (.int (arV v)) H
def spReadW : Sp := fun vs H Q _ => ∃ v, vs = [.str (textV v)] ∧ okW v ∧ ∀ H', Same H H' → Q v H'
def spOne (K : PySem.W.Frag) : Sp := fun vs H Q _ => ∃ t ws, vs = [.ref t] ∧ SqT K H t ws ∧ (∀ v ∈ ws, isW v) ∧ ws.length ≤ 1000 ∧ Q (.bl (decide (pend 1 (ws.map arV) = some 0))) H
def spReadT : Sp := fun vs H Q _ => ∃ ws, vs = [.str (textT ws)] ∧ (∀ v ∈ ws, okW v) ∧ isTerm ws ∧ ws.length ≤ 1000 ∧ ∀ t H', Same H H' → H' t = some (.tup ws) → Q (.ref t) H'
end Pc
namespace Pc
open PySem PySem.Spec L2 PyProof.Rows
def Deck (H : Hp) (d b : Addr) (ns : List Int) (n : Nat) : Prop := H d = some (.lst [.ref b, .int (n : Int)]) ∧ H b = some (.lst (List.map V.int ns))
def SameB (d : Addr) (H H' : Hp) : Prop := ∀ b o, b ≠ d → H b = some o → H' b = some o
theorem SameB.refl (d : Addr) (H : Hp) : SameB d H H := fun _ _ _ h => h
theorem SameB.trans {d : Addr} {H H1 H2 : Hp} (a : SameB d H H1) (b : SameB d H1 H2) : SameB d H H2 := fun c o n h => b c o n (a c o n h)
theorem SameB.of {d : Addr} {H H' : Hp} (a : Same H H') : SameB d H H' := fun b o _ h => a b o h
theorem SameB.upd {d p : Addr} {H H' : Hp} (a : SameB d H H') (hp : H p = none) (o : HO) : SameB d H (L2.upd H' p o) := fun b u n h => by rw [upd_ne (ne_of_none h hp)]; exact a b u n h
theorem Deck.ne {H : Hp} {d b : Addr} {ns : List Int} {n : Nat} (h : Deck H d b ns n) : b ≠ d := ne_of h.2 h.1 (by intro e; cases ns <;> simp at e)
theorem Deck.next {H H' : Hp} {d b : Addr} {ns : List Int} {n k : Nat} (h : Deck H d b ns n) (s : SameB d H H') (e : H' d = some (.lst [.ref b, .int (k : Int)])) : Deck H' d b ns k := ⟨e, s b _ h.ne h.2⟩
noncomputable def lenAt (H : Hp) (p : Addr) : Nat := match H p with | some (.lst ws) => ws.length | _ => 0
theorem lenAt_of {H : Hp} {p : Addr} {ws : List V} (h : H p = some (.lst ws)) : lenAt H p = ws.length := by unfold lenAt; rw [h]
def spNext : Sp := fun vs H Q _ => ∃ (d b : Addr) (ns : List Int) (n : Nat), vs = [.ref d] ∧ Deck H d b ns n ∧ n ≤ 100000 ∧ ∀ (c : Int) (H' : Hp), SameB d H H' → H' d = some (.lst [.ref b, .int ((n + 1 : Nat) : Int)]) → Q (.int c) H'
def Names (H : Hp) (l : Addr) (k : Nat) : Prop := ∃ zs : List Str, H l = some (.lst (List.map V.str zs)) ∧ zs.length = k ∧ ∀ z ∈ zs, nameB z = true
def TermAt (H : Hp) (t : Addr) (m : Nat) : Prop := ∃ ws : List V, H t = some (.tup ws) ∧ (∀ v ∈ ws, okW v) ∧ isTerm ws ∧ ws.length ≤ m
theorem cut_ints (ns : List Int) (lo hi : Option Int) : ∃ ms : List Int, cutV (ns.map V.int) lo hi = ms.map V.int ∧ ms.length ≤ ns.length := by
 refine ⟨_, by unfold cutV; rw [← List.map_drop, ← List.map_take], ?_⟩
 rw [List.length_take, List.length_drop]
 omega
end Pc
namespace Pc
open PySem PySem.Spec L2 PyProof.Rows
noncomputable def opN (z : Str) (a b : Int) : Int := if z = "add" then a + b else if z = "sub" then a - b else if z = "mul" then a * b else -a
end Pc
namespace L2
open PySem PySem.Spec PyProof.Rows
def bitsOk (i : Int) : Prop := ∃ n, n ≤ 1000000 ∧ i.natAbs < 2 ^ n
end L2
namespace Pc
open PySem PySem.Spec L2 PyProof.Rows
def ValsAt (H : Hp) (a : Addr) (ρ : Str → Option Int) : Prop := ∃ kvs : List (Key × V), H a = some (.dK kvs) ∧ ∀ z, valV kvs (Sum.inr z) = (ρ z).map V.int
end Pc
namespace Pc
open PySem PySem.Spec L2 PyProof.Rows
noncomputable def six : List Str := ["a", "b", "ab", "kind", "addd", "neon"]
def okL : V → Prop
 | .int i => i.natAbs ≤ 100
 | .str z => z ∈ six ∨ 0 < arS z
 | _ => False
def LawTerm (H : Hp) (t : Addr) (m : Nat) (ws : List V) : Prop := H t = some (.tup ws) ∧ (∀ v ∈ ws, okL v) ∧ isTerm ws ∧ ws.length ≤ m
def lawV (ρ : Str → Option Int) : Prop := ∀ z ∈ six, ∃ i, ρ z = some i ∧ i.natAbs ≤ 100
def valsOk (i : Nat) (kvs : List (Key × V)) : Prop := (∀ z v, valV kvs (Sum.inr z) = some v → ∃ x : Int, v = .int x) ∧ ∀ z ∈ six.take i, ∃ x : Int, valV kvs (Sum.inr z) = some (.int x) ∧ x.natAbs ≤ 100
end Pc
namespace L2.Srt
open PySem PySem.W PyProof.Rows
section
variable {cmp : Nat → Nat → (Bool → Shared → Prop) → Shared → Prop} {N : Nat} {r : Nat → Int} {s : Shared}
def PermR (N : Nat) (p : Array Nat) : Prop := p.toList.Perm (List.range N)
noncomputable def R (r : Nat → Int) (p : Array Nat) (i : Nat) : Int := r (p.getD i 0)
def Inc (r : Nat → Int) (p : Array Nat) (k : Nat) : Prop := ∀ i j, i ≤ j → j < k → R r p i ≤ R r p j
def Dec (r : Nat → Int) (p : Array Nat) (k : Nat) : Prop := ∀ i j, i ≤ j → j < k → R r p j ≤ R r p i
end
end L2.Srt
namespace L2.Srt
open PySem PySem.W PyProof.Rows
section
variable {prog : Program} {w : World} {A : Around} {E : Value → Shared → Prop} {s : Shared} {r : Nat → Int}
end
end L2.Srt
namespace L2
open PySem PySem.Spec PyProof.Rows Srt
section
variable {X : Cx}
end
end L2
namespace PySem.SeqAt
open PySem PySem.Spec PySem.Calls
def LtAt (A : Around) (s : Shared) (x y : Value) (b : Bool) : Prop := ∀ (prog : Program) (w : World) (E : Value → Shared → Prop) (Q : Value → Shared → Prop), Q (.bool b) s → wpAny (model prog w) A (richCompare .Lt x y) Q E s
noncomputable def lexB (e c : Nat → Bool) (d : Bool) : List Nat → Bool
 | [] => d
 | j :: r => if e j then lexB e c d r else c j
section
variable {A : Around} {s : Shared}
end
end PySem.SeqAt
namespace L2
open PySem PySem.Spec PyProof.Rows Srt
noncomputable def rank (n : Nat) (lt : Nat → Nat → Bool) (i : Nat) : Int := (((List.range n).countP fun k => lt k i : Nat) : Int)
structure Ord (n : Nat) (lt : Nat → Nat → Bool) : Prop where
 irr : ∀ i, i < n → lt i i = false
 tr : ∀ i j k, i < n → j < n → k < n → lt i j = true → lt j k = true → lt i k = true
 neg : ∀ i j k, i < n → j < n → k < n → lt i k = true → lt i j = true ∨ lt j k = true
section
variable {P : Program} {w : World} {A : Around} {H : Hp}
end
end L2
namespace L2.Srt
open PySem PySem.W PyProof.Rows
end L2.Srt
namespace L2
open PySem PySem.Spec PyProof.Rows Srt
section
variable {P : Program} {w : World} {A : Around} {H : Hp}
end
end L2
namespace L2
open PySem PySem.Spec PyProof.Rows
section
variable {X : Cx}
end
end L2
namespace L2
open PySem PySem.Spec PyProof.Rows
section
variable {X : Cx} {pins : List (Addr × Obj)} {σ σ' : St} {H H0 : Hp} {s s0 : Shared} {a : Addr} {kvs kvs' : List (Key × V)} {o : Obj}
end
section
variable {X : Cx} {tg : Expr}
end
section
variable {X : Cx}
end
end L2
namespace L2
open PySem PySem.Spec PyProof.Rows
section
variable {X : Cx}
end
end L2
namespace L2.Srt
open PySem PySem.W PyProof.Rows PySem.Spec
section
variable {prog : Program} {w : World} {A : Around} {E : Value → Shared → Prop} {s : Shared}
end
end L2.Srt
namespace L2
open PySem PySem.Spec PyProof.Rows Srt
section
variable {X : Cx}
end
end L2
namespace Pc
open PySem PySem.Spec L2 PyProof.Rows
section
variable {κ : Type} [DecidableEq κ]
end
inductive RowAt (vals kvs : List (Key × V)) : List V → Int → Int → Prop
 | put (b n : Int) : RowAt vals kvs [.str "put", .int b, .int n] b n
 | load (b : Int) (z : Str) (n : Int) (h : valV vals (Sum.inr z) = some (.int n)) : RowAt vals kvs [.str "load", .int b, .str z] b n
 | neg (b x m : Int) (h : valV kvs (Sum.inl x) = some (.int m)) (b1 : bitsOk m) : RowAt vals kvs [.str "neg", .int b, .int x] b (-m)
 | bin (z : Str) (b x y m n : Int) (hz : arS z = 2) (h1 : valV kvs (Sum.inl x) = some (.int m)) (h2 : valV kvs (Sum.inl y) = some (.int n)) (b1 : bitsOk m) (b2 : bitsOk n) : RowAt vals kvs [.str z, .int b, .int x, .int y] b (opN z m n)
noncomputable def boxes (fs : List (Int × Int)) : List (Key × V) := fs.foldl (fun k p => putK k (Sum.inl p.1) (.int p.2)) []
def RunsAt (vals : List (Key × V)) (ts : List (List V)) (fs : List (Int × Int)) : Prop := ts.length = fs.length ∧ ∀ (i : Nat) (p : Int × Int), fs[i]? = some p → ∃ t, ts[i]? = some t ∧ RowAt vals (boxes (fs.take i)) t p.1 p.2
def RowsIn (H : Hp) (rs : List V) (ts : List (List V)) : Prop := rs.length = ts.length ∧ ∀ (i : Nat) (t : List V), ts[i]? = some t → ∃ a, rs[i]? = some (.ref a) ∧ H a = some (.tup t)
def BoxB (e : Nat) (fs : List (Int × Int)) : Prop := ∀ b m : Int, (Sum.inl b, V.int m) ∈ boxes fs → m.natAbs < 2 ^ e
end Pc
namespace Pc
open PySem PySem.Spec L2 PyProof.Rows
end Pc
namespace Pc
open PySem PySem.Spec L2 PyProof.Rows
def spTW : Sp := fun vs H Q _ => ∃ z : Str, vs = [.str z] ∧ z.length ≤ 1000 ∧ ∀ H', Same H H' → Q (.bl (numB z || nameB z || decide (0 < arS z))) H'
def spNumT : Sp := fun vs H Q _ => ∃ v : V, vs = [.str (textV v)] ∧ okW v ∧ ∀ H', Same H H' → Q v H'
end Pc
namespace L2
open PySem PySem.Spec PyProof.Rows PySem.SeqAt PySem.MeetsSeq PySem.MeetsSeq2 PySem.MeetsSeq3
open AutoSeq1 (wpAny_loadPart')
section
variable {P : Program} {w : World} {A : Around} {E : Value → Shared → Prop} {s : Shared}
end
section
variable {X : Cx}
end
end L2
namespace L2
open PySem
end L2
namespace Pc
open PySem PySem.Spec L2 PyProof.Rows
end Pc
namespace L2
open PySem
end L2
namespace Pc
open PySem L2
end Pc
namespace L2
open PySem PySem.Spec PyProof.Rows
section
variable {X : Cx}
end
end L2
namespace L2
open PySem PySem.Spec PyProof.Rows
def MoE (t : TE) : Prop := ∀ σ H (Q Q' : VK), (∀ v H1, Q v H1 → Q' v H1) → t σ H Q → t σ H Q'
def MoA (t : TA) : Prop := ∀ σ H (Q Q' : List V → Hp → Prop), (∀ v H1, Q v H1 → Q' v H1) → t σ H Q → t σ H Q'
def MoT (t : TT) : Prop := ∀ σ H (Q Q' : Bool → Hp → Prop), (∀ v H1, Q v H1 → Q' v H1) → t σ H Q → t σ H Q'
def Mo2 (r : R2) : Prop := ∀ x y H (Q Q' : VK), (∀ v H1, Q v H1 → Q' v H1) → r x y H Q → r x y H Q'
end L2
namespace L2
open PySem PySem.Spec PyProof.Rows
theorem runs_toks {M : Model} {Γ : PySem.Ctx} {p : Pos} {t : Sem Fin} {fs : List Frame} {s s' : Shared} {e : End} (h : Runs M Γ p t fs s e s') : s.toks ≤ s'.toks := by
 induction h <;> first
  | exact Nat.le_refl _
  | assumption
  | (simp only [Shared.setGen] at *; omega)
  | (simp only [Shared.setGen] at *; exact Nat.le_trans ‹_› ‹_›)
  | exact Nat.le_trans ‹_› ‹_›
theorem wakes_toks {M : Model} {Γ : PySem.Ctx} {p : Pos} {g : Nat} {r : Resume} {s s' : Shared} {res : GenResult} (h : Wakes M Γ p g r s res s') : s.toks ≤ s'.toks := by
 unfold Wakes at h
 split at h
 ·exact h.elim
 ·split at h
  ·obtain ⟨e1, s1, h1, _, _, rfl⟩ := h
   have q := runs_toks h1
   exact q
  ·obtain ⟨_, rfl⟩ := h
   exact Nat.le_refl _
  ·obtain ⟨_, rfl⟩ := h
   exact Nat.le_refl _
 ·obtain ⟨e1, s1, h1, _, _, rfl⟩ := h
  have q := runs_toks h1
  exact q
 ·obtain ⟨_, rfl⟩ := h
  exact Nat.le_refl _
 ·obtain ⟨_, rfl⟩ := h
  exact Nat.le_refl _
theorem wp_toks {M : Model} {Γ : PySem.Ctx} {α : Type} : ∀ (t : Sem α) (Q : α → Pos → Shared → Prop) (E : Value → Pos → Shared → Prop) (p : Pos) (s : Shared) (n : Nat), n ≤ s.toks → Sem.wp M Γ t Q E p s →
  Sem.wp M Γ t (fun a p s' => Q a p s' ∧ n ≤ s'.toks) E p s
 | .pure a, Q, E, p, s, n, hn, h => ⟨h, hn⟩
 | .raise e, Q, E, p, s, n, hn, h => h
 | .unsupported _, _, _, _, _, _, _, h => h
 | .finish _, _, _, _, _, _, _, h => h
 | .rule _ k, Q, E, p, s, n, hn, h => wp_toks (k ()) Q E p s n hn h
 | .at p' k, Q, E, p, s, n, hn, h => wp_toks (k ()) Q E p' s n hn h
 | .load a _ k, Q, E, p, s, n, hn, ⟨o, ho, h⟩ => ⟨o, ho, wp_toks (k o) Q E p s n hn h⟩
 | .update a _ f k, Q, E, p, s, n, hn, ⟨ho, h⟩ => ⟨ho, wp_toks (k ()) Q E p _ n hn h⟩
 | .loadIfAlive a k, Q, E, p, s, n, hn, h => wp_toks (k _) Q E p s n hn h
 | .point _ k, Q, E, p, s, n, hn, h => wp_toks (k ()) Q E p s n hn h
 | .register _ _, _, _, _, _, _, _, h => h
 | .alloc o k, Q, E, p, s, n, hn, h => wp_toks (k _) Q E p _ n hn h
 | .fresh k, Q, E, p, s, n, hn, h => wp_toks (k _) Q E p { s with toks := s.toks + 1 } n (Nat.le_succ_of_le hn) h
 | .ask k, Q, E, p, s, n, hn, h => wp_toks (k _) Q E p s n hn h
 | .choose src m k, Q, E, p, s, n, hn, ⟨h0, h⟩ => ⟨h0, wp_toks (k _) Q E p { s with drawn := s.drawn.bump src } n hn h⟩
 | .os q _ k, Q, E, p, s, n, hn, h => wp_toks (k _) Q E p { s with os := (Os.step s.os q).1 } n hn h
 | .call c hd _ _ k, Q, E, p, s, n, hn, ⟨r, s1, h1, h⟩ => ⟨r, s1, h1, wp_toks (k r) Q E p s1 n (Nat.le_trans hn (runs_toks h1)) h⟩
 | .handled own k, Q, E, p, s, n, hn, h => wp_toks (k _) Q E p s n hn h
 | .genState g k, Q, E, p, s, n, hn, ⟨st, h0, h⟩ => ⟨st, h0, wp_toks (k _) Q E p s n hn h⟩
 | .newGen c k, Q, E, p, s, n, hn, h => wp_toks (k _) Q E p { s with gens := s.gens.push (.fresh c) } n hn h
 | .resume g r _ k, Q, E, p, s, n, hn, ⟨res, s1, h1, h⟩ => ⟨res, s1, h1, wp_toks (k res) Q E p s1 n (Nat.le_trans hn (wakes_toks h1)) h⟩
 | .yield .., _, _, _, _, _, _, h => h
 | .stack k, Q, E, p, s, n, hn, h => wp_toks (k _) Q E p s n hn h
 | .fork .., _, _, _, _, _, _, h => h
 | .thread k, Q, E, p, s, n, hn, h => wp_toks (k 0) Q E p s n hn h
 | .await .., _, _, _, _, _, _, h => h
end L2
namespace L2
open PySem PySem.Spec PyProof.Rows
section
open Builtin Builtin.Str
theorem fold_mem (sep : Str) (c : Nat) : ∀ (rest : List Str) (acc : Array Nat), c ∈ (rest.foldl (fun acc p => acc ++ sep.cps ++ p.cps) acc).toList ↔ c ∈ acc.toList ∨ ∃ p ∈ rest, c ∈ sep.cps.toList ∨ c ∈ p.cps.toList
 | [], acc => by simp
 | p :: r, acc => by
  rw [List.foldl_cons, fold_mem sep c r]
  simp only [Array.toList_append, List.mem_append, List.mem_cons, exists_eq_or_imp]
  constructor
  ·intro h
   rcases h with ((h | h) | h) | h
   ·exact .inl h
   ·exact .inr (.inl (.inl h))
   ·exact .inr (.inl (.inr h))
   ·exact .inr (.inr h)
  ·intro h
   rcases h with h | h | h
   ·exact .inl (.inl (.inl h))
   ·rcases h with h | h
    ·exact .inl (.inl (.inr h))
    ·exact .inl (.inr h)
   ·exact .inr h
theorem glued_sub {sep : Str} {parts : List Str} {c : Nat} (h : c ∈ (glued sep parts).cps.toList) : c ∈ sep.cps.toList ∨ ∃ p ∈ parts, c ∈ p.cps.toList := by
 cases parts with
 | nil => exact absurd h (by show c ∉ ([] : List Nat); exact List.not_mem_nil)
 | cons p r =>
  rcases (fold_mem sep c r p.cps).mp h with h | ⟨q, hq, h | h⟩
  ·exact .inr ⟨p, List.mem_cons_self, h⟩
  ·exact .inl h
  ·exact .inr ⟨q, List.mem_cons_of_mem _ hq, h⟩
theorem glued_sup {sep : Str} {parts : List Str} {c : Nat} {p : Str} (hp : p ∈ parts) (h : c ∈ p.cps.toList) : c ∈ (glued sep parts).cps.toList := by
 cases parts with
 | nil => cases hp
 | cons q r =>
  refine (fold_mem sep c r q.cps).mpr ?_
  rcases List.mem_cons.mp hp with rfl | hp
  ·exact .inl h
  ·exact .inr ⟨p, hp, .inr h⟩
theorem part_sub {x y : Str} {limit : Nat} {p : Str} {c : Nat} (hp : p ∈ partsBetween x (occurrences x y 0 x.length limit) y.length) (h : c ∈ p.cps.toList) : c ∈ x.cps.toList := by
 have e := StrLaws.glued_between_self x y limit
 rw [← e]
 exact glued_sup hp h
theorem replaced_len (x y z : Str) (limit : Nat) (hyz : y.length = z.length) : (glued z (partsBetween x (occurrences x y 0 x.length limit) y.length)).length = x.length := by
 have hy : (glued y (partsBetween x (occurrences x y 0 x.length limit) y.length)).length = x.length := by rw [StrLaws.glued_between_self]
 rw [size_glued] at hy ⊢
 rw [← hyz]
 exact hy
theorem replaced_mem {x y z : Str} {limit : Nat} {c : Nat} (h : c ∈ (glued z (partsBetween x (occurrences x y 0 x.length limit) y.length)).cps.toList) : c ∈ z.cps.toList ∨ c ∈ x.cps.toList := by
 rcases glued_sub h with h | ⟨p, hp, h⟩
 ·exact .inl h
 ·exact .inr (part_sub hp h)
theorem gives_replace4 (x y z : Str) (n : Int) (t u v k : Tok) (hn : 0 ≤ n) (hn2 : n < 2 ^ 63) (hu : u ≠ 0) (hv : v ≠ 0) (huv : u ≠ v) (hyz : (y == z) = false) (hl : x.length + x.length * z.length < 16777216) (hy1 : 1 ≤ y.length) :
  Gives («str.replace» ⟨[.str x t, .str y u, .str z v, .int n k], []⟩) (if ((occurrences x y 0 x.length n.toNat).isEmpty || (y.length == 0 && z.length == 0)) = true then .val (.str x t) else .str (glued z (partsBetween x (occurrences x y 0 x.length n.toNat) y.length))) := by
 show Gives (((asSsize "str.replace" (.int n k)) >>= fun i => pure (if i < 0 then x.length + 1 else i.toNat)) >>= fun limit => if ((occurrences x y 0 x.length limit).isEmpty || (y.length == 0 && z.length == 0)) = true then (rule "str.replace.nothing" >>= fun _ => ret (.str x t)) else (isSame (.str y u) (.str z v) >>= fun same => if same = true then (rule "str.replace.old-is-new" >>= fun _ => ret (.str x t)) else if tooLong (x.length + (occurrences x y 0 x.length limit).length * z.length) = true then unsupported "str.replace:memory" else retStr (glued z (partsBetween x (occurrences x y 0 x.length limit) y.length)))) _
 rw [asSsize_int _ _ _ (by rw [decide_eq_false (by omega), decide_eq_false (by omega)]; rfl)]
 show Gives (if ((occurrences x y 0 x.length (if n < 0 then x.length + 1 else n.toNat)).isEmpty || (y.length == 0 && z.length == 0)) = true then (rule "str.replace.nothing" >>= fun _ => ret (.str x t)) else (isSame (.str y u) (.str z v) >>= fun same => if same = true then (rule "str.replace.old-is-new" >>= fun _ => ret (.str x t)) else if tooLong (x.length + (occurrences x y 0 x.length (if n < 0 then x.length + 1 else n.toNat)).length * z.length) = true then unsupported "str.replace:memory" else retStr (glued z (partsBetween x (occurrences x y 0 x.length (if n < 0 then x.length + 1 else n.toNat)) y.length)))) _
 rw [if_neg (show ¬ n < 0 by omega)]
 cases hc : ((occurrences x y 0 x.length n.toNat).isEmpty || (y.length == 0 && z.length == 0))
 ·have hocc : (occurrences x y 0 x.length n.toNat).length ≤ x.length := by
   have hy : (glued y (partsBetween x (occurrences x y 0 x.length n.toNat) y.length)).length = x.length := by rw [StrLaws.glued_between_self]
   rw [size_glued, length_partsBetween, Nat.add_sub_cancel] at hy
   have := Nat.mul_le_mul_left (occurrences x y 0 x.length n.toNat).length hy1
   omega
  have hl2 : tooLong (x.length + (occurrences x y 0 x.length n.toNat).length * z.length) = false := by
   have := Nat.mul_le_mul_right z.length hocc
   unfold tooLong
   rw [sizeLine_eq]
   exact decide_eq_false (by omega)
  rw [isSame_str_other y z u v (by simp [hu, hv]) (by simp [huv]) hyz, hl2]
  exact .of_eq rfl
 ·exact .rule (.of_eq rfl)
end
section
variable {X : Cx} {v o a : Expr} {tv to ta : TE} {p1 p2 pos apos cpos : Pos} {c y z : Str} {j j1 j2 : Nat}
def tFmtR (tv : TE) : TE := fun σ H Q => tv σ H fun x H1 => ∃ z, x = .str z ∧ (∀ c ∈ z.cps.toList, c < 128) ∧ z.length ≤ 1000000 ∧ ∀ m, Q (.str m) H1
theorem pe_fmtR (hv : PE X v tv) (hc : c.length ≤ 100 := by decide +kernel) : PE X (.JoinedStr [.FormattedValue v 114 none p1, .Constant (.str c) j p2] pos) (tFmtR tv) := by
 intro pins s σ H Q I h
 refine wpAny_JoinedStr ?_
 refine wpAny_FormattedValue_repr (thn (hv pins s σ H _ I h) fun u s1 ⟨x, H1, I1, r1, z, e, ha, hz, q⟩ => ?_)
 subst e
 obtain ⟨t, rfl⟩ := r1
 have hl := StrLaws.reprText_len z fun c hc => Nat.lt_trans (ha c hc) (by decide)
 have sz := sizeLine_eq
 refine pyReprObj_str ?_ (by omega)
 have e0 : ∀ w : Str, (Str.empty ++ w).length = w.length := fun w => by rw [strLen_append]; exact Nat.zero_add _
 refine formatField_str (fun t' tk => ⟨_, t', rfl, by rw [e0]; omega, ?_⟩) (by omega)
 refine Calls.Constant_str ⟨c, _, rfl, by rw [strLen_append, e0]; omega, by rw [strLen_append, e0]; omega, ?_⟩
 exact ⟨.str _, H1, I1.tok _, ⟨_, rfl⟩, q _⟩
theorem tok_up {M : Model} {A : Around} {env : Env} {args : List Expr} {kws : List Keyword} {name : Str} {Q : Value → Shared → Prop} {E : Value → Shared → Prop} {s : Shared}
  (h : wpAny M A (eval (.Call (.Attribute (.Constant (.str c) j p1) name apos) args kws pos) env) Q E s) : wpAny M A (eval (.Call (.Attribute (.Constant (.str c) j p1) name apos) args kws pos) env) (fun v s' => Q v s' ∧ 1 ≤ s'.toks) E s := by
 rw [arm_eval_Call] at h ⊢
 have e : attributeBase (.Constant (.str c) j p1) name env (eval (.Constant (.str c) j p1) env) = Sem.fresh fun t => Sem.pure (.str c t) := rfl
 rw [e] at h ⊢
 intro Γ p hΓ
 exact wp_toks _ _ _ p { s with toks := s.toks + 1 } 1 (Nat.succ_le_succ (Nat.zero_le _)) (h Γ p hΓ)
def tRepl (K : PySem.W.Frag) (y z : Str) (to ta : TE) : TE := fun σ H Q => to σ H fun x H1 => tyV K "str" x H1 ∧ ta σ H1 fun w H2 => ∃ (t : Str) (n : Int), x = .str t ∧ w = .int n ∧ 0 ≤ n ∧ n < 2 ^ 63 ∧ t.length ≤ 1000000 ∧
 ∀ t' : Str, t'.length = t.length → (∀ c ∈ t'.cps.toList, c ∈ z.cps.toList ∨ c ∈ t.cps.toList) → Q (.str t') H2
theorem pe_repl {sep nm : Str} {args : List Expr} {p3 p4 : Pos} (ho : PE X (.Call (.Attribute (.Constant (.str sep) j p1) nm p2) args [] p3) to) (ha : PE X a ta)
  (hyz : (y == z) = false) (hl : y.length = 1 ∧ z.length = 1)
  (hs : starEach [Expr.Constant (.str y) j1 pos, .Constant (.str z) j2 p4, a] X.env = [(false, eval (.Constant (.str y) j1 pos) X.env), (false, eval (.Constant (.str z) j2 p4) X.env), (false, eval a X.env)] := by rfl)
  (hline : (apos.endLine == cpos.line) = true := by rfl) :
  PE X (.Call (.Attribute (.Call (.Attribute (.Constant (.str sep) j p1) nm p2) args [] p3) "replace" apos) [.Constant (.str y) j1 pos, .Constant (.str z) j2 p4, a] [] cpos) (tRepl X.K y z to ta) := by
 intro pins s σ H Q I h
 refine wpAny_Call_method_late (by rfl) (by rw [hs]; rfl) hline rfl (thn (tok_up (ho pins s σ H _ I h)) fun v s1 ⟨⟨x, H1, I1, r1, ty, q1⟩, tk1⟩ => ?_)
 obtain ⟨h1, h2⟩ := tyV_is I1 r1 ty
 refine ⟨"str", "str.replace", PySem.F.plainAttrs_str, PySem.F.slot_str_replace, PySem.F.type_str_replace, h1, h2, ?_⟩
 rw [hs]
 refine Calls.callWith_builtin rfl (Calls.evalArgs_plain ?_)
 refine Calls.spliced_cons (wpAny_Constant_str (k := j1) (pos := pos) (Calls.spliced_cons (wpAny_Constant_str (k := j2) (pos := p4) (Calls.spliced_cons (thn (ha pins _ σ H1 _ ((I1.tok _).tok _) q1) fun u s2 ⟨w', H2, I2, r2, q2⟩ => Calls.spliced_nil ?_)))))
 obtain ⟨t, n, rfl, rfl, n0, n1, ht, q⟩ := q2
 obtain ⟨tt, rfl⟩ := r1
 obtain ⟨tu, rfl⟩ := r2
 refine call_gives F.slot_str_replace (typeIs_str _ _ _) F.entry_str_replace (F.args_str_replace_4 _ _ _ _) (gives_replace4 t y z n tt s1.toks (s1.toks + 1) tu n0 n1 (Nat.pos_iff_ne_zero.mp tk1) (Nat.succ_ne_zero _) (Nat.ne_of_lt (Nat.lt_succ_self _)) hyz (by rw [hl.2]; omega) (by omega)) ?_
 cases hc : ((Builtin.Str.occurrences t y 0 t.length n.toNat).isEmpty || (y.length == 0 && z.length == 0))
 ·simp only [Bool.false_eq_true, if_false]
  have hlen := replaced_len t y z n.toNat (by omega)
  exact ⟨by rw [hlen, sizeLine_eq]; omega, .str _, H2, I2.tok _, ⟨_, rfl⟩, q _ hlen fun c hc => replaced_mem hc⟩
 ·simp only [if_true]
  exact ⟨.str t, H2, I2, ⟨_, rfl⟩, q _ rfl fun c hc => .inr hc⟩
end
end L2
namespace L2
open PySem PySem.Spec PyProof.Rows
structure Turned (fs ch : List Addr) (h h' : Heap) : Prop where
 keep : ∀ b o, h.get? b = some o → b ∉ fs → b ∉ ch → h'.get? b = some o
 slot : ∀ b o, h.get? b = some o → b ∉ ch → ∃ sl, h'.get? b = some { o with slots := sl }
theorem Turned.refl {fs ch : List Addr} {h : Heap} : Turned fs ch h h := ⟨fun _ _ e _ _ => e, fun _ o e _ => ⟨o.slots, e⟩⟩
theorem Turned.un {fs ch : List Addr} {H : Hp} {h h' : Heap} (t : Turned fs ch h h') (hc : ∀ b ∈ ch, ∃ o, h'.get? b = some o) : Un fs ch H H h h' where
 keep := fun b o e _ hb hx => t.keep b o e hb hx
 slot := fun b o e _ _ hx => t.slot b o e hx
 free := fun _ _ _ n _ => n
 there := fun b o e hx => let ⟨_, q⟩ := t.slot b o e hx; ⟨_, q⟩
 tups := fun _ _ e => e
 frzs := fun _ _ _ e => e
 tbls := fun _ _ e => ⟨#[], by rw [e]; simp⟩
theorem Turned.hok {P : Program} {w : World} {fs ch : List Addr} {H : Hp} {h h' : Heap} (t : Turned fs ch h h') (ok : HOk P w H h) (hf : ∀ b ∈ fs, H b = none) (hc : ∀ b ∈ ch, H b = none) : HOk P w H h' := fun b u e =>
 (ok b u e).stay (fun c v hcb q => by
  have key : ∀ {z}, H c = some z → h'.get? c = some v := fun {z} hz => t.keep c v q (fun x => by rw [hf c x] at hz; cases hz) fun x => by rw [hc c x] at hz; cases hz
  rcases hcb with rfl | hcb
  ·exact key e
  ·exact key hcb) (fun _ q => q) fun _ _ q => q
structure Fly (n : Nat) (H : Hp) (h : Heap) (a : Addr) (cls : Value) (dx : Option Addr) : Prop where
 lo : n ≤ a
 un : H a = none
 ob : ∃ oe vs, h.get? a = some oe ∧ oe.cls = cls ∧ oe.dict = dx ∧ oe.data = .fields vs ∧ 1 < vs.size ∧
  (vs[1]? = some .none ∨ ∃ T oT ts, vs[1]? = some (.ref T) ∧ n ≤ T ∧ H T = none ∧ T ≠ a ∧ h.get? T = some oT ∧ oT.data = .fields ts ∧ 3 < ts.size)
structure FlyT (n : Nat) (H : Hp) (h : Heap) (a : Addr) (cls : Value) (dx : Option Addr) : Prop where
 lo : n ≤ a
 un : H a = none
 ob : ∃ oe vs, h.get? a = some oe ∧ oe.cls = cls ∧ oe.dict = dx ∧ oe.data = .fields vs ∧ 1 < vs.size ∧
  ∃ T oT ts, vs[1]? = some (.ref T) ∧ n ≤ T ∧ H T = none ∧ T ≠ a ∧ h.get? T = some oT ∧ oT.data = .fields ts ∧ 3 < ts.size
section
variable {n m : Nat} {H : Hp} {h : Heap} {a : Addr} {cls : Value} {dx : Option Addr}
theorem FlyT.fly (x : FlyT n H h a cls dx) : Fly n H h a cls dx := let ⟨oe, vs, h1, h2, h3, h4, h5, h6⟩ := x.ob; ⟨x.lo, x.un, oe, vs, h1, h2, h3, h4, h5, .inr h6⟩
theorem Fly.le (x : Fly n H h a cls dx) (hm : m ≤ n) : Fly m H h a cls dx := by
 obtain ⟨oe, vs, h1, h2, h3, h4, h5, h6⟩ := x.ob
 refine ⟨Nat.le_trans hm x.lo, x.un, oe, vs, h1, h2, h3, h4, h5, ?_⟩
 rcases h6 with h6 | ⟨T, oT, ts, k1, k2, k3, k4, k5, k6, k7⟩
 ·exact .inl h6
 ·exact .inr ⟨T, oT, ts, k1, Nat.le_trans hm k2, k3, k4, k5, k6, k7⟩
end
section
variable {M : Model} {A : Around} {E : Value → Shared → Prop} {s : Shared} {n : Nat} {H : Hp} {a : Addr} {cls : Value} {dx : Option Addr}
theorem dict_mapFields (o : Obj) (f : Array Value → Array Value) : (o.mapFields f).dict = o.dict := by
 obtain ⟨c, d, dt, sl⟩ := o; cases dt <;> rfl
theorem setFlight_fly {fr : Option Addr} {Q : Unit → Shared → Prop} {fs : List Addr} (F : FlyT n H s.heap a cls dx)
  (q : ∀ h' ch, (∀ b ∈ ch, n ≤ b ∧ H b = none ∧ ∃ o, h'.get? b = some o) → Turned fs ch s.heap h' → FlyT n H h' a cls dx → Q () { s with heap := h' }) : wpAny M A (setFlight (.ref a) fr) Q E s := by
 obtain ⟨oe, vs, h1, h2, h3, h4, h5, T, oT, ts, k1, k2, k3, k4, k5, k6, k7⟩ := F.ob
 unfold setFlight
 refine wpAny_bind (wpAny_field h1 h4 k1 ?_)
 rw [if_pos (show (Value.ref T != Value.none) = true from by simp)]
 refine wpAny_setField k5 k6 k7 ?_
 have self := Heap.get?_update_self (Obj.mapFields (·.setIfInBounds 3 (fr.elim Value.none fun f => rawInt f))) k5 (Obj.isFreed_of_fields (Obj.data_mapFields k6 _))
 have other : ∀ b o, b ≠ T → s.heap.get? b = some o → (s.heap.update T (Obj.mapFields (·.setIfInBounds 3 (fr.elim Value.none fun f => rawInt f)))).get? b = some o := fun b o hb e => (Heap.get?_update_other _ _ (Ne.symm hb)).trans e
 refine q _ [T] (fun b hb => ?_) ⟨fun b o e _ hb => other b o (fun z => hb (by simp [z])) e, fun b o e hb => ⟨o.slots, other b o (fun z => hb (by simp [z])) e⟩⟩ ⟨F.lo, F.un, oe, vs, other a oe (Ne.symm k4) h1, h2, h3, h4, h5, T, _, _, k1, k2, k3, k4, self, Obj.data_mapFields k6 _, by simpa using k7⟩
 obtain rfl : b = T := by simpa using hb
 exact ⟨k2, k3, _, self⟩
theorem entry_fly {base : Heap} {env0 env : Env} {outer : List Env} {L : Addr} {hadNext : Bool} {head : Value} {oe : Obj} {vs : Array Value} {Q : Unit → Shared → Prop}
  (hfr : A.frames = some (env0 :: outer)) (hl : s.heap.FunFrames base (env0 :: outer)) (hf0 : env0.frame = some L) (hf : env.frame = some L) (lo : n ≤ a) (un : H a = none) (fresh : ∀ b, s.heap.objs.size ≤ b → H b = none)
  (h1 : s.heap.get? a = some oe) (h2 : oe.cls = cls) (h3 : oe.dict = dx) (h4 : oe.data = .fields vs) (h5 : 1 < vs.size)
  (q : ∀ h' ch, (∀ b ∈ ch, n ≤ b ∧ H b = none ∧ ∃ o, h'.get? b = some o) → Turned (frs (env0 :: outer)) ch s.heap h' → FlyT n H h' a cls dx → Q () { s with heap := h' }) :
  wpAny M A (do let f ← PySem.frameOf env; let pl ← entryPlaceOf L hadNext; let t ← EntryCells.newEntry head f .none (rawInt L) .none pl; setField (.ref a) 1 t) Q E s := by
 have na : a ∉ frs (env0 :: outer) := fun hm => by
  obtain ⟨_, o, ho, hnf⟩ := hl.mem hm
  rw [h1] at ho
  cases ho
  exact hnf vs h4
 have e0 : PySem.frameOf env = PySem.frameOf env0 := by unfold PySem.frameOf; rw [hf, hf0]
 rw [e0]
 refine wpAny_bind (wpAny_frameOf_fun hfr hl hf0 fun g sl => ?_)
 refine wpAny_bind (wpAny_entryPlaceOf fun pl hpl => ?_)
 unfold EntryCells.newEntry newFields
 refine wpAny_bind (wpAny_newObj_type ?_ (hpl.sizeOk5 _ _ _ _ _))
 generalize ht : ([head, Value.ref L, .none, rawInt L, .none] ++ (if pl.isEmpty then List.replicate 6 Value.none else pl)).toArray = ts
 have hts : 3 < ts.size := by rw [← ht]; simp only [List.size_toArray, List.length_append, List.length_cons, List.length_nil] <;> omega
 have g1 : g.get? a = some oe := (sl.2.1 a na).trans h1
 have sz : g.objs.size = s.heap.objs.size := sl.1
 have p1 : (g.push { cls := .type "traceback", dict := none, data := .fields ts }).get? a = some oe := Heap.get?_push_of_some _ g1
 refine wpAny_setField p1 h4 h5 ?_
 have na2 : g.objs.size ≠ a := Nat.ne_of_gt (Heap.lt_size g1)
 have d1 := Obj.data_mapFields h4 (·.setIfInBounds 1 (Value.ref g.objs.size))
 have u1 := Heap.get?_update_self (Obj.mapFields (·.setIfInBounds 1 (Value.ref g.objs.size))) p1 (Obj.isFreed_of_fields d1)
 have u2 : ((g.push { cls := .type "traceback", dict := none, data := .fields ts }).update a (Obj.mapFields (·.setIfInBounds 1 (Value.ref g.objs.size)))).get? g.objs.size = some { cls := .type "traceback", dict := none, data := .fields ts } :=
  (Heap.get?_update_other _ _ (Ne.symm na2)).trans (Heap.get?_push_size g rfl)
 have other : ∀ b o, b ≠ a → g.get? b = some o → ((g.push { cls := .type "traceback", dict := none, data := .fields ts }).update a (Obj.mapFields (·.setIfInBounds 1 (Value.ref g.objs.size)))).get? b = some o := fun b o hb e =>
  (Heap.get?_update_other _ _ (Ne.symm hb)).trans (Heap.get?_push_of_some _ e)
 refine q _ [a] (fun b hb => ?_) ⟨fun b o e hb hc => other b o (fun z => hc (by simp [z])) ((sl.2.1 b hb).trans e), fun b o e hc => ?_⟩ ⟨lo, un, _, _, u1, (Obj.cls_mapFields _ _).trans h2, (dict_mapFields _ _).trans h3, d1, by simpa using h5, g.objs.size, _, _, by simp [h5], ?_, ?_, na2, u2, rfl, hts⟩
 ·obtain rfl : b = a := by simpa using hb
  exact ⟨lo, un, _, u1⟩
 ·obtain ⟨sl', e'⟩ := sl.2.2 b o e
  exact ⟨sl', other b _ (fun z => hc (by simp [z])) e'⟩
 ·exact Nat.le_trans lo (Nat.le_of_lt (Heap.lt_size g1))
 ·exact fresh _ (by rw [sz]; exact Nat.le_refl _)
theorem Turned.trans {fs c1 c2 : List Addr} {h h1 h2 : Heap} (x : Turned fs c1 h h1) (y : Turned fs c2 h1 h2) : Turned fs (c1 ++ c2) h h2 := by
 refine ⟨fun b o e hb hc => y.keep b o (x.keep b o e hb fun z => hc (List.mem_append_left _ z)) hb fun z => hc (List.mem_append_right _ z), fun b o e hc => ?_⟩
 obtain ⟨s1, e1⟩ := x.slot b o e fun z => hc (List.mem_append_left _ z)
 obtain ⟨s2, e2⟩ := y.slot b _ e1 fun z => hc (List.mem_append_right _ z)
 exact ⟨s2, e2⟩
theorem note_fly {base : Heap} {env0 env : Env} {outer : List Env} {L : Addr} {Q : Unit → Shared → Prop}
  (hfr : A.frames = some (env0 :: outer)) (hl : s.heap.FunFrames base (env0 :: outer)) (hf0 : env0.frame = some L) (hf : env.frame = some L) (fresh : ∀ b, s.heap.objs.size ≤ b → H b = none) (F : Fly n H s.heap a cls dx)
  (q : ∀ h' ch, (∀ b ∈ ch, n ≤ b ∧ H b = none ∧ ∃ o, h'.get? b = some o) → Turned (frs (env0 :: outer)) ch s.heap h' → FlyT n H h' a cls dx → Q () { s with heap := h' }) : wpAny M A (noteFrame (.ref a) env) Q E s := by
 obtain ⟨oe, vs, h1, h2, h3, h4, h5, h6⟩ := F.ob
 unfold noteFrame
 simp only [hf]
 rcases h6 with h6 | ⟨T, oT, ts, k1, k2, k3, k4, k5, k6, k7⟩
 ·refine wpAny_bind (wpAny_field h1 h4 h6 ?_)
  rw [if_neg (by decide)]
  exact entry_fly hfr hl hf0 hf F.lo F.un fresh h1 h2 h3 h4 h5 q
 ·refine wpAny_bind (wpAny_field h1 h4 k1 ?_)
  rw [if_pos (show (Value.ref T != Value.none) = true from by simp)]
  refine wpAny_bind (wpAny_field k5 k6 (x := ts[3]) (by simp [k7]) ?_)
  by_cases hm : (ts[3] == rawInt L) = true
  ·rw [if_pos hm]
   exact wpAny_pure (q s.heap [] (fun b hb => by cases hb) .refl ⟨F.lo, F.un, oe, vs, h1, h2, h3, h4, h5, T, oT, ts, k1, k2, k3, k4, k5, k6, k7⟩)
  ·rw [if_neg hm]
   refine wpAny_bind (wpAny_setField k5 k6 k7 ?_)
   have self := Heap.get?_update_self (Obj.mapFields (·.setIfInBounds 3 Value.none)) k5 (Obj.isFreed_of_fields (Obj.data_mapFields k6 _))
   have other : ∀ b o, b ≠ T → s.heap.get? b = some o → (s.heap.update T (Obj.mapFields (·.setIfInBounds 3 Value.none))).get? b = some o := fun b o hb e => (Heap.get?_update_other _ _ (Ne.symm hb)).trans e
   have nT : ∀ b o, s.heap.get? b = some o → (∀ vs, o.data ≠ .fields vs) → b ≠ T := fun b o e d z => by
    rw [z, k5] at e
    cases e
    exact d ts k6
   have tu : Turned (frs (env0 :: outer)) [T] s.heap (s.heap.update T (Obj.mapFields (·.setIfInBounds 3 Value.none))) := ⟨fun b o e _ hb => other b o (fun z => hb (by simp [z])) e, fun b o e hb => ⟨o.slots, other b o (fun z => hb (by simp [z])) e⟩⟩
   refine entry_fly hfr (hl.of_keeps fun b o e d => ⟨o, other b o (nT b o e d) e, rfl⟩) hf0 hf F.lo F.un (fun b hb => fresh b (by rw [show (s.heap.update T (Obj.mapFields (·.setIfInBounds 3 Value.none))).objs.size = s.heap.objs.size from Heap.size_after_update ..] at hb; exact hb)) (other a oe (Ne.symm k4) h1) h2 h3 h4 h5 fun h' ch hc tn fl => ?_
   refine q h' ([T] ++ ch) (fun b hb => ?_) (tu.trans tn) fl
   rcases List.mem_append.mp hb with hb | hb
   ·obtain rfl : b = T := by simpa using hb
    refine ⟨k2, k3, ?_⟩
    by_cases hc2 : b ∈ ch
    ·exact (hc b hc2).2.2
    ·obtain ⟨sl, e⟩ := tn.slot b _ self hc2
     exact ⟨_, e⟩
   ·exact hc b hb
end
end L2
namespace L2
open PySem PySem.Spec PyProof.Rows
def Bnd (X : Cx) (pins : List (Addr × Obj)) (n : Nat) : Prop := X.s₀.heap.objs.size ≤ n ∧ X.env.locals < n ∧ (∀ x c, X.env.cells.lookup x = some c → c < n) ∧ ∀ p ∈ X.pn ++ pins, p.1 < n
def XE (X : Cx) (E : XK) : Value → Shared → Prop := fun e s' => ∃ pins σ H n a cls dx, e = .ref a ∧ Inv X pins σ H s' ∧ Bnd X pins n ∧ Fly n H s'.heap a cls dx ∧ E cls dx H
noncomputable abbrev Cx.xp (X : Cx) (E : XK) : Cx := X.wish (XE X E)
def OwnFr (X : Cx) : Prop := ∃ env0 outer0 L, X.stack = env0 :: outer0 ∧ env0.frame = some L ∧ X.env.frame = some L
noncomputable def CXE (P : Program) (w : World) : CXT := fun outer H s E e s' => ∃ H' a cls dx, e = .ref a ∧ s'.os = s.os ∧ AllBare s'.gens ∧ Un (frs outer) [] H H' s.heap s'.heap ∧ HOk P w H' s'.heap ∧ Fly s.heap.objs.size H' s'.heap a cls dx ∧ E cls dx H'
section
variable {X : Cx} {pins : List (Addr × Obj)} {σ : St} {H : Hp} {s : Shared} {n : Nat} {a : Addr} {cls : Value} {dx : Option Addr} {M : Model} {A : Around} {E' : Value → Shared → Prop} {env : Env} {E : XK}
theorem Inv.bnd (I : Inv X pins σ H s) : Bnd X pins s.heap.objs.size :=
 ⟨I.sz, I.lt, fun x c e => let ⟨_, z⟩ := I.cell x c e; z.lt, fun p hp => Heap.lt_size (I.pin p hp).1⟩
theorem Bnd.le {m : Nat} (b : Bnd X pins n) (h : n ≤ m) : Bnd X pins m :=
 ⟨Nat.le_trans b.1 h, Nat.lt_of_lt_of_le b.2.1 h, fun x c e => Nat.lt_of_lt_of_le (b.2.2.1 x c e) h, fun p hp => Nat.lt_of_lt_of_le (b.2.2.2 p hp) h⟩
theorem Inv.turn {ch : List Addr} {h' : Heap} (I : Inv X pins σ H s) (B : Bnd X pins n) (hc : ∀ b ∈ ch, n ≤ b ∧ H b = none ∧ ∃ o, h'.get? b = some o) (t : Turned (frs X.stack) ch s.heap h') : Inv X pins σ H { s with heap := h' } := by
 refine I.call (g' := s.gens) (d' := s.drawn) (t' := s.toks) (t.un fun b hb => (hc b hb).2.2) (t.hok I.hok I.stkFree fun b hb => (hc b hb).2.1) I.bare fun b hb => ?_
 have lo := (hc b hb).1
 exact ⟨.inr (Nat.le_trans B.1 lo), Nat.ne_of_gt (Nat.lt_of_lt_of_le B.2.1 lo), fun x c e => Nat.ne_of_lt (Nat.lt_of_lt_of_le (B.2.2.1 x c e) lo), fun p hp => Nat.ne_of_lt (Nat.lt_of_lt_of_le (B.2.2.2 p hp) lo)⟩
theorem note_X {Q : Unit → Shared → Prop} (I : Inv X pins σ H s) (B : Bnd X pins n) (F : Fly n H s.heap a cls dx) (S : OwnFr X) (hA : A.frames = X.A.frames) (hE : env.frame = X.env.frame)
  (q : ∀ h', Inv X pins σ H { s with heap := h' } → FlyT n H h' a cls dx → Q () { s with heap := h' }) : wpAny M A (noteFrame (.ref a) env) Q E' s := by
 obtain ⟨env0, outer0, L, hs, h0, h1⟩ := S
 have fr : A.frames = some (env0 :: outer0) := by rw [hA, I.ok.frames, hs]
 have st := I.stack
 rw [hs] at st
 refine note_fly fr st h0 (hE.trans h1) (fun b hb => I.hok.fresh hb) F fun h' ch hc t fl => q h' (I.turn B hc ?_) fl
 rw [hs]
 exact t
theorem setFlight_X {fr : Option Addr} {Q : Unit → Shared → Prop} (I : Inv X pins σ H s) (B : Bnd X pins n) (F : FlyT n H s.heap a cls dx)
  (q : ∀ h', Inv X pins σ H { s with heap := h' } → FlyT n H h' a cls dx → Q () { s with heap := h' }) : wpAny M A (setFlight (.ref a) fr) Q E' s :=
 setFlight_fly (fs := frs X.stack) F fun h' ch hc t fl => q h' (I.turn B hc t) fl
theorem FlyT.head {h : Heap} (F : FlyT n H h a cls dx) : ∃ oe vs T, h.get? a = some oe ∧ oe.data = .fields vs ∧ vs[1]? = some (.ref T) :=
 let ⟨oe, vs, h1, _, _, h4, _, T, _, _, k1, _⟩ := F.ob; ⟨oe, vs, T, h1, h4, k1⟩
theorem passOn_X {α : Type} {what : String} {Q : α → Shared → Prop} (I : Inv X pins σ H s) (B : Bnd X pins n) (F : FlyT n H s.heap a cls dx) (q : E cls dx H) : wpAny M A (PySem.passOn what (.ref a) env : Sem α) Q (XE X E) s := by
 unfold PySem.passOn
 obtain ⟨oe, vs, T, h1, h2, h3⟩ := F.head
 refine wpAny_bind (wpAny_field h1 h2 h3 ?_)
 rw [if_neg (show ¬ ((Value.ref T == Value.none) = true) from by simp)]
 refine wpAny_bind ?_
 exact setFlight_X I B F fun h' I' F' => wpAny_throw ⟨pins, σ, H, n, a, cls, dx, rfl, I', B, F'.fly, q⟩
theorem leave_X {e : Value} {R : Value → Shared → Prop} (S : OwnFr X) (hx : X.ex = []) (z : XE X E e s) (q : ∀ s', CXE X.prog X.w X.outer X.H₀ X.s₀ E e s' → R e s') : wpAny M X.A (leaving X.env e) (fun _ s' => R e s') E' s := by
 obtain ⟨pins, σ, H, n, a, cls, dx, rfl, I, B, F, qE⟩ := z
 unfold leaving
 refine wpAny_bind (note_X I B F S rfl rfl fun h' I' F' => ?_)
 refine setFlight_X (s := { s with heap := h' }) I' B F' fun h'' I'' F'' => q _ ?_
 have u := I''.base
 rw [hx] at u
 exact ⟨H, a, cls, dx, rfl, I''.os, I''.bare, u, I''.hok, F''.fly.le B.1, qE⟩
theorem passX : Passes (CXE X.prog X.w) (X.xp E) E := by
 rintro pins σ H s e s' I ⟨H', a, cls, dx, rfl, os, bare, un, hok, F, q⟩
 have I0 := I.unwish
 exact ⟨pins, σ, H', _, a, cls, dx, rfl, I0.call' (ch := []) os un hok bare (fun b z => absurd z (by simp)), I0.bnd, F, q⟩
end
section
variable {P : Program} {w : World} {K : PySem.W.Frag} {mg : Str → Option Value} {base : Heap}
theorem own_fr {CX : CXT} {N : List Str} {qual : Str} {scope : Scope} {f : Addr} {cd : Value} {A : Around} {outer : List Env} {s : Shared} {H : Hp} {E : XK} : OwnFr (cxOf CX P w K mg base N qual scope f cd A outer s H E) := ⟨_, _, _, rfl, rfl, rfl⟩
theorem Fun.okX {x qual : Str} {st : Stmt} {f : Addr} {fd : FuncData} {N ps : List Str} {k : Nat} {sp : Sp} (F : Fun K x qual st f fd) (S : FnScope N ps (defScope st)) (len : ∀ vs H Q E, sp vs H Q E → vs.length = ps.length)
  (hbody : ∀ (cdv : Value) (A : Around) (outer : List Env) (s : Shared) (H : Hp) (vs : List V) (Q : VK) (E : XK), Room k (A.deeper (envOfC qual (defScope st) s.heap.objs.size f cdv)) → sp vs H Q E →
   ∃ t, PSs ((cxOf (CXE P w) P w K mg base N qual (defScope st) f cdv A outer s H E).xp E) (defBody st) t ∧ t { nx := fun _ H' => Q .non H', rt := Q } (start N vs) H) : FnOk P w K mg base (CXE P w) (k + 1) f fd ps sp := by
 obtain ⟨oc, od, kV, doc, pm, an, cdv, ct, osl, rfl, lk, hcd⟩ := F.ex
 refine fn_of lk hcd S len fun A outer s H vs Q E hr hsp => ?_
 obtain ⟨t, h, q⟩ := hbody cdv A outer s H vs Q E hr hsp
 refine ⟨t, fun pins s' σ H' D I hw => wpAny_mono (h pins s' σ H' D (I.wish _) hw) (fun _ _ q => q.unwish) fun e s'' z => ?_, q⟩
 exact leave_X own_fr rfl z fun _ y => y
def HasX (P : Program) (w : World) (K : PySem.W.Frag) (mg : Str → Option Value) (base : Heap) (k : Nat) (x : Str) (ps : List Str) (sp : Sp) : Prop :=
 ∃ (f : Addr) (fd : FuncData), FnOk P w K mg base (CXE P w) k f fd ps sp ∧ Binds K fd ps [] ∧ PySem.W.keepIn K (.ref f) = true ∧ mg x = some (.ref f)
theorem HasX.up {j k : Nat} {x : Str} {ps : List Str} {sp : Sp} (h : HasX P w K mg base j x ps sp) (l : j ≤ k) : HasX P w K mg base k x ps sp := by
 obtain ⟨f, fd, F, r⟩ := h
 exact ⟨f, fd, F.mono l, r⟩
theorem Def.hasX {k : Nat} {x : Str} {st : Stmt} {N ps : List Str} {sp : Sp} (D : Def K mg x st ps) (S : FnScope N ps (defScope st)) (len : ∀ vs H Q E, sp vs H Q E → vs.length = ps.length)
  (hbody : ∀ (f : Addr) (cdv : Value) (A : Around) (outer : List Env) (s : Shared) (H : Hp) (vs : List V) (Q : VK) (E : XK), Room k (A.deeper (envOfC x (defScope st) s.heap.objs.size f cdv)) → sp vs H Q E →
   ∃ t, PSs ((cxOf (CXE P w) P w K mg base N x (defScope st) f cdv A outer s H E).xp E) (defBody st) t ∧ t { nx := fun _ H' => Q .non H', rt := Q } (start N vs) H) : HasX P w K mg base (k + 1) x ps sp := by
 obtain ⟨f, fd, F, b, m⟩ := D
 exact ⟨f, fd, F.okX S len fun cdv A outer s H vs Q E hr h => hbody f cdv A outer s H vs Q E hr h, b, F.kp, m⟩
end
section
variable {X : Cx} {E : XK} {k : Nat} {ps : List Str} {sp : Sp} {x : Str} {p pos : Pos} {e : Expr} {es : List Expr} {t : TA}
theorem pe_hasX (h : HasX X.prog X.w X.K X.mg X.base k x ps sp) (hr : Room k X.A) (ha : PA (X.xp E) (e :: es) t) (hg : Gl X x := by rfl) (hdb : (x == ("__debug__" : Str)) = false := by decide +kernel)
  (he : starEach (e :: es) X.env = (false, eval e X.env) :: starEach es X.env := by rfl) (hpl : (backTo pos (starEach es X.env)).any (·.1) = false := by rfl) :
  PE (X.xp E) (.Call (.Name x p) (e :: es) [] pos) (tCall sp [] E t) := by
 obtain ⟨f, fd, F, b, kp, m⟩ := h
 exact pe_call (X := X.xp E) F hr hg m kp b .nil passX ha hdb he hpl
end
end L2
namespace L2
open PySem PySem.Spec PyProof.Rows
section
variable {X : Cx} {scope : Scope} {own fr : List Str} {ix : List Nat} {cl : List (Str × Addr)} {elt iter tg : Expr} {ifs : List Expr} {pos : Pos} {wi : TI} {g : TG} {tc : TT} {te : TE}
theorem Fly.same {n : Nat} {H : Hp} {h h' : Heap} {a C : Addr} {cls : Value} {dx : Option Addr} (F : FlyT n H h a cls dx) (hlt : C < n) (sb : Heap.SameBut C h h') : FlyT n H h' a cls dx := by
 obtain ⟨oe, vs, h1, h2, h3, h4, h5, T, oT, ts, k1, k2, k3, k4, k5, k6, k7⟩ := F.ob
 exact ⟨F.lo, F.un, oe, vs, (sb.2 a (Nat.ne_of_gt (Nat.lt_of_lt_of_le hlt F.lo))).trans h1, h2, h3, h4, h5, T, oT, ts, k1, k2, k3, k4, (sb.2 T (Nat.ne_of_gt (Nat.lt_of_lt_of_le hlt k2))).trans k5, k6, k7⟩
theorem comp_errX {Ex : XK} {pins : List (Addr × Obj)} {σ : St} {H3 H' : Hp} {s3 s' : Shared} {n : Nat} {a : Addr} {cls : Value} {dx : Option Addr} {u : Option (Value → Sem Unit)} {Q : Value → Shared → Prop} {acc : Value} (I3 : Inv X pins σ H3 s3) (I' : Inv X pins σ H' s') (hn : H' s3.heap.objs.size = none)
  (hm : ∃ m, s'.heap.Ns s3.heap.objs.size m) (hlt : s3.heap.objs.size < n) (F : FlyT n H' s'.heap a cls dx) (qE : Ex cls dx H') : compPost (model X.prog X.w) X.A (XE X Ex) u Q acc s3.heap.objs.size (.error (.ref a)) s' := by
 obtain ⟨m, hm⟩ := hm
 refine ⟨m, hm, fun h' sb cenv _ => ?_⟩
 exact passOn_X (s := { s' with heap := h' }) (inv_gone I3 I' hn sb) (I3.bnd.le (Nat.le_of_lt hlt)) (Fly.same F hlt sb) qE
theorem comp_blockX {Ex : XK} (S : OwnFr X) {E : Value → Shared → Prop} {RR : Value → Addr → Result → Shared → Prop} (C : ClOk X scope own fr ix cl) (hc : X.calm = true)
  (hg : ∀ fp s H, PG ((cxC X scope cl (own ++ fr) fp s H).xp Ex) tg g) (ht : ∀ fp s H, PIfs ((cxC X scope cl (own ++ fr) fp s H).xp Ex) ifs tc) (he : ∀ fp s H, PE ((cxC X scope cl (own ++ fr) fp s H).xp Ex) elt te)
  {pins : List (Addr × Obj)} {σ : St} {H2 : Hp} {s2 : Shared} {it : Addr} {fp : List Addr} {tn : Nat → Heap → Prop} {J : It} {Q : Hp → Prop} (I2 : Inv X pins σ H2 s2) (T : Turn X.prog X.w X.K tg J fp it tn) (st2 : tn 0 s2.heap) (f2 : ∀ b ∈ fp, FpOk X pins H2 b)
  (q : LC own.length (frOf ix σ) g tc te J s2.heap.objs.size H2 Q)
  (hRR : ∀ (s3 s' : Shared) (H3 H' : Hp) (τ : St), Inv X pins σ H3 s3 → Inv X pins σ H' s' → H' s3.heap.objs.size = none → (∃ m, s'.heap.Ns s3.heap.objs.size m) → Q H' → RR (.ref s2.heap.objs.size) s3.heap.objs.size (.ok .next) s')
  (hRE : ∀ (s3 s' : Shared) (H3 H' : Hp) (n : Nat) (a : Addr) (cls : Value) (dx : Option Addr), Inv X pins σ H3 s3 → Inv X pins σ H' s' → H' s3.heap.objs.size = none → (∃ m, s'.heap.Ns s3.heap.objs.size m) → s3.heap.objs.size < n → FlyT n H' s'.heap a cls dx → Ex cls dx H' →
   RR (.ref s2.heap.objs.size) s3.heap.objs.size (.error (.ref a)) s') :
  wpAny (model X.prog X.w) X.A (newList []) (fun acc s₃ => wpAny (model X.prog X.w) X.A (newFunctionEnv scope X.env.globals cl [] X.env.qual none .none (some X.env)) (fun cenv s₄ =>
   codeAny (model X.prog X.w) X.A (.compStart (.ListComp elt [⟨tg, iter, ifs, 0⟩] scope pos) 0 (.ref it) acc { cenv with scope := relabel scope X.env }) (RR acc cenv.locals) s₄) E s₃) E s2 := by
 refine wpAny_newObj_type ?_
 have I3 : Inv X pins σ (upd H2 s2.heap.objs.size (.lst [])) { s2 with heap := s2.heap.push { cls := .type "list", dict := none, data := .seq ([] : List Value).toArray } } := I2.lnew (t' := s2.toks) (its := []) .nil (Nat.zero_le _)
 have lt2 : ∀ b ∈ fp, b < s2.heap.objs.size := fun b hb => by
  obtain ⟨o, e, _⟩ := T.obj 0 _ st2 b hb
  exact Heap.lt_size e
 have fneD : ∀ b ∈ fp, b ≠ s2.heap.objs.size := fun b hb => Nat.ne_of_lt (lt2 b hb)
 generalize hs3 : ({ s2 with heap := s2.heap.push { cls := .type "list", dict := none, data := .seq ([] : List Value).toArray } } : Shared) = s3 at I3 ⊢
 have hsz : s3.heap.objs.size = s2.heap.objs.size + 1 := by rw [← hs3]; exact Heap.size_push ..
 have kp23 : ∀ b o, s2.heap.get? b = some o → s3.heap.get? b = some o := fun b o e => by rw [← hs3]; exact Heap.get?_push_of_some _ e
 have f3 : ∀ b ∈ fp, FpOk X pins (upd H2 s2.heap.objs.size (.lst [])) b := fun b hb => by
  obtain ⟨f0, fr⟩ := f2 b hb
  exact ⟨by rw [upd_ne (fneD b hb)]; exact f0, fr⟩
 have lt3 : ∀ b ∈ fp, b < s3.heap.objs.size := fun b hb => by rw [hsz]; exact Nat.lt_succ_of_lt (lt2 b hb)
 refine wpAny_newFunctionEnv C.nocell' (by intro y hy; simp at hy) (fun h₁ hns₁ hsb₁ => ?_) C.kind
 have k34 : ∀ b o, s3.heap.get? b = some o → h₁.get? b = some o := fun b o e =>
  (hsb₁.2 b (Nat.ne_of_lt (Heap.lt_size e))).trans (Heap.get?_push_of_some _ e)
 have I4 := inv_comp C I3 f3 lt3 (t := s3.toks + ([] : List (Str × Value)).length) hns₁ k34
 have st4 : tn 0 h₁ := T.keep 0 _ _ st2 fun b _ o e => k34 b o (kp23 b o e)
 obtain ⟨W, ⟨m0, w0⟩, turn⟩ := q
 have loop : ∀ s4 : Shared, s4 = { s3 with heap := h₁, toks := s3.toks + ([] : List (Str × Value)).length } →
   codeAny (model X.prog X.w) X.A (.compLoop (.ListComp elt [⟨tg, iter, ifs, 0⟩] scope pos) 0 (.ref it) (.ref s2.heap.objs.size) (compEnvC scope cl s3.heap.objs.size X.env)) (RR (.ref s2.heap.objs.size) s3.heap.objs.size) s4 := by
  rintro s4 rfl
  have stat : ∀ {H' : Hp}, (∀ b ∈ fp, H' b = none) → ∀ b ∈ fp, FpOk (cxC X scope cl (own ++ fr) fp s3 (upd H2 s2.heap.objs.size (.lst []))) [] H' b := fun {H'} hn b hb =>
   ⟨hn b hb, Nat.ne_of_lt (lt3 b hb), I4.ok.exfs b hb, .inl hb, (I4.ok.exf b hb).2, fun p hp => by cases hp⟩
  have thrown : ∀ e s', XE (cxC X scope cl (own ++ fr) fp s3 (upd H2 s2.heap.objs.size (.lst []))) Ex e s' → notedBy (model X.prog X.w) X.A (compEnvC scope cl s3.heap.objs.size X.env) (fun e s' => RR (.ref s2.heap.objs.size) s3.heap.objs.size (.error e) s') e s' := by
   rintro e s' ⟨pins', σ', H', n, a, cls, dx, rfl, J, B, F, qE⟩
   obtain ⟨e0, o0, L0, k1, k2, k3⟩ := S
   refine note_X J B F ⟨e0, o0, L0, k1, k2, k3⟩ rfl rfl fun h' J' F' => ?_
   obtain ⟨mm, hmm, _⟩ := J'.loc
   exact hRE s3 _ _ H' n a cls dx I3 (inv_back I3 f3 J') J'.free ⟨mm, hmm⟩ B.2.1 F' qE
  refine compLoop_any (fun n s' => ∃ i τ H', τ.length = own.length ∧ Inv (cxC X scope cl (own ++ fr) fp s3 (upd H2 s2.heap.objs.size (.lst []))) [] (τ ++ frOf ix σ) H' s' ∧ tn i s'.heap ∧ (∀ b ∈ fp, H' b = none) ∧ W i n H') ?_ m0
   ⟨0, List.replicate own.length none, _, List.length_replicate, I4, st4, fun b hb => (f3 b hb).1, w0⟩
  rintro n s5 ⟨i, τ, H5, hτ, I5, st5, fr5, w5⟩
  rcases turn i n H5 w5 with ⟨stop, qn⟩ | ⟨go, step⟩
  ·refine wpAny_mono (T.done (cxC X scope cl (own ++ fr) fp s3 (upd H2 s2.heap.objs.size (.lst []))) rfl rfl rfl hc i [] s5 _ H5 (fun _ _ => False) I5 (stat fr5) st5 stop) (fun r s6 ⟨hr, I6⟩ => ?_) fun _ _ z => z.elim
   subst hr
   obtain ⟨mm, hmm, _⟩ := I6.loc
   exact hRR s3 s6 _ H5 τ I3 (inv_back I3 f3 I6) I6.free ⟨mm, hmm⟩ qn
  ·refine wpAny_mono (T.item (cxC X scope cl (own ++ fr) fp s3 (upd H2 s2.heap.objs.size (.lst []))) rfl rfl rfl hc i [] s5 _ H5 (fun _ _ => False) I5 (stat fr5) st5 go) (fun r s6 ⟨u, hr, h6⟩ => ?_) fun _ _ z => z.elim
   subst hr
   refine wpAny_mono h6 (fun _ s7 ⟨x, H7, I7, r7, y7, st7, fr7⟩ => ?_) fun _ _ z => z.elim
   have I7' := I7.pinned (stat fr7) (T.obj _ _ st7)
   refine wpAny_mono (hg fp s3 _ _ s7 _ H7 x u _ (I7'.wish _) r7 (step τ x H7 hτ y7)) (fun _ s8 ⟨σ8, H8, I8', ⟨τ', hτ', e8⟩, q8⟩ => ?_) thrown
   have I8 := I8'.unwish
   have fin : ∀ {H9 : Hp} {s9 : Shared}, Inv (cxC X scope cl (own ++ fr) fp s3 (upd H2 s2.heap.objs.size (.lst []))) ([] ++ pinsAt fp s7.heap) σ8 H9 s9 → (∃ m', m' < n ∧ W (i + 1) m' H9) →
     ∃ m, m < n ∧ ∃ i τ H', τ.length = own.length ∧ Inv (cxC X scope cl (own ++ fr) fp s3 (upd H2 s2.heap.objs.size (.lst []))) [] (τ ++ frOf ix σ) H' s9 ∧ tn i s9.heap ∧ (∀ b ∈ fp, H' b = none) ∧ W i m H' := fun {H9 s9} I9 hw => by
    obtain ⟨m', hm, w9⟩ := hw
    refine ⟨m', hm, i + 1, τ', H9, hτ', e8 ▸ I9.unpinned, T.keep _ _ _ st7 fun b hb o e => (I9.pin (b, o) (List.mem_append_right _ (List.mem_append_right _ (mem_pinsAt hb e)))).1, fun b hb => ?_, w9⟩
    obtain ⟨o, e, d⟩ := T.obj _ _ st7 b hb
    exact (I9.pin (b, o) (List.mem_append_right _ (List.mem_append_right _ (mem_pinsAt hb e)))).2.1
   refine wpAny_mono (ht fp s3 _ _ s8 σ8 H8 _ I8' q8) (fun ok s9 ⟨H9, I9', q9⟩ => ?_) thrown
   have I9 := I9'.unwish
   cases ok with
   | false => exact fin I9 q9
   | true =>
    refine wpAny_mono (he fp s3 _ _ s9 σ8 H9 _ I9' q9) (fun y s10 ⟨v10, H10, I10', r10, ys, hD, hz, q10⟩ => ?_) thrown
    have I10 := I10'.unwish
    refine wpAny_mono (mt_append (X := cxC X scope cl (own ++ fr) fp s3 (upd H2 s2.heap.objs.size (.lst []))) _ s10 σ8 H10 (.ref s2.heap.objs.size) [v10] _ [y] (fun _ H' => ∃ m', m' < n ∧ W (i + 1) m' H') I10 rfl (.cons r10 .nil) ⟨_, ys, v10, rfl, rfl, hD, hz, q10⟩) (fun _ s11 ⟨_, H11, I11, _, q11⟩ => ?_) fun _ _ z => z.elim
    exact fin I11 q11
 exact codeAny_compStart_list (loop _ rfl) (T.self _ 0 _ _ _ st4 (loop _ rfl))
theorem pe_lcX {Ex : XK} (S : OwnFr X) (C : ClOk X scope own fr ix cl) (hc : X.calm = true) (hi : PI (X.xp Ex) tg iter wi) (hg : ∀ fp s H, PG ((cxC X scope cl (own ++ fr) fp s H).xp Ex) tg g)
  (ht : ∀ fp s H, PIfs ((cxC X scope cl (own ++ fr) fp s H).xp Ex) ifs tc) (he : ∀ fp s H, PE ((cxC X scope cl (own ++ fr) fp s H).xp Ex) elt te)
  (hs : ∀ x, foldedSetIterable iter X.env x = pure x := by intro _; rfl) : PE (X.xp Ex) (.ListComp elt [⟨tg, iter, ifs, 0⟩] scope pos) (tLC own.length ix wi g tc te) := by
 intro pins s σ H Q I h
 rw [eval_ListComp]
 refine wpAny_comprehension_free (use := none) rfl hs C.clos C.kind C.names' (thn (hi pins s σ H _ I h) fun v s1 h1 => thn h1 fun itv s2 h2 => ?_)
 obtain ⟨it, fp, tn, J, H2, e, I2', T, st2, f2, q⟩ := h2
 have I2 := I2'.unwish
 subst e
 refine comp_blockX (Ex := Ex) S (RR := fun acc D => compPost (model X.prog X.w) X.A (XE X Ex) none (EP (X.xp Ex) pins σ Q) acc D) C hc hg ht he I2 T st2 f2 (q _ (I2.hok.fresh (Nat.le_refl _))) (fun s3 s' H3 H' τ I3 I' hn hm q' => ?_) fun s3 s' H3 H' n a cls dx I3 I' hn hm hlt F qE => ?_
 ·obtain ⟨m, hm⟩ := hm
  exact ⟨m, hm, fun h' sb => ⟨.ref s2.heap.objs.size, H', (inv_gone I3 I' hn sb).wish _, rfl, q'⟩⟩
 ·exact comp_errX I3 I' hn hm hlt F qE
end
end L2
namespace PySem
open Sem (wp)
structure Xc (K : W.Frag) (C : Addr) (bm : List Value) : Prop where
 lk : ∃ nm q N bs sn sub ab col dd k0 k1 k2 k3 k5, K.lookup C = some (excClassObj nm q C N bs bm true sn sub ab col dd k0 k1 k2 k3 k5 "ValueError.__new__")
 hv : bm.contains (.type "ValueError") = true
 hb : bm.contains (.type "BaseException") = true
 ha : bm.contains (.type "AttributeError") = false
 hn : bm.contains (.type "NameError") = false
 ho : bm.contains (.type "object") = true
 kp : W.keepIn K (.ref C) = true
 sa : ∀ self : Value, refuseLoop self "__setattr__" bm = pure ()
 fs : W.findIn K (.ref C) "__setattr__" = some (some (.builtin "object.__setattr__"))
 fg : W.findIn K (.ref C) "__getattribute__" = some (some (.builtin "BaseException.__getattribute__"))
 fh : W.findIn K (.ref C) "__getattr__" = some none
 fc : W.findIn K (.ref C) "__class__" = some (some (.builtin "object.__class__"))
section
variable {prog : Program} {w : World} {A : Around} {E : Value → Shared → Prop} {K : W.Frag} {C : Addr} {bm rest : List Value} {init : Value}
theorem xnew_run {h : Heap} {g : Array GenState} {d : Drawn} {t : Nat} {os : OsState} {R : Result → Shared → Prop} (X : K.In h) (c : Xc K C bm) (hl : rest.length ≤ sizeLine)
  (q : R (.ok (.ret (.ref (h.objs.size + 1)))) ⟨(h.push { cls := .type "tuple", data := .seq rest.toArray }).push { cls := .ref C, data := .fields #[.ref h.objs.size, .none, .none, .none, .bool false, .none] }, g, d, t, os⟩) :
  codeAny (model prog w) A (.builtin "ValueError.__new__" ⟨.ref C :: rest, []⟩) R ⟨h, g, d, t, os⟩ := by
 obtain ⟨nm, qn, N, bs, sn, sub, ab, col, dd, k0, k1, k2, k3, k5, lk⟩ := c.lk
 have hC := X _ _ lk
 have Fv := PySem.F.excBase_ValueError
 have hends := Fv.ends
 have z1 : (Value.ref C :: bm).contains (.type "ValueError") = true := by rw [List.contains_cons, c.hv, Bool.or_true]
 have z2 : (Value.ref C :: bm).contains (.type "AttributeError") = false := by rw [List.contains_cons, c.ha]; rfl
 have z3 : (Value.ref C :: bm).contains (.type "NameError") = false := by rw [List.contains_cons, c.hn]; rfl
 refine codeAny_builtinAt Fv.entry ?_
 unfold Builtin.«BaseException.__new__»
 refine wpAt_bind ?_
 show wpAt _ _ _ (stack >>= _) _ _ _
 refine wpAt_bind (wpAt_stack fun p below => wpAt_of_wpAny ?_)
 wp_walk
 refine wpAt_of_wpAny ?_
 rw [Fv.owner]
 repeat (first | with_reducible refine wpAny_madeHere_exc Fv.canon hC ?_ | with_reducible refine wpAny_loadPart_at hC ?_ | (with_reducible refine wpAny_isSubtype_exc hC ?_; first | rw [z1] | rw [z2] | rw [z3]) | wp_step)
 show R _ _
 rw [Heap.size_push]
 exact q
theorem xtype_call {h : Heap} {g : Array GenState} {d : Drawn} {t : Nat} {os : OsState} {Q : Fin → Shared → Prop} (X : K.In h) (c : Xc K C bm) (hi : W.findIn K (.ref C) "__init__" = some (some init))
  (hb : ∀ self, W.Looks (model prog w) h (bindSpecial init self) (init, [self])) (hl : rest.length ≤ sizeLine)
  (q : wpAny (model prog w) A (call init (.ref (h.objs.size + 1) :: rest)) (fun r s' => r = .none ∧ Q (.done (.ret (.ref (h.objs.size + 1)))) s') E
   ⟨(h.push { cls := .type "tuple", data := .seq rest.toArray }).push { cls := .ref C, data := .fields #[.ref h.objs.size, .none, .none, .none, .bool false, .none] }, g, d, t, os⟩) :
  wpAny (model prog w) A (Builtin.«type.__call__» ⟨.ref C :: rest, []⟩) Q E ⟨h, g, d, t, os⟩ := by
 obtain ⟨nm, qn, N, bs, sn, sub, ab, col, dd, k0, k1, k2, k3, k5, lk⟩ := c.lk
 have hC := X _ _ lk
 have Fv := PySem.F.excBase_ValueError
 repeat (first | with_reducible refine wpAny_loadPart_at hC ?_ | with_reducible refine wpAny_madeBy_exc hC ?_ | wp_step)
 refine codeAny_call_builtin_code (Code.quiet_builtin _ Fv.quiet) (wpAny_check_new_subU Fv c.hv .base hC ?_)
 refine xnew_run X c hl ?_
 show wpAny _ _ _ _ _ _
 have kk : ∀ b o, h.get? b = some o → ((h.push { cls := .type "tuple", data := .seq rest.toArray }).push { cls := .ref C, data := .fields #[.ref h.objs.size, .none, .none, .none, .bool false, .none] }).get? b = some o :=
  fun b o e => Heap.get?_push_of_some _ (Heap.get?_push_of_some _ e)
 have hC2 := kk _ _ hC
 have he : ((h.push { cls := .type "tuple", data := .seq rest.toArray }).push { cls := .ref C, data := .fields #[.ref h.objs.size, .none, .none, .none, .bool false, .none] }).get? (h.objs.size + 1) = some
   { cls := .ref C, data := .fields #[.ref h.objs.size, .none, .none, .none, .bool false, .none] } := by heap_get
 have z4 : (Value.ref C :: bm).contains (.ref C) = true := by simp
 unfold isInstance
 repeat (first | with_reducible refine wpAny_loadPart_at he ?_ | (with_reducible refine wpAny_isSubtype_exc hC2 ?_; rw [z4]) | wp_step)
 show wpAny _ _ (typeLookup (.ref C) _) _ _ _
 refine ((W.looks_findIn X hi).keeps kk).here ?_
 refine wpAny_holding (wpAny_bind (((hb _).keeps kk).here ?_))
 refine wpAny_bind (wpAny_mono q (fun r s' hr => ?_) fun _ _ z => z)
 obtain ⟨rfl, hQ⟩ := hr
 wp_walk
 exact hQ
theorem exc_call {s : Shared} {Q : Value → Shared → Prop} (X : K.In s.heap) (c : Xc K C bm) (hi : W.findIn K (.ref C) "__init__" = some (some init)) (hb : ∀ self, W.Looks (model prog w) s.heap (bindSpecial init self) (init, [self]))
  (hl : rest.length ≤ sizeLine)
  (q : wpAny (model prog w) (A.under (.builtin "type.__call__" ⟨.ref C :: rest, []⟩)) (call init (.ref (s.heap.objs.size + 1) :: rest)) (fun r s' => r = .none ∧ Q (.ref (s.heap.objs.size + 1)) s') E
   { s with heap := (s.heap.push { cls := .type "tuple", data := .seq rest.toArray }).push { cls := .ref C, data := .fields #[.ref s.heap.objs.size, .none, .none, .none, .bool false, .none] } }) :
  wpAny (model prog w) A (call (.ref C) rest) Q E s := by
 obtain ⟨h, g, d, t, os⟩ := s
 obtain ⟨nm, qn, N, bs, sn, sub, ab, col, dd, k0, k1, k2, k3, k5, lk⟩ := c.lk
 have hC := X _ _ lk
 dsimp only at hC q
 have g1 := tc_lookup
 have g2 := tc_bind (.ref C)
 have g3 : (⟨h, g, d, t, os⟩ : Shared).TypeIs (.ref C) "type" := ⟨_, hC, rfl⟩
 refine wpAny_call (codeAny_of_tree ?_)
 show wpAny _ _ (callAny (.ref C) _) _ _ _
 repeat (any_goals (first | assumption | with_reducible refine wpAny_loadPart_at hC ?_ | wp_step))
 refine ⟨rfl, ?_⟩
 refine codeAny_call_builtin_at (Code.quiet_builtin _ (by decide +kernel)) entry_typeCall (wpAny_check_type_call_sub hC (xtype_call X c hi hb hl ?_))
 exact q
end
end PySem
namespace L2
open PySem PySem.Spec PyProof.Rows
noncomputable def XO (a C : Addr) (dx : Option Addr) (nw : Bool) : HO := .ext fun h => ∃ o vs, h.get? a = some o ∧ o.cls = .ref C ∧ o.dict = dx ∧ o.data = .fields vs ∧ (nw = true → ∃ t, vs = #[.ref t, .none, .none, .none, .bool false, .none])
noncomputable def XD (dx : Addr) (fs : List (Str × V)) : HO := .ext fun h => ∃ mA, h.Ns1 dx mA ∧ (∀ f, RelO (fs.lookup f) (mA f)) ∧ PySem.Within mA (fs.map (·.1))
theorem XO.mk {P : Program} {w : World} {H : Hp} {h : Heap} {a C : Addr} {dx : Option Addr} {nw : Bool} (e : ∃ o vs, h.get? a = some o ∧ o.cls = .ref C ∧ o.dict = dx ∧ o.data = .fields vs ∧ (nw = true → ∃ t, vs = #[.ref t, .none, .none, .none, .bool false, .none])) : ObjOk P w H h a (XO a C dx nw) := by
 refine ⟨e, ?_, ?_⟩
 ·obtain ⟨o, _, q, _⟩ := e
  exact ⟨o, q⟩
 ·rintro h1 h2 ⟨o, vs, q, r⟩ k
  exact ⟨o, vs, k o q, r⟩
theorem XO.get {P : Program} {w : World} {H : Hp} {h : Heap} {a C : Addr} {dx : Option Addr} {nw : Bool} (x : HOk P w H h) (e : H a = some (XO a C dx nw)) : ∃ o vs, h.get? a = some o ∧ o.cls = .ref C ∧ o.dict = dx ∧ o.data = .fields vs ∧ (nw = true → ∃ t, vs = #[.ref t, .none, .none, .none, .bool false, .none]) := (x a _ e).1
theorem XD.get {P : Program} {w : World} {H : Hp} {h : Heap} {dx : Addr} {fs : List (Str × V)} (x : HOk P w H h) (e : H dx = some (XD dx fs)) : ∃ mA, h.Ns1 dx mA ∧ (∀ f, RelO (fs.lookup f) (mA f)) ∧ PySem.Within mA (fs.map (·.1)) := (x dx _ e).1
end L2
namespace PySem
open Sem (wp)
open Builtin Builtin.ObjectAttr
section
variable {prog : Program} {w : World} {A : Around} {E : Value → Shared → Prop} {K : W.Frag} {C x : Addr} {bm rest : List Value} {h : Heap} {g : Array GenState} {d : Drawn} {t : Nat} {os : OsState} {o : Obj} {vs : Array Value}
theorem xinit_run {R : Result → Shared → Prop} (X : K.In h) (c : Xc K C bm) (hx : h.get? x = some o) (hc : o.cls = .ref C) {t0 : Addr} (hd : o.data = .fields #[.ref t0, .none, .none, .none, .bool false, .none]) (hl : rest.length ≤ sizeLine)
  (q : R (.ok (.ret .none)) ⟨(h.push { cls := .type "tuple", data := .seq rest.toArray }).update x (Obj.mapFields (·.setIfInBounds 0 (.ref h.objs.size))), g, d, t, os⟩) :
  codeAny (model prog w) A (.call (.builtin "ValueError.__init__") ⟨.ref x :: rest, []⟩) R ⟨h, g, d, t, os⟩ := by
 obtain ⟨nm, qn, N, bs, sn, sub, ab, col, dd, k0, k1, k2, k3, k5, lk⟩ := c.lk
 have hC := X _ _ lk
 have Fv := PySem.F.excBase_ValueError
 have z1 : (Value.ref C :: bm).contains (.type "ValueError") = true := by rw [List.contains_cons, c.hv, Bool.or_true]
 have short := Fv.noStar
 refine codeAny_call_builtin Fv.init.plain Fv.initEntry ?_
 simp only [checkBuiltinCall, Fv.initKind, Fv.initSplit, Fv.initRow]
 repeat (first | (with_reducible refine wpAny_loadPart_at hx ?_; rw [hc]) | with_reducible refine wpAny_loadPart_at hC ?_ | (with_reducible refine wpAny_isSubtype_exc hC ?_; rw [z1]) | wp_step)
 refine wpAny_onRaise ?_
 rw [show ∀ (a b : String) (n : Nat), Bind.check ⟨.positional, "*", "ValueError", .self, [⟨"args", .varPos, false⟩]⟩ a b n (List.map (fun y => y.fst) ({ pos := Value.ref x :: rest } : Args).kw) = pure () from fun a b n => check_star_args _ _ _ _ _ _]
 refine wpAny_pure ?_
 unfold Builtin.«BaseException.__init__»
 have hx2 : (h.push { cls := .type "tuple", data := .seq rest.toArray }).get? x = some o := Heap.get?_push_of_some _ hx
 have hz : 0 < (#[.ref t0, .none, .none, .none, .bool false, .none] : Array Value).size := by show 0 < 6; decide
 have hz1 : (#[.ref t0, .none, .none, .none, .bool false, .none] : Array Value)[0]? = some (.ref t0) := rfl
 repeat (first | with_reducible refine wpAny_field hx2 hd hz1 ?_ | with_reducible refine wpAny_setField hx2 hd hz ?_ | wp_step)
 all_goals first | exact q | skip
theorem xtype {M : Model} (hx : h.get? x = some o) (hc : o.cls = .ref C) : W.Looks M h (typeOf (.ref x)) (.ref C) := hc ▸ (W.Looks.ld hx).andThen .now
theorem xsub {M : Model} (X : K.In h) (c : Xc K C bm) (b : Value) : W.Looks M h (isSubtype (.ref C) b) ((Value.ref C :: bm).contains b) := by
 obtain ⟨nm, qn, N, bs, sn, sub, ab, col, dd, k0, k1, k2, k3, k5, lk⟩ := c.lk
 intro A' Q' E' s' k' q'
 obtain ⟨h2, g2, d2, t2, o2⟩ := s'
 exact wpAny_isSubtype_exc (k' _ _ (X _ _ lk)) q'
theorem xinst {M : Model} (X : K.In h) (c : Xc K C bm) (hx : h.get? x = some o) (hc : o.cls = .ref C) (b : Value) : W.Looks M h (isInstance (.ref x) b) ((Value.ref C :: bm).contains b) := (xtype hx hc).andThen (xsub X c b)
theorem W.clsIn_of {cd : ClassData} {oc : Value} {od : Option Addr} {sl : Array (Option Value)} (lk : K.lookup C = some ⟨oc, od, .cls cd, sl⟩) : W.clsIn K C = some cd := by
 unfold W.clsIn
 rw [lk]
theorem xraise {env : Env} {s : Shared} {m : Sem Value} {Q : Flow → Shared → Prop} (hh : A.handled = none)
  (q : wpAny (model prog w) A m (fun v s₁ => ∃ e o vs C bm, v = .ref e ∧ K.In s₁.heap ∧ Xc K C bm ∧ s₁.heap.get? e = some o ∧ o.cls = .ref C ∧ o.data = .fields vs ∧ vs[1]? = some .none ∧ E (.ref e) s₁) E s) :
  wpAny (model prog w) A (raiseStmt env (some m) none) Q E s := by
 unfold raiseStmt
 refine wpAny_bind (wpAny_mono q (fun v s₁ h₁ => ?_) fun _ _ x => x)
 obtain ⟨e, o, vs, C, bm, rfl, X, c, he, hc, hd, h1, hE⟩ := h₁
 obtain ⟨nm, qn, N, bs, sn, sub, ab, col, dd, k0, k1, k2, k3, k5, lk⟩ := c.lk
 have hC := X _ _ lk
 have z1 : (Value.ref C :: bm).contains (.type "BaseException") = true := by rw [List.contains_cons, c.hb, Bool.or_true]
 obtain ⟨hp, g, d, tk, os⟩ := s₁
 obtain ⟨oc, od, odt, osl⟩ := o
 obtain rfl : oc = .ref C := hc
 obtain rfl : odt = .fields vs := hd
 dsimp only at X he hC hE
 repeat (first | with_reducible refine wpAny_loadPart_at he ?_ | with_reducible refine wpAny_loadPart_at hC ?_ | (with_reducible refine wpAny_isSubtype_exc hC ?_; rw [z1]) | wp_step)
 rw [h1]
 refine wpAny_pure ?_
 rw [if_neg (by decide)]
 exact wpAny_pure (wpAny_raiseNew_none hh hE)
theorem xmatch {s : Shared} {bC : List Value} {D : Addr} {Q : Bool → Shared → Prop} (X : K.In s.heap) (c : Xc K C bm) (cD : Xc K D bC) (hx : s.heap.get? x = some o) (hc : o.cls = .ref C) (q : Q ((Value.ref C :: bm).contains (.ref D)) s) :
  wpAny (model prog w) A (excMatches (.ref x) (.ref D)) Q E s := by
 obtain ⟨nm, qn, N, bs, sn, sub, ab, col, dd, k0, k1, k2, k3, k5, lk⟩ := cD.lk
 have hD := X _ _ lk
 have z1 : (Value.ref D :: bC).contains (.type "BaseException") = true := by rw [List.contains_cons, cD.hb, Bool.or_true]
 have f := tc_notTuple
 obtain ⟨hp, g, d, tk, os⟩ := s
 dsimp only at X hx hD q
 have lx := xtype (M := model prog w) hx hc
 have ls := xsub (M := model prog w) X c (.ref D)
 unfold excMatches
 repeat (first | with_reducible refine wpAny_loadPart_at hD ?_ | (with_reducible refine wpAny_isSubtype_exc hD ?_; rw [z1]) | (with_reducible refine wpAny_loadPart_at hx ?_; rw [hc]) | wp_step)
 refine ls.here ?_
 cases hb : (Value.ref C :: bm).contains (.ref D) with
 | true =>
  rw [hb] at q
  exact wpAny_pure (wpAny_pure (wpAny_pure q))
 | false =>
  rw [hb] at q
  exact wpAny_pure (wpAny_pure (wpAny_pure q))
theorem ocl_get : W.specialIn K (.builtin "object.__class__") "__get__" = some (some (.builtin "getset_descriptor.__get__")) := by kernel_rfl
theorem ocl_takes : W.takesIn K (.builtin "object.__class__") = some true := by kernel_rfl
theorem xclass {od : Option Obj} {s : Shared} {Q : Option Value → Shared → Prop} (X : K.In s.heap) (c : Xc K C bm) (I : W.InstAt s.heap x o C od) (q : Q (some (.ref C)) { s with toks := s.toks + 1 }) : wpAny (model prog w) A (getAttr? (.ref x) "__class__") Q E s := by
 obtain ⟨nm, qn, N, bs, sn, sub, ab, col, dd, k0, k1, k2, k3, k5, lk⟩ := c.lk
 have z1 : (Value.ref C :: bm).contains (.type "BaseException") = true := by rw [List.contains_cons, c.hb, Bool.or_true]
 have z3 : (Value.ref C :: bm).contains (.type "object") = true := by rw [List.contains_cons, c.ho, Bool.or_true]
 have J : W.Looks (model prog w) s.heap (isInstance (.ref x) (.type "BaseException")) true := z1 ▸ xinst X c I.at_ I.cls (.type "BaseException")
 have z2 : (Value.builtin "BaseException.__getattribute__" == Value.builtin "object.__getattribute__") = false := by decide +kernel
 have hf : W.findObj K C od "__class__" = some (.bind (.builtin "getset_descriptor.__get__") (.builtin "object.__class__")) := by
  unfold W.findObj
  rw [W.clsIn_of lk, Option.bind_some, c.fc, Option.bind_some]
  simp [ocl_get, ocl_takes]
 have hm : W.mroIn K C (.type "object") = some true := by
  unfold W.mroIn
  rw [W.clsIn_of lk, Option.bind_some, if_neg (by simp), z3]
 have L0 := I.type (M := model prog w)
 have L1 := W.looks_find (M := model prog w) X I hf
 obtain ⟨hh, g, d, t, os⟩ := s
 dsimp only at X L0 L1 J q
 unfold getAttr? getAttrBy? getAttrBy
 refine wpAny_bind (wpAny_mkText (wpAny_bind (wpAny_attempt (wpAny_holding (wpAny_bind (W.Looks.here (s := ⟨hh, g, d, t + 1, os⟩) L0 (wpAny_bind (W.Looks.here (s := ⟨hh, g, d, t + 1, os⟩) (W.looks_findIn X c.fg) ?_))))))))
 dsimp only
 rw [z2, Bool.and_false, if_neg (by decide)]
 unfold getAttrByItsOwn hookBefore
 refine wpAny_bind ((W.Looks.here (s := ⟨hh, g, d, t + 1, os⟩) (W.looks_findIn X c.fh) ?_))
 refine wpAny_bind (wpAny_attempt (wpAny_holding ?_))
 unfold callGetattribute boundAndCalled
 rw [if_neg (by decide), PySem.F.attr_ValueError.ga.bind (.ref x)]
 refine wpAny_bind (wpAny_pure (wpAny_call (codeAny_call_builtin PySem.F.attr_ValueError.ga.plain PySem.F.entry_bexc_ga
  (@W.check_slot (model prog w) _ _ ⟨hh, g, d, t + 1, os⟩ "BaseException.__getattribute__" "BaseException" "__getattribute__" (.ref x) [.str "__class__" t] [] _ (by decide +kernel) (by decide +kernel) J (PySem.F.args_bexc_ga (.ref x) (.str "__class__" t)) ?_))))
 unfold Builtin.«object.__getattribute__»
 refine wpAny_bind (wpAny_pure ?_)
 dsimp only
 refine wpAny_bind (wpAny_pure (wpAny_bind (W.Looks.here (s := ⟨hh, g, d, t + 1, os⟩) L0 (wpAny_bind (W.Looks.here (s := ⟨hh, g, d, t + 1, os⟩) L1 ?_)))))
 show wpAny _ _ (holding [.builtin "object.__class__"] (call (.builtin "getset_descriptor.__get__") [.builtin "object.__class__", .ref x, .ref C]) >>= ret) _ _ _
 refine wpAny_bind (wpAny_holding (wpAny_call (W.class_get (s := ⟨hh, g, d, t + 1, os⟩) (ox := o) (od := od) X I hm ?_)))
 refine wpAny_pure (wpAny_pure (wpAny_pure q))
theorem xkit {od : Option Obj} (c : Xc K C bm) : W.KitX K (.ref x) (.ref C) (fun h => W.InstAt h x o C od) where
 ty := fun _ _ _ I => I.type
 it := fun _ _ X _ => by
  obtain ⟨nm, qn, N, bs, sn, sub, ab, col, dd, k0, k1, k2, k3, k5, lk⟩ := c.lk
  intro A' Q' E' s' k q
  unfold isType loadHead
  exact wpAny_bind (wpAny_loadPart (k _ _ (X _ _ lk)) (wpAny_pure q))
 ne := fun h tp dd' its n sl X htp => by
  obtain ⟨nm, qn, N, bs, sn, sub, ab, col, dd, k0, k1, k2, k3, k5, lk⟩ := c.lk
  refine Bool.eq_false_iff.mpr fun q => ?_
  have e : C = tp := Value.ref.inj (beq_iff_eq.mp q)
  subst e
  have z := congrArg (fun o : Option Obj => o.map (·.cls)) ((X _ _ lk).symm.trans htp)
  have z2 : Value.type "type" = Value.type "tuple" := Option.some.inj z
  exact absurd z2 (by decide)
 ca := fun X I k => xclass X c I k
theorem xkitOne {D : Addr} {bD : List Value} (c : Xc K C bm) (cD : Xc K D bD) : W.kitOne K (.ref C) (.ref D) = some ((Value.ref C :: bm).contains (.ref D)) := by
 obtain ⟨nm, qn, N, bs, sn, sub, ab, col, dd, k0, k1, k2, k3, k5, lk⟩ := c.lk
 obtain ⟨nm', qn', N', bs', sn', sub', ab', col', dd', k0', k1', k2', k3', k5', lk'⟩ := cD.lk
 unfold W.kitOne
 by_cases e : (Value.ref C == Value.ref D) = true
 ·rw [if_pos e, List.contains_cons]
  rw [show (Value.ref D == Value.ref C) = true from by rw [beq_iff_eq] at e ⊢; exact e.symm]
  rfl
 ·rw [if_neg e]
  unfold W.kitCls
  dsimp only
  rw [if_pos (by rw [W.clsIn_of lk']; show (true && ((K.lookup D).map (·.cls)) == some (Value.type "type")) = true; rw [lk']; rfl)]
  show W.mroIn K C (.ref D) = _
  unfold W.mroIn
  rw [W.clsIn_of lk, Option.bind_some, if_neg (by simp)]
theorem xkitTy {T : String} (c : Xc K C bm) (hT : W.kitMeta T = true) : W.kitOne K (.ref C) (.type T) = some (bm.contains (.type T)) := by
 obtain ⟨nm, qn, N, bs, sn, sub, ab, col, dd, k0, k1, k2, k3, k5, lk⟩ := c.lk
 unfold W.kitOne
 rw [if_neg (by intro z; cases beq_iff_eq.mp z)]
 unfold W.kitCls
 dsimp only
 rw [if_pos hT]
 show W.mroIn K C (.type T) = _
 unfold W.mroIn
 rw [W.clsIn_of lk, Option.bind_some, if_neg (by simp), List.contains_cons]
 rfl
end
end PySem
namespace PySem
open Sem (wp)
theorem list_find_erase {α : Type} {p q : α → Bool} : ∀ (l : List α) (i : Nat), l.findIdx? q = some i → (∀ a ∈ l, q a = true → p a = false) → (l.eraseIdx i).find? p = l.find? p
 | [], i, h, _ => by simp at h
 | a :: l, i, h, hq => by
  rw [List.findIdx?_cons] at h
  cases e : q a with
  | true =>
   rw [e] at h
   have h' : 0 = i := by simpa using h
   subst h'
   rw [List.eraseIdx_cons_zero, List.find?_cons, hq a List.mem_cons_self e]
  | false =>
   rw [e] at h
   simp only [Bool.false_eq_true, if_false, Option.map_eq_some_iff] at h
   obtain ⟨j, hj, rfl⟩ := h
   rw [List.eraseIdx_cons_succ, List.find?_cons, List.find?_cons, list_find_erase l j hj fun b hb => hq b (List.mem_cons_of_mem _ hb)]
theorem nsFind_other {es : Array DictEntry} {name x : Str} {i : Nat} (hi : es.findIdx? (fun e => e.key.isStr name) = some i) (hx : x ≠ name) : nsFind (es.eraseIdxIfInBounds i) x = nsFind es x := by
 obtain ⟨l⟩ := es
 simp only [nsFind, findBy, List.eraseIdxIfInBounds_toArray, List.find?_toArray, List.findIdx?_toArray] at hi ⊢
 rw [list_find_erase l i hi fun a _ ha => ?_]
 cases e : a.key.isStr x with
 | false => rfl
 | true => exact absurd (Value.isStr_inj _ _ _ e ha) hx
section
variable {M : Model} {A : Around} {E : Value → Shared → Prop} {s : Shared} {env : Env}
theorem nsDel_other {a : Addr} {m : Str → Option Value} {name : Str} {v : Value} {Q : Bool → Shared → Prop} (hn : s.heap.Ns a m) (hv : m name = some v)
  (hQ : ∀ h' m', h'.Ns a m' → (∀ y, y ≠ name → m' y = m y) → Heap.SameBut a s.heap h' → Q true { s with heap := h' }) : wpAny M A (nsDel a name) Q E s := by
 obtain ⟨o, es, ep, ho, hd, hk, hm⟩ := id hn
 have hs : es.any (·.key.isStr name) = true := by
  have z := hm name
  rw [hv] at z
  unfold nsFind findBy at z
  obtain ⟨en, h1, _⟩ := Option.map_eq_some_iff.mp z
  have h2 := Array.find?_some h1
  obtain ⟨j, hj, e⟩ := Array.mem_iff_getElem.mp (Array.mem_of_find?_eq_some h1)
  exact Array.any_eq_true.mpr ⟨j, hj, by rw [e]; exact h2⟩
 have hhas : nsHas name o = pure true := by
  rw [nsHas_eq]
  unfold nsHasByArray
  rw [hd]
  dsimp only
  rw [if_pos hs]
 unfold nsDel
 refine wpAny_bind (wpAny_loadPart ho ?_)
 rw [hhas]
 refine wpAny_bind (wpAny_pure ?_)
 rw [if_pos rfl]
 refine wpAny_bind (wpAny_updatePart ho (wpAny_pure ?_))
 obtain ⟨cl, d, dt, sl⟩ := o
 subst hd
 cases hi : es.findIdx? (·.key.isStr name) with
 | none =>
  exfalso
  obtain ⟨j, hj, hp⟩ := Array.any_eq_true.mp hs
  have := (Array.findIdx?_eq_none_iff.mp hi) es[j] (Array.getElem_mem hj)
  simp [hp] at this
 | some i =>
  refine hQ _ (nsFind (es.eraseIdxIfInBounds i)) ⟨_, _, ep + 1, Heap.get?_update_self _ ho (by simp only [Obj.dropName_eq, Obj.dropNameByArray, hi] <;> rfl), (by simp only [Obj.dropName_eq, Obj.dropNameByArray, hi] <;> rfl), hk.erase i, fun _ => rfl⟩ (fun y hy => ?_) (Heap.SameBut.update ..)
  rw [nsFind_other hi hy]
  exact hm y
theorem nameGoes {n : Str} {pos : Pos} {m : Str → Option Value} {Q : Unit → Shared → Prop} (hl : env.kindOf n = some .local) (hn : s.heap.Ns env.locals m)
  (hp : (env.scope.kind == .class || (env.scope.kind == .module && env.locals != env.globals)) = false)
  (h : ∀ h' m', h'.Ns env.locals m' → (∀ y, y ≠ n → m' y = m y) → Heap.SameBut env.locals s.heap h' → Q () { s with heap := h', toks := s.toks + 1 }) :
  wpAny M A (do bindName env n .none; unbindBehindTheSuite env n pos) Q E s := by
 refine wpAny_bind (wpAny_bindName (wpAny_storeName_local hl hn (fun h1 hn1 hs1 => ?_) hp))
 unfold unbindBehindTheSuite
 refine wpAny_onRaise ?_
 unfold unbindName
 refine wpAny_bind (wpAny_point (wpAny_bind ?_))
 unfold deleteName
 simp only [hl, hp]
 rw [if_neg (by decide)]
 refine wpAny_bind (nsDel_other (v := Value.none) hn1 (by simp) fun h2 m2 hn2 ho2 hs2 => ?_)
 simp only [Bool.not_true, Bool.false_eq_true, if_false]
 exact wpAny_pure (wpAny_point (h h2 m2 hn2 (fun y hy => by rw [ho2 y hy]; simp [hy]) (hs1.trans hs2)))
end
end PySem
namespace L2
open PySem PySem.Spec PyProof.Rows
section
variable {X : Cx} {pins : List (Addr × Obj)} {σ : St} {H : Hp} {s : Shared} {n : Nat} {a : Addr}
theorem Inv.track {o : HO} (I : Inv X pins σ H s) (B : Bnd X pins n) (lo : n ≤ a) (un : H a = none) (ob : ObjOk X.prog X.w (upd H a o) s.heap a o) : Inv X pins σ (upd H a o) s := by
 obtain ⟨h, g, d, t, os⟩ := s
 have nn : ∀ b u, H b = some u → b ≠ a := fun b u e => ne_of_none e un
 refine I.step (h' := h) (H' := upd H a o) (g' := g) (t' := t) (d' := d) (ch := [a]) (fun b hb => ?_) (fun b u _ _ _ e _ => e) (fun b u _ _ _ e _ => ⟨u.slots, e⟩) (fun b u hb _ n => ?_) (fun b u _ e => ⟨u, e⟩)
  (fun b xs e => by rw [upd_ne (nn b _ e)]; exact e) (fun b u v e => by rw [upd_ne (nn b _ e)]; exact e) (fun b ps e => ⟨#[], by rw [upd_ne (nn b _ e), e]; simp⟩) (fun _ m => m) (fun b u e => ?_) I.bare
 ·obtain rfl : b = a := by simpa using hb
  exact ⟨.inr (Nat.le_trans B.1 lo), Nat.ne_of_gt (Nat.lt_of_lt_of_le B.2.1 lo), fun x c e => Nat.ne_of_lt (Nat.lt_of_lt_of_le (B.2.2.1 x c e) lo), fun p hp => Nat.ne_of_lt (Nat.lt_of_lt_of_le (B.2.2.2 p hp) lo)⟩
 ·rw [upd_ne (fun z => hb (by simp [z]))]
  exact n
 ·by_cases hb : b = a
  ·subst hb
   rw [upd_same] at e
   cases e
   exact ob
  ·rw [upd_ne hb] at e
   exact (I.hok b u e).stay (fun _ _ _ q => q) (fun c q => by rw [upd_ne (nn c _ q)]; exact q) fun c xs q => by rw [upd_ne (nn c _ q)]; exact q
end
def tRaise0 (C : Addr) (E : XK) (t : TA) : TS := fun _ σ H => t σ H fun vs H1 => vs.length ≤ 100 ∧ E (.ref C) none H1
section
variable {X : Cx} {E : XK} {k : Nat} {f C : Addr} {bm : List Value} {fd : FuncData} {ps : List Str} {sp : Sp} {x : Str} {p cpos pos : Pos} {e : Expr} {es : List Expr} {t : TA}
theorem ps_raise0 (c : Xc X.K C bm) (hi : PySem.W.findIn X.K (.ref C) "__init__" = some (some (.builtin "ValueError.__init__"))) (hr : Room k X.A) (hm : X.mg x = some (.ref C)) (ha : PA (X.xp E) (e :: es) t) (hg : Gl X x := by rfl) (hdb : (x == ("__debug__" : Str)) = false := by decide +kernel)
  (he : starEach (e :: es) X.env = (false, eval e X.env) :: starEach es X.env := by rfl) (hpl : (backTo cpos (starEach es X.env)).any (·.1) = false := by rfl) :
  PS (X.xp E) (.Raise (some (.Call (.Name x p) (e :: es) [] cpos)) none pos) (tRaise0 C E t) := by
 intro pins s σ H D I h
 rw [arm_exec_Raise]
 refine wpAny_bind (wpAny_standAt (xraise (K := X.K) hr.hd (wpAny_bind (wpAny_mono (wpAny_Call_Name_kw (ld_glob I hg hm ?_ hdb)) (fun v s₃ h₃ => wpAny_bind (wpAny_standAt (wpAny_pure h₃))) fun _ _ x => x))))
 refine PySem.W.callWith_K (h₀ := X.base) I.ok.mod.kin c.kp (thn (ha cpos pins s σ H _ I h) fun us s1 ⟨vs, H1, I1, r, hl, q⟩ => ⟨I1.kIn, ?_⟩) he hpl
 have hl2 : us.length ≤ sizeLine := by
  rw [sizeLine_eq, ← r.length]
  omega
 refine exc_call I1.kIn c hi (fun self => PySem.W.Looks.of_pure (PySem.F.excBase_ValueError.init.bind self)) hl2 ?_
 obtain ⟨h1, g, d, tk, os⟩ := s1
 have kk : ∀ b o, h1.get? b = some o → ((h1.push { cls := .type "tuple", data := .seq us.toArray }).push { cls := .ref C, data := .fields #[.ref h1.objs.size, .none, .none, .none, .bool false, .none] }).get? b = some o :=
  fun b o e => Heap.get?_push_of_some _ (Heap.get?_push_of_some _ e)
 have sz : (h1.push { cls := .type "tuple", data := .seq us.toArray }).objs.size = h1.objs.size + 1 := Heap.size_push ..
 have g1 := Heap.get?_push_size (h1.push { cls := .type "tuple", data := .seq us.toArray }) (o := { cls := .ref C, data := .fields #[.ref h1.objs.size, .none, .none, .none, .bool false, .none] }) rfl
 rw [sz] at g1
 refine wpAny_call (xinit_run (fun b o e => kk b o (I1.kIn b o e)) c g1 rfl rfl hl2 ⟨rfl, ?_⟩)
 have g2 := Heap.get?_update_self (Obj.mapFields (·.setIfInBounds 0 (Value.ref ((h1.push { cls := .type "tuple", data := .seq us.toArray }).push { cls := .ref C, data := .fields #[.ref h1.objs.size, .none, .none, .none, .bool false, .none] }).objs.size)))
  (Heap.get?_push_of_some { cls := .type "tuple", data := .seq us.toArray } g1) rfl
 have k3 : ∀ b o, h1.get? b = some o → ((((h1.push { cls := .type "tuple", data := .seq us.toArray }).push { cls := .ref C, data := .fields #[.ref h1.objs.size, .none, .none, .none, .bool false, .none] }).push { cls := .type "tuple", data := .seq us.toArray }).update (h1.objs.size + 1)
   (Obj.mapFields (·.setIfInBounds 0 (Value.ref ((h1.push { cls := .type "tuple", data := .seq us.toArray }).push { cls := .ref C, data := .fields #[.ref h1.objs.size, .none, .none, .none, .bool false, .none] }).objs.size)))).get? b = some o := fun b o e =>
  (Heap.get?_update_other _ _ (Nat.ne_of_gt (Nat.lt_succ_of_lt (Heap.lt_size e)))).trans (Heap.get?_push_of_some _ (kk b o e))
 have I3 := I1.kept (t' := tk) k3
 exact ⟨_, _, _, C, bm, rfl, I3.kIn, c, g2, rfl, rfl, rfl, pins, σ, H1, h1.objs.size, _, .ref C, none, rfl, I3.unwish, I1.unwish.bnd, ⟨Nat.le_succ _, I1.hok.fresh (Nat.le_succ _), _, _, g2, rfl, rfl, rfl, (by show 1 < 6; decide), .inl rfl⟩, q⟩
end
end L2
namespace L2
open PySem PySem.Spec PyProof.Rows
section
variable {X : Cx} {D : Addr} {y f : Str} {p apos pos pos' : Pos} {e o value : Expr} {es : List Expr} {t : TA} {ta tv : TE}
end
end L2
namespace L2
open PySem PySem.Spec PyProof.Rows
def XIs (K : PySem.W.Frag) (H : Hp) (x : V) (C : Addr) (bm : List Value) : Prop := Xc K C bm ∧ ∃ a dx nw, x = .ref a ∧ H a = some (XO a C dx nw) ∧ (dx = none ∨ ∃ d fs, dx = some d ∧ H d = some (XD d fs))
section
variable {X : Cx} {pins : List (Addr × Obj)} {σ : St} {H : Hp} {s : Shared}
theorem xinst_at {a C : Addr} {dx : Option Addr} {nw : Bool} (I : Inv X pins σ H s) (ea : H a = some (XO a C dx nw)) (ed : dx = none ∨ ∃ d fs, dx = some d ∧ H d = some (XD d fs)) : ∃ o od, PySem.W.InstAt s.heap a o C od := by
 obtain ⟨o, vv, g1, g2, g3, g4, g5⟩ := XO.get I.hok ea
 have no : PySem.W.notCls o = true := by unfold PySem.W.notCls; rw [g4]
 rcases ed with rfl | ⟨d, fs, rfl, e⟩
 ·exact ⟨o, none, g1, g2, no, by rw [g3]; exact True.intro⟩
 ·obtain ⟨mA, ⟨od, _, _, n1, _⟩, _⟩ := XD.get I.hok e
  exact ⟨o, some od, g1, g2, no, by rw [g3]; exact n1⟩
end
section
variable {X : Cx}
theorem call_isinstO : CallR X (.builtin "isinstance") (fun xs H Q => ∃ x C bm D bD, xs = [x, .ref D] ∧ XIs X.K H x C bm ∧ Xc X.K D bD ∧ Q (.bl ((Value.ref C :: bm).contains (.ref D))) H) := by
 intro pins s σ H xs us Q I r h
 obtain ⟨x, C, bm, D, bD, rfl, ⟨c, a, dx, nw, rfl, ea, ed⟩, cD, q⟩ := h
 obtain ⟨u, u2, rfl, rx, r2⟩ := vals2 r
 cases (show u = Value.ref a from rx)
 cases (show u2 = Value.ref D from r2)
 obtain ⟨o, od, J⟩ := xinst_at I ea ed
 exact PySem.W.kia_one (xkit c) I.kIn J (xkitOne c cD) (fun z => nomatch z) fun tk => ⟨.bl _, H, I.tok tk, rfl, q⟩
theorem call_isinstV : CallR X (.builtin "isinstance") (fun xs H Q => ∃ x C bm n, xs = [x, .ty n] ∧ XIs X.K H x C bm ∧ PySem.W.kitMeta n = true ∧ Q (.bl (bm.contains (.type n))) H) := by
 intro pins s σ H xs us Q I r h
 obtain ⟨x, C, bm, n, rfl, ⟨c, a, dx, nw, rfl, ea, ed⟩, hn, q⟩ := h
 obtain ⟨u, u2, rfl, rx, r2⟩ := vals2 r
 cases (show u = Value.ref a from rx)
 cases (show u2 = Value.type n from r2)
 obtain ⟨o, od, J⟩ := xinst_at I ea ed
 exact PySem.W.kia_one (xkit c) I.kIn J (xkitTy c hn) (fun z => nomatch z) fun tk => ⟨.bl _, H, I.tok tk, rfl, q⟩
theorem xvals_refs : ∀ {cs : List Addr} {us : List Value}, Vals (cs.map V.ref) us → us = cs.map Value.ref
 | [], _, .nil => rfl
 | c :: cs, _, .cons r t => by
  rw [List.map_cons, xvals_refs t]
  cases r
  rfl
theorem kitAny_cs {K : PySem.W.Frag} {C : Addr} {bm : List Value} (c : Xc K C bm) : ∀ {cs : List Addr}, (∀ D ∈ cs, ∃ bD, Xc K D bD) → PySem.W.kitAny K (.ref C) (cs.map Value.ref) = some (cs.any fun D => (Value.ref C :: bm).contains (.ref D))
 | [], _ => rfl
 | D :: cs, h => by
  obtain ⟨bD, cD⟩ := h D List.mem_cons_self
  rw [List.map_cons, PySem.W.kitAny, xkitOne c cD, List.any_cons, kitAny_cs c fun D' h' => h D' (List.mem_cons_of_mem _ h')]
  cases (Value.ref C :: bm).contains (.ref D) <;> rfl
theorem kitAny_non {K : PySem.W.Frag} : ∀ {cs : List Addr}, (∀ D ∈ cs, ∃ bD, Xc K D bD) → PySem.W.kitAny K (.type "NoneType") (cs.map Value.ref) = some false
 | [], _ => rfl
 | D :: cs, h => by
  obtain ⟨bD, cD⟩ := h D List.mem_cons_self
  obtain ⟨nm', qn', N', bs', sn', sub', ab', col', dd', k0', k1', k2', k3', k5', lk'⟩ := cD.lk
  have e : PySem.W.kitOne K (.type "NoneType") (.ref D) = some false := by
   unfold PySem.W.kitOne
   rw [if_neg (by intro z; cases beq_iff_eq.mp z)]
   unfold PySem.W.kitCls
   dsimp only
   rw [if_pos (by rw [PySem.W.clsIn_of lk']; show (true && ((K.lookup D).map (·.cls)) == some (Value.type "type")) = true; rw [lk']; rfl)]
   show (fastBuiltinMro "NoneType").map (·.contains (Value.ref D)) = some false
   rw [show fastBuiltinMro "NoneType" = some [Value.type "NoneType", Value.type "object"] from by kernel_rfl]
   rfl
  rw [List.map_cons, PySem.W.kitAny, e]
  exact kitAny_non fun D' h' => h D' (List.mem_cons_of_mem _ h')
theorem call_isinstX : CallR X (.builtin "isinstance") (fun xs H Q => ∃ (x : V) (p : Addr) (cs : List Addr) (b : Bool), xs = [x, .ref p] ∧ H p = some (.tup (cs.map V.ref)) ∧ (∀ D ∈ cs, ∃ bD, Xc X.K D bD) ∧
  ((x = .non ∧ b = false) ∨ ∃ C bm, XIs X.K H x C bm ∧ b = cs.any fun D => (Value.ref C :: bm).contains (.ref D)) ∧ Q (.bl b) H) := by
 intro pins s σ H xs us Q I r h
 obtain ⟨x, p, cs, b, rfl, hp, hcs, hx, q⟩ := h
 obtain ⟨u, u2, rfl, rx, r2⟩ := vals2 r
 cases (show u2 = Value.ref p from r2)
 obtain ⟨_, its, ri, o, h1, h2, k, h3, h4⟩ := (show ObjOk X.prog X.w H s.heap p (.tup (cs.map V.ref)) from I.hok p _ hp)
 obtain rfl := xvals_refs ri
 obtain ⟨cls, dd, data, sl⟩ := o
 cases (show cls = .type "tuple" from h2)
 cases (show data = .seq (cs.map Value.ref).toArray k from h3)
 have fin : ∀ tk : Nat, ∃ y H', Inv X pins σ H' { s with toks := tk } ∧ RelV y (Value.bool b) ∧ Q y H' := fun tk => ⟨.bl b, H, I.tok tk, rfl, q⟩
 rcases hx with ⟨rfl, rfl⟩ | ⟨C, bm, ⟨c, a, dx, nw, rfl, ea, ed⟩, rfl⟩
 ·cases (show u = Value.none from rx)
  exact PySem.W.kia_tup PySem.W.kitx_none I.kIn True.intro h1 (kitAny_non hcs) (fun z => nomatch z) fin
 ·cases (show u = Value.ref a from rx)
  obtain ⟨o', od, J⟩ := xinst_at I ea ed
  exact PySem.W.kia_tup (xkit c) I.kIn J h1 (kitAny_cs c hcs) (fun z => nomatch z) fin
end
def XF (X : Cx) (pins : List (Addr × Obj)) (σ : St) (E : XK) : Value → Shared → Prop := fun e s' => ∃ H' n a cls dx, e = .ref a ∧ Inv X pins σ H' s' ∧ Bnd X pins n ∧ Fly n H' s'.heap a cls dx ∧ E cls dx H'
abbrev TX := Ends → XK → St → Hp → Prop
def PXS (X : Cx) (st : List Stmt) (t : TX) : Prop :=
 ∀ (pins : List (Addr × Obj)) (s : Shared) (σ : St) (H : Hp) (D : Ends) (E : XK), Inv X pins σ H s → t D E σ H → wpAny (model X.prog X.w) X.A (execs st X.env) (SP X pins D) (XF X pins σ E) s
noncomputable def tXSet (i : Nat) (sp : Sp) (t : TA) : TX := fun D E σ H => t σ H fun vs H1 => sp vs H1 (fun v H2 => D.nx (σ.set i (some v)) H2) E
section
variable {X : Cx} {k : Nat} {ps : List Str} {sp : Sp} {x : Str} {p pos epos : Pos} {e : Expr} {es : List Expr} {t : TA}
theorem px_call (h : HasX X.prog X.w X.K X.mg X.base k x ps sp) (hr : Room k X.A) (ha : PA X.nox (e :: es) t) (hg : Gl X x) (hdb : (x == ("__debug__" : Str)) = false)
  (he : starEach (e :: es) X.env = (false, eval e X.env) :: starEach es X.env) (hpl : (backTo pos (starEach es X.env)).any (·.1) = false)
  {pins : List (Addr × Obj)} {s : Shared} {σ : St} {H : Hp} {Q : VK} {E : XK} (I : Inv X pins σ H s) (w : t σ H fun vs H1 => sp vs H1 Q E) :
  wpAny (model X.prog X.w) X.A (eval (.Call (.Name x p) (e :: es) [] pos) X.env) (EP X pins σ Q) (XF X pins σ E) s := by
 obtain ⟨f, fd, F, b, kp, m⟩ := h
 refine wpAny_Call_Name_kw (ld_glob I hg m ?_ hdb)
 refine PySem.W.callWith_K (h₀ := X.base) I.ok.mod.kin kp (wpAny_mono (ha pos pins s σ H _ (I.wish _) w) (fun us s1 ⟨vs, H1, I1', r, q⟩ => ?_) fun _ _ z => False.elim z) he hpl
 have I1 := I1'.unwish
 refine ⟨I1.kIn, ?_⟩
 have hl : us.length = ps.length := by rw [← r.length]; exact F.len _ _ _ _ q
 refine wpAny_call (codeAny_mono (F.run X.A X.stack s1 H1 ⟨us, []⟩ us vs Q E hr I1.env0 (by have z := b s1 us I1.kIn (by rw [List.append_nil]; exact hl); rw [List.append_nil] at z; exact z) r q) fun r s' hq => ?_)
 cases r with
 | error e =>
  obtain ⟨H', a, cls, dx, rfl, os, bare, un, hok, F', qE⟩ := hq
  exact ⟨H', _, a, cls, dx, rfl, I1.call' (ch := []) os un hok bare (fun b z => absurd z (by simp)), I1.bnd, F', qE⟩
 | ok fl =>
  cases fl with
  | ret u => exact I1.after hq
  | next => exact False.elim hq
  | brk => exact False.elim hq
  | cont => exact False.elim hq
theorem pxs_set {i : Nat} {z : Str} {zp : Pos} (hN : X.N.Nodup) (hi : X.N[i]? = some z) (hz : Loc X.env.scope z) (h : HasX X.prog X.w X.K X.mg X.base k x ps sp) (hr : Room k X.A) (ha : PA X.nox (e :: es) t) (hg : Gl X x := by rfl) (hdb : (x == ("__debug__" : Str)) = false := by decide +kernel)
  (he : starEach (e :: es) X.env = (false, eval e X.env) :: starEach es X.env := by rfl) (hpl : (backTo pos (starEach es X.env)).any (·.1) = false := by rfl) (hs : swapsWith (.Call (.Name x p) (e :: es) [] pos) (some (.Name z zp)) epos.line X.env = pure false := by rfl)
  (hf : X.fn z = true ∨ X.env.scope.names.lookup z = some .local := by first | exact .inl rfl | exact .inr rfl | assumption) :
  PXS X [.Assign [.Name z zp] (.Call (.Name x p) (e :: es) [] pos) epos] (tXSet i sp t) := by
 intro pins s σ H D E I w
 refine wpAny_execs_cons (wpAny_Assign_Name (thn (px_call h hr ha hg hdb he hpl I w) fun v s1 ⟨y, H1, I1, r1, q1⟩ => ?_) hs)
 exact store_ok I1 hN hi hz r1 (fun s2 I2 => wpAny_execs_nil ⟨_, H1, I2, q1⟩) hf
end
section
variable {X : Cx} {pins : List (Addr × Obj)} {σ : St} {H : Hp} {s : Shared}
theorem Inv.locs {h' : Heap} {m m' : Str → Option Value} {t' : Nat} (I : Inv X pins σ H s) (hl : ∀ (i : Nat) (x : Str) (v : V), X.N[i]? = some x → σ[i]? = some (some v) → Vis X.env.scope x → ∃ u, RelV v u ∧ Look X.env s.heap m x u)
  (hm : ∀ (i : Nat) (x : Str) (v : V), X.N[i]? = some x → σ[i]? = some (some v) → m' x = m x) (hn : h'.Ns X.env.locals m') (sb : Heap.SameBut X.env.locals s.heap h') : Inv X pins σ H { s with heap := h', toks := t' } := by
 have neL : ∀ b o, X.s₀.heap.get? b = some o → b ≠ X.env.locals := fun b o e => Nat.ne_of_lt (Nat.lt_of_lt_of_le (Heap.lt_size e) I.ok.above)
 have cl : ∀ y c v, X.env.cells.lookup y = some c → s.heap.IsCell c v → h'.IsCell c v := fun y c v e z => z.sameBut sb (I.cne y c e)
 refine ⟨I.ok, I.os, I.bare, ⟨fun b o e n hb hx => ?_, fun b o e n hb hx => ?_, I.base.free, fun b o e hx => ?_, I.base.tups, I.base.frzs, I.base.tbls⟩, ⟨m', hn, fun i x v e1 e2 e3 => ?_⟩, fun y c e => ?_, I.free, I.freeC, fun p hp => ?_, fun b u e => ?_, I.len⟩
 ·exact (sb.2 b (neL b o e)).trans (I.base.keep b o e n hb hx)
 ·obtain ⟨sl, e1⟩ := I.base.slot b o e n hb hx
  exact ⟨sl, (sb.2 b (neL b o e)).trans e1⟩
 ·obtain ⟨o', e1⟩ := I.base.there b o e hx
  exact ⟨o', (sb.2 b (neL b o e)).trans e1⟩
 ·obtain ⟨u, r, l⟩ := hl i x v e1 e2 e3
  refine ⟨u, r, ?_⟩
  rcases l with ⟨k, e⟩ | ⟨k, c, e, z⟩
  ·exact .inl ⟨k, by rw [hm i x v e1 e2]; exact e⟩
  ·exact .inr ⟨k, c, e, cl x c _ e z⟩
 ·obtain ⟨v, z⟩ := I.cell y c e
  exact ⟨v, cl y c v e z⟩
 ·obtain ⟨e, n, ne, nf, d⟩ := I.pin p hp
  exact ⟨(sb.2 p.1 ne).trans e, n, ne, nf, d⟩
 ·refine (I.hok b u e).stay (fun c v hc q => (sb.2 c ?_).trans q) (fun _ q => q) fun _ _ q => q
  rintro rfl
  rcases hc with rfl | hc
  ·rw [I.free] at e; cases e
  ·rw [I.free] at hc; cases hc
theorem Inv.gone {M : Model} {A : Around} {E : Value → Shared → Prop} {i : Nat} {n : Str} {pos : Pos} {Q : Unit → Shared → Prop} (I : Inv X pins σ H s) (hN : X.N.Nodup) (hi : X.N[i]? = some n) (hk : X.env.scope.names.lookup n = some .local)
  (q : ∀ s', Inv X pins (σ.set i none) H s' → Q () s') : wpAny M A (do bindName X.env n .none; unbindBehindTheSuite X.env n pos) Q E s := by
 have hcls : (X.env.scope.kind == .class || (X.env.scope.kind == .module && X.env.locals != X.env.globals)) = false := by rw [I.ok.kind]; rfl
 have hiσ : i < σ.length := by rw [I.len]; exact (List.getElem?_eq_some_iff.mp hi).1
 have wk : ∀ (j : Nat) v, (σ.set i none)[j]? = some (some v) → j ≠ i ∧ σ[j]? = some (some v) := fun j v e => by
  by_cases hj : j = i
  ·subst hj
   rw [List.getElem?_set_self hiσ] at e
   cases e
  ·rw [List.getElem?_set_ne (Ne.symm hj)] at e
   exact ⟨hj, e⟩
 have I1 : Inv X pins (σ.set i none) H s := I.weak (List.length_set ..) fun j v e => (wk j v e).2
 obtain ⟨m, hn, hl⟩ := id I1.loc
 refine nameGoes hk hn hcls fun h' m' hn' ho sb => q _ (I1.locs hl (fun j x v e1 e2 => ho x fun z => ?_) hn' sb)
 subst z
 exact (wk j v e2).1 (nodup_ix hN e1 hi)
noncomputable abbrev Cx.inX (X : Cx) (a : Addr) : Cx := { X with A := X.A.mark (some (.ref a)), calm := false }
theorem Cx.Ok.inX {a : Addr} (ok : X.Ok) : (X.inX a).Ok :=
 ⟨ok.mod, ok.kind, ok.glob, ok.blt, ok.above, ok.inj, ok.has, ok.cab, fun z => Bool.noConfusion z, ok.frames, ok.stk, ok.exf, ok.bs, ok.bsz, ok.noex, ok.exfs, ok.funs, ok.frf⟩
theorem Inv.inX {a : Addr} (I : Inv X pins σ H s) : Inv (X.inX a) pins σ H s := ⟨I.ok.inX, I.os, I.bare, I.base, I.loc, I.cell, I.free, I.freeC, I.pin, I.hok, I.len⟩
theorem Inv.outX {a : Addr} (ok : X.Ok) (I : Inv (X.inX a) pins σ H s) : Inv X pins σ H s := ⟨ok, I.os, I.bare, I.base, I.loc, I.cell, I.free, I.freeC, I.pin, I.hok, I.len⟩
end
def tTry (K : PySem.W.Frag) (D : Addr) (ie : Nat) (tb : TX) (ts : TS) : TS := fun Dn σ H => tb Dn (fun cls dx H2 => ∃ C bm, cls = .ref C ∧ Xc K C bm ∧ (Value.ref C :: bm).contains (.ref D) = true ∧
 ∀ a, H2 a = none → ts { nx := fun σ' H' => Dn.nx (σ'.set ie none) H', rt := Dn.rt, bk := fun σ' H' => Dn.bk (σ'.set ie none) H', ct := fun σ' H' => Dn.ct (σ'.set ie none) H' } (σ.set ie (some (.ref a))) (upd H2 a (XO a C dx false))) σ H
section
variable {X : Cx} {D : Addr} {bD : List Value} {ie : Nat} {n y : Str} {cp hpos tpos : Pos} {body suite : List Stmt} {b₀ : Stmt} {tb : TX} {ts : TS}
theorem ps_try (S : OwnFr X) (hN : X.N.Nodup) (hi : X.N[ie]? = some n) (hk : X.env.scope.names.lookup n = some .local) (hf : X.fn n = true) (cD : Xc X.K D bD) (hm : X.mg y = some (.ref D)) (hb : PXS X body tb) (hs : ∀ a, PSs (X.inX a).nox (b₀ :: suite) ts)
  (hg : Gl X y := by rfl) (hdb : (y == ("__debug__" : Str)) = false := by decide +kernel) : PS X (.Try body [.ExceptHandler (some (.Name y cp)) (some n) (b₀ :: suite) hpos] [] [] tpos) (tTry X.K D ie tb ts) := by
 intro pins s σ H Dn I h
 refine wpAny_Try_except (wpAny_mono (hb pins s σ H _ _ I h) (fun f s1 q => ?_) fun e s1 z => ?_)
 ·cases f with
  | next => exact wpAny_execs_nil q
  | ret v => exact q
  | brk => exact q
  | cont => exact q
 ·obtain ⟨H1, nn, a, cls, dx, rfl, I1, B, F, C, bm, rfl, c, hc, q⟩ := z
  refine note_X I1 B F S rfl rfl fun h2 I2 F2 => ?_
  refine setFlight_X I2 B F2 fun h3 I3 F3 => ?_
  have I3' : Inv (X.inX a) pins σ H1 { s1 with heap := h3 } := I3.inX
  refine wpAny_handleBy_cons (codeAny_handlers_test (ld_glob I3' hg hm ?_ hdb)) (by intro q; cases q)
  obtain ⟨oe, vs, f1, f2, f3, f4, f5, T, oT, ts', k1, k2, k3, k4, k5, k6, k7⟩ := F3.ob
  refine xmatch (K := X.K) I3.kIn c cD f1 f2 ?_
  rw [hc]
  refine codeAny_handlers_suite_as (setFlight_X I3 B F3 fun h4 I4 F4 => ?_)
  obtain ⟨oe, vs, f1, f2, f3, f4, f5, T, oT, ts', k1, k2, k3, k4, k5, k6, k7⟩ := F4.ob
  have I5 := I4.track (o := XO a C dx false) B F4.lo F4.un (XO.mk ⟨oe, vs, f1, f2, f3, f4, fun z => Bool.noConfusion z⟩)
  refine store_ok I5 hN hi (.inl hk) (v := .ref a) rfl (fun s6 I6 => ?_) (.inl hf)
  refine wpAny_mono (hs a pins s6 _ _ _ (I6.inX.wish _) (q a F4.un)) (fun f s7 w => ?_) fun _ _ z => False.elim z
  cases f with
  | next =>
   obtain ⟨σ7, H7, J, w⟩ := w
   exact (J.unwish.outX I6.ok).gone hN hi hk fun s8 J8 => ⟨_, H7, J8, w⟩
  | brk =>
   obtain ⟨σ7, H7, J, w⟩ := w
   exact (J.unwish.outX I6.ok).gone hN hi hk fun s8 J8 => ⟨_, H7, J8, w⟩
  | cont =>
   obtain ⟨σ7, H7, J, w⟩ := w
   exact (J.unwish.outX I6.ok).gone hN hi hk fun s8 J8 => ⟨_, H7, J8, w⟩
  | ret u =>
   obtain ⟨v, σ7, H7, J, r, w⟩ := w
   exact (J.unwish.outX I6.ok).gone hN hi hk fun s8 J8 => ⟨v, _, H7, J8, r, w⟩
end
end L2
namespace L2
open PySem PySem.Spec PyProof.Rows
def HasI (P : Program) (w : World) (K : PySem.W.Frag) (mg : Str → Option Value) (base : Heap) (k : Nat) (C : Addr) (ps : List Str) (sp : Sp) : Prop :=
 ∃ (f : Addr) (fd : FuncData), PySem.W.findIn K (.ref C) "__init__" = some (some (.ref f)) ∧ PySem.W.typeIn K (.ref f) = some (.type "function") ∧ FnOk P w K mg base CX0 k f fd ps sp ∧ Binds K fd ps []
section
variable {X : Cx} {E : XK} {k : Nat} {C : Addr} {bm : List Value} {ps : List Str} {sp : Sp} {x : Str} {p cpos pos : Pos} {e : Expr} {es : List Expr} {t : TA}
end
section
variable {X : Cx} {k : Nat} {ps : List Str} {sp : Sp} {x : Str} {p pos : Pos} {e : Expr} {es : List Expr} {t : TA}
end
end L2
namespace Pc
open PySem PySem.Spec L2 PyProof.Rows
structure Cl where
 cov : Addr
 noTerm : Addr
 noBox : Addr
 badCover : Addr
 noCover : Addr
 badRow : Addr
 noValue : Addr
 twice : Addr
 noName : Addr
 badShape : Addr
 badDeed : Addr
 unsound : Addr
noncomputable def Cl.all (c : Cl) : List Addr := [c.cov, c.noTerm, c.noBox, c.badCover, c.noCover, c.badRow, c.noValue, c.twice, c.noName, c.badShape, c.badDeed, c.unsound]
noncomputable abbrev vbm : List Value := [.type "ValueError", .type "Exception", .type "BaseException", .type "object"]
noncomputable abbrev cbm (c : Cl) : List Value := .ref c.cov :: vbm
structure Errs (K : PySem.W.Frag) (mg : Str → Option Value) (c : Cl) : Prop where
 nd : c.all.Nodup
 m_cov : mg "CoverError" = some (.ref c.cov)
 m_noTerm : mg "NoTerm" = some (.ref c.noTerm)
 m_noBox : mg "NoBox" = some (.ref c.noBox)
 m_badCover : mg "BadCover" = some (.ref c.badCover)
 m_noCover : mg "NoCover" = some (.ref c.noCover)
 m_badRow : mg "BadRow" = some (.ref c.badRow)
 m_noValue : mg "NoValue" = some (.ref c.noValue)
 m_twice : mg "Twice" = some (.ref c.twice)
 m_noName : mg "NoName" = some (.ref c.noName)
 m_badShape : mg "BadShape" = some (.ref c.badShape)
 m_badDeed : mg "BadDeed" = some (.ref c.badDeed)
 m_unsound : mg "Unsound" = some (.ref c.unsound)
 x_cov : Xc K c.cov vbm
 x_noTerm : Xc K c.noTerm (cbm c)
 x_noBox : Xc K c.noBox (cbm c)
 x_badCover : Xc K c.badCover (cbm c)
 x_noCover : Xc K c.noCover (cbm c)
 x_badRow : Xc K c.badRow (cbm c)
 x_noValue : Xc K c.noValue (cbm c)
 x_twice : Xc K c.twice (cbm c)
 x_noName : Xc K c.noName (cbm c)
 x_badShape : Xc K c.badShape (cbm c)
 x_badDeed : Xc K c.badDeed (cbm c)
 x_unsound : Xc K c.unsound (cbm c)
 r_cov : PySem.W.readsIn K c.cov (.type "type") = true
 t_cov : PySem.W.typeIn K (.ref c.cov) = some (.type "type")
 f_cov : PySem.W.findCls K (.ref c.cov) (.type "type") "__init__" = some (.val (.builtin "ValueError.__init__"))
theorem Xc.mk' {K : PySem.W.Frag} {C : Addr} {bm : List Value} {nm q : Str} {N : Addr} {bs : List Value} {sn : List Str} {sub : List Value} {ab : Bool} {col : Option Bool} {dd : Option Addr} {k0 k1 k2 k3 k5 : Option Value}
  (lk : K.lookup C = some (excClassObj nm q C N bs bm true sn sub ab col dd k0 k1 k2 k3 k5 "ValueError.__new__")) (kp : PySem.W.keepIn K (.ref C) = true) (fs : PySem.W.findIn K (.ref C) "__setattr__" = some (some (.builtin "object.__setattr__")))
  (fg : PySem.W.findIn K (.ref C) "__getattribute__" = some (some (.builtin "BaseException.__getattribute__"))) (fh : PySem.W.findIn K (.ref C) "__getattr__" = some none) (fc : PySem.W.findIn K (.ref C) "__class__" = some (some (.builtin "object.__class__")))
  (hb : bm = vbm ∨ ∃ D, bm = .ref D :: vbm) : Xc K C bm where
 lk := ⟨_, _, _, _, _, _, _, _, _, _, _, _, _, _, lk⟩
 hv := by rcases hb with rfl | ⟨D, rfl⟩ <;> rfl
 hb := by rcases hb with rfl | ⟨D, rfl⟩ <;> rfl
 ha := by rcases hb with rfl | ⟨D, rfl⟩ <;> rfl
 hn := by rcases hb with rfl | ⟨D, rfl⟩ <;> rfl
 ho := by rcases hb with rfl | ⟨D, rfl⟩ <;> rfl
 kp := kp
 sa := fun self => by
  rcases hb with rfl | ⟨D, rfl⟩
  ·exact PySem.F.store_ValueError.passes self
  ·rw [refuseLoop_ref]
   exact PySem.F.store_ValueError.passes self
 fs := fs
 fg := fg
 fh := fh
 fc := fc
theorem isC {c : Cl} {C D : Addr} : (Value.ref C :: cbm c).contains (.ref D) = (decide (D = C) || decide (D = c.cov)) := by
 rw [List.contains_cons, List.contains_cons]
 have e1 : (Value.ref D == Value.ref C) = decide (D = C) := by
  by_cases h : D = C
  ·rw [h, decide_eq_true rfl]; simp
  ·rw [decide_eq_false h]
   exact Bool.eq_false_iff.mpr fun z => h (Value.ref.inj (beq_iff_eq.mp z))
 have e2 : (Value.ref D == Value.ref c.cov) = decide (D = c.cov) := by
  by_cases h : D = c.cov
  ·rw [h, decide_eq_true rfl]; simp
  ·rw [decide_eq_false h]
   exact Bool.eq_false_iff.mpr fun z => h (Value.ref.inj (beq_iff_eq.mp z))
 have e3 : (vbm.contains (Value.ref D)) = false := rfl
 rw [e1, e2, e3, Bool.or_false]
theorem anyC {c : Cl} {C : Addr} {cs : List Addr} (h : ∀ D ∈ cs, D ≠ C ∧ D ≠ c.cov) : (cs.any fun D => (Value.ref C :: cbm c).contains (.ref D)) = false := by
 rw [List.any_eq_false]
 intro D hD
 rw [isC, decide_eq_false (h D hD).1, decide_eq_false (h D hD).2]
 decide
theorem Errs.ne {K : PySem.W.Frag} {mg : Str → Option Value} {κ : Cl} (er : Errs K mg κ) (i j : Nat) {C D : Addr} (hi : κ.all[i]? = some D) (hj : κ.all[j]? = some C) (hij : i ≠ j) : D ≠ C := fun e => by
 obtain ⟨h1, e1⟩ := List.getElem?_eq_some_iff.mp hi
 obtain ⟨h2, e2⟩ := List.getElem?_eq_some_iff.mp hj
 exact hij ((List.getElem_inj er.nd).mp (by rw [e1, e2, e]))
theorem b_ValueError : bootBuiltins "ValueError" = some (.type "ValueError") := by decide +kernel
end Pc
namespace K03
open PySem PySem.Spec L2 PyProof.Rows Pc
set_option hygiene false
set_option compiler.extract_closed false
local macro_rules | `(tactic| push_cast [$xs,*]) => `(tactic| simp only [↓cons_same, ↓l1_same, ↓l2_same, ↓l3_same, ↓exists_eq_left, ↓exists_eq_left', ↓int_ex, ↓ref_ex, ↓bl_ex, ↓int_ex2, tVarD, tSeq, tIfS, tRet, tRetN, tNext, tVar, tC, tTest, tB, tOp, tUn, rI, rI0, rU, rEq, rNe, tCall, tCB, tCons, tNil, tAnd, tOr, tNot, tAndV, tOrV, tNotV, tIf, gName, tAsg, tBM, tBM0, tSl, tNoPart, tPart, rSlS, rSlL, tLst, tTup, tDrop, tNoIf, iStr, iList, iTup, iRng1, iRng2, tLC, tSetLC, frOf, List.set_cons_zero, List.set_cons_succ, List.getElem?_cons_zero, List.getElem?_cons_succ, Option.some.injEq, V.int.injEq, V.str.injEq, V.bl.injEq, V.ref.injEq, List.cons.injEq, exists_eq_left, exists_eq_left', exists_eq_right, exists_eq_right', exists_and_left, exists_and_right, and_true, true_and, List.cons_append, List.nil_append, List.append_nil, reduceCtorEq, false_and, exists_false, false_or, or_false, decide_eq_true_eq, eq_self, if_true, if_false, Bool.false_eq_true, Bool.true_eq_false, cxOf_K, cxOf_P, cxOf_w, cxOf_mg, cxOf_b, List.map_cons, List.map_nil, Option.getD_some, Option.getD_none, exists_const, nox_K, and_assoc, exists_eq, exists_eq', V.ty.injEq, tVals, Int.reduceLT, Int.reduceLE, Int.reduceNeg, Int.reducePow, Nat.reduceLT, Nat.reduceLeDiff, tFor_eq, tyV_str, CDiv, tCallV, tDIn, tDNotIn, tDGet, iRev, tDNewK, sDPut, and_self, exists_prop, $xs,*])
set_option hygiene true
set_option compiler.extract_closed true
noncomputable def top (i : Nat) : Stmt := PySem.Challenge.pw_pricecover_k03_no_term.main.body.getD i (.Pass ⟨0, 0, 0, 0⟩)
structure Gs (w : World) (K : PySem.W.Frag) (mg : Str → Option Value) (κ : Cl) : Prop where
 er : Errs K mg κ
 i_NoTerm : PySem.W.findIn K (.ref κ.noTerm) "__init__" = some (some (.builtin "ValueError.__init__"))
 m_ValueError : mg "ValueError" = none
 m_all : mg "all" = none
 m_int : mg "int" = none
 m_isinstance : mg "isinstance" = none
 m_len : mg "len" = none
 m_list : mg "list" = none
 m_range : mg "range" = none
 m_str : mg "str" = none
 m_sum : mg "sum" = none
 m_tuple : mg "tuple" = none
 m_LETTERS : ∃ t, mg "LETTERS" = some (.str "abcdefghijklmnopqrstuvwxyz" t)
 m_FIGURES : ∃ t, mg "FIGURES" = some (.str "0123456789" t)
 m_MOST_LETTERS : ∃ t, mg "MOST_LETTERS" = some (.int 8 t)
 m_MOST_FIGURES : ∃ t, mg "MOST_FIGURES" = some (.int 60 t)
 m_KEPT_WORDS : ∃ a, mg "KEPT_WORDS" = some (.ref a) ∧ ∀ H, SqT K H a [.str "add", .str "sub", .str "mul", .str "neg", .str "any", .str "var", .str "put", .str "load", .str "out"]
 m_PARTS_BELOW : ∃ a, mg "PARTS_BELOW" = some (.ref a) ∧ ModD w K a [(Sum.inr "add", .int 2), (Sum.inr "sub", .int 2), (Sum.inr "mul", .int 2), (Sum.inr "neg", .int 1)]
def spLaw (K : PySem.W.Frag) : Sp := fun vs H Q _ => ∃ (a : Addr) (ns : List Int), vs = [.ref a] ∧ SqL K H a (ns.map V.int) ∧ ns.length ≤ 63 ∧ ∀ H', Q (.bl true) H'
theorem scal_ii (a b : Int) : scal (.int a) (.int b) = true := rfl
theorem scal_ss (a b : Str) : scal (.str a) (.str b) = true := rfl
def spMade : Sp := fun vs H Q _ => ∃ z y, vs = [.str z, .str y] ∧ z.length ≤ 20000 ∧ ∀ H', Same H H' → Q (.bl (madeB z y)) H'
def spName : Sp := fun vs H Q _ => ∃ z, vs = [.str z] ∧ z.length ≤ 20000 ∧ ∀ H', Same H H' → Q (.bl (nameB z)) H'
def spNum : Sp := fun vs H Q _ => ∃ z, vs = [.str z] ∧ z.length ≤ 20000 ∧ ∀ H', Same H H' → Q (.bl (numB z)) H'
noncomputable def twB (z : Str) : Bool := numB z || nameB z || decide (0 < arS z)
def spTW : Sp := fun vs H Q _ => ∃ z : Str, vs = [.str z] ∧ z.length ≤ 20000 ∧ ∀ H', Same H H' → Q (.bl (numB z || nameB z || decide (0 < arS z))) H'
theorem big {n : Nat} (h : n ≤ 20000) : n ≤ sizeLine := Nat.le_trans h (by decide)
theorem num_fin (z f : Str) (hf : f.cps.toList = figL z.cps.toList) (hfl : f.length ≤ 20000) {Q : VK} {H : Hp} (q : ∀ H', Same H H' → Q (.bl (numB z)) H') :
  f.length ≤ sizeLine ∧ if (f.length : Int) < 1 then Q (.bl false) H else f.length ≤ sizeLine ∧ if 60 < (f.length : Int) then Q (.bl false) H else f.length ≤ 20000 ∧ ∀ H', Same H H' →
   if (!madeB f figS) = true then Q (.bl false) H' else if z = ("0" : Str) then Q (.bl true) H' else f.length ≤ sizeLine ∧ ∃ x, atI f.cps.toList 0 = some x ∧ Q (.bl !decide ((⟨#[x]⟩ : Str) = ("0" : Str))) H' := by
 have hs := big hfl
 refine ⟨hs, ite2 (fun c => ?_) fun c => ⟨hs, ite2 (fun c2 => ?_) fun c2 => ?_⟩⟩
 ·have el := fig_len z f hf
  have e : numB z = false := by unfold numB; rw [decide_eq_false (by omega)]; rfl
  exact e ▸ q H (Same.refl H)
 ·have el := fig_len z f hf
  have e : numB z = false := by unfold numB; rw [decide_eq_false (show ¬ (figL z.cps.toList).length ≤ 60 by omega)]; simp
  exact e ▸ q H (Same.refl H)
 ·have hf2 : f.length ≤ 1000 := by omega
  have g := (Pc.num_fin z f hf hf2 q).2
  rw [if_neg c] at g
  have g := g.2
  rw [if_neg c2] at g
  exact ⟨hfl, g.2⟩
noncomputable def rdV (z : Str) : V := if numB z = true then .int ((PySem.intText? z).getD 0) else .str z
def spNumT : Sp := fun vs H Q _ => ∃ z : Str, vs = [.str z] ∧ z.length ≤ 20000 ∧ ∀ H', Same H H' → Q (rdV z) H'
theorem int_of_num {z : Str} (h : numB z = true) : ∃ n, PySem.intText? z = some n ∧ z.length ≤ 61 := by
 unfold numB at h
 simp only [Bool.and_eq_true, decide_eq_true_eq] at h
 obtain ⟨h1, h2, h3, _⟩ := h
 have dg : NumText.AllDigits (figL z.cps.toList) := fun c hc => (mem_fig c).mp (of_decide_eq_true (List.all_eq_true.mp h3 c hc))
 have hl := slen z
 unfold figL at h1 h2 dg
 by_cases hh : z.cps.toList.head? = some 45
 ·rw [if_pos hh] at h1 h2 dg
  obtain ⟨r, e⟩ := List.head?_eq_some_iff.mp hh
  rw [e, List.tail_cons] at h1 h2 dg
  have hn : r ≠ [] := fun q => by rw [q] at h1; exact absurd h1 (by decide)
  rw [e, List.length_cons] at hl
  exact ⟨_, PySem.intText_neg (x := z) e dg hn (by omega), by omega⟩
 ·rw [if_neg hh] at h1 h2 dg
  have hn : z.cps.toList ≠ [] := fun q => by rw [q] at h1; exact absurd h1 (by decide)
  exact ⟨_, PySem.intText_digits (x := z) dg hn (by omega), by omega⟩
theorem rd_isW (z : Str) : isW (rdV z) := by
 unfold rdV
 split
 ·exact isW.int _
 ·exact isW.str _
theorem num_ar {z : Str} (h : numB z = true) : arS z = 0 := by
 rcases Nat.eq_zero_or_pos (arS z) with e | e
 ·exact e
 ·have := str_noNum (z := z) (.inr e)
  rw [h] at this
  cases this
theorem rd_ar (z : Str) : arV (rdV z) = arS z := by
 unfold rdV
 split
 ·rename_i h
  exact (num_ar h).symm
 ·rfl
def spReadW (κ : Cl) : Sp := fun vs H Q E => ∃ z : Str, vs = [.str z] ∧ z.length ≤ 20000 ∧ asciiS z ∧ (twB z = true → ∀ H', Same H H' → Q (rdV z) H') ∧ (twB z = false → ∀ H', Same H H' → E (.ref κ.noTerm) none H')
def spOne (K : PySem.W.Frag) : Sp := fun vs H Q _ => ∃ t ws, vs = [.ref t] ∧ SqT K H t ws ∧ (∀ v ∈ ws, isW v) ∧ ws.length ≤ 30000 ∧ Q (.bl (decide (pend 1 (ws.map arV) = some 0))) H
noncomputable def wordsOf (z : Str) : List Str := Txt.split z (Str.ofString " ")
noncomputable def goodB (z : Str) : Bool := (wordsOf z).all twB && decide (pend 1 ((wordsOf z).map arS) = some 0)
def spReadT (κ : Cl) : Sp := fun vs H Q E => ∃ z : Str, vs = [.str z] ∧ z.length ≤ 20000 ∧ asciiS z ∧ (goodB z = true → ∀ t H', Same H H' → H' t = some (.tup ((wordsOf z).map rdV)) → Q (.ref t) H') ∧ (goodB z = false → ∀ H', Same H H' → E (.ref κ.noTerm) none H')
theorem words_ascii {z y : Str} (h : asciiS z) (hy : y ∈ wordsOf z) : asciiS y := by
 unfold wordsOf Txt.split at hy
 split at hy
 ·rw [List.mem_singleton.mp hy]; exact h
 ·split at hy
  ·rw [List.mem_singleton.mp hy]; exact h
  ·exact fun c hc => h c (part_sub hy hc)
theorem sum_mem {ys : List Str} {y : Str} (h : y ∈ ys) : y.length ≤ (ys.map (·.length)).sum := by
 induction ys with
 | nil => cases h
 | cons a r ih =>
  rw [List.map_cons, List.sum_cons]
  rcases List.mem_cons.mp h with rfl | h
  ·omega
  ·have := ih h
   omega
theorem words_len {z y : Str} (hy : y ∈ wordsOf z) : y.length ≤ z.length := by
 unfold wordsOf Txt.split at hy
 split at hy
 ·rw [List.mem_singleton.mp hy]; exact Nat.le_refl _
 ·split at hy
  ·rw [List.mem_singleton.mp hy]; exact Nat.le_refl _
  ·have e := StrLaws.glued_between_self z (Str.ofString " ") (z.length + 1)
   have := congrArg Str.length e
   rw [size_glued] at this
   have := sum_mem hy
   omega
def spGood : Sp := fun vs H Q _ => ∃ z : Str, vs = [.str z] ∧ z.length ≤ 20000 ∧ ∀ H', Same H H' → Q (.bl (goodB z)) H'
def spRight : Sp := fun vs H Q _ => ∃ z : Str, vs = [.str z] ∧ z.length ≤ 20000 ∧ asciiS z ∧ ∀ H', Same H H' → Q (.bl true) H'
noncomputable abbrev L4 : List V := [V.str (Str.ofString "add"), V.str (Str.ofString "sub"), V.str (Str.ofString "mul"), V.str (Str.ofString "neg")]
noncomputable abbrev L5 : List V := [V.str (Str.ofString "any"), V.str (Str.ofString "var"), V.str (Str.ofString "put"), V.str (Str.ofString "load"), V.str (Str.ofString "out")]
noncomputable abbrev L3 : List V := [V.str (Str.ofString "add"), V.str (Str.ofString "sub"), V.str (Str.ofString "mul")]
theorem in_str {z : Str} : ∀ {ys : List Str}, inV (.str z) (ys.map V.str) = true → z ∈ ys := fun {ys} h => by
 obtain ⟨v, hv, e⟩ := List.any_eq_true.mp h
 obtain ⟨y, hy, rfl⟩ := List.mem_map.mp hv
 rw [(eq_of_beq (show (y == z) = true from e)).symm]
 exact hy
theorem four3 (z : Str) : inV (.str z) L4 = decide (0 < arS z) := by
 by_cases h : 0 < arS z
 ·rw [decide_eq_true h]
  rcases arS_cases (z := z) h with rfl | rfl | rfl | rfl <;> decide +kernel
 ·rw [decide_eq_false h, Bool.eq_false_iff]
  intro c
  have := in_str (ys := [Str.ofString "add", Str.ofString "sub", Str.ofString "mul", Str.ofString "neg"]) c
  simp only [List.mem_cons, List.not_mem_nil, or_false] at this
  rcases this with rfl | rfl | rfl | rfl <;> exact h (by decide +kernel)
theorem three3 (z : Str) : inV (.str z) L3 = decide (arS z = 2) := by
 by_cases h : arS z = 2
 ·rw [decide_eq_true h]
  rcases arS_cases (z := z) (by omega) with rfl | rfl | rfl | rfl
  ·decide +kernel
  ·decide +kernel
  ·decide +kernel
  ·exact absurd h (by decide +kernel)
 ·rw [decide_eq_false h, Bool.eq_false_iff]
  intro c
  have := in_str (ys := [Str.ofString "add", Str.ofString "sub", Str.ofString "mul"]) c
  simp only [List.mem_cons, List.not_mem_nil, or_false] at this
  rcases this with rfl | rfl | rfl <;> exact h (by decide +kernel)
theorem neg3 {z : Str} (h : arS z ≠ 2) : arS z = if z = Str.ofString "neg" then 1 else 0 := by
 by_cases c : z = Str.ofString "neg"
 ·rw [if_pos c, c]; decide +kernel
 ·rw [if_neg c]
  rcases Nat.eq_zero_or_pos (arS z) with e | e
  ·exact e
  ·rcases arS_cases (z := z) e with rfl | rfl | rfl | rfl
   ·exact absurd (by decide +kernel) h
   ·exact absurd (by decide +kernel) h
   ·exact absurd (by decide +kernel) h
   ·exact absurd rfl c
theorem five_no {z : Str} (h : inV (.str z) L5 = true) : numB z = false ∧ nameB z = false ∧ arS z = 0 := by
 have := in_str (ys := [Str.ofString "any", Str.ofString "var", Str.ofString "put", Str.ofString "load", Str.ofString "out"]) h
 simp only [List.mem_cons, List.not_mem_nil, or_false] at this
 rcases this with rfl | rfl | rfl | rfl | rfl <;> exact ⟨by decide +kernel, by decide +kernel, by decide +kernel⟩
theorem kept_two (z : Str) : inV (.str z) keptV = (inV (.str z) L4 || inV (.str z) L5) := by
 show (L4 ++ L5).any _ = _
 rw [List.any_append]
 rfl
theorem nm3 {K : PySem.W.Frag} {H : Hp} {l : Addr} {ys : List V} {n : Nat} {T U : Prop} (hs : n ≤ sizeLine) (hL : SqL K H l ys) (t : 0 < n → n < 9 → ys.length = n → T) (u : ¬ (0 < n ∧ n < 9 ∧ ys.length = n) → U) :
  n ≤ sizeLine ∧ if (0 : Int) < (n : Int) then (if (n : Int) < 9 then ∃ x, (SqL K H l x ∨ SqT K H l x) ∧ n ≤ sizeLine ∧ if (x.length : Int) = (n : Int) then T else U else U) else U := by
 refine ⟨hs, ite2 (fun c1 => ite2 (fun c2 => ⟨ys, .inl hL, hs, ite2 (fun c3 => t (by omega) (by omega) (by omega)) fun c3 => u (by omega)⟩) fun c2 => u (by omega)) fun c1 => u (by omega)⟩
def txV (v : V) : Prop := ∃ z : Str, v = .str z ∧ z.length ≤ 100 ∧ asciiS z
def TxV (xs : List V) : Prop := ∀ v ∈ xs, txV v
theorem TxV.nil : TxV [] := fun _ h => nomatch h
theorem TxV.app {xs ys : List V} (h : TxV xs) (g : TxV ys) : TxV (xs ++ ys) := fun v hv => (List.mem_append.mp hv).elim (h v) (g v)
theorem TxV.cut {xs : List V} (h : TxV xs) (a b : Option Int) : TxV (cutV xs a b) := fun v hv => h v (mem_cutV hv)
theorem TxV.one {v : V} (h : txV v) : TxV [v] := fun u hu => by rw [List.mem_singleton.mp hu]; exact h
noncomputable def okB (z : Str) : Bool := decide (z.length ≤ 100) && z.cps.toList.all fun c => decide (c < 128)
theorem okB.tx {z : Str} (h : okB z = true) : txV (.str z) := by
 unfold okB at h
 rw [Bool.and_eq_true, decide_eq_true_eq] at h
 exact ⟨z, rfl, h.1, fun c hc => of_decide_eq_true (List.all_eq_true.mp h.2 c hc)⟩
theorem TxV.lits (zs : List Str) (h : zs.all okB = true) : TxV (zs.map V.str) := fun v hv => by
 obtain ⟨z, hz, rfl⟩ := List.mem_map.mp hv
 exact okB.tx (List.all_eq_true.mp h z hz)
theorem TxV.strs : ∀ {xs : List V}, TxV xs → ∃ zs : List Str, xs = zs.map V.str ∧ ∀ z ∈ zs, z.length ≤ 100 ∧ asciiS z
 | [], _ => ⟨[], rfl, fun _ h => nomatch h⟩
 | v :: r, h => by
  obtain ⟨z, rfl, h1⟩ := h v List.mem_cons_self
  obtain ⟨zs, rfl, h2⟩ := TxV.strs (xs := r) fun u hu => h u (List.mem_cons_of_mem _ hu)
  exact ⟨z :: zs, rfl, fun y hy => (List.mem_cons.mp hy).elim (fun e => e ▸ h1) (h2 y)⟩
theorem sum_le : ∀ {zs : List Str} {k : Nat}, (∀ z ∈ zs, z.length ≤ k) → (zs.map (·.length)).sum ≤ zs.length * k
 | [], _, _ => Nat.zero_le _
 | z :: r, k, h => by
  rw [List.map_cons, List.sum_cons, List.length_cons, Nat.add_mul, Nat.one_mul]
  have := h z List.mem_cons_self
  have := sum_le (zs := r) (k := k) fun y hy => h y (List.mem_cons_of_mem _ hy)
  omega
theorem join_ok {zs : List Str} (h : ∀ z ∈ zs, z.length ≤ 100 ∧ asciiS z) (hl : zs.length ≤ 190) : (zs.map (·.length)).sum + zs.length * (Str.ofString " ").length ≤ 1000000 ∧ (Txt.join (Str.ofString " ") zs).length ≤ 19990 ∧ asciiS (Txt.join (Str.ofString " ") zs) := by
 have s1 := sum_le (zs := zs) (k := 100) fun z hz => (h z hz).1
 have j := join_le (Str.ofString " ") zs
 rw [show (Str.ofString " ").length = 1 by decide +kernel] at j ⊢
 refine ⟨by omega, by omega, fun c hc => ?_⟩
 rcases glued_sub (sep := Str.ofString " ") (parts := zs) hc with h1 | ⟨p, hp, h1⟩
 ·have : ∀ c ∈ (Str.ofString " ").cps.toList, c < 128 := by decide +kernel
  exact this c h1
 ·exact (h p hp).2 c h1
theorem cat_tx {H : Hp} {p r : Addr} {xs ys : List V} {Q : VK} (h1 : H p = some (.lst xs)) (h2 : H r = some (.lst ys)) (hl : xs.length + ys.length ≤ 1000) (k : ∀ a H', Same H H' → H' a = some (.lst (xs ++ ys)) → Q (.ref a) H') : rCat (.ref p) (.ref r) H Q :=
 rCat_ok h1 h2 (Nat.le_trans hl (by decide)) fun a ha => k a _ (same_new ha _) upd_same
theorem tx_at {xs : List V} (h : TxV xs) {k : Int} {n : Nat} (hn : xs.length = n) (h0 : 0 ≤ k) (h1 : k < (n : Int)) : ∃ v, atI xs k = some v ∧ txV v := by
 obtain ⟨v, hv, hm⟩ := atI_in xs k h0 (by rw [hn]; exact h1)
 exact ⟨v, hv, h v hm⟩
theorem ascii_of {z : Str} (h : (z.cps.toList.all fun c => decide (c < 128)) = true) : asciiS z := fun c hc => of_decide_eq_true (List.all_eq_true.mp h c hc)
theorem ascii_app {a b : Str} (ha : asciiS a) (hb : asciiS b) : asciiS (a ++ b) := fun c hc => by
 have : c ∈ (a.cps ++ b.cps).toList := hc
 rw [Array.toList_append, List.mem_append] at this
 exact this.elim (ha c) (hb c)
theorem ascii_mul {z : Str} (h : asciiS z) (n : Nat) : asciiS (mulS z n) := fun c hc => by
 have : c ∈ (List.replicate n z.cps.toList).flatten := hc
 obtain ⟨l, hl, hc⟩ := List.mem_flatten.mp this
 rw [List.eq_of_mem_replicate hl] at hc
 exact h c hc
theorem digs_ascii (m : Nat) : ∀ c ∈ digs m, c < 128 := fun c hc => by
 have := digs_digit m c hc
 omega
theorem text_ascii (i : Int) : asciiS (textV (.int i)) := by
 cases i with
 | ofNat m =>
  intro c hc
  rw [show (Int.ofNat m) = (m : Int) from rfl, text_nat] at hc
  exact digs_ascii m c hc
 | negSucc m =>
  intro c hc
  rw [text_neg] at hc
  rcases List.mem_cons.mp hc with rfl | hc
  ·decide
  ·exact digs_ascii _ c hc
theorem text_len10 {k : Int} (h0 : 0 ≤ k) (h1 : k < 10 ^ 10) : (textV (.int k)).length ≤ 10 := by
 obtain ⟨m, rfl⟩ := Int.eq_ofNat_of_zero_le h0
 rw [slen, text_nat]
 unfold digs
 rw [List.length_map]
 exact toDigits_len 9 m (by omega)
theorem tx_num {x : Int} (h : x.natAbs < 10 ^ 60) : txV (.str (textV (.int x))) := ⟨_, rfl, by have := (read_int h).2.2; omega, text_ascii x⟩
def Ones3 (i : Nat) (ys : List V) : Prop := ∃ zs : List Str, ys = zs.map V.str ∧ zs.length = i ∧ ∀ z ∈ zs, z.length = 1 ∧ asciiS z
theorem Ones3.more {i : Nat} {ys : List V} (h : Ones3 i ys) {c : Nat} (hc : c < 128) : Ones3 (i + 1) (ys ++ [.str ⟨#[c]⟩]) := by
 obtain ⟨zs, rfl, rfl, h1⟩ := h
 refine ⟨zs ++ [⟨#[c]⟩], by rw [List.map_append]; rfl, by rw [List.length_append, List.length_singleton], fun z hz => ?_⟩
 rcases List.mem_append.mp hz with h | h
 ·exact h1 z h
 ·rw [List.mem_singleton.mp h]
  refine ⟨rfl, fun d hd => ?_⟩
  have : d ∈ [c] := hd
  rw [List.mem_singleton.mp this]
  exact hc
theorem one_ascii {c : Nat} (h : c < 128) : asciiS ⟨#[c]⟩ := fun d hd => by
 have : d ∈ [c] := hd
 rw [List.mem_singleton.mp this]
 exact h
theorem up_ascii {z : Str} (h : asciiS z) : asciiS (upS z) := fun c hc => by
 have : c ∈ (z.cps.map up1).toList := hc
 rw [Array.toList_map] at this
 obtain ⟨d, hd, rfl⟩ := List.mem_map.mp this
 have := h d hd
 unfold up1
 split <;> omega
def spWords : Sp := fun vs H Q _ => ∃ (d b : Addr) (ns : List Int) (m n : Nat), vs = [.ref d, .int (m : Int)] ∧ Deck H d b ns n ∧ 1 ≤ m ∧ m ≤ 60 ∧ n ≤ 1000 ∧ ∀ (l : Addr) (n' : Nat) (H' : Hp) (xs : List V), SameB d H H' → H' d = some (.lst [.ref b, .int (n' : Int)]) → n' ≤ n + m → H l = none → H' l = some (.lst xs) → TxV xs → 1 ≤ xs.length → xs.length ≤ m → Q (.ref l) H'
def spDrawn : Sp := fun vs H Q _ => ∃ i : Int, vs = [.int i] ∧ ∀ (z : Str) (H' : Hp), Same H H' → txV (.str z) → Q (.str z) H'
def spSpoiled : Sp := fun vs H Q _ => ∃ (l : Addr) (c : Int) (xs : List V), vs = [.ref l, .int c] ∧ H l = some (.lst xs) ∧ TxV xs ∧ 1 ≤ xs.length ∧ xs.length ≤ 60 ∧ ∀ (r : Addr) (H' : Hp) (ys : List V), Same H H' → H' r = some (.lst ys) → TxV ys → ys.length ≤ 121 → Q (.ref r) H'
theorem words_cnt (z : Str) : (wordsOf z).length ≤ z.length + 2 := split_len z _
section
variable {P : Program} {w : World} {K : PySem.W.Frag} {mg : Str → Option Value} {base : Heap} {k : Nat} {κ : Cl}
noncomputable abbrev sMade : Stmt := top 20
theorem scMade : FnScope ["text", "signs"] ["text", "signs"] (defScope sMade) := ⟨rfl, rfl, rfl, by decide +kernel, rfl, by decide +kernel, by decide +kernel⟩
theorem hasMade (G : Gs w K mg κ) (D : Def K mg "made_of" sMade ["text", "signs"]) : Has P w K mg base (k + 1) "made_of" ["text", "signs"] spMade := by
 refine D.has scMade (fun vs H Q E h => ?_) (fun f cdv A outer s H vs Q E hr h => ?_)
 ·obtain ⟨_, _, rfl, _, _⟩ := h
  rfl
 have nd := scMade.nd
 have hu := hu_of hr
 have hu0 := Nat.lt_of_succ_lt hu
 obtain ⟨z, y, rfl, hz, q⟩ := h
 have m_all := G.m_all
 refine ⟨_, (@pss_one _ _ _ (@ps_ret _ _ _ _ (@pe_callB _ _ _ _ _ _ _ _ _ (@call_all_list _ rfl) rfl m_all b_all (@pa_cons _ _ _ _ _ (@pe_lc _ _ _ _ _ _ _ _ _ _ _ _ _ _ _ (@ClOk.mk _ _ ["sign"] ["signs"] [1] _ rfl rfl rfl rfl (And.intro rfl trivial) rfl (And.intro (And.intro rfl (And.intro rfl rfl)) trivial)) rfl (@pi_str _ _ _ _ (@pvD _ 0 _ _ (by rfl) (by first | exact Or.inl rfl | exact Or.inr (Or.inl rfl) | exact Or.inr (Or.inr rfl)) (by decide) (by decide))) (fun _ _ _ => (@pg_name _ _ 0 _ (show List.Nodup (["sign", "signs"] : List Str) by decide +kernel) rfl (Or.inl rfl) (by first | exact .inl rfl | exact .inr rfl | assumption))) (fun _ _ _ => (@pif0 _)) (fun _ _ _ => (@pe_cmpR _ _ _ _ _ _ _ _ (@op_in_str _) (@pvD _ 0 _ _ (by rfl) (by first | exact Or.inl rfl | exact Or.inr (Or.inl rfl) | exact Or.inr (Or.inr rfl)) (by decide) (by decide)) (@pvD _ 1 _ _ (by rfl) (by first | exact Or.inl rfl | exact Or.inr (Or.inl rfl) | exact Or.inr (Or.inr rfl)) (by decide) (by decide)) (by with_unfolding_all rfl))) (by intro _; rfl)) (@pa_nil _) (by rfl)) (by decide) (by decide) (by rfl) (by rfl)))), ?_⟩
 rw [show start ["text", "signs"] [.str z, .str y] = [some (.str z), some (.str y)] from rfl]
 clear hu hu0 nd hr
 push_cast [and_true]
 intro D hD
 refine lc_str (fun i ys => ys = (z.cps.toList.take i).map fun c => V.bl (decide (c ∈ y.cps.toList))) (Nat.lt_of_le_of_lt hz (by decide)) hD rfl (fun i c ys H1 G' K' hc hP hl hS hG hK => ?_) (fun ys H' hP _ hS hL => ?_)
 ·push_cast [and_true]
  rw [StrLaws.found_one]
  refine hK _ _ (Same.refl _) ?_
  rw [hP, List.take_add_one, hc]
  simp
 ·rw [slen, List.take_length] at hP
  refine ⟨z.cps.toList.map fun c => decide (c ∈ y.cps.toList), SqL.of (by rw [hL, hP, List.map_map]; rfl), ?_⟩
  rw [List.all_map]
  exact q H' hS
noncomputable abbrev sName : Stmt := top 21
theorem scName : FnScope ["word"] ["word"] (defScope sName) := ⟨rfl, rfl, rfl, by decide +kernel, rfl, by decide +kernel, by decide +kernel⟩
theorem hasName (G : Gs w K mg κ) (h_made_of : Has P w K mg base k "made_of" ["text", "signs"] spMade) (D : Def K mg "is_name" sName ["word"]) : Has P w K mg base (k + 1) "is_name" ["word"] spName := by
 refine D.has scName (fun vs H Q E h => ?_) (fun f cdv A outer s H vs Q E hr h => ?_)
 ·obtain ⟨_, rfl, _, _⟩ := h
  rfl
 have nd := scName.nd
 have hu := hu_of hr
 have hu0 := Nat.lt_of_succ_lt hu
 obtain ⟨z, rfl, hz, q⟩ := h
 obtain ⟨a_KEPT_WORDS, m_KEPT_WORDS, s_KEPT_WORDS⟩ := G.m_KEPT_WORDS
 obtain ⟨_, m_LETTERS⟩ := G.m_LETTERS
 obtain ⟨_, m_MOST_LETTERS⟩ := G.m_MOST_LETTERS
 have m_len := G.m_len
 refine ⟨_, (@pss_cons _ _ _ _ _ (@ps_if _ _ _ _ _ _ _ _ (@PW.pt _ _ _ (@pw_or _ _ _ _ _ _ _ (@pt_cmpR _ _ _ _ _ _ _ _ (@op_lt _) (@pe_callB _ _ _ _ _ _ _ _ _ (@call_len_str _) rfl m_len b_len (@pa_cons _ _ _ _ _ (@pvD _ 0 _ _ (by rfl) (by first | exact Or.inl rfl | exact Or.inr (Or.inl rfl) | exact Or.inr (Or.inr rfl)) (by decide) (by decide)) (@pa_nil _) (by rfl)) (by decide) (by decide) (by rfl) (by rfl)) (@pe_int _ _ _ _) (@nomark _ _ (by decide) (by decide))) (@pw_or1 _ _ _ _ (@pt_cmpR _ _ _ _ _ _ _ _ (@op_gt _) (@pe_callB _ _ _ _ _ _ _ _ _ (@call_len_str _) rfl m_len b_len (@pa_cons _ _ _ _ _ (@pvD _ 0 _ _ (by rfl) (by first | exact Or.inl rfl | exact Or.inr (Or.inl rfl) | exact Or.inr (Or.inr rfl)) (by decide) (by decide)) (@pa_nil _) (by rfl)) (by decide) (by decide) (by rfl) (by rfl)) (@pe_gint _ _ _ _ _ m_MOST_LETTERS (by rfl) (by decide +kernel)) (@nomark _ _ (by decide) (by decide)))))) (@pss_one _ _ _ (@ps_ret _ _ _ _ (@pe_bl _ _ _ _))) (@pss_nil _)) (@pss_one _ _ _ (@ps_ret _ _ _ _ (@pe_and _ _ _ _ _ _ _ (@pe_has _ _ _ _ _ _ _ _ _ _ h_made_of hr (@pa_cons _ _ _ _ _ (@pvD _ 0 _ _ (by rfl) (by first | exact Or.inl rfl | exact Or.inr (Or.inl rfl) | exact Or.inr (Or.inr rfl)) (by decide) (by decide)) (@pa_cons _ _ _ _ _ (@pe_gstr _ _ _ _ _ m_LETTERS (by rfl) (by decide +kernel)) (@pa_nil _) (by rfl)) (by rfl)) (by rfl) (by decide +kernel) (by rfl) (by rfl)) (@pe_one _ _ _ _ _ (@pe_cmpR _ _ _ _ _ _ _ _ (@op_notIn_seq _) (@pvD _ 0 _ _ (by rfl) (by first | exact Or.inl rfl | exact Or.inr (Or.inl rfl) | exact Or.inr (Or.inr rfl)) (by decide) (by decide)) (@pe_gref _ _ _ _ m_KEPT_WORDS (by rfl) (by decide +kernel)) (by with_unfolding_all rfl))))))), ?_⟩
 rw [show start ["word"] [.str z] = [some (.str z)] from rfl]
 clear hu hu0 nd hr
 push_cast [spMade, rIn]
 refine ⟨big hz, ite2 (fun c => ?_) fun c => ⟨big hz, ite2 (fun c2 => ?_) fun c2 => ⟨hz, fun H' hS => ite2 (fun c3 => ?_) fun c3 => ?_⟩⟩⟩
 ·have e : nameB z = false := by unfold nameB; rw [decide_eq_false (by omega)]; rfl
  exact e ▸ q H (Same.refl H)
 ·have e : nameB z = false := by unfold nameB; rw [decide_eq_false (show ¬ z.length ≤ 8 by omega)]; simp
  exact e ▸ q H (Same.refl H)
 ·refine ⟨keptV, .inr (s_KEPT_WORDS H'), rfl, rfl, ?_⟩
  have e : nameB z = !inV (.str z) keptV := by
   unfold nameB; rw [decide_eq_true (show 1 ≤ z.length by omega), decide_eq_true (show z.length ≤ 8 by omega), c3]; simp
  exact e ▸ q H' hS
 ·have e : nameB z = false := by unfold nameB; rw [Bool.eq_false_iff.mpr c3]; simp
  exact e ▸ q H' hS
noncomputable abbrev sNum : Stmt := top 22
theorem scNum : FnScope ["word", "figures"] ["word"] (defScope sNum) := ⟨rfl, rfl, rfl, by decide +kernel, rfl, by decide +kernel, by decide +kernel⟩
theorem hasNum (G : Gs w K mg κ) (h_made_of : Has P w K mg base k "made_of" ["text", "signs"] spMade) (D : Def K mg "is_number" sNum ["word"]) : Has P w K mg base (k + 1) "is_number" ["word"] spNum := by
 refine D.has scNum (fun vs H Q E h => ?_) (fun f cdv A outer s H vs Q E hr h => ?_)
 ·obtain ⟨_, rfl, _, _⟩ := h
  rfl
 have nd := scNum.nd
 have hu := hu_of hr
 have hu0 := Nat.lt_of_succ_lt hu
 obtain ⟨z, rfl, hz, q⟩ := h
 obtain ⟨_, m_FIGURES⟩ := G.m_FIGURES
 obtain ⟨_, m_MOST_FIGURES⟩ := G.m_MOST_FIGURES
 have m_len := G.m_len
 refine ⟨_, (@pss_cons _ _ _ _ _ (@ps_set _ _ 1 _ _ _ _ nd rfl (by first | exact Or.inl rfl | exact Or.inr rfl) (@pe_ifExp _ _ _ _ _ _ _ _ (@pt_val _ _ _ (@pe_bm _ _ _ _ _ _ _ _ _ _ _ _ PySem.F.plainAttrs_str PySem.F.slot_str_startswith PySem.F.type_str_startswith (@mt_startswith _) (@pvD _ 0 _ _ (by rfl) (by first | exact Or.inl rfl | exact Or.inr (Or.inl rfl) | exact Or.inr (Or.inr rfl)) (by decide) (by decide)) (@pa_cons _ _ _ _ _ (@pe_str _ _ _ _) (@pa_nil _) (by rfl)) (by rfl) (by rfl) (by rfl) (by rfl) (by rfl)) (by intro _; rfl)) (@pe_slice _ _ _ _ _ _ _ _ _ _ (@sl_str _) (@pvD _ 0 _ _ (by rfl) (by first | exact Or.inl rfl | exact Or.inr (Or.inl rfl) | exact Or.inr (Or.inr rfl)) (by decide) (by decide)) (@po_some _ _ _ (@pe_int _ _ _ _)) (@po_none _)) (@pvD _ 0 _ _ (by rfl) (by first | exact Or.inl rfl | exact Or.inr (Or.inl rfl) | exact Or.inr (Or.inr rfl)) (by decide) (by decide))) (by rfl) (by first | exact .inl rfl | exact .inr rfl | assumption)) (@pss_cons _ _ _ _ _ (@ps_if _ _ _ _ _ _ _ _ (@PW.pt _ _ _ (@pw_or _ _ _ _ _ _ _ (@pt_cmpR _ _ _ _ _ _ _ _ (@op_lt _) (@pe_callB _ _ _ _ _ _ _ _ _ (@call_len_str _) rfl m_len b_len (@pa_cons _ _ _ _ _ (@pvD _ 1 _ _ (by rfl) (by first | exact Or.inl rfl | exact Or.inr (Or.inl rfl) | exact Or.inr (Or.inr rfl)) (by decide) (by decide)) (@pa_nil _) (by rfl)) (by decide) (by decide) (by rfl) (by rfl)) (@pe_int _ _ _ _) (@nomark _ _ (by decide) (by decide))) (@pw_or1 _ _ _ _ (@pt_cmpR _ _ _ _ _ _ _ _ (@op_gt _) (@pe_callB _ _ _ _ _ _ _ _ _ (@call_len_str _) rfl m_len b_len (@pa_cons _ _ _ _ _ (@pvD _ 1 _ _ (by rfl) (by first | exact Or.inl rfl | exact Or.inr (Or.inl rfl) | exact Or.inr (Or.inr rfl)) (by decide) (by decide)) (@pa_nil _) (by rfl)) (by decide) (by decide) (by rfl) (by rfl)) (@pe_gint _ _ _ _ _ m_MOST_FIGURES (by rfl) (by decide +kernel)) (@nomark _ _ (by decide) (by decide)))))) (@pss_one _ _ _ (@ps_ret _ _ _ _ (@pe_bl _ _ _ _))) (@pss_nil _)) (@pss_cons _ _ _ _ _ (@ps_if _ _ _ _ _ _ _ _ (@pt_not _ _ _ _ (@pt_val _ _ _ (@pe_has _ _ _ _ _ _ _ _ _ _ h_made_of hr (@pa_cons _ _ _ _ _ (@pvD _ 1 _ _ (by rfl) (by first | exact Or.inl rfl | exact Or.inr (Or.inl rfl) | exact Or.inr (Or.inr rfl)) (by decide) (by decide)) (@pa_cons _ _ _ _ _ (@pe_gstr _ _ _ _ _ m_FIGURES (by rfl) (by decide +kernel)) (@pa_nil _) (by rfl)) (by rfl)) (by rfl) (by decide +kernel) (by rfl) (by rfl)) (by intro _; rfl))) (@pss_one _ _ _ (@ps_ret _ _ _ _ (@pe_bl _ _ _ _))) (@pss_nil _)) (@pss_one _ _ _ (@ps_ret _ _ _ _ (@pe_or _ _ _ _ _ _ _ (@pe_cmpR _ _ _ _ _ _ _ _ (@op_eq _) (@pvD _ 0 _ _ (by rfl) (by first | exact Or.inl rfl | exact Or.inr (Or.inl rfl) | exact Or.inr (Or.inr rfl)) (by decide) (by decide)) (@pe_str _ _ _ _) (@nomark _ _ (by decide) (by decide))) (@pe_one _ _ _ _ _ (@pe_cmpR _ _ _ _ _ _ _ _ (@op_ne _) (@pe_ix _ _ _ _ _ _ _ (@ix_str _) (@pvD _ 1 _ _ (by rfl) (by first | exact Or.inl rfl | exact Or.inr (Or.inl rfl) | exact Or.inr (Or.inr rfl)) (by decide) (by decide)) (@pe_int _ _ _ _) (fun _ _ => rfl)) (@pe_str _ _ _ _) (@nomark _ _ (by decide) (by decide)))))))))), ?_⟩
 rw [show start ["word", "figures"] [.str z] = [some (.str z), none] from rfl]
 clear hu hu0 nd hr
 push_cast [spMade, rIxS, scal_ii, scal_ss]
 rw [starts1]
 refine ite2 (fun c => ?_) fun c => ?_
 ·have c' : z.cps.toList.head? = some 45 := of_decide_eq_true c
  refine ⟨big hz, num_fin z _ (by rw [cut1]; unfold figL; rw [if_pos c']) (Nat.le_trans (cutS_le z _ _) hz) q⟩
 ·have c' : ¬ z.cps.toList.head? = some 45 := of_decide_eq_false (Bool.eq_false_iff.mpr c)
  exact num_fin z z (by unfold figL; rw [if_neg c']) hz q
noncomputable abbrev sTermW : Stmt := top 24
theorem scTermW : FnScope ["word"] ["word"] (defScope sTermW) := ⟨rfl, rfl, rfl, by decide +kernel, rfl, by decide +kernel, by decide +kernel⟩
theorem hasTermW (G : Gs w K mg κ) (h_is_name : Has P w K mg base k "is_name" ["word"] spName) (h_is_number : Has P w K mg base k "is_number" ["word"] spNum) (D : Def K mg "is_term_word" sTermW ["word"]) : Has P w K mg base (k + 1) "is_term_word" ["word"] spTW := by
 refine D.has scTermW (fun vs H Q E h => ?_) (fun f cdv A outer s H vs Q E hr h => ?_)
 ·obtain ⟨_, rfl, _, _⟩ := h
  rfl
 have nd := scTermW.nd
 have hu := hu_of hr
 have hu0 := Nat.lt_of_succ_lt hu
 obtain ⟨z, rfl, hz, q⟩ := h
 obtain ⟨a_PARTS_BELOW, m_PARTS_BELOW, s_PARTS_BELOW⟩ := G.m_PARTS_BELOW
 refine ⟨_, (@pss_one _ _ _ (@ps_ret _ _ _ _ (@pe_or _ _ _ _ _ _ _ (@pe_has _ _ _ _ _ _ _ _ _ _ h_is_number hr (@pa_cons _ _ _ _ _ (@pvD _ 0 _ _ (by rfl) (by first | exact Or.inl rfl | exact Or.inr (Or.inl rfl) | exact Or.inr (Or.inr rfl)) (by decide) (by decide)) (@pa_nil _) (by rfl)) (by rfl) (by decide +kernel) (by rfl) (by rfl)) (@pe_or _ _ _ _ _ _ _ (@pe_has _ _ _ _ _ _ _ _ _ _ h_is_name hr (@pa_cons _ _ _ _ _ (@pvD _ 0 _ _ (by rfl) (by first | exact Or.inl rfl | exact Or.inr (Or.inl rfl) | exact Or.inr (Or.inr rfl)) (by decide) (by decide)) (@pa_nil _) (by rfl)) (by rfl) (by decide +kernel) (by rfl) (by rfl)) (@pe_one _ _ _ _ _ (@pe_cmpR _ _ _ _ _ _ _ _ (@op_in_mod _ _ _ s_PARTS_BELOW) (@pvD _ 0 _ _ (by rfl) (by first | exact Or.inl rfl | exact Or.inr (Or.inl rfl) | exact Or.inr (Or.inr rfl)) (by decide) (by decide)) (@pe_gref _ _ _ _ m_PARTS_BELOW (by rfl) (by decide +kernel)) (by with_unfolding_all rfl))))))), ?_⟩
 rw [show start ["word"] [.str z] = [some (.str z)] from rfl]
 clear hu hu0 nd hr
 push_cast [spName, spNum]
 refine ⟨hz, fun H' s1 => ite2 (fun c => ?_) fun c => ⟨hz, fun H2 s2 => ite2 (fun c2 => ?_) fun c2 => ⟨Sum.inr z, rfl, ?_⟩⟩⟩
 ·have q1 := q H' s1
  rw [c, Bool.true_or, Bool.true_or] at q1
  exact q1
 ·have q1 := q H2 (s1.trans s2)
  rw [Bool.eq_false_iff.mpr c, c2, Bool.false_or, Bool.true_or] at q1
  exact q1
 ·have q1 := q H2 (s1.trans s2)
  rw [Bool.eq_false_iff.mpr c, Bool.eq_false_iff.mpr c2, Bool.false_or, Bool.false_or] at q1
  show Q (V.bl (valV parts (Sum.inr z)).isSome) H2
  rw [in_parts]
  exact q1
noncomputable abbrev sHow : Stmt := top 23
theorem scHow : FnScope ["word"] ["word"] (defScope sHow) := ⟨rfl, rfl, rfl, by decide +kernel, rfl, by decide +kernel, by decide +kernel⟩
theorem hasHow (G : Gs w K mg κ) (D : Def K mg "how_many_below" sHow ["word"]) : Has P w K mg base (k + 1) "how_many_below" ["word"] spHow := by
 refine D.has scHow (fun vs H Q E h => ?_) (fun f cdv A outer s H vs Q E hr h => ?_)
 ·obtain ⟨_, rfl, _, _⟩ := h
  rfl
 have nd := scHow.nd
 have hu := hu_of hr
 have hu0 := Nat.lt_of_succ_lt hu
 obtain ⟨v, rfl, hw, q⟩ := h
 obtain ⟨a_PARTS_BELOW, m_PARTS_BELOW, s_PARTS_BELOW⟩ := G.m_PARTS_BELOW
 refine ⟨_, (@pss_one _ _ _ (@ps_ret _ _ _ _ (@pe_mget2 _ _ _ _ _ _ _ _ _ _ (@pe_gref _ _ _ _ m_PARTS_BELOW (by rfl) (by decide +kernel)) s_PARTS_BELOW (@pvD _ 0 _ _ (by rfl) (by first | exact Or.inl rfl | exact Or.inr (Or.inl rfl) | exact Or.inr (Or.inr rfl)) (by decide) (by decide)) (@pe_int _ _ _ _) (@M2.mk _ _ _ _ _ _ _ rfl rfl rfl rfl)))), ?_⟩
 rw [show start ["word"] [v] = [some (v)] from rfl]
 clear hu hu0 nd hr
 push_cast [tMGet2]
 obtain ⟨k, rfl⟩ := hw
 refine ⟨k, rfl, ?_⟩
 show Q ((valV parts k).getD (V.int 0)) H
 rw [val_parts]
 exact q
noncomputable abbrev sNumT : Stmt := top 25
theorem scNumT : FnScope ["word"] ["word"] (defScope sNumT) := ⟨rfl, rfl, rfl, by decide +kernel, rfl, by decide +kernel, by decide +kernel⟩
theorem hasNumT (G : Gs w K mg κ) (h_is_number : Has P w K mg base k "is_number" ["word"] spNum) (D : Def K mg "number_or_text" sNumT ["word"]) : Has P w K mg base (k + 1) "number_or_text" ["word"] spNumT := by
 refine D.has scNumT (fun vs H Q E h => ?_) (fun f cdv A outer s H vs Q E hr h => ?_)
 ·obtain ⟨_, rfl, _, _⟩ := h
  rfl
 have nd := scNumT.nd
 have hu := hu_of hr
 have hu0 := Nat.lt_of_succ_lt hu
 obtain ⟨z, rfl, hz, q⟩ := h
 have m_int := G.m_int
 refine ⟨_, (@pss_one _ _ _ (@ps_ret _ _ _ _ (@pe_ifExp _ _ _ _ _ _ _ _ (@pt_val _ _ _ (@pe_has _ _ _ _ _ _ _ _ _ _ h_is_number hr (@pa_cons _ _ _ _ _ (@pvD _ 0 _ _ (by rfl) (by first | exact Or.inl rfl | exact Or.inr (Or.inl rfl) | exact Or.inr (Or.inr rfl)) (by decide) (by decide)) (@pa_nil _) (by rfl)) (by rfl) (by decide +kernel) (by rfl) (by rfl)) (by intro _; rfl)) (@pe_callTy _ _ _ _ _ _ _ _ _ (@call_int_str _) rfl m_int b_int (@pa_cons _ _ _ _ _ (@pvD _ 0 _ _ (by rfl) (by first | exact Or.inl rfl | exact Or.inr (Or.inl rfl) | exact Or.inr (Or.inr rfl)) (by decide) (by decide)) (@pa_nil _) (by rfl)) (by decide) (by decide) (by rfl) (by rfl)) (@pvD _ 0 _ _ (by rfl) (by first | exact Or.inl rfl | exact Or.inr (Or.inl rfl) | exact Or.inr (Or.inr rfl)) (by decide) (by decide))))), ?_⟩
 rw [show start ["word"] [.str z] = [some (.str z)] from rfl]
 clear hu hu0 nd hr
 push_cast [spNum]
 refine ⟨hz, fun H' hS => ite2 (fun c => ?_) fun c => ?_⟩
 ·obtain ⟨n, h1, h2⟩ := int_of_num c
  have q' := q H' hS
  unfold rdV at q'
  rw [if_pos c, h1] at q'
  exact ⟨n, h1, by omega, q'⟩
 ·have q' := q H' hS
  unfold rdV at q'
  rw [if_neg c] at q'
  exact q'
noncomputable abbrev sReadW : Stmt := top 26
theorem scReadW : FnScope ["word"] ["word"] (defScope sReadW) := ⟨rfl, rfl, rfl, by decide +kernel, rfl, by decide +kernel, by decide +kernel⟩
theorem hasReadW (G : Gs w K mg κ) (h_is_term_word : Has P w K mg base k "is_term_word" ["word"] spTW) (h_number_or_text : Has P w K mg base k "number_or_text" ["word"] spNumT) (D : Def K mg "read_word" sReadW ["word"]) : HasX P w K mg base (k + 1) "read_word" ["word"] (spReadW κ) := by
 refine D.hasX scReadW (fun vs H Q E h => ?_) (fun f cdv A outer s H vs Q E hr h => ?_)
 ·obtain ⟨_, rfl, _, _, _, _⟩ := h
  rfl
 have nd := scReadW.nd
 have hu := hu_of hr
 have hu0 := Nat.lt_of_succ_lt hu
 obtain ⟨z, rfl, hz, ha, q1, q2⟩ := h
 have m_NoTerm := G.er.m_noTerm
 refine ⟨_, (@pss_cons _ _ _ _ _ (@ps_if _ _ _ _ _ _ _ _ (@pt_not _ _ _ _ (@pt_val _ _ _ (@pe_has _ _ _ _ _ _ _ _ _ _ h_is_term_word hr (@pa_cons _ _ _ _ _ (@pvD _ 0 _ _ (by rfl) (by first | exact Or.inl rfl | exact Or.inr (Or.inl rfl) | exact Or.inr (Or.inr rfl)) (by decide) (by decide)) (@pa_nil _) (by rfl)) (by rfl) (by decide +kernel) (by rfl) (by rfl)) (by intro _; rfl))) (@pss_one _ _ _ (@ps_raise0 _ _ _ _ _ _ _ _ _ _ _ _ G.er.x_noTerm G.i_NoTerm hr m_NoTerm (@pa_cons _ _ _ _ _ (@pe_fmtR _ _ _ _ _ _ _ _ (@pvD _ 0 _ _ (by rfl) (by first | exact Or.inl rfl | exact Or.inr (Or.inl rfl) | exact Or.inr (Or.inr rfl)) (by decide) (by decide)) (by decide +kernel)) (@pa_nil _) (by rfl)) (by rfl) (by decide +kernel) (by rfl) (by rfl))) (@pss_nil _)) (@pss_one _ _ _ (@ps_ret _ _ _ _ (@pe_has _ _ _ _ _ _ _ _ _ _ h_number_or_text hr (@pa_cons _ _ _ _ _ (@pvD _ 0 _ _ (by rfl) (by first | exact Or.inl rfl | exact Or.inr (Or.inl rfl) | exact Or.inr (Or.inr rfl)) (by decide) (by decide)) (@pa_nil _) (by rfl)) (by rfl) (by decide +kernel) (by rfl) (by rfl))))), ?_⟩
 rw [show start ["word"] [.str z] = [some (.str z)] from rfl]
 clear hu hu0 nd hr
 push_cast [spTW, spNumT, tRaise0, tFmtR]
 refine ⟨hz, fun H' s1 => ?_⟩
 show if (!twB z) = true then _ else _
 cases e : twB z with
 | false => exact ⟨ha, by omega, fun _ => ⟨by show (1 : Nat) ≤ 100; decide, q2 e H' s1⟩⟩
 | true => exact ⟨hz, fun H2 s2 => q1 e H2 (s1.trans s2)⟩
noncomputable abbrev sOne : Stmt := top 27
theorem scOne : FnScope ["words", "lacking", "word"] ["words"] (defScope sOne) := ⟨rfl, rfl, rfl, by decide +kernel, rfl, by decide +kernel, by decide +kernel⟩
theorem hasOne (G : Gs w K mg κ) (h_how_many_below : Has P w K mg base k "how_many_below" ["word"] spHow) (D : Def K mg "is_one_term" sOne ["words"]) : Has P w K mg base (k + 1) "is_one_term" ["words"] (spOne K) := by
 refine D.has scOne (fun vs H Q E h => ?_) (fun f cdv A outer s H vs Q E hr h => ?_)
 ·obtain ⟨_, _, rfl, _, _, _, _⟩ := h
  rfl
 have nd := scOne.nd
 have hu := hu_of hr
 have hu0 := Nat.lt_of_succ_lt hu
 obtain ⟨t, ws, rfl, hT, hw, hl, q⟩ := h
 refine ⟨_, (@pss_cons _ _ _ _ _ (@ps_set _ _ 1 _ _ _ _ nd rfl (by first | exact Or.inl rfl | exact Or.inr rfl) (@pe_int _ _ _ _) (by rfl) (by first | exact .inl rfl | exact .inr rfl | assumption)) (@pss_cons _ _ _ _ _ (@ps_for _ _ _ _ _ _ _ _ PassesOwn.never rfl (@pi_tup _ _ _ _ (@pvD _ 0 _ _ (by rfl) (by first | exact Or.inl rfl | exact Or.inr (Or.inl rfl) | exact Or.inr (Or.inr rfl)) (by decide) (by decide))) (@pg_name _ _ 2 _ nd rfl (by first | exact Or.inl rfl | exact Or.inr rfl) (by first | exact .inl rfl | exact .inr rfl | assumption)) (@pss_cons _ _ _ _ _ (@ps_if _ _ _ _ _ _ _ _ (@pt_cmpR _ _ _ _ _ _ _ _ (@op_eq _) (@pvD _ 1 _ _ (by rfl) (by first | exact Or.inl rfl | exact Or.inr (Or.inl rfl) | exact Or.inr (Or.inr rfl)) (by decide) (by decide)) (@pe_int _ _ _ _) (@nomark _ _ (by decide) (by decide))) (@pss_one _ _ _ (@ps_ret _ _ _ _ (@pe_bl _ _ _ _))) (@pss_nil _)) (@pss_one _ _ _ (@ps_set _ _ 1 _ _ _ _ nd rfl (by first | exact Or.inl rfl | exact Or.inr rfl) (@pe_op _ _ _ _ _ _ _ _ (@op_add _) (@pe_op _ _ _ _ _ _ _ _ (@op_sub _) (@pvD _ 1 _ _ (by rfl) (by first | exact Or.inl rfl | exact Or.inr (Or.inl rfl) | exact Or.inr (Or.inr rfl)) (by decide) (by decide)) (@pe_int _ _ _ _)) (@pe_has _ _ _ _ _ _ _ _ _ _ h_how_many_below hr (@pa_cons _ _ _ _ _ (@pvD _ 2 _ _ (by rfl) (by first | exact Or.inl rfl | exact Or.inr (Or.inl rfl) | exact Or.inr (Or.inr rfl)) (by decide) (by decide)) (@pa_nil _) (by rfl)) (by rfl) (by decide +kernel) (by rfl) (by rfl))) (by rfl) (by first | exact .inl rfl | exact .inr rfl | assumption)))) (by intro _; rfl)) (@pss_one _ _ _ (@ps_ret _ _ _ _ (@pe_cmpR _ _ _ _ _ _ _ _ (@op_eq _) (@pvD _ 1 _ _ (by rfl) (by first | exact Or.inl rfl | exact Or.inr (Or.inl rfl) | exact Or.inr (Or.inr rfl)) (by decide) (by decide)) (@pe_int _ _ _ _) (@nomark _ _ (by decide) (by decide))))))), ?_⟩
 rw [show start ["words", "lacking", "word"] [.ref t] = [some (.ref t), none, none] from rfl]
 clear hu hu0 nd hr
 push_cast [spHow, scal_ii, scal_ss]
 refine ⟨⟨ws, hT⟩, forW_tup (xs := ws) (fun i σ H' => ∃ (d : Nat) (v : Option V), σ = [some (.ref t), some (.int (d : Int)), v] ∧ H' = H ∧ pend 1 ((ws.take i).map arV) = some d) ⟨1, none, rfl, rfl, rfl⟩ (fun i σ H' _ h => ?_) ?_ ?_⟩
 ·obtain ⟨_, _, _, rfl, _⟩ := h
  exact hT
 ·rintro i x σ H' hx ⟨d, v, rfl, rfl, hp⟩
  push_cast [spHow, scal_ii, scal_ss]
  have ht : ws.take (i + 1) = ws.take i ++ [x] := by rw [List.take_add_one, hx]; rfl
  have hm : ws.map arV = (ws.take i).map arV ++ (ws.drop i).map arV := by rw [← List.map_append, List.take_append_drop]
  have hi : i < ws.length := (List.getElem?_eq_some_iff.mp hx).1
  refine ite2 (fun c => ?_) fun c => ⟨hw x (List.mem_of_getElem? hx), d - 1 + arV x, by omega, ?_⟩
  ·have d0 : d = 0 := by omega
   subst d0
   have e : decide (pend 1 (ws.map arV) = some 0) = false := by
    apply decide_eq_false
    rw [hm, pend_app, hp]
    have hne : (ws.drop i).map arV ≠ [] := by
     intro z
     have := congrArg List.length z
     rw [List.length_map, List.length_drop] at this
     simp at this
     omega
    obtain ⟨a, r, e⟩ := List.exists_cons_of_ne_nil hne
    rw [e]
    simp [pend]
   rw [e] at q
   exact q
  ·rw [ht, List.map_append]
   exact pend_snoc _ _ _ _ hp (by omega)
 ·rintro σ H' ⟨d, v, rfl, rfl, hp⟩
  push_cast [scal_ii, scal_ss]
  rw [List.take_length] at hp
  rw [hp] at q
  have e : decide (some d = some 0) = decide ((d : Int) = 0) := by
   apply decide_eq_decide.mpr
   rw [Option.some.injEq]
   omega
  rw [e] at q
  exact q
noncomputable abbrev sReadT : Stmt := top 28
theorem scReadT : FnScope ["text", "words"] ["text"] (defScope sReadT) := ⟨rfl, rfl, rfl, by decide +kernel, rfl, by decide +kernel, by decide +kernel⟩
theorem hasReadT (G : Gs w K mg κ) (h_is_one_term : Has P w K mg base k "is_one_term" ["words"] (spOne K)) (h_read_word : HasX P w K mg base k "read_word" ["word"] (spReadW κ)) (D : Def K mg "read_term" sReadT ["text"]) : HasX P w K mg base (k + 1) "read_term" ["text"] (spReadT κ) := by
 refine D.hasX scReadT (fun vs H Q E h => ?_) (fun f cdv A outer s H vs Q E hr h => ?_)
 ·obtain ⟨_, rfl, _, _, _, _⟩ := h
  rfl
 have nd := scReadT.nd
 have hu := hu_of hr
 have hu0 := Nat.lt_of_succ_lt hu
 obtain ⟨z, rfl, hz, ha, q1, q2⟩ := h
 have m_NoTerm := G.er.m_noTerm
 have m_tuple := G.m_tuple
 refine ⟨_, (@pss_cons _ _ _ _ _ (@ps_set _ _ 1 _ _ _ _ nd rfl (by first | exact Or.inl rfl | exact Or.inr rfl) (@pe_callTy _ _ _ _ _ _ _ _ _ (@call_tuple_of _) rfl m_tuple b_tuple (@pa_cons _ _ _ _ _ (@pe_lcX _ _ _ _ _ _ _ _ _ _ _ _ _ _ _ _ own_fr (@ClOk.mk _ _ ["word"] [] [] _ rfl rfl rfl rfl trivial rfl trivial) rfl (@pi_list _ _ _ _ (@pe_bm _ _ _ _ _ _ _ _ _ _ _ _ PySem.F.plainAttrs_str PySem.F.slot_str_split PySem.F.type_str_split (@mt_split _) (@pvD _ 0 _ _ (by rfl) (by first | exact Or.inl rfl | exact Or.inr (Or.inl rfl) | exact Or.inr (Or.inr rfl)) (by decide) (by decide)) (@pa_cons _ _ _ _ _ (@pe_str _ _ _ _) (@pa_nil _) (by rfl)) (by rfl) (by rfl) (by rfl) (by rfl) (by rfl))) (fun _ _ _ => (@pg_name _ _ 0 _ (show List.Nodup (["word"] : List Str) by decide +kernel) rfl (Or.inl rfl) (by first | exact .inl rfl | exact .inr rfl | assumption))) (fun _ _ _ => (@pif0 _)) (fun _ _ _ => (@pe_hasX _ _ _ _ _ _ _ _ _ _ _ h_read_word hr (@pa_cons _ _ _ _ _ (@pvD _ 0 _ _ (by rfl) (by first | exact Or.inl rfl | exact Or.inr (Or.inl rfl) | exact Or.inr (Or.inr rfl)) (by decide) (by decide)) (@pa_nil _) (by rfl)) (by rfl) (by decide +kernel) (by rfl) (by rfl))) (by intro _; rfl)) (@pa_nil _) (by rfl)) (by decide) (by decide) (by rfl) (by rfl)) (by rfl) (by first | exact .inl rfl | exact .inr rfl | assumption)) (@pss_cons _ _ _ _ _ (@ps_if _ _ _ _ _ _ _ _ (@pt_not _ _ _ _ (@pt_val _ _ _ (@pe_has _ _ _ _ _ _ _ _ _ _ h_is_one_term hr (@pa_cons _ _ _ _ _ (@pvD _ 1 _ _ (by rfl) (by first | exact Or.inl rfl | exact Or.inr (Or.inl rfl) | exact Or.inr (Or.inr rfl)) (by decide) (by decide)) (@pa_nil _) (by rfl)) (by rfl) (by decide +kernel) (by rfl) (by rfl)) (by intro _; rfl))) (@pss_one _ _ _ (@ps_raise0 _ _ _ _ _ _ _ _ _ _ _ _ G.er.x_noTerm G.i_NoTerm hr m_NoTerm (@pa_cons _ _ _ _ _ (@pe_fmtR _ _ _ _ _ _ _ _ (@pvD _ 0 _ _ (by rfl) (by first | exact Or.inl rfl | exact Or.inr (Or.inl rfl) | exact Or.inr (Or.inr rfl)) (by decide) (by decide)) (by decide +kernel)) (@pa_nil _) (by rfl)) (by rfl) (by decide +kernel) (by rfl) (by rfl))) (@pss_nil _)) (@pss_one _ _ _ (@ps_ret _ _ _ _ (@pvD _ 1 _ _ (by rfl) (by first | exact Or.inl rfl | exact Or.inr (Or.inl rfl) | exact Or.inr (Or.inr rfl)) (by decide) (by decide)))))), ?_⟩
 rw [show start ["text", "words"] [.str z] = [some (.str z), none] from rfl]
 clear hu hu0 nd hr
 push_cast [spOne, spReadW, tRaise0, tFmtR]
 have sz := sizeLine_eq
 have wc := words_cnt z
 have wl := fun y (hy : y ∈ wordsOf z) => words_len hy
 have wa := fun y (hy : y ∈ wordsOf z) => words_ascii ha hy
 have eg : goodB z = ((wordsOf z).all twB && decide (pend 1 ((wordsOf z).map arS) = some 0)) := rfl
 rw [eg] at q1 q2
 show _ ∧ _ ∧ ∀ p, H p = none → (∃ xs, SqL K (upd H p (HO.lst (List.map V.str (wordsOf z)))) p xs) ∧ ∀ D, upd H p (HO.lst (List.map V.str (wordsOf z))) D = none → LC _ _ _ _ _ _ D (upd H p (HO.lst (List.map V.str (wordsOf z)))) _
 generalize wordsOf z = ws at *
 refine ⟨by decide +kernel, by omega, fun p hp => ⟨⟨_, SqL.of upd_same⟩, fun D hD => ?_⟩⟩
 refine lc_list (fun i ys => ys = (ws.take i).map rdV ∧ (ws.take i).all twB = true) (SqL.of upd_same) (by rw [List.length_map]; omega) hD ⟨rfl, rfl⟩ (fun i x ys H1 G' K' hx hP hl2 hS hG hK => ?_) fun ys H2 hP hl2 hS hD2 => ?_
 ·rw [List.getElem?_map] at hx
  obtain ⟨y, hy, rfl⟩ := Option.map_eq_some_iff.mp hx
  have hm := List.mem_of_getElem? hy
  have et : ws.take (i + 1) = ws.take i ++ [y] := by rw [List.take_add_one, hy]; rfl
  push_cast [spReadW]
  refine ⟨Nat.le_trans (wl y hm) hz, wa y hm, fun e H' hS' => hK _ _ hS' ⟨?_, ?_⟩, fun e H' hS' => q2 ?_ H' (((same_new hp _).trans hS).trans hS')⟩
  ·rw [hP.1, et, List.map_append]
   rfl
  ·rw [et, List.all_append, hP.2]
   show (true && (twB y && true)) = true
   rw [e]
   rfl
  ·have : ws.all twB = false := by
    rw [Bool.eq_false_iff]
    intro h
    rw [List.all_eq_true.mp h y hm] at e
    cases e
   rw [this]
   rfl
 ·rw [List.length_map, List.take_length] at hP
  obtain ⟨rfl, hall⟩ := hP
  have hSame : Same H H2 := (same_new hp _).trans hS
  refine ⟨ws.map rdV, .inl ⟨SqL.of hD2, fun l hl3 => ⟨ws.map rdV, SqT.of upd_same, fun v hv => ?_, by rw [List.length_map]; omega, ?_⟩⟩⟩
  ·obtain ⟨y, _, rfl⟩ := List.mem_map.mp hv
   exact rd_isW y
  rw [hall, Bool.true_and] at q1 q2
  have em : (ws.map rdV).map arV = ws.map arS := by
   rw [List.map_map]
   exact List.map_congr_left fun y _ => rd_ar y
  rw [em]
  have hS3 : Same H (upd H2 l (HO.tup (ws.map rdV))) := hSame.upd (hSame.free hl3) _
  cases e : decide (pend 1 (ws.map arS) = some 0) with
  | false => exact ⟨ha, by omega, fun _ => ⟨by show (1 : Nat) ≤ 100; decide, q2 e _ hS3⟩⟩
  | true => exact q1 e l _ hS3 upd_same
noncomputable abbrev sGoodW : Stmt := top 35
theorem scGoodW : FnScope ["word", "letters", "left", "figures"] ["word"] (defScope sGoodW) := ⟨rfl, rfl, rfl, by decide +kernel, rfl, by decide +kernel, by decide +kernel⟩
theorem hasGoodW (G : Gs w K mg κ) (D : Def K mg "_law_good_word" sGoodW ["word"]) : Has P w K mg base (k + 1) "_law_good_word" ["word"] spTW := by
 refine D.has scGoodW (fun vs H Q E h => ?_) (fun f cdv A outer s H vs Q E hr h => ?_)
 ·obtain ⟨_, rfl, _, _⟩ := h
  rfl
 have nd := scGoodW.nd
 have hu := hu_of hr
 have hu0 := Nat.lt_of_succ_lt hu
 obtain ⟨z, rfl, hz, q⟩ := h
 have m_len := G.m_len
 refine ⟨_, (@pss_cons _ _ _ _ _ (@ps_if _ _ _ _ _ _ _ _ (@pt_cmpR _ _ _ _ _ _ _ _ (@op_in_seq _) (@pvD _ 0 _ _ (by rfl) (by first | exact Or.inl rfl | exact Or.inr (Or.inl rfl) | exact Or.inr (Or.inr rfl)) (by decide) (by decide)) (@pe_lst _ _ _ _ (@pa_const _ _ _ (@CsOk.str _ _ _ _ _ (@CsOk.str _ _ _ _ _ (@CsOk.str _ _ _ _ _ (@CsOk.str _ _ _ _ _ (@CsOk.nil))))))) (by with_unfolding_all rfl)) (@pss_one _ _ _ (@ps_ret _ _ _ _ (@pe_bl _ _ _ _))) (@pss_nil _)) (@pss_cons _ _ _ _ _ (@ps_if _ _ _ _ _ _ _ _ (@pt_cmpR _ _ _ _ _ _ _ _ (@op_in_seq _) (@pvD _ 0 _ _ (by rfl) (by first | exact Or.inl rfl | exact Or.inr (Or.inl rfl) | exact Or.inr (Or.inr rfl)) (by decide) (by decide)) (@pe_lst _ _ _ _ (@pa_const _ _ _ (@CsOk.str _ _ _ _ _ (@CsOk.str _ _ _ _ _ (@CsOk.str _ _ _ _ _ (@CsOk.str _ _ _ _ _ (@CsOk.str _ _ _ _ _ (@CsOk.nil)))))))) (by with_unfolding_all rfl)) (@pss_one _ _ _ (@ps_ret _ _ _ _ (@pe_bl _ _ _ _))) (@pss_nil _)) (@pss_cons _ _ _ _ _ (@ps_setlc _ _ _ _ _ _ _ _ _ _ _ _ _ _ _ 1 _ _ _ nd rfl (Or.inl rfl) (@ClOk.mk _ _ ["sign"] [] [] _ rfl rfl rfl rfl trivial rfl trivial) rfl (@pi_str _ _ _ _ (@pvD _ 0 _ _ (by rfl) (by first | exact Or.inl rfl | exact Or.inr (Or.inl rfl) | exact Or.inr (Or.inr rfl)) (by decide) (by decide))) (fun _ _ _ => (@pg_name _ _ 0 _ (show List.Nodup (["sign"] : List Str) by decide +kernel) rfl (Or.inl rfl) (by first | exact .inl rfl | exact .inr rfl | assumption))) (fun _ _ _ => (@pif1 _ _ _ (@pt_cmpR _ _ _ _ _ _ _ _ (@op_in_str _) (@pvD _ 0 _ _ (by rfl) (by first | exact Or.inl rfl | exact Or.inr (Or.inl rfl) | exact Or.inr (Or.inr rfl)) (by decide) (by decide)) (@pe_str _ _ _ _) (by with_unfolding_all rfl)))) (fun _ _ _ => (@pvD _ 0 _ _ (by rfl) (by first | exact Or.inl rfl | exact Or.inr (Or.inl rfl) | exact Or.inr (Or.inr rfl)) (by decide) (by decide))) (by rfl) (by intro _; rfl) (by first | exact .inl rfl | exact .inr rfl | assumption)) (@pss_cons _ _ _ _ _ (@ps_if _ _ _ _ _ _ _ _ (@PW.pt _ _ _ (@pw_and _ _ _ _ _ _ _ (@pt_chain _ _ _ _ _ _ _ _ _ _ _ _ (@op_lt _) (@op_lt _) (@pe_int _ _ _ _) (@pe_callB _ _ _ _ _ _ _ _ _ (@call_len_str _) rfl m_len b_len (@pa_cons _ _ _ _ _ (@pvD _ 0 _ _ (by rfl) (by first | exact Or.inl rfl | exact Or.inr (Or.inl rfl) | exact Or.inr (Or.inr rfl)) (by decide) (by decide)) (@pa_nil _) (by rfl)) (by decide) (by decide) (by rfl) (by rfl)) (@pe_int _ _ _ _) (by with_unfolding_all rfl)) (@pw_and1 _ _ _ _ (@pt_cmpR _ _ _ _ _ _ _ _ (@op_eq _) (@pe_callB _ _ _ _ _ _ _ _ _ (@call_len_seq _) rfl m_len b_len (@pa_cons _ _ _ _ _ (@pvD _ 1 _ _ (by rfl) (by first | exact Or.inl rfl | exact Or.inr (Or.inl rfl) | exact Or.inr (Or.inr rfl)) (by decide) (by decide)) (@pa_nil _) (by rfl)) (by decide) (by decide) (by rfl) (by rfl)) (@pe_callB _ _ _ _ _ _ _ _ _ (@call_len_str _) rfl m_len b_len (@pa_cons _ _ _ _ _ (@pvD _ 0 _ _ (by rfl) (by first | exact Or.inl rfl | exact Or.inr (Or.inl rfl) | exact Or.inr (Or.inr rfl)) (by decide) (by decide)) (@pa_nil _) (by rfl)) (by decide) (by decide) (by rfl) (by rfl)) (@nomark _ _ (by decide) (by decide)))))) (@pss_one _ _ _ (@ps_ret _ _ _ _ (@pe_bl _ _ _ _))) (@pss_nil _)) (@pss_cons _ _ _ _ _ (@ps_set _ _ 2 _ _ _ _ nd rfl (by first | exact Or.inl rfl | exact Or.inr rfl) (@pvD _ 0 _ _ (by rfl) (by first | exact Or.inl rfl | exact Or.inr (Or.inl rfl) | exact Or.inr (Or.inr rfl)) (by decide) (by decide)) (by rfl) (by first | exact .inl rfl | exact .inr rfl | assumption)) (@pss_mid _ _ _ _ _ (@ps_if _ _ _ _ _ _ _ _ (@pt_cmpR _ _ _ _ _ _ _ _ (@op_eq _) (@pe_slice _ _ _ _ _ _ _ _ _ _ (@sl_str _) (@pvD _ 0 _ _ (by rfl) (by first | exact Or.inl rfl | exact Or.inr (Or.inl rfl) | exact Or.inr (Or.inr rfl)) (by decide) (by decide)) (@po_none _) (@po_some _ _ _ (@pe_int _ _ _ _))) (@pe_str _ _ _ _) (@nomark _ _ (by decide) (by decide))) (@pss_one _ _ _ (@ps_set _ _ 2 _ _ _ _ nd rfl (by first | exact Or.inl rfl | exact Or.inr rfl) (@pe_slice _ _ _ _ _ _ _ _ _ _ (@sl_str _) (@pvD _ 0 _ _ (by rfl) (by first | exact Or.inl rfl | exact Or.inr (Or.inl rfl) | exact Or.inr (Or.inr rfl)) (by decide) (by decide)) (@po_some _ _ _ (@pe_int _ _ _ _)) (@po_none _)) (by rfl) (by first | exact .inl rfl | exact .inr rfl | assumption))) (@pss_nil _)) (@pss_cons _ _ _ _ _ (@ps_setlc _ _ _ _ _ _ _ _ _ _ _ _ _ _ _ 3 _ _ _ nd rfl (Or.inl rfl) (@ClOk.mk _ _ ["sign"] [] [] _ rfl rfl rfl rfl trivial rfl trivial) rfl (@pi_str _ _ _ _ (@pvD _ 2 _ _ (by rfl) (by first | exact Or.inl rfl | exact Or.inr (Or.inl rfl) | exact Or.inr (Or.inr rfl)) (by decide) (by decide))) (fun _ _ _ => (@pg_name _ _ 0 _ (show List.Nodup (["sign"] : List Str) by decide +kernel) rfl (Or.inl rfl) (by first | exact .inl rfl | exact .inr rfl | assumption))) (fun _ _ _ => (@pif1 _ _ _ (@pt_cmpR _ _ _ _ _ _ _ _ (@op_in_str _) (@pvD _ 0 _ _ (by rfl) (by first | exact Or.inl rfl | exact Or.inr (Or.inl rfl) | exact Or.inr (Or.inr rfl)) (by decide) (by decide)) (@pe_str _ _ _ _) (by with_unfolding_all rfl)))) (fun _ _ _ => (@pvD _ 0 _ _ (by rfl) (by first | exact Or.inl rfl | exact Or.inr (Or.inl rfl) | exact Or.inr (Or.inr rfl)) (by decide) (by decide))) (by rfl) (by intro _; rfl) (by first | exact .inl rfl | exact .inr rfl | assumption)) (@pss_cons _ _ _ _ _ (@ps_if _ _ _ _ _ _ _ _ (@PW.pt _ _ _ (@pw_or _ _ _ _ _ _ _ (@pt_cmpR _ _ _ _ _ _ _ _ (@op_eq _) (@pvD _ 2 _ _ (by rfl) (by first | exact Or.inl rfl | exact Or.inr (Or.inl rfl) | exact Or.inr (Or.inr rfl)) (by decide) (by decide)) (@pe_str _ _ _ _) (@nomark _ _ (by decide) (by decide))) (@pw_or _ _ _ _ _ _ _ (@pt_cmpR _ _ _ _ _ _ _ _ (@op_gt _) (@pe_callB _ _ _ _ _ _ _ _ _ (@call_len_str _) rfl m_len b_len (@pa_cons _ _ _ _ _ (@pvD _ 2 _ _ (by rfl) (by first | exact Or.inl rfl | exact Or.inr (Or.inl rfl) | exact Or.inr (Or.inr rfl)) (by decide) (by decide)) (@pa_nil _) (by rfl)) (by decide) (by decide) (by rfl) (by rfl)) (@pe_int _ _ _ _) (@nomark _ _ (by decide) (by decide))) (@pw_or _ _ _ _ _ _ _ (@pt_cmpR _ _ _ _ _ _ _ _ (@op_lt _) (@pe_callB _ _ _ _ _ _ _ _ _ (@call_len_seq _) rfl m_len b_len (@pa_cons _ _ _ _ _ (@pvD _ 3 _ _ (by rfl) (by first | exact Or.inl rfl | exact Or.inr (Or.inl rfl) | exact Or.inr (Or.inr rfl)) (by decide) (by decide)) (@pa_nil _) (by rfl)) (by decide) (by decide) (by rfl) (by rfl)) (@pe_callB _ _ _ _ _ _ _ _ _ (@call_len_str _) rfl m_len b_len (@pa_cons _ _ _ _ _ (@pvD _ 2 _ _ (by rfl) (by first | exact Or.inl rfl | exact Or.inr (Or.inl rfl) | exact Or.inr (Or.inr rfl)) (by decide) (by decide)) (@pa_nil _) (by rfl)) (by decide) (by decide) (by rfl) (by rfl)) (@nomark _ _ (by decide) (by decide))) (@pw_or1 _ _ _ _ (@pt_cmpR _ _ _ _ _ _ _ _ (@op_eq _) (@pvD _ 0 _ _ (by rfl) (by first | exact Or.inl rfl | exact Or.inr (Or.inl rfl) | exact Or.inr (Or.inr rfl)) (by decide) (by decide)) (@pe_str _ _ _ _) (@nomark _ _ (by decide) (by decide)))))))) (@pss_one _ _ _ (@ps_ret _ _ _ _ (@pe_bl _ _ _ _))) (@pss_nil _)) (@pss_one _ _ _ (@ps_ret _ _ _ _ (@pe_or _ _ _ _ _ _ _ (@pe_cmpR _ _ _ _ _ _ _ _ (@op_eq _) (@pvD _ 2 _ _ (by rfl) (by first | exact Or.inl rfl | exact Or.inr (Or.inl rfl) | exact Or.inr (Or.inr rfl)) (by decide) (by decide)) (@pe_str _ _ _ _) (@nomark _ _ (by decide) (by decide))) (@pe_one _ _ _ _ _ (@pe_cmpR _ _ _ _ _ _ _ _ (@op_ne _) (@pe_ix _ _ _ _ _ _ _ (@ix_str _) (@pvD _ 2 _ _ (by rfl) (by first | exact Or.inl rfl | exact Or.inr (Or.inl rfl) | exact Or.inr (Or.inr rfl)) (by decide) (by decide)) (@pe_int _ _ _ _) (fun _ _ => rfl)) (@pe_str _ _ _ _) (@nomark _ _ (by decide) (by decide))))))))))))))), ?_⟩
 rw [show start ["word", "letters", "left", "figures"] [.str z] = [some (.str z), none, none, none] from rfl]
 clear hu hu0 nd hr
 push_cast [rIn, scal_ii, scal_ss, tChain, rIxS, rSlS]
 refine ⟨by show (4 : Nat) ≤ sizeLine; decide, fun p hp => ⟨L4, .inl (SqL.of upd_same), rfl, rfl, ite2 (fun c => ?_) fun c => ⟨by show (5 : Nat) ≤ sizeLine; decide, fun p1 hp1 => ⟨L5, .inl (SqL.of upd_same), rfl, rfl, ite2 (fun c2 => ?_) fun c2 => fun l hl => ?_⟩⟩⟩⟩
 ·rw [four3] at c
  have q' := q _ (same_new hp (HO.lst L4))
  rw [c, Bool.or_true] at q'
  exact q'
 ·obtain ⟨h1, h2, h3⟩ := five_no c2
  have q' := q _ ((same_new hp (HO.lst L4)).trans (same_new hp1 (HO.lst L5)))
  rw [h1, h2, h3] at q'
  exact q'
 rw [four3, decide_eq_true_eq] at c
 have hS0 := (same_new hp (HO.lst L4)).trans (same_new hp1 (HO.lst L5))
 generalize upd (upd H p (HO.lst L4)) p1 (HO.lst L5) = H0 at hS0 hl ⊢
 have q : ∀ H', Same H0 H' → Q (.bl (numB z || nameB z)) H' := fun H' s => by
  have q' := q H' (hS0.trans s)
  rw [decide_eq_false c, Bool.or_false] at q'
  exact q'
 have kp : inV (.str z) keptV = false := by rw [kept_two, four3, decide_eq_false c, Bool.false_or]; exact Bool.eq_false_iff.mpr c2
 have comp : ∀ (f y : Str) (l : Addr) (H1 : Hp) (G : Hp → Prop), f.length ≤ 20000 → H1 l = none → (∀ H', Same H1 H' → H' l = some (.lst ((f.cps.toList.filter fun c => decide (c ∈ y.cps.toList)).map fun c => V.str ⟨#[c]⟩)) → G H') →
   LC [Str.ofString "sign"].length [] (gName 0) (tTest (tOp (fun x y H Q => ∃ i, x = V.str i ∧ ∃ x, y = V.str x ∧ Q (V.bl !(Builtin.Str.occurrences x i 0 x.length 1).isEmpty) H) (tVarD 0) (tC (V.str y)))) (tVarD 0) (Its f) l H1 G := by
  intro f y l H1 G hf hl hG0
  refine lc_str (fun i ys => ys = ((f.cps.toList.take i).filter fun c => decide (c ∈ y.cps.toList)).map fun c => V.str ⟨#[c]⟩) (Nat.lt_of_le_of_lt hf (by decide)) hl rfl (fun i c ys H2 G' K' hc hP hl hS hG hK => ?_) (fun ys H' hP _ hS hL => ?_)
  ·push_cast [and_true]
   rw [StrLaws.found_one]
   refine ite2 (fun d => hK _ _ (Same.refl _) ?_) fun d => hG _ (Same.refl _) ?_
   ·rw [hP, PySem.take_succ_filter _ _ _ _ hc, if_pos d, List.map_append]
    rfl
   ·rw [hP, PySem.take_succ_filter _ _ _ _ hc, if_neg d, List.append_nil]
  ·rw [slen, List.take_length] at hP
   exact hG0 H' hS (by rw [hL, hP])
 refine comp z (Str.ofString "abcdefghijklmnopqrstuvwxyz") l H0 _ hz hl fun H' hS hL => nm3 (big hz) (SqL.of hL) (fun n0 n1 e => ?_) fun hn => ?_
 ·have e2 : nameB z = true := by
   rw [List.length_map, slen z] at e
   have e3 := (L2.filter_all (l := z.cps.toList) (p := fun c => decide (c ∈ letS.cps.toList)))
   unfold nameB madeB
   rw [kp, decide_eq_true (show 1 ≤ z.length by omega), decide_eq_true (show z.length ≤ 8 by omega), ← L2.filter_all, decide_eq_true e]
   rfl
  have q' := q H' hS
  rw [e2, Bool.or_true] at q'
  exact q'
 have e2 : nameB z = false := by
  rw [List.length_map, slen z] at hn
  unfold nameB madeB
  rw [kp, ← L2.filter_all]
  rw [Bool.eq_false_iff]
  intro h
  simp only [Bool.and_eq_true, decide_eq_true_eq] at h
  rw [slen] at h
  exact hn ⟨by omega, by omega, h.2.2.1⟩
 rw [e2] at q
 refine tMid_of (fun σ' H1 => ∃ f : Str, σ' = [some (.str z), some (.ref l), some (.str f), none] ∧ H1 = H' ∧ f.cps.toList = figL z.cps.toList ∧ f.length ≤ 20000) ?_ ?_
 ·push_cast [scal_ii, scal_ss, rIxS]
  refine ⟨big hz, ite2 (fun c3 => ⟨big hz, ?_, Nat.le_trans (cutS_le z _ _) hz⟩) fun c3 => ⟨?_, hz⟩⟩
  ·rw [cut1]; unfold figL; rw [if_pos ((cutTo1 z).mp c3)]
  ·unfold figL; rw [if_neg (fun h => c3 ((cutTo1 z).mpr h))]
 ·rintro σ H1 ⟨f, rfl, rfl, hf, hfl⟩
  push_cast [scal_ii, scal_ss, rIxS]
  have el := fig_len z f hf
  refine fun l2 hl2 => comp f (Str.ofString "0123456789") l2 H1 _ hfl hl2 fun H2 hS2 hL2 => ?_
  have q2 := q H2 (hS.trans hS2)
  rw [Bool.or_false] at q2
  have fals : numB z = false → Q (.bl false) H2 := fun e => e ▸ q2
  refine ite2 (fun d1 => fals ?_) fun d1 => ⟨big hfl, ite2 (fun d2 => fals ?_) fun d2 => ⟨_, .inl (SqL.of hL2), big hfl, ite2 (fun d3 => fals ?_) fun d3 => ite2 (fun d4 => fals ?_) fun d4 => ?_⟩⟩
  ·unfold numB
   rw [← hf, d1]
   rfl
  ·unfold numB
   rw [decide_eq_false (show ¬ (figL z.cps.toList).length ≤ 60 by omega)]
   simp
  ·rw [List.length_map] at d3
   have d3 : (((f.cps.toList.filter fun c => decide (c ∈ figS.cps.toList)).length : Nat) : Int) < (f.length : Int) := d3
   unfold numB
   rw [← hf, ← L2.filter_all, decide_eq_false (show ¬ (f.cps.toList.filter fun c => decide (c ∈ figS.cps.toList)).length = f.cps.toList.length from fun e => by rw [slen f] at d3; omega)]
   simp
  ·rw [d4]
   decide +kernel
  rw [List.length_map] at d3
  have d3 : ¬ (((f.cps.toList.filter fun c => decide (c ∈ figS.cps.toList)).length : Nat) : Int) < (f.length : Int) := d3
  have fle := List.length_filter_le (fun c => decide (c ∈ figS.cps.toList)) f.cps.toList
  have all : ((figL z.cps.toList).all fun c => decide (c ∈ figS.cps.toList)) = true := by
   rw [← hf, ← L2.filter_all]
   refine decide_eq_true ?_
   rw [slen f] at d3
   omega
  have fne : f.cps.toList ≠ [] := fun e => d1 (str_eq.mpr (by rw [e, show Str.ofString "" = ("" : Str) from rfl, emptyS]))
  have l1 : 1 ≤ (figL z.cps.toList).length := by rw [← hf]; exact List.length_pos_iff.mpr fne
  have eN : numB z = (decide (z.cps.toList = [48]) || decide (f.cps.toList.head? ≠ some 48)) := by
   unfold numB
   rw [all, decide_eq_true l1, decide_eq_true (show (figL z.cps.toList).length ≤ 60 by omega), ← hf]
   rfl
  rw [eN] at q2
  refine ite2 (fun d5 => ?_) fun d5 => ?_
  ·have f48 : figL z.cps.toList = [48] := by rw [← hf, d5]; decide +kernel
   have z48 : z.cps.toList = [48] := by
    unfold figL at f48
    split at f48
    ·rename_i hh
     obtain ⟨r, e⟩ := List.head?_eq_some_iff.mp hh
     rw [e, List.tail_cons] at f48
     rw [f48] at e
     exact absurd (str_eq.mpr (by rw [e, show Str.ofString "-0" = ("-0" : Str) from rfl, mnullS])) d4
    ·exact f48
   rw [decide_eq_true z48, Bool.true_or] at q2
   exact q2
  ·obtain ⟨x, h1, h2⟩ := at0 f.cps.toList fne
   refine ⟨big hfl, x, h1, ?_⟩
   have zn : z.cps.toList ≠ [48] := fun e => d5 (str_eq.mpr (by rw [hf, e]; decide +kernel))
   rw [decide_eq_false zn, Bool.false_or, h2] at q2
   have e3 : (!decide ((⟨#[x]⟩ : Str) = Str.ofString "0")) = decide (some x ≠ some 48) := by
    rw [← decide_not]
    apply decide_eq_decide.mpr
    rw [show ((⟨#[x]⟩ : Str) = Str.ofString "0") = (x = 48) from propext (one_null x)]
    simp
   rw [e3]
   exact q2
noncomputable abbrev sGood : Stmt := top 36
theorem scGood : FnScope ["text", "due", "word"] ["text"] (defScope sGood) := ⟨rfl, rfl, rfl, by decide +kernel, rfl, by decide +kernel, by decide +kernel⟩
theorem hasGood (G : Gs w K mg κ) (h_law_good_word : Has P w K mg base k "_law_good_word" ["word"] spTW) (D : Def K mg "_law_good" sGood ["text"]) : Has P w K mg base (k + 1) "_law_good" ["text"] spGood := by
 refine D.has scGood (fun vs H Q E h => ?_) (fun f cdv A outer s H vs Q E hr h => ?_)
 ·obtain ⟨_, rfl, _, _⟩ := h
  rfl
 have nd := scGood.nd
 have hu := hu_of hr
 have hu0 := Nat.lt_of_succ_lt hu
 obtain ⟨z, rfl, hz, q⟩ := h
 refine ⟨_, (@pss_cons _ _ _ _ _ (@ps_set _ _ 1 _ _ _ _ nd rfl (by first | exact Or.inl rfl | exact Or.inr rfl) (@pe_int _ _ _ _) (by rfl) (by first | exact .inl rfl | exact .inr rfl | assumption)) (@pss_cons _ _ _ _ _ (@ps_for _ _ _ _ _ _ _ _ PassesOwn.never rfl (@pi_list _ _ _ _ (@pe_bm _ _ _ _ _ _ _ _ _ _ _ _ PySem.F.plainAttrs_str PySem.F.slot_str_split PySem.F.type_str_split (@mt_split _) (@pvD _ 0 _ _ (by rfl) (by first | exact Or.inl rfl | exact Or.inr (Or.inl rfl) | exact Or.inr (Or.inr rfl)) (by decide) (by decide)) (@pa_cons _ _ _ _ _ (@pe_str _ _ _ _) (@pa_nil _) (by rfl)) (by rfl) (by rfl) (by rfl) (by rfl) (by rfl))) (@pg_name _ _ 2 _ nd rfl (by first | exact Or.inl rfl | exact Or.inr rfl) (by first | exact .inl rfl | exact .inr rfl | assumption)) (@pss_cons _ _ _ _ _ (@ps_if _ _ _ _ _ _ _ _ (@PW.pt _ _ _ (@pw_or _ _ _ _ _ _ _ (@pt_cmpR _ _ _ _ _ _ _ _ (@op_lt _) (@pvD _ 1 _ _ (by rfl) (by first | exact Or.inl rfl | exact Or.inr (Or.inl rfl) | exact Or.inr (Or.inr rfl)) (by decide) (by decide)) (@pe_int _ _ _ _) (@nomark _ _ (by decide) (by decide))) (@pw_or1 _ _ _ _ (@pt_not _ _ _ _ (@pt_val _ _ _ (@pe_has _ _ _ _ _ _ _ _ _ _ h_law_good_word hr (@pa_cons _ _ _ _ _ (@pvD _ 2 _ _ (by rfl) (by first | exact Or.inl rfl | exact Or.inr (Or.inl rfl) | exact Or.inr (Or.inr rfl)) (by decide) (by decide)) (@pa_nil _) (by rfl)) (by rfl) (by decide +kernel) (by rfl) (by rfl)) (by intro _; rfl)))))) (@pss_one _ _ _ (@ps_ret _ _ _ _ (@pe_bl _ _ _ _))) (@pss_nil _)) (@pss_one _ _ _ (@ps_if _ _ _ _ _ _ _ _ (@pt_cmpR _ _ _ _ _ _ _ _ (@op_in_seq _) (@pvD _ 2 _ _ (by rfl) (by first | exact Or.inl rfl | exact Or.inr (Or.inl rfl) | exact Or.inr (Or.inr rfl)) (by decide) (by decide)) (@pe_lst _ _ _ _ (@pa_const _ _ _ (@CsOk.str _ _ _ _ _ (@CsOk.str _ _ _ _ _ (@CsOk.str _ _ _ _ _ (@CsOk.nil)))))) (by with_unfolding_all rfl)) (@pss_one _ _ _ (@ps_set _ _ 1 _ _ _ _ nd rfl (by first | exact Or.inl rfl | exact Or.inr rfl) (@pe_op _ _ _ _ _ _ _ _ (@op_add _) (@pvD _ 1 _ _ (by rfl) (by first | exact Or.inl rfl | exact Or.inr (Or.inl rfl) | exact Or.inr (Or.inr rfl)) (by decide) (by decide)) (@pe_int _ _ _ _)) (by rfl) (by first | exact .inl rfl | exact .inr rfl | assumption))) (@pss_one _ _ _ (@ps_if _ _ _ _ _ _ _ _ (@pt_cmpR _ _ _ _ _ _ _ _ (@op_ne _) (@pvD _ 2 _ _ (by rfl) (by first | exact Or.inl rfl | exact Or.inr (Or.inl rfl) | exact Or.inr (Or.inr rfl)) (by decide) (by decide)) (@pe_str _ _ _ _) (@nomark _ _ (by decide) (by decide))) (@pss_one _ _ _ (@ps_set _ _ 1 _ _ _ _ nd rfl (by first | exact Or.inl rfl | exact Or.inr rfl) (@pe_op _ _ _ _ _ _ _ _ (@op_sub _) (@pvD _ 1 _ _ (by rfl) (by first | exact Or.inl rfl | exact Or.inr (Or.inl rfl) | exact Or.inr (Or.inr rfl)) (by decide) (by decide)) (@pe_int _ _ _ _)) (by rfl) (by first | exact .inl rfl | exact .inr rfl | assumption))) (@pss_nil _)))))) (by intro _; rfl)) (@pss_one _ _ _ (@ps_ret _ _ _ _ (@pe_cmpR _ _ _ _ _ _ _ _ (@op_eq _) (@pvD _ 1 _ _ (by rfl) (by first | exact Or.inl rfl | exact Or.inr (Or.inl rfl) | exact Or.inr (Or.inr rfl)) (by decide) (by decide)) (@pe_int _ _ _ _) (@nomark _ _ (by decide) (by decide))))))), ?_⟩
 rw [show start ["text", "due", "word"] [.str z] = [some (.str z), none, none] from rfl]
 clear hu hu0 nd hr
 push_cast [spTW, rIn, scal_ii, scal_ss]
 have sz := sizeLine_eq
 have wc := words_cnt z
 have wl := fun y (hy : y ∈ wordsOf z) => words_len hy
 have eg : goodB z = ((wordsOf z).all twB && decide (pend 1 ((wordsOf z).map arS) = some 0)) := rfl
 rw [eg] at q
 show _ ∧ _ ∧ ∀ p, H p = none → (∃ xs, SqL K (upd H p (HO.lst (List.map V.str (wordsOf z)))) p xs) ∧ ForW _ _ _ _ _ (upd H p (HO.lst (List.map V.str (wordsOf z))))
 generalize wordsOf z = ws at *
 refine ⟨by decide +kernel, by omega, fun p hp => ⟨⟨_, SqL.of upd_same⟩, ?_⟩⟩
 refine forW_list (xs := ws.map V.str) (fun i σ H' => ∃ (d : Nat) (v : Option V), σ = [some (.str z), some (.int (d : Int)), v] ∧ Same H H' ∧ H' p = some (.lst (ws.map V.str)) ∧ pend 1 ((ws.take i).map arS) = some d ∧ (ws.take i).all twB = true) ⟨1, none, rfl, same_new hp _, upd_same, rfl, rfl⟩ (fun i σ H' _ h => ?_) ?_ ?_
 ·obtain ⟨_, _, _, _, h, _⟩ := h
  exact SqL.of h
 ·rintro i x σ H' hx ⟨d, v, rfl, hS, hL, hp1, hall⟩
  rw [List.getElem?_map] at hx
  obtain ⟨y, hy, rfl⟩ := Option.map_eq_some_iff.mp hx
  have hm := List.mem_of_getElem? hy
  have hi : i < ws.length := (List.getElem?_eq_some_iff.mp hy).1
  have et : ws.take (i + 1) = ws.take i ++ [y] := by rw [List.take_add_one, hy]; rfl
  have hmm : ws.map arS = (ws.take i).map arS ++ (ws.drop i).map arS := by rw [← List.map_append, List.take_append_drop]
  have no : twB y = false → (ws.all twB && decide (pend 1 (ws.map arS) = some 0)) = false := fun e => by
   have : ws.all twB = false := by
    rw [Bool.eq_false_iff]
    intro h
    rw [List.all_eq_true.mp h y hm] at e
    cases e
   rw [this]
   rfl
  push_cast [spTW, rIn, scal_ii, scal_ss]
  refine ite2 (fun c => ?_) fun c => ⟨Nat.le_trans (wl y hm) hz, fun H2 s2 => ?_⟩
  ·have d0 : d = 0 := by omega
   subst d0
   have e : decide (pend 1 (ws.map arS) = some 0) = false := by
    apply decide_eq_false
    rw [hmm, pend_app, hp1, List.drop_eq_getElem_cons hi, List.map_cons]
    exact fun e => nomatch e
   have q' := q H' hS
   rw [e, Bool.and_false] at q'
   exact q'
  ·show if (!twB y) = true then _ else _
   cases e : twB y with
   | false =>
    have q' := q H2 (hS.trans s2)
    rw [no e] at q'
    exact q'
   | true =>
    refine iteF ⟨by show (3 : Nat) ≤ sizeLine; decide, fun p2 hp2 => ⟨L3, .inl (SqL.of upd_same), rfl, rfl, ?_⟩⟩
    rw [three3]
    have s3 := s2.trans (same_new hp2 (HO.lst L3))
    have all2 : (ws.take (i + 1)).all twB = true := by rw [et, List.all_append, hall]; show (true && (twB y && true)) = true; rw [e]; rfl
    have snoc : pend 1 ((ws.take (i + 1)).map arS) = some (d - 1 + arS y) := by rw [et, List.map_append]; exact pend_snoc _ _ _ _ hp1 (by omega)
    have fin : ∀ d' : Int, d' = ((d - 1 + arS y : Nat) : Int) → ∃ (n : Nat), d' = (n : Int) ∧ Same H (upd H2 p2 (HO.lst L3)) ∧ upd H2 p2 (HO.lst L3) p = some (.lst (ws.map V.str)) ∧ pend 1 ((ws.take (i + 1)).map arS) = some n ∧ (ws.take (i + 1)).all twB = true := fun d' hd' => ⟨_, hd', hS.trans s3, s3 _ _ hL, snoc, all2⟩
    refine ite2 (fun c2 => ?_) fun c2 => ite2 (fun c3 => ?_) fun c3 => ?_
    ·have c2' := of_decide_eq_true c2
     exact fin _ (by omega)
    ·have n3 := neg3 (fun e => c2 (decide_eq_true e))
     rw [if_neg (by simpa using c3)] at n3
     exact fin _ (by omega)
    ·have n3 := neg3 (fun e => c2 (decide_eq_true e))
     rw [if_pos (by simpa using c3)] at n3
     exact fin _ (by omega)
 ·rintro σ H' ⟨d, v, rfl, hS, hL, hp1, hall⟩
  push_cast [scal_ii, scal_ss]
  rw [List.length_map, List.take_length] at hp1 hall
  have q' := q H' hS
  rw [hall, hp1, Bool.true_and] at q'
  have e : decide (some d = some 0) = decide ((d : Int) = 0) := by
   apply decide_eq_decide.mpr
   rw [Option.some.injEq]
   omega
  rw [e] at q'
  exact q'
noncomputable abbrev sRight : Stmt := top 37
theorem scRight : FnScope ["text", "found", "caught", "e"] ["text"] (defScope sRight) := ⟨rfl, rfl, rfl, by decide +kernel, rfl, by decide +kernel, by decide +kernel⟩
theorem hasRight (G : Gs w K mg κ) (h_law_good : Has P w K mg base k "_law_good" ["text"] spGood) (h_read_term : HasX P w K mg base k "read_term" ["text"] (spReadT κ)) (D : Def K mg "_law_right" sRight ["text"]) : Has P w K mg base (k + 1) "_law_right" ["text"] spRight := by
 refine D.has scRight (fun vs H Q E h => ?_) (fun f cdv A outer s H vs Q E hr h => ?_)
 ·obtain ⟨_, rfl, _, _, _⟩ := h
  rfl
 have nd := scRight.nd
 have hu := hu_of hr
 have hu0 := Nat.lt_of_succ_lt hu
 obtain ⟨z, rfl, hz, ha, q⟩ := h
 have m_BadCover := G.er.m_badCover
 have m_BadDeed := G.er.m_badDeed
 have m_BadRow := G.er.m_badRow
 have m_BadShape := G.er.m_badShape
 have m_CoverError := G.er.m_cov
 have m_NoBox := G.er.m_noBox
 have m_NoCover := G.er.m_noCover
 have m_NoName := G.er.m_noName
 have m_NoTerm := G.er.m_noTerm
 have m_NoValue := G.er.m_noValue
 have m_Twice := G.er.m_twice
 have m_Unsound := G.er.m_unsound
 have m_ValueError := G.m_ValueError
 have m_isinstance := G.m_isinstance
 have m_len := G.m_len
 have m_tuple := G.m_tuple
 refine ⟨_, (@pss_cons _ _ _ _ _ (@ps_set _ _ 1 _ _ _ _ nd rfl (by first | exact Or.inl rfl | exact Or.inr rfl) (@pe_non _ _ _) (by rfl) (by first | exact .inl rfl | exact .inr rfl | assumption)) (@pss_cons _ _ _ _ _ (@ps_set _ _ 2 _ _ _ _ nd rfl (by first | exact Or.inl rfl | exact Or.inr rfl) (@pe_non _ _ _) (by rfl) (by first | exact .inl rfl | exact .inr rfl | assumption)) (@pss_cons _ _ _ _ _ (@ps_try _ _ _ 3 _ _ _ _ _ _ _ _ _ _ (Exists.intro _ (Exists.intro _ (Exists.intro _ (And.intro rfl (And.intro rfl rfl))))) nd rfl rfl rfl G.er.x_cov m_CoverError (@pxs_set _ _ _ _ _ _ _ _ _ _ _ 1 _ _ nd rfl (Or.inl rfl) h_read_term hr (@pa_cons _ _ _ _ _ (@pvD _ 0 _ _ (by rfl) (by first | exact Or.inl rfl | exact Or.inr (Or.inl rfl) | exact Or.inr (Or.inr rfl)) (by decide) (by decide)) (@pa_nil _) (by rfl)) (by rfl) (by decide +kernel) (by rfl) (by rfl) (by rfl) (by first | exact .inl rfl | exact .inr rfl | assumption)) (fun _ => (@pss_one _ _ _ (@ps_set _ _ 2 _ _ _ _ nd rfl (by first | exact Or.inl rfl | exact Or.inr rfl) (@pvD _ 3 _ _ (by rfl) (by first | exact Or.inl rfl | exact Or.inr (Or.inl rfl) | exact Or.inr (Or.inr rfl)) (by decide) (by decide)) (by rfl) (by first | exact .inl rfl | exact .inr rfl | assumption)))) (by rfl) (by decide +kernel)) (@pss_cons _ _ _ _ _ (@ps_if _ _ _ _ _ _ _ _ (@pt_val _ _ _ (@pe_has _ _ _ _ _ _ _ _ _ _ h_law_good hr (@pa_cons _ _ _ _ _ (@pvD _ 0 _ _ (by rfl) (by first | exact Or.inl rfl | exact Or.inr (Or.inl rfl) | exact Or.inr (Or.inr rfl)) (by decide) (by decide)) (@pa_nil _) (by rfl)) (by rfl) (by decide +kernel) (by rfl) (by rfl)) (by intro _; rfl)) (@pss_one _ _ _ (@ps_ret _ _ _ _ (@pe_and _ _ _ _ _ _ _ (@pe_cmp _ _ _ _ _ _ (@pc_isN _ _ _ _ _ (@pvD _ 2 _ _ (by rfl) (by first | exact Or.inl rfl | exact Or.inr (Or.inl rfl) | exact Or.inr (Or.inr rfl)) (by decide) (by decide))) (by first | exact nobehind _ (by decide) (by decide) | rfl)) (@pe_and _ _ _ _ _ _ _ (@pe_callB _ _ _ _ _ _ _ _ _ (@call_isinst _) rfl m_isinstance b_isinstance (@pa_cons _ _ _ _ _ (@pvD _ 1 _ _ (by rfl) (by first | exact Or.inl rfl | exact Or.inr (Or.inl rfl) | exact Or.inr (Or.inr rfl)) (by decide) (by decide)) (@pa_cons _ _ _ _ _ (@pe_gty _ _ _ _ m_tuple b_tuple (by rfl) (by decide +kernel) (by decide +kernel)) (@pa_nil _) (by rfl)) (by rfl)) (by decide) (by decide) (by rfl) (by rfl)) (@pe_one _ _ _ _ _ (@pe_cmpR _ _ _ _ _ _ _ _ (@op_eq _) (@pe_callB _ _ _ _ _ _ _ _ _ (@call_len_seq _) rfl m_len b_len (@pa_cons _ _ _ _ _ (@pvD _ 1 _ _ (by rfl) (by first | exact Or.inl rfl | exact Or.inr (Or.inl rfl) | exact Or.inr (Or.inr rfl)) (by decide) (by decide)) (@pa_nil _) (by rfl)) (by decide) (by decide) (by rfl) (by rfl)) (@pe_callB _ _ _ _ _ _ _ _ _ (@call_len_seq _) rfl m_len b_len (@pa_cons _ _ _ _ _ (@pe_bm _ _ _ _ _ _ _ _ _ _ _ _ PySem.F.plainAttrs_str PySem.F.slot_str_split PySem.F.type_str_split (@mt_split _) (@pvD _ 0 _ _ (by rfl) (by first | exact Or.inl rfl | exact Or.inr (Or.inl rfl) | exact Or.inr (Or.inr rfl)) (by decide) (by decide)) (@pa_cons _ _ _ _ _ (@pe_str _ _ _ _) (@pa_nil _) (by rfl)) (by rfl) (by rfl) (by rfl) (by rfl) (by rfl)) (@pa_nil _) (by rfl)) (by decide) (by decide) (by rfl) (by rfl)) (@nomark _ _ (by decide) (by decide)))))))) (@pss_nil _)) (@pss_cons _ _ _ _ _ (@ps_if _ _ _ _ _ _ _ _ (@pt_val _ _ _ (@pe_callB _ _ _ _ _ _ _ _ _ (@call_isinstX _) rfl m_isinstance b_isinstance (@pa_cons _ _ _ _ _ (@pvD _ 2 _ _ (by rfl) (by first | exact Or.inl rfl | exact Or.inr (Or.inl rfl) | exact Or.inr (Or.inr rfl)) (by decide) (by decide)) (@pa_cons _ _ _ _ _ (@pe_tup _ _ _ _ _ (@pa_cons _ _ _ _ _ (@pe_gref _ _ _ _ m_BadCover (by rfl) (by decide +kernel)) (@pa_cons _ _ _ _ _ (@pe_gref _ _ _ _ m_BadDeed (by rfl) (by decide +kernel)) (@pa_cons _ _ _ _ _ (@pe_gref _ _ _ _ m_BadRow (by rfl) (by decide +kernel)) (@pa_cons _ _ _ _ _ (@pe_gref _ _ _ _ m_BadShape (by rfl) (by decide +kernel)) (@pa_cons _ _ _ _ _ (@pe_gref _ _ _ _ m_NoBox (by rfl) (by decide +kernel)) (@pa_cons _ _ _ _ _ (@pe_gref _ _ _ _ m_NoCover (by rfl) (by decide +kernel)) (@pa_cons _ _ _ _ _ (@pe_gref _ _ _ _ m_NoName (by rfl) (by decide +kernel)) (@pa_cons _ _ _ _ _ (@pe_gref _ _ _ _ m_NoValue (by rfl) (by decide +kernel)) (@pa_cons _ _ _ _ _ (@pe_gref _ _ _ _ m_Twice (by rfl) (by decide +kernel)) (@pa_cons _ _ _ _ _ (@pe_gref _ _ _ _ m_Unsound (by rfl) (by decide +kernel)) (@pa_nil _) (by rfl)) (by rfl)) (by rfl)) (by rfl)) (by rfl)) (by rfl)) (by rfl)) (by rfl)) (by rfl)) (by rfl))) (@pa_nil _) (by rfl)) (by rfl)) (by decide) (by decide) (by rfl) (by rfl)) (by intro _; rfl)) (@pss_one _ _ _ (@ps_ret _ _ _ _ (@pe_bl _ _ _ _))) (@pss_nil _)) (@pss_one _ _ _ (@ps_ret _ _ _ _ (@pe_and _ _ _ _ _ _ _ (@pe_callB _ _ _ _ _ _ _ _ _ (@call_isinstO _) rfl m_isinstance b_isinstance (@pa_cons _ _ _ _ _ (@pvD _ 2 _ _ (by rfl) (by first | exact Or.inl rfl | exact Or.inr (Or.inl rfl) | exact Or.inr (Or.inr rfl)) (by decide) (by decide)) (@pa_cons _ _ _ _ _ (@pe_gref _ _ _ _ m_NoTerm (by rfl) (by decide +kernel)) (@pa_nil _) (by rfl)) (by rfl)) (by decide) (by decide) (by rfl) (by rfl)) (@pe_one _ _ _ _ _ (@pe_callB _ _ _ _ _ _ _ _ _ (@call_isinstV _) rfl m_isinstance b_isinstance (@pa_cons _ _ _ _ _ (@pvD _ 2 _ _ (by rfl) (by first | exact Or.inl rfl | exact Or.inr (Or.inl rfl) | exact Or.inr (Or.inr rfl)) (by decide) (by decide)) (@pa_cons _ _ _ _ _ (@pe_gty _ _ _ _ m_ValueError b_ValueError (by rfl) (by decide +kernel) (by decide +kernel)) (@pa_nil _) (by rfl)) (by rfl)) (by decide) (by decide) (by rfl) (by rfl))))))))))), ?_⟩
 rw [show start ["text", "found", "caught", "e"] [.str z] = [some (.str z), none, none, none] from rfl]
 clear hu hu0 nd hr
 push_cast [spGood, spReadT, tTry, tXSet]
 have sz := sizeLine_eq
 have er := G.er
 refine ⟨hz, ha, fun e t H1 s1 ht => ?_, fun e H1 s1 => ?_⟩
 ·push_cast [spGood, tIsN, scal_ii, scal_ss]
  refine ⟨hz, fun H2 s2 => ?_⟩
  rw [e]
  have ht2 := s2 _ _ ht
  refine iteT ⟨_, .tup ht2, true, rfl, iteT ⟨_, .inr (SqT.of ht2), by decide +kernel, by omega, fun p hp => ⟨_, .inl (SqL.of upd_same), ?_⟩⟩⟩
  have e2 : ((((wordsOf z).map rdV).length : Nat) : Int) = (((Txt.split z (Str.ofString " ")).map V.str).length : Int) := by rw [List.length_map, List.length_map]; rfl
  rw [decide_eq_true e2]
  exact q _ ((s1.trans s2).trans (same_new hp _))
 ·refine ⟨κ.noTerm, rfl, cbm κ, er.x_noTerm, by rw [isC, decide_eq_true (rfl : κ.cov = κ.cov), Bool.or_true], fun a ha1 => ?_⟩
  push_cast [spGood, tIsN, scal_ii, scal_ss]
  refine ⟨hz, fun H2 s2 => ?_⟩
  rw [e]
  have s3 := (s1.trans (same_new ha1 (XO a κ.noTerm none false))).trans s2
  have a2 := s2 _ _ (upd_same (H := H1) (a := a) (o := XO a κ.noTerm none false))
  refine iteF ⟨by show (10 : Nat) ≤ sizeLine; decide, fun p hp => ?_⟩
  have s4 := same_new hp (HO.tup [V.ref κ.badCover, V.ref κ.badDeed, V.ref κ.badRow, V.ref κ.badShape, V.ref κ.noBox, V.ref κ.noCover, V.ref κ.noName, V.ref κ.noValue, V.ref κ.twice, V.ref κ.unsound])
  have p4 := upd_same (H := H2) (a := p) (o := HO.tup [V.ref κ.badCover, V.ref κ.badDeed, V.ref κ.badRow, V.ref κ.badShape, V.ref κ.noBox, V.ref κ.noCover, V.ref κ.noName, V.ref κ.noValue, V.ref κ.twice, V.ref κ.unsound])
  have a4 := s4 _ _ a2
  have hS4 := s3.trans s4
  generalize upd H2 p (HO.tup [V.ref κ.badCover, V.ref κ.badDeed, V.ref κ.badRow, V.ref κ.badShape, V.ref κ.noBox, V.ref κ.noCover, V.ref κ.noName, V.ref κ.noValue, V.ref κ.twice, V.ref κ.unsound]) = H4 at p4 a4 hS4 ⊢
  have is4 : XIs K H4 (.ref a) κ.noTerm (cbm κ) := ⟨er.x_noTerm, a, none, false, rfl, a4, .inl rfl⟩
  refine ⟨[κ.badCover, κ.badDeed, κ.badRow, κ.badShape, κ.noBox, κ.noCover, κ.noName, κ.noValue, κ.twice, κ.unsound], p4, fun D hD => ?_, _, ⟨_, _, is4, rfl⟩, ?_⟩
  ·simp only [List.mem_cons, List.not_mem_nil, or_false] at hD
   rcases hD with rfl | rfl | rfl | rfl | rfl | rfl | rfl | rfl | rfl | rfl
   ·exact ⟨_, er.x_badCover⟩
   ·exact ⟨_, er.x_badDeed⟩
   ·exact ⟨_, er.x_badRow⟩
   ·exact ⟨_, er.x_badShape⟩
   ·exact ⟨_, er.x_noBox⟩
   ·exact ⟨_, er.x_noCover⟩
   ·exact ⟨_, er.x_noName⟩
   ·exact ⟨_, er.x_noValue⟩
   ·exact ⟨_, er.x_twice⟩
   ·exact ⟨_, er.x_unsound⟩
  rw [anyC (fun D hD => ?_)]
  ·refine iteF ⟨κ.noTerm, cbm κ, is4, ⟨_, er.x_noTerm⟩, ?_⟩
   rw [isC, decide_eq_true (rfl : κ.noTerm = κ.noTerm), Bool.true_or]
   refine iteT ⟨κ.noTerm, cbm κ, is4, by decide +kernel, ?_⟩
   rw [er.x_noTerm.hv]
   exact q _ hS4
  ·simp only [List.mem_cons, List.not_mem_nil, or_false] at hD
   rcases hD with rfl | rfl | rfl | rfl | rfl | rfl | rfl | rfl | rfl | rfl
   ·exact ⟨er.ne 3 1 rfl rfl (by decide), er.ne 3 0 rfl rfl (by decide)⟩
   ·exact ⟨er.ne 10 1 rfl rfl (by decide), er.ne 10 0 rfl rfl (by decide)⟩
   ·exact ⟨er.ne 5 1 rfl rfl (by decide), er.ne 5 0 rfl rfl (by decide)⟩
   ·exact ⟨er.ne 9 1 rfl rfl (by decide), er.ne 9 0 rfl rfl (by decide)⟩
   ·exact ⟨er.ne 2 1 rfl rfl (by decide), er.ne 2 0 rfl rfl (by decide)⟩
   ·exact ⟨er.ne 4 1 rfl rfl (by decide), er.ne 4 0 rfl rfl (by decide)⟩
   ·exact ⟨er.ne 8 1 rfl rfl (by decide), er.ne 8 0 rfl rfl (by decide)⟩
   ·exact ⟨er.ne 6 1 rfl rfl (by decide), er.ne 6 0 rfl rfl (by decide)⟩
   ·exact ⟨er.ne 7 1 rfl rfl (by decide), er.ne 7 0 rfl rfl (by decide)⟩
   ·exact ⟨er.ne 11 1 rfl rfl (by decide), er.ne 11 0 rfl rfl (by decide)⟩
noncomputable abbrev sNext : Stmt := top 30
theorem scNext : FnScope ["deck", "at"] ["deck"] (defScope sNext) := ⟨rfl, rfl, rfl, by decide +kernel, rfl, by decide +kernel, by decide +kernel⟩
theorem hasNext (G : Gs w K mg κ) (D : Def K mg "_law_next" sNext ["deck"]) : Has P w K mg base (k + 1) "_law_next" ["deck"] spNext := by
 refine D.has scNext (fun vs H Q E h => ?_) (fun f cdv A outer s H vs Q E hr h => ?_)
 ·obtain ⟨_, _, _, _, rfl, _, _, _⟩ := h
  rfl
 have nd := scNext.nd
 have hu := hu_of hr
 have hu0 := Nat.lt_of_succ_lt hu
 obtain ⟨d, b, ns, n, rfl, hD, hn, q⟩ := h
 have m_len := G.m_len
 have m_sum := G.m_sum
 refine ⟨_, (@pss_cons _ _ _ _ _ (@ps_set _ _ 1 _ _ _ _ nd rfl (by first | exact Or.inl rfl | exact Or.inr rfl) (@pe_ix _ _ _ _ _ _ _ (@ix_list _) (@pvD _ 0 _ _ (by rfl) (by first | exact Or.inl rfl | exact Or.inr (Or.inl rfl) | exact Or.inr (Or.inr rfl)) (by decide) (by decide)) (@pe_int _ _ _ _) (fun _ _ => rfl)) (by rfl) (by first | exact .inl rfl | exact .inr rfl | assumption)) (@pss_cons _ _ _ _ _ (@ps_asg _ _ _ _ _ _ (@pe_op _ _ _ _ _ _ _ _ (@op_add _) (@pvD _ 1 _ _ (by rfl) (by first | exact Or.inl rfl | exact Or.inr (Or.inl rfl) | exact Or.inr (Or.inr rfl)) (by decide) (by decide)) (@pe_int _ _ _ _)) (@pg_sub _ _ _ _ _ _ _ (@pvD _ 0 _ _ (by rfl) (by first | exact Or.inl rfl | exact Or.inr (Or.inl rfl) | exact Or.inr (Or.inr rfl)) (by decide) (by decide)) (@pe_int _ _ _ _) (@set_list _) (by intro _; rfl)) (by rfl) (by rfl) (by rfl)) (@pss_cons _ _ _ _ _ (@ps_if _ _ _ _ _ _ _ _ (@pt_cmpR _ _ _ _ _ _ _ _ (@op_lt _) (@pvD _ 1 _ _ (by rfl) (by first | exact Or.inl rfl | exact Or.inr (Or.inl rfl) | exact Or.inr (Or.inr rfl)) (by decide) (by decide)) (@pe_callB _ _ _ _ _ _ _ _ _ (@call_len_seq _) rfl m_len b_len (@pa_cons _ _ _ _ _ (@pe_ix _ _ _ _ _ _ _ (@ix_list _) (@pvD _ 0 _ _ (by rfl) (by first | exact Or.inl rfl | exact Or.inr (Or.inl rfl) | exact Or.inr (Or.inr rfl)) (by decide) (by decide)) (@pe_int _ _ _ _) (fun _ _ => rfl)) (@pa_nil _) (by rfl)) (by decide) (by decide) (by rfl) (by rfl)) (@nomark _ _ (by decide) (by decide))) (@pss_one _ _ _ (@ps_ret _ _ _ _ (@pe_ix _ _ _ _ _ _ _ (@ix_list _) (@pe_ix _ _ _ _ _ _ _ (@ix_list _) (@pvD _ 0 _ _ (by rfl) (by first | exact Or.inl rfl | exact Or.inr (Or.inl rfl) | exact Or.inr (Or.inr rfl)) (by decide) (by decide)) (@pe_int _ _ _ _) (fun _ _ => rfl)) (@pvD _ 1 _ _ (by rfl) (by first | exact Or.inl rfl | exact Or.inr (Or.inl rfl) | exact Or.inr (Or.inr rfl)) (by decide) (by decide)) (fun _ _ => rfl)))) (@pss_nil _)) (@pss_one _ _ _ (@ps_ret _ _ _ _ (@pe_op _ _ _ _ _ _ _ _ (@op_mod _) (@pe_op _ _ _ _ _ _ _ _ (@op_add _) (@pe_op _ _ _ _ _ _ _ _ (@op_add _) (@pe_op _ _ _ _ _ _ _ _ (@op_mul _) (@pe_op _ _ _ _ _ _ _ _ (@op_mul _) (@pe_op _ _ _ _ _ _ _ _ (@op_mul _) (@pvD _ 1 _ _ (by rfl) (by first | exact Or.inl rfl | exact Or.inr (Or.inl rfl) | exact Or.inr (Or.inr rfl)) (by decide) (by decide)) (@pvD _ 1 _ _ (by rfl) (by first | exact Or.inl rfl | exact Or.inr (Or.inl rfl) | exact Or.inr (Or.inr rfl)) (by decide) (by decide))) (@pvD _ 1 _ _ (by rfl) (by first | exact Or.inl rfl | exact Or.inr (Or.inl rfl) | exact Or.inr (Or.inr rfl)) (by decide) (by decide))) (@pe_int _ _ _ _)) (@pe_op _ _ _ _ _ _ _ _ (@op_mul _) (@pe_op _ _ _ _ _ _ _ _ (@op_mul _) (@pe_int _ _ _ _) (@pvD _ 1 _ _ (by rfl) (by first | exact Or.inl rfl | exact Or.inr (Or.inl rfl) | exact Or.inr (Or.inr rfl)) (by decide) (by decide))) (@pvD _ 1 _ _ (by rfl) (by first | exact Or.inl rfl | exact Or.inr (Or.inl rfl) | exact Or.inr (Or.inr rfl)) (by decide) (by decide)))) (@pe_callB _ _ _ _ _ _ _ _ _ (@call_sum_list _ rfl) rfl m_sum b_sum (@pa_cons _ _ _ _ _ (@pe_slice _ _ _ _ _ _ _ _ _ _ (@sl_list _) (@pe_ix _ _ _ _ _ _ _ (@ix_list _) (@pvD _ 0 _ _ (by rfl) (by first | exact Or.inl rfl | exact Or.inr (Or.inl rfl) | exact Or.inr (Or.inr rfl)) (by decide) (by decide)) (@pe_int _ _ _ _) (fun _ _ => rfl)) (@po_none _) (@po_some _ _ _ (@pe_int _ _ _ _))) (@pa_nil _) (by rfl)) (by decide) (by decide) (by rfl) (by rfl))) (@pe_int _ _ _ _))))))), ?_⟩
 rw [show start ["deck", "at"] [.ref d] = [some (.ref d), none] from rfl]
 clear hu hu0 nd hr
 push_cast [rIxL, gSub, rSetL]
 have nb := hD.ne
 obtain ⟨h1, h2⟩ := hD
 refine ⟨_, SqL.of h1, .int (n : Int), rfl, ?_⟩
 push_cast [and_true]
 refine ⟨_, h1, 1, rfl, [.ref b, .int ((n : Int) + 1)], SqL.of upd_same, .ref b, rfl, ?_⟩
 push_cast [and_true]
 have h3 : upd H d (.lst [.ref b, .int ((n : Int) + 1)]) b = some (.lst (ns.map V.int)) := by rw [upd_ne nb]; exact h2
 have hS : SameB d H (upd H d (.lst [.ref b, .int ((n : Int) + 1)])) := fun c o hc ho => by rw [upd_ne hc]; exact ho
 have hD' : upd H d (.lst [.ref b, .int ((n : Int) + 1)]) d = some (.lst [.ref b, .int ((n + 1 : Nat) : Int)]) := upd_same
 refine ⟨ns.map V.int, .inl (SqL.of h3), ite2 (fun c => ?_) fun c => ?_⟩
 ·rw [List.length_map] at c
  have hlt : n < ns.length := by omega
  refine ⟨_, SqL.of upd_same, .ref b, rfl, ?_⟩
  push_cast [and_true]
  exact ⟨_, SqL.of h3, .int ns[n], atI_nat (by rw [List.getElem?_map, List.getElem?_eq_getElem hlt]; rfl), q _ _ hS hD'⟩
 ·refine ⟨.inl ⟨by omega, by omega⟩, .inr ⟨by omega, by omega⟩, .inr ⟨by decide, by decide⟩, .inl ⟨by decide, by decide⟩, .inr ⟨by omega, by omega⟩, _, SqL.of upd_same, .ref b, rfl, ?_⟩
  push_cast [and_true]
  refine ⟨_, SqL.of h3, fun p hp => ?_⟩
  have e : ∃ ms : List Int, cutV (ns.map V.int) none (some 40) = ms.map V.int := ⟨_, by unfold cutV; rw [← List.map_drop, ← List.map_take]⟩
  obtain ⟨ms, em⟩ := e
  rw [em]
  exact ⟨ms, SqL.of upd_same, q _ _ (fun c o hc ho => by rw [upd_ne (ne_of_none (hS c o hc ho) hp)]; exact hS c o hc ho) (same_new hp _ _ _ hD')⟩
noncomputable abbrev sWords : Stmt := top 31
theorem scWords : FnScope ["deck", "most", "names", "words", "due", "cell", "room", "rest"] ["deck", "most"] (defScope sWords) := ⟨rfl, rfl, rfl, by decide +kernel, rfl, by decide +kernel, by decide +kernel⟩
theorem hasWords (G : Gs w K mg κ) (h_law_next : Has P w K mg base k "_law_next" ["deck"] spNext) (D : Def K mg "_law_words" sWords ["deck", "most"]) : Has P w K mg base (k + 1) "_law_words" ["deck", "most"] spWords := by
 refine D.has scWords (fun vs H Q E h => ?_) (fun f cdv A outer s H vs Q E hr h => ?_)
 ·obtain ⟨_, _, _, _, _, rfl, _, _, _, _, _⟩ := h
  rfl
 have nd := scWords.nd
 have hu := hu_of hr
 have hu0 := Nat.lt_of_succ_lt hu
 obtain ⟨d, b, ns, m, n, rfl, hD, h1, h2, hn, q⟩ := h
 have m_len := G.m_len
 have m_str := G.m_str
 refine ⟨_, (@pss_cons _ _ _ _ _ (@ps_set _ _ 2 _ _ _ _ nd rfl (by first | exact Or.inl rfl | exact Or.inr rfl) (@pe_lst _ _ _ _ (@pa_const _ _ _ (@CsOk.str _ _ _ _ _ (@CsOk.str _ _ _ _ _ (@CsOk.str _ _ _ _ _ (@CsOk.str _ _ _ _ _ (@CsOk.str _ _ _ _ _ (@CsOk.str _ _ _ _ _ (@CsOk.str _ _ _ _ _ (@CsOk.str _ _ _ _ _ (@CsOk.nil))))))))))) (by rfl) (by first | exact .inl rfl | exact .inr rfl | assumption)) (@pss_cons _ _ _ _ _ (@ps_set _ _ 3 _ _ _ _ nd rfl (by first | exact Or.inl rfl | exact Or.inr rfl) (@pe_lst _ _ _ _ (@pa_nil _)) (by rfl) (by first | exact .inl rfl | exact .inr rfl | assumption)) (@pss_cons _ _ _ _ _ (@ps_set _ _ 4 _ _ _ _ nd rfl (by first | exact Or.inl rfl | exact Or.inr rfl) (@pe_int _ _ _ _) (by rfl) (by first | exact .inl rfl | exact .inr rfl | assumption)) (@pss_cons _ _ _ _ _ (@ps_while _ _ _ _ _ _ PassesOwn.never (@pt_cmpR _ _ _ _ _ _ _ _ (@op_gt _) (@pvD _ 4 _ _ (by rfl) (by first | exact Or.inl rfl | exact Or.inr (Or.inl rfl) | exact Or.inr (Or.inr rfl)) (by decide) (by decide)) (@pe_int _ _ _ _) (@nomark _ _ (by decide) (by decide))) (@pss_cons _ _ _ _ _ (@ps_set _ _ 5 _ _ _ _ nd rfl (by first | exact Or.inl rfl | exact Or.inr rfl) (@pe_has _ _ _ _ _ _ _ _ _ _ h_law_next hr (@pa_cons _ _ _ _ _ (@pvD _ 0 _ _ (by rfl) (by first | exact Or.inl rfl | exact Or.inr (Or.inl rfl) | exact Or.inr (Or.inr rfl)) (by decide) (by decide)) (@pa_nil _) (by rfl)) (by rfl) (by decide +kernel) (by rfl) (by rfl)) (by rfl) (by first | exact .inl rfl | exact .inr rfl | assumption)) (@pss_cons _ _ _ _ _ (@ps_set _ _ 6 _ _ _ _ nd rfl (by first | exact Or.inl rfl | exact Or.inr rfl) (@pe_op _ _ _ _ _ _ _ _ (@op_sub _) (@pe_op _ _ _ _ _ _ _ _ (@op_sub _) (@pvD _ 1 _ _ (by rfl) (by first | exact Or.inl rfl | exact Or.inr (Or.inl rfl) | exact Or.inr (Or.inr rfl)) (by decide) (by decide)) (@pe_callB _ _ _ _ _ _ _ _ _ (@call_len_seq _) rfl m_len b_len (@pa_cons _ _ _ _ _ (@pvD _ 3 _ _ (by rfl) (by first | exact Or.inl rfl | exact Or.inr (Or.inl rfl) | exact Or.inr (Or.inr rfl)) (by decide) (by decide)) (@pa_nil _) (by rfl)) (by decide) (by decide) (by rfl) (by rfl))) (@pvD _ 4 _ _ (by rfl) (by first | exact Or.inl rfl | exact Or.inr (Or.inl rfl) | exact Or.inr (Or.inr rfl)) (by decide) (by decide))) (by rfl) (by first | exact .inl rfl | exact .inr rfl | assumption)) (@pss_cons _ _ _ _ _ (@ps_set _ _ 7 _ _ _ _ nd rfl (by first | exact Or.inl rfl | exact Or.inr rfl) (@pe_op _ _ _ _ _ _ _ _ (@op_fdiv _) (@pvD _ 5 _ _ (by rfl) (by first | exact Or.inl rfl | exact Or.inr (Or.inl rfl) | exact Or.inr (Or.inr rfl)) (by decide) (by decide)) (@pe_int _ _ _ _)) (by rfl) (by first | exact .inl rfl | exact .inr rfl | assumption)) (@pss_cons _ _ _ _ _ (@ps_set _ _ 4 _ _ _ _ nd rfl (by first | exact Or.inl rfl | exact Or.inr rfl) (@pe_op _ _ _ _ _ _ _ _ (@op_sub _) (@pvD _ 4 _ _ (by rfl) (by first | exact Or.inl rfl | exact Or.inr (Or.inl rfl) | exact Or.inr (Or.inr rfl)) (by decide) (by decide)) (@pe_int _ _ _ _)) (by rfl) (by first | exact .inl rfl | exact .inr rfl | assumption)) (@pss_one _ _ _ (@ps_if _ _ _ _ _ _ _ _ (@PW.pt _ _ _ (@pw_and _ _ _ _ _ _ _ (@pt_cmpR _ _ _ _ _ _ _ _ (@op_lt _) (@pe_op _ _ _ _ _ _ _ _ (@op_mod _) (@pvD _ 5 _ _ (by rfl) (by first | exact Or.inl rfl | exact Or.inr (Or.inl rfl) | exact Or.inr (Or.inr rfl)) (by decide) (by decide)) (@pe_int _ _ _ _)) (@pe_int _ _ _ _) (@nomark _ _ (by decide) (by decide))) (@pw_and1 _ _ _ _ (@pt_cmpR _ _ _ _ _ _ _ _ (@op_gt _) (@pvD _ 6 _ _ (by rfl) (by first | exact Or.inl rfl | exact Or.inr (Or.inl rfl) | exact Or.inr (Or.inr rfl)) (by decide) (by decide)) (@pe_int _ _ _ _) (@nomark _ _ (by decide) (by decide)))))) (@pss_cons _ _ _ _ _ (@ps_expr _ _ _ _ (@pe_bm _ _ _ _ _ _ _ _ _ _ _ _ PySem.F.plainAttrs_list PySem.F.slot_list_append PySem.F.type_list_append (@mt_append _) (@pvD _ 3 _ _ (by rfl) (by first | exact Or.inl rfl | exact Or.inr (Or.inl rfl) | exact Or.inr (Or.inr rfl)) (by decide) (by decide)) (@pa_cons _ _ _ _ _ (@pe_ix _ _ _ _ _ _ _ (@ix_list _) (@pe_lst _ _ _ _ (@pa_const _ _ _ (@CsOk.str _ _ _ _ _ (@CsOk.str _ _ _ _ _ (@CsOk.str _ _ _ _ _ (@CsOk.str _ _ _ _ _ (@CsOk.nil))))))) (@pe_op _ _ _ _ _ _ _ _ (@op_mod _) (@pvD _ 5 _ _ (by rfl) (by first | exact Or.inl rfl | exact Or.inr (Or.inl rfl) | exact Or.inr (Or.inr rfl)) (by decide) (by decide)) (@pe_int _ _ _ _)) (fun _ _ => rfl)) (@pa_nil _) (by rfl)) (by rfl) (by rfl) (by rfl) (by rfl) (by rfl)) (by rfl)) (@pss_one _ _ _ (@ps_set _ _ 4 _ _ _ _ nd rfl (by first | exact Or.inl rfl | exact Or.inr rfl) (@pe_op _ _ _ _ _ _ _ _ (@op_add _) (@pvD _ 4 _ _ (by rfl) (by first | exact Or.inl rfl | exact Or.inr (Or.inl rfl) | exact Or.inr (Or.inr rfl)) (by decide) (by decide)) (@pe_int _ _ _ _)) (by rfl) (by first | exact .inl rfl | exact .inr rfl | assumption)))) (@pss_one _ _ _ (@ps_if _ _ _ _ _ _ _ _ (@PW.pt _ _ _ (@pw_and _ _ _ _ _ _ _ (@pt_cmpR _ _ _ _ _ _ _ _ (@op_eq _) (@pe_op _ _ _ _ _ _ _ _ (@op_mod _) (@pvD _ 5 _ _ (by rfl) (by first | exact Or.inl rfl | exact Or.inr (Or.inl rfl) | exact Or.inr (Or.inr rfl)) (by decide) (by decide)) (@pe_int _ _ _ _)) (@pe_int _ _ _ _) (@nomark _ _ (by decide) (by decide))) (@pw_and1 _ _ _ _ (@pt_cmpR _ _ _ _ _ _ _ _ (@op_gt _) (@pvD _ 6 _ _ (by rfl) (by first | exact Or.inl rfl | exact Or.inr (Or.inl rfl) | exact Or.inr (Or.inr rfl)) (by decide) (by decide)) (@pe_int _ _ _ _) (@nomark _ _ (by decide) (by decide)))))) (@pss_cons _ _ _ _ _ (@ps_expr _ _ _ _ (@pe_bm _ _ _ _ _ _ _ _ _ _ _ _ PySem.F.plainAttrs_list PySem.F.slot_list_append PySem.F.type_list_append (@mt_append _) (@pvD _ 3 _ _ (by rfl) (by first | exact Or.inl rfl | exact Or.inr (Or.inl rfl) | exact Or.inr (Or.inr rfl)) (by decide) (by decide)) (@pa_cons _ _ _ _ _ (@pe_str _ _ _ _) (@pa_nil _) (by rfl)) (by rfl) (by rfl) (by rfl) (by rfl) (by rfl)) (by rfl)) (@pss_one _ _ _ (@ps_set _ _ 4 _ _ _ _ nd rfl (by first | exact Or.inl rfl | exact Or.inr rfl) (@pe_op _ _ _ _ _ _ _ _ (@op_add _) (@pvD _ 4 _ _ (by rfl) (by first | exact Or.inl rfl | exact Or.inr (Or.inl rfl) | exact Or.inr (Or.inr rfl)) (by decide) (by decide)) (@pe_int _ _ _ _)) (by rfl) (by first | exact .inl rfl | exact .inr rfl | assumption)))) (@pss_one _ _ _ (@ps_if _ _ _ _ _ _ _ _ (@pt_cmpR _ _ _ _ _ _ _ _ (@op_lt _) (@pe_op _ _ _ _ _ _ _ _ (@op_mod _) (@pvD _ 5 _ _ (by rfl) (by first | exact Or.inl rfl | exact Or.inr (Or.inl rfl) | exact Or.inr (Or.inr rfl)) (by decide) (by decide)) (@pe_int _ _ _ _)) (@pe_int _ _ _ _) (@nomark _ _ (by decide) (by decide))) (@pss_one _ _ _ (@ps_expr _ _ _ _ (@pe_bm _ _ _ _ _ _ _ _ _ _ _ _ PySem.F.plainAttrs_list PySem.F.slot_list_append PySem.F.type_list_append (@mt_append _) (@pvD _ 3 _ _ (by rfl) (by first | exact Or.inl rfl | exact Or.inr (Or.inl rfl) | exact Or.inr (Or.inr rfl)) (by decide) (by decide)) (@pa_cons _ _ _ _ _ (@pe_callTy _ _ _ _ _ _ _ _ _ (@call_str_any _) rfl m_str b_str (@pa_cons _ _ _ _ _ (@pe_ix _ _ _ _ _ _ _ (@ix_list _) (@pe_lst _ _ _ _ (@pa_cons _ _ _ _ _ (@pe_op _ _ _ _ _ _ _ _ (@op_mod _) (@pvD _ 7 _ _ (by rfl) (by first | exact Or.inl rfl | exact Or.inr (Or.inl rfl) | exact Or.inr (Or.inr rfl)) (by decide) (by decide)) (@pe_int _ _ _ _)) (@pa_cons _ _ _ _ _ (@pe_op _ _ _ _ _ _ _ _ (@op_mod _) (@pvD _ 7 _ _ (by rfl) (by first | exact Or.inl rfl | exact Or.inr (Or.inl rfl) | exact Or.inr (Or.inr rfl)) (by decide) (by decide)) (@pe_op _ _ _ _ _ _ _ _ (@op_pow _) (@pe_int _ _ _ _) (@pe_int _ _ _ _))) (@pa_cons _ _ _ _ _ (@pe_un _ _ _ _ _ _ (@un_neg _) (@pe_op _ _ _ _ _ _ _ _ (@op_mod _) (@pvD _ 7 _ _ (by rfl) (by first | exact Or.inl rfl | exact Or.inr (Or.inl rfl) | exact Or.inr (Or.inr rfl)) (by decide) (by decide)) (@pe_op _ _ _ _ _ _ _ _ (@op_pow _) (@pe_int _ _ _ _) (@pe_int _ _ _ _)))) (@pa_nil _) (by rfl)) (by rfl)) (by rfl))) (@pe_op _ _ _ _ _ _ _ _ (@op_mod _) (@pvD _ 7 _ _ (by rfl) (by first | exact Or.inl rfl | exact Or.inr (Or.inl rfl) | exact Or.inr (Or.inr rfl)) (by decide) (by decide)) (@pe_int _ _ _ _)) (fun _ _ => rfl)) (@pa_nil _) (by rfl)) (by decide) (by decide) (by rfl) (by rfl)) (@pa_nil _) (by rfl)) (by rfl) (by rfl) (by rfl) (by rfl) (by rfl)) (by rfl))) (@pss_one _ _ _ (@ps_expr _ _ _ _ (@pe_bm _ _ _ _ _ _ _ _ _ _ _ _ PySem.F.plainAttrs_list PySem.F.slot_list_append PySem.F.type_list_append (@mt_append _) (@pvD _ 3 _ _ (by rfl) (by first | exact Or.inl rfl | exact Or.inr (Or.inl rfl) | exact Or.inr (Or.inr rfl)) (by decide) (by decide)) (@pa_cons _ _ _ _ _ (@pe_ix _ _ _ _ _ _ _ (@ix_list _) (@pvD _ 2 _ _ (by rfl) (by first | exact Or.inl rfl | exact Or.inr (Or.inl rfl) | exact Or.inr (Or.inr rfl)) (by decide) (by decide)) (@pe_op _ _ _ _ _ _ _ _ (@op_mod _) (@pvD _ 7 _ _ (by rfl) (by first | exact Or.inl rfl | exact Or.inr (Or.inl rfl) | exact Or.inr (Or.inr rfl)) (by decide) (by decide)) (@pe_int _ _ _ _)) (fun _ _ => rfl)) (@pa_nil _) (by rfl)) (by rfl) (by rfl) (by rfl) (by rfl) (by rfl)) (by rfl)))))))))))))) (@pss_one _ _ _ (@ps_ret _ _ _ _ (@pvD _ 3 _ _ (by rfl) (by first | exact Or.inl rfl | exact Or.inr (Or.inl rfl) | exact Or.inr (Or.inr rfl)) (by decide) (by decide)))))))), ?_⟩
 rw [show start ["deck", "most", "names", "words", "due", "cell", "room", "rest"] [.ref d, .int (m : Int)] = [some (.ref d), some (.int (m : Int)), none, none, none, none, none, none] from rfl]
 clear hu hu0 nd hr
 push_cast [spNext]
 have sz := sizeLine_eq
 have e60 : (10 : Nat) ^ 60 = 1000000000000000000000000000000000000000000000000000000000000 := by decide +kernel
 have e60i : (10 : Int) ^ Int.toNat 60 = 1000000000000000000000000000000000000000000000000000000000000 := by decide +kernel
 have TN : TxV [V.str (Str.ofString "a"), V.str (Str.ofString "b"), V.str (Str.ofString "ab"), V.str (Str.ofString "kind"), V.str (Str.ofString "addd"), V.str (Str.ofString "ad"), V.str (Str.ofString "rule"), V.str (Str.ofString "abcdefgh")] := TxV.lits [Str.ofString "a", Str.ofString "b", Str.ofString "ab", Str.ofString "kind", Str.ofString "addd", Str.ofString "ad", Str.ofString "rule", Str.ofString "abcdefgh"] (by decide +kernel)
 refine ⟨by show (8 : Nat) ≤ sizeLine; decide, fun nl hnl => ⟨Nat.zero_le _, fun p hp => ?_⟩⟩
 have hS0 := same_new hnl (HO.lst [V.str (Str.ofString "a"), V.str (Str.ofString "b"), V.str (Str.ofString "ab"), V.str (Str.ofString "kind"), V.str (Str.ofString "addd"), V.str (Str.ofString "ad"), V.str (Str.ofString "rule"), V.str (Str.ofString "abcdefgh")])
 have hN : upd H nl (HO.lst [V.str (Str.ofString "a"), V.str (Str.ofString "b"), V.str (Str.ofString "ab"), V.str (Str.ofString "kind"), V.str (Str.ofString "addd"), V.str (Str.ofString "ad"), V.str (Str.ofString "rule"), V.str (Str.ofString "abcdefgh")]) nl = some (HO.lst [V.str (Str.ofString "a"), V.str (Str.ofString "b"), V.str (Str.ofString "ab"), V.str (Str.ofString "kind"), V.str (Str.ofString "addd"), V.str (Str.ofString "ad"), V.str (Str.ofString "rule"), V.str (Str.ofString "abcdefgh")]) := upd_same
 have hD0 : Deck (upd H nl (HO.lst [V.str (Str.ofString "a"), V.str (Str.ofString "b"), V.str (Str.ofString "ab"), V.str (Str.ofString "kind"), V.str (Str.ofString "addd"), V.str (Str.ofString "ad"), V.str (Str.ofString "rule"), V.str (Str.ofString "abcdefgh")])) d b ns n := ⟨hS0 _ _ hD.1, hS0 _ _ hD.2⟩
 have nld : nl ≠ d := (ne_of_none hD.1 hnl).symm
 have sB := SameB.of (d := d) hS0
 have hfr : ∀ a, upd H nl (HO.lst [V.str (Str.ofString "a"), V.str (Str.ofString "b"), V.str (Str.ofString "ab"), V.str (Str.ofString "kind"), V.str (Str.ofString "addd"), V.str (Str.ofString "ad"), V.str (Str.ofString "rule"), V.str (Str.ofString "abcdefgh")]) a = none → H a = none := fun a h => hS0.free h
 generalize upd H nl (HO.lst [V.str (Str.ofString "a"), V.str (Str.ofString "b"), V.str (Str.ofString "ab"), V.str (Str.ofString "kind"), V.str (Str.ofString "addd"), V.str (Str.ofString "ad"), V.str (Str.ofString "rule"), V.str (Str.ofString "abcdefgh")]) = H0 at *
 have npd : p ≠ d := (ne_of_none hD0.1 hp).symm
 have nlp : nl ≠ p := ne_of_none hN hp
 refine while_by (fun σ H' => ∃ (ws : List V) (due : Nat) (v1 v2 v3 : Option V), σ = [some (.ref d), some (.int (m : Int)), some (.ref nl), some (.ref p), some (.int (due : Int)), v1, v2, v3] ∧ SameB d H0 H' ∧ H' d = some (.lst [.ref b, .int ((n + ws.length : Nat) : Int)]) ∧ H' p = some (.lst ws) ∧ TxV ws ∧ ws.length + due ≤ m ∧ 1 ≤ ws.length + due)
  (fun σ H' => m - lenAt H' p) ?_ ?_ ?_
 ·exact ⟨[], 1, none, none, none, rfl, (SameB.refl d H0).upd hp _, same_new hp _ _ _ hD0.1, upd_same, TxV.nil, by show 0 + 1 ≤ m; omega, Nat.le_refl _⟩
 ·rintro σ H' ⟨ws, due, v1, v2, v3, rfl, hS, hD', hp', hw, hr, hr1⟩
  push_cast [spNext, CDiv, CPow]
  have hDk : Deck H' d b ns (n + ws.length) := hD0.next hS hD'
  refine ite2 (fun hdue => ⟨b, ns, _, hDk, by omega, fun c H1 s1 d1 => ?_⟩) fun hdue => ?_
  ·have hp1 : H1 p = some (.lst ws) := s1 p _ npd hp'
   have hl1 := s1 nl _ nld (hS nl _ nld hN)
   have app : ∀ (v : V) (H2 : Hp) (dd : Int) (a : Nat), txV v → dd = (due : Int) - 1 + (a : Int) → ws.length + due + a ≤ m → Same H1 H2 →
     rAppend (.ref p) [v] H2 fun _ H3 => (∃ ws due_1, dd = ((due_1 : Nat) : Int) ∧ SameB d H0 H3 ∧ H3 d = some (.lst [.ref b, .int ((n + ws.length : Nat) : Int)]) ∧ H3 p = some (.lst ws) ∧ TxV ws ∧ ws.length + due_1 ≤ m ∧ 1 ≤ ws.length + due_1) ∧ m - lenAt H3 p < m - lenAt H' p := by
    intro v H2 dd a hv hdd hroom s2
    have hp2 := s2 _ _ hp1
    refine ⟨p, ws, v, rfl, rfl, hp2, by omega, ⟨ws ++ [v], due - 1 + a, by omega, (hS.trans (s1.trans (SameB.of s2))).upd hp _, ?_, upd_same, hw.app (TxV.one hv), ?_, ?_⟩, ?_⟩
    ·rw [upd_ne npd.symm, List.length_append]
     exact s2 _ _ d1
    ·rw [List.length_append, List.length_singleton]; omega
    ·rw [List.length_append, List.length_singleton]; omega
    ·rw [lenAt_of upd_same, lenAt_of hp', List.length_append, List.length_singleton]; omega
   have tl : tyV K "list" (.ref p) H1 := tyV_list hp1
   have NB : TxV [V.str (Str.ofString "add"), V.str (Str.ofString "sub"), V.str (Str.ofString "mul"), V.str (Str.ofString "mul")] := TxV.lits [Str.ofString "add", Str.ofString "sub", Str.ofString "mul", Str.ofString "mul"] (by decide +kernel)
   have Nn : txV (.str (Str.ofString "neg")) := okB.tx (by decide +kernel)
   obtain ⟨vn, hvn, tvn⟩ := tx_at TN (n := 8) rfl (k := c / 8 % 8) (Int.emod_nonneg _ (by decide)) (by show c / 8 % 8 < 8; omega)
   obtain ⟨x3, hx3, hb3⟩ : ∃ x : Int, atI [V.int (c / 8 % 12), V.int (c / 8 % 1000000000000000000000000000000000000000000000000000000000000), V.int (-(c / 8 % 1000000000000000000000000000000000000000000000000000000000000))] (c / 8 % 3) = some (.int x) ∧ x.natAbs < 10 ^ 60 := by
    obtain ⟨v, h1, h2⟩ := atI_in [V.int (c / 8 % 12), V.int (c / 8 % 1000000000000000000000000000000000000000000000000000000000000), V.int (-(c / 8 % 1000000000000000000000000000000000000000000000000000000000000))] (c / 8 % 3) (Int.emod_nonneg _ (by decide)) (by show c / 8 % 3 < 3; omega)
    rw [e60]
    simp only [List.mem_cons, List.not_mem_nil, or_false] at h2
    rcases h2 with rfl | rfl | rfl <;> exact ⟨_, h1, by omega⟩
   have nA : (due : Int) - 1 = (due : Int) - 1 + ((0 : Nat) : Int) := (Int.add_zero _).symm
   have nB : ws.length + due + 0 ≤ m := hr
   have nam := app vn H1 ((due : Int) - 1) 0 tvn nA nB (Same.refl _)
   have neg := fun (r0 : 0 < (m : Int) - (ws.length : Int) - (due : Int)) => app (.str (Str.ofString "neg")) H1 ((due : Int) - 1 + 1) 1 Nn (by omega) (by omega) (Same.refl _)
   rw [e60i]
   refine ⟨ws, .inl (SqL.of hp1), ite2 (fun c4 => ite2 (fun r1 => ⟨tl, by show (4 : Nat) ≤ sizeLine; decide, fun p2 hp2 => ?_⟩) fun r1 => ⟨rfl, ite2 (fun e4 => ite2 (fun r0 => ⟨tl, neg r0⟩) fun r0 => ite2 (fun _ => ⟨tl, by decide, by decide, by decide, by decide, by show (3 : Nat) ≤ sizeLine; decide, fun p2 hp2 => rIxL_ok upd_same hx3 ⟨log_small hb3, app _ _ _ 0 (tx_num hb3) nA nB (same_new hp2 _)⟩⟩) fun _ => ⟨tl, rIxL_ok hl1 hvn nam⟩) fun e4 => ite2 (fun _ => ⟨tl, by decide, by decide, by decide, by decide, by show (3 : Nat) ≤ sizeLine; decide, fun p2 hp2 => rIxL_ok upd_same hx3 ⟨log_small hb3, app _ _ _ 0 (tx_num hb3) nA nB (same_new hp2 _)⟩⟩) fun _ => ⟨tl, rIxL_ok hl1 hvn nam⟩⟩) fun c4 => ⟨rfl, ite2 (fun e4 => ite2 (fun r0 => ⟨tl, neg r0⟩) fun r0 => ite2 (fun _ => ⟨tl, by decide, by decide, by decide, by decide, by show (3 : Nat) ≤ sizeLine; decide, fun p2 hp2 => rIxL_ok upd_same hx3 ⟨log_small hb3, app _ _ _ 0 (tx_num hb3) nA nB (same_new hp2 _)⟩⟩) fun _ => ⟨tl, rIxL_ok hl1 hvn nam⟩) fun e4 => ite2 (fun _ => ⟨tl, by decide, by decide, by decide, by decide, by show (3 : Nat) ≤ sizeLine; decide, fun p2 hp2 => rIxL_ok upd_same hx3 ⟨log_small hb3, app _ _ _ 0 (tx_num hb3) nA nB (same_new hp2 _)⟩⟩) fun _ => ⟨tl, rIxL_ok hl1 hvn nam⟩⟩⟩
   obtain ⟨vb, hvb, tvb⟩ := tx_at NB (n := 4) rfl (k := c % 8) (Int.emod_nonneg _ (by decide)) (by show c % 8 < 4; omega)
   exact rIxL_ok upd_same hvb (app vb _ ((due : Int) - 1 + 2) 2 tvb (by omega) (by omega) (same_new hp2 _))
  ·have d0 : due = 0 := by omega
   subst d0
   refine q p (n + ws.length) H' ws (sB.trans hS) hD' (by omega) (hfr _ hp) hp' hw (by omega) (by omega)
 ·intro σ H' Q1 Q2 hq h
  simp only [tTest, tOp, rI0, tVarD_any, tC] at h ⊢
  obtain ⟨v, hv, i, j, e1, e2, k, e3, h⟩ := h
  exact ⟨v, hv, i, j, e1, e2, k, e3, hq _ _ h⟩
noncomputable abbrev sDrawn : Stmt := top 32
theorem scDrawn : FnScope ["cell", "letters", "signs", "rest", "spun", "word", "at"] ["cell"] (defScope sDrawn) := ⟨rfl, rfl, rfl, by decide +kernel, rfl, by decide +kernel, by decide +kernel⟩
theorem hasDrawn (G : Gs w K mg κ) (D : Def K mg "_law_drawn" sDrawn ["cell"]) : Has P w K mg base (k + 1) "_law_drawn" ["cell"] spDrawn := by
 refine D.has scDrawn (fun vs H Q E h => ?_) (fun f cdv A outer s H vs Q E hr h => ?_)
 ·obtain ⟨_, rfl, _⟩ := h
  rfl
 have nd := scDrawn.nd
 have hu := hu_of hr
 have hu0 := Nat.lt_of_succ_lt hu
 obtain ⟨i, rfl, q⟩ := h
 have m_len := G.m_len
 have m_range := G.m_range
 have m_str := G.m_str
 refine ⟨_, (@pss_cons _ _ _ _ _ (@ps_set _ _ 1 _ _ _ _ nd rfl (by first | exact Or.inl rfl | exact Or.inr rfl) (@pe_str _ _ _ _) (by rfl) (by first | exact .inl rfl | exact .inr rfl | assumption)) (@pss_cons _ _ _ _ _ (@ps_set _ _ 2 _ _ _ _ nd rfl (by first | exact Or.inl rfl | exact Or.inr rfl) (@pe_str _ _ _ _) (by rfl) (by first | exact .inl rfl | exact .inr rfl | assumption)) (@pss_cons _ _ _ _ _ (@ps_set _ _ 3 _ _ _ _ nd rfl (by first | exact Or.inl rfl | exact Or.inr rfl) (@pe_op _ _ _ _ _ _ _ _ (@op_fdiv _) (@pvD _ 0 _ _ (by rfl) (by first | exact Or.inl rfl | exact Or.inr (Or.inl rfl) | exact Or.inr (Or.inr rfl)) (by decide) (by decide)) (@pe_int _ _ _ _)) (by rfl) (by first | exact .inl rfl | exact .inr rfl | assumption)) (@pss_cons _ _ _ _ _ (@ps_set _ _ 4 _ _ _ _ nd rfl (by first | exact Or.inl rfl | exact Or.inr rfl) (@pe_op _ _ _ _ _ _ _ _ (@op_mod _) (@pe_op _ _ _ _ _ _ _ _ (@op_mul _) (@pe_op _ _ _ _ _ _ _ _ (@op_add _) (@pe_op _ _ _ _ _ _ _ _ (@op_mod _) (@pvD _ 3 _ _ (by rfl) (by first | exact Or.inl rfl | exact Or.inr (Or.inl rfl) | exact Or.inr (Or.inr rfl)) (by decide) (by decide)) (@pe_int _ _ _ _)) (@pe_int _ _ _ _)) (@pe_int _ _ _ _)) (@pe_int _ _ _ _)) (by rfl) (by first | exact .inl rfl | exact .inr rfl | assumption)) (@pss_cons _ _ _ _ _ (@ps_set _ _ 4 _ _ _ _ nd rfl (by first | exact Or.inl rfl | exact Or.inr rfl) (@pe_op _ _ _ _ _ _ _ _ (@op_mod _) (@pe_op _ _ _ _ _ _ _ _ (@op_mul _) (@pvD _ 4 _ _ (by rfl) (by first | exact Or.inl rfl | exact Or.inr (Or.inl rfl) | exact Or.inr (Or.inr rfl)) (by decide) (by decide)) (@pvD _ 4 _ _ (by rfl) (by first | exact Or.inl rfl | exact Or.inr (Or.inl rfl) | exact Or.inr (Or.inr rfl)) (by decide) (by decide))) (@pe_int _ _ _ _)) (by rfl) (by first | exact .inl rfl | exact .inr rfl | assumption)) (@pss_cons _ _ _ _ _ (@ps_set _ _ 5 _ _ _ _ nd rfl (by first | exact Or.inl rfl | exact Or.inr rfl) (@pe_op _ _ _ _ _ _ _ _ (@op_add_str _) (@pe_ix _ _ _ _ _ _ _ (@ix_list _) (@pe_lst _ _ _ _ (@pa_const _ _ _ (@CsOk.str _ _ _ _ _ (@CsOk.str _ _ _ _ _ (@CsOk.str _ _ _ _ _ (@CsOk.str _ _ _ _ _ (@CsOk.str _ _ _ _ _ (@CsOk.str _ _ _ _ _ (@CsOk.nil))))))))) (@pe_op _ _ _ _ _ _ _ _ (@op_mod _) (@pvD _ 4 _ _ (by rfl) (by first | exact Or.inl rfl | exact Or.inr (Or.inl rfl) | exact Or.inr (Or.inr rfl)) (by decide) (by decide)) (@pe_int _ _ _ _)) (fun _ _ => rfl)) (@pe_callTy _ _ _ _ _ _ _ _ _ (@call_str_any _) rfl m_str b_str (@pa_cons _ _ _ _ _ (@pe_op _ _ _ _ _ _ _ _ (@op_mod _) (@pvD _ 3 _ _ (by rfl) (by first | exact Or.inl rfl | exact Or.inr (Or.inl rfl) | exact Or.inr (Or.inr rfl)) (by decide) (by decide)) (@pe_int _ _ _ _)) (@pa_nil _) (by rfl)) (by decide) (by decide) (by rfl) (by rfl))) (by rfl) (by first | exact .inl rfl | exact .inr rfl | assumption)) (@pss_mid _ _ _ _ _ (@ps_if _ _ _ _ _ _ _ _ (@pt_cmpR _ _ _ _ _ _ _ _ (@op_eq _) (@pe_op _ _ _ _ _ _ _ _ (@op_mod _) (@pvD _ 0 _ _ (by rfl) (by first | exact Or.inl rfl | exact Or.inr (Or.inl rfl) | exact Or.inr (Or.inr rfl)) (by decide) (by decide)) (@pe_int _ _ _ _)) (@pe_int _ _ _ _) (@nomark _ _ (by decide) (by decide))) (@pss_one _ _ _ (@ps_set _ _ 5 _ _ _ _ nd rfl (by first | exact Or.inl rfl | exact Or.inr rfl) (@pe_op _ _ _ _ _ _ _ _ (@op_add_str _) (@pe_op _ _ _ _ _ _ _ _ (@op_add_str _) (@pe_ix _ _ _ _ _ _ _ (@ix_list _) (@pe_lst _ _ _ _ (@pa_const _ _ _ (@CsOk.str _ _ _ _ _ (@CsOk.str _ _ _ _ _ (@CsOk.str _ _ _ _ _ (@CsOk.str _ _ _ _ _ (@CsOk.nil))))))) (@pe_op _ _ _ _ _ _ _ _ (@op_mod _) (@pvD _ 4 _ _ (by rfl) (by first | exact Or.inl rfl | exact Or.inr (Or.inl rfl) | exact Or.inr (Or.inr rfl)) (by decide) (by decide)) (@pe_int _ _ _ _)) (fun _ _ => rfl)) (@pe_op _ _ _ _ _ _ _ _ (@op_mul_str _) (@pe_str _ _ _ _) (@pe_op _ _ _ _ _ _ _ _ (@op_mod _) (@pvD _ 3 _ _ (by rfl) (by first | exact Or.inl rfl | exact Or.inr (Or.inl rfl) | exact Or.inr (Or.inr rfl)) (by decide) (by decide)) (@pe_int _ _ _ _)))) (@pe_slice _ _ _ _ _ _ _ _ _ _ (@sl_str _) (@pe_callTy _ _ _ _ _ _ _ _ _ (@call_str_any _) rfl m_str b_str (@pa_cons _ _ _ _ _ (@pvD _ 4 _ _ (by rfl) (by first | exact Or.inl rfl | exact Or.inr (Or.inl rfl) | exact Or.inr (Or.inr rfl)) (by decide) (by decide)) (@pa_nil _) (by rfl)) (by decide) (by decide) (by rfl) (by rfl)) (@po_none _) (@po_some _ _ _ (@pe_op _ _ _ _ _ _ _ _ (@op_mod _) (@pe_op _ _ _ _ _ _ _ _ (@op_fdiv _) (@pvD _ 3 _ _ (by rfl) (by first | exact Or.inl rfl | exact Or.inr (Or.inl rfl) | exact Or.inr (Or.inr rfl)) (by decide) (by decide)) (@pe_int _ _ _ _)) (@pe_int _ _ _ _))))) (by rfl) (by first | exact .inl rfl | exact .inr rfl | assumption))) (@pss_nil _)) (@pss_mid _ _ _ _ _ (@ps_if _ _ _ _ _ _ _ _ (@pt_cmpR _ _ _ _ _ _ _ _ (@op_eq _) (@pe_op _ _ _ _ _ _ _ _ (@op_mod _) (@pvD _ 0 _ _ (by rfl) (by first | exact Or.inl rfl | exact Or.inr (Or.inl rfl) | exact Or.inr (Or.inr rfl)) (by decide) (by decide)) (@pe_int _ _ _ _)) (@pe_int _ _ _ _) (@nomark _ _ (by decide) (by decide))) (@pss_one _ _ _ (@ps_set _ _ 5 _ _ _ _ nd rfl (by first | exact Or.inl rfl | exact Or.inr rfl) (@pe_bm _ _ _ _ _ _ _ _ _ _ _ _ PySem.F.plainAttrs_str PySem.F.slot_str_join PySem.F.type_str_join (@mt_join _) (@pe_str _ _ _ _) (@pa_cons _ _ _ _ _ (@pe_lc _ _ _ _ _ _ _ _ _ _ _ _ _ _ _ (@ClOk.mk _ _ ["k"] ["letters", "spun"] [1, 4] _ rfl rfl rfl rfl (And.intro rfl (And.intro rfl trivial)) rfl (And.intro (And.intro rfl (And.intro rfl rfl)) (And.intro (And.intro rfl (And.intro rfl rfl)) trivial))) rfl (@pi_range1 _ _ _ _ _ _ rfl m_range (@pa_cons _ _ _ _ _ (@pe_op _ _ _ _ _ _ _ _ (@op_mod _) (@pvD _ 3 _ _ (by rfl) (by first | exact Or.inl rfl | exact Or.inr (Or.inl rfl) | exact Or.inr (Or.inr rfl)) (by decide) (by decide)) (@pe_int _ _ _ _)) (@pa_nil _) (by rfl)) (by rfl)) (fun _ _ _ => (@pg_name _ _ 0 _ (show List.Nodup (["k", "letters", "spun"] : List Str) by decide +kernel) rfl (Or.inl rfl) (by first | exact .inl rfl | exact .inr rfl | assumption))) (fun _ _ _ => (@pif0 _)) (fun _ _ _ => (@pe_ix _ _ _ _ _ _ _ (@ix_str _) (@pvD _ 1 _ _ (by rfl) (by first | exact Or.inl rfl | exact Or.inr (Or.inl rfl) | exact Or.inr (Or.inr rfl)) (by decide) (by decide)) (@pe_op _ _ _ _ _ _ _ _ (@op_mod _) (@pe_op _ _ _ _ _ _ _ _ (@op_fdiv _) (@pvD _ 2 _ _ (by rfl) (by first | exact Or.inl rfl | exact Or.inr (Or.inl rfl) | exact Or.inr (Or.inr rfl)) (by decide) (by decide)) (@pe_op _ _ _ _ _ _ _ _ (@op_add _) (@pvD _ 0 _ _ (by rfl) (by first | exact Or.inl rfl | exact Or.inr (Or.inl rfl) | exact Or.inr (Or.inr rfl)) (by decide) (by decide)) (@pe_int _ _ _ _))) (@pe_int _ _ _ _)) (fun _ _ => rfl))) (by intro _; rfl)) (@pa_nil _) (by rfl)) (by rfl) (by rfl) (by rfl) (by rfl) (by rfl)) (by rfl) (by first | exact .inl rfl | exact .inr rfl | assumption))) (@pss_nil _)) (@pss_mid _ _ _ _ _ (@ps_if _ _ _ _ _ _ _ _ (@pt_cmpR _ _ _ _ _ _ _ _ (@op_eq _) (@pe_op _ _ _ _ _ _ _ _ (@op_mod _) (@pvD _ 0 _ _ (by rfl) (by first | exact Or.inl rfl | exact Or.inr (Or.inl rfl) | exact Or.inr (Or.inr rfl)) (by decide) (by decide)) (@pe_int _ _ _ _)) (@pe_int _ _ _ _) (@nomark _ _ (by decide) (by decide))) (@pss_cons _ _ _ _ _ (@ps_set _ _ 5 _ _ _ _ nd rfl (by first | exact Or.inl rfl | exact Or.inr rfl) (@pe_ix _ _ _ _ _ _ _ (@ix_list _) (@pe_lst _ _ _ _ (@pa_const _ _ _ (@CsOk.str _ _ _ _ _ (@CsOk.str _ _ _ _ _ (@CsOk.str _ _ _ _ _ (@CsOk.str _ _ _ _ _ (@CsOk.str _ _ _ _ _ (@CsOk.str _ _ _ _ _ (@CsOk.str _ _ _ _ _ (@CsOk.str _ _ _ _ _ (@CsOk.str _ _ _ _ _ (@CsOk.nil)))))))))))) (@pe_op _ _ _ _ _ _ _ _ (@op_mod _) (@pvD _ 3 _ _ (by rfl) (by first | exact Or.inl rfl | exact Or.inr (Or.inl rfl) | exact Or.inr (Or.inr rfl)) (by decide) (by decide)) (@pe_int _ _ _ _)) (fun _ _ => rfl)) (by rfl) (by first | exact .inl rfl | exact .inr rfl | assumption)) (@pss_one _ _ _ (@ps_set _ _ 5 _ _ _ _ nd rfl (by first | exact Or.inl rfl | exact Or.inr rfl) (@pe_ix _ _ _ _ _ _ _ (@ix_list _) (@pe_lst _ _ _ _ (@pa_cons _ _ _ _ _ (@pe_op _ _ _ _ _ _ _ _ (@op_add_str _) (@pvD _ 5 _ _ (by rfl) (by first | exact Or.inl rfl | exact Or.inr (Or.inl rfl) | exact Or.inr (Or.inr rfl)) (by decide) (by decide)) (@pe_ix _ _ _ _ _ _ _ (@ix_str _) (@pvD _ 1 _ _ (by rfl) (by first | exact Or.inl rfl | exact Or.inr (Or.inl rfl) | exact Or.inr (Or.inr rfl)) (by decide) (by decide)) (@pe_op _ _ _ _ _ _ _ _ (@op_mod _) (@pvD _ 4 _ _ (by rfl) (by first | exact Or.inl rfl | exact Or.inr (Or.inl rfl) | exact Or.inr (Or.inr rfl)) (by decide) (by decide)) (@pe_int _ _ _ _)) (fun _ _ => rfl))) (@pa_cons _ _ _ _ _ (@pe_bm0 _ _ _ _ _ _ _ _ _ PySem.F.plainAttrs_str PySem.F.slot_str_upper PySem.F.type_str_upper (@mt_upper _) (@pvD _ 5 _ _ (by rfl) (by first | exact Or.inl rfl | exact Or.inr (Or.inl rfl) | exact Or.inr (Or.inr rfl)) (by decide) (by decide)) (by rfl) (by rfl)) (@pa_cons _ _ _ _ _ (@pe_op _ _ _ _ _ _ _ _ (@op_add_str _) (@pe_ix _ _ _ _ _ _ _ (@ix_str _) (@pvD _ 1 _ _ (by rfl) (by first | exact Or.inl rfl | exact Or.inr (Or.inl rfl) | exact Or.inr (Or.inr rfl)) (by decide) (by decide)) (@pe_op _ _ _ _ _ _ _ _ (@op_mod _) (@pvD _ 4 _ _ (by rfl) (by first | exact Or.inl rfl | exact Or.inr (Or.inl rfl) | exact Or.inr (Or.inr rfl)) (by decide) (by decide)) (@pe_int _ _ _ _)) (fun _ _ => rfl)) (@pvD _ 5 _ _ (by rfl) (by first | exact Or.inl rfl | exact Or.inr (Or.inl rfl) | exact Or.inr (Or.inr rfl)) (by decide) (by decide))) (@pa_nil _) (by rfl)) (by rfl)) (by rfl))) (@pe_op _ _ _ _ _ _ _ _ (@op_mod _) (@pe_op _ _ _ _ _ _ _ _ (@op_fdiv _) (@pvD _ 3 _ _ (by rfl) (by first | exact Or.inl rfl | exact Or.inr (Or.inl rfl) | exact Or.inr (Or.inr rfl)) (by decide) (by decide)) (@pe_int _ _ _ _)) (@pe_int _ _ _ _)) (fun _ _ => rfl)) (by rfl) (by first | exact .inl rfl | exact .inr rfl | assumption)))) (@pss_nil _)) (@pss_mid _ _ _ _ _ (@ps_if _ _ _ _ _ _ _ _ (@pt_cmpR _ _ _ _ _ _ _ _ (@op_eq _) (@pe_op _ _ _ _ _ _ _ _ (@op_mod _) (@pe_op _ _ _ _ _ _ _ _ (@op_fdiv _) (@pvD _ 4 _ _ (by rfl) (by first | exact Or.inl rfl | exact Or.inr (Or.inl rfl) | exact Or.inr (Or.inr rfl)) (by decide) (by decide)) (@pe_int _ _ _ _)) (@pe_int _ _ _ _)) (@pe_int _ _ _ _) (@nomark _ _ (by decide) (by decide))) (@pss_cons _ _ _ _ _ (@ps_set _ _ 6 _ _ _ _ nd rfl (by first | exact Or.inl rfl | exact Or.inr rfl) (@pe_op _ _ _ _ _ _ _ _ (@op_mod _) (@pe_op _ _ _ _ _ _ _ _ (@op_fdiv _) (@pvD _ 4 _ _ (by rfl) (by first | exact Or.inl rfl | exact Or.inr (Or.inl rfl) | exact Or.inr (Or.inr rfl)) (by decide) (by decide)) (@pe_int _ _ _ _)) (@pe_op _ _ _ _ _ _ _ _ (@op_add _) (@pe_callB _ _ _ _ _ _ _ _ _ (@call_len_str _) rfl m_len b_len (@pa_cons _ _ _ _ _ (@pvD _ 5 _ _ (by rfl) (by first | exact Or.inl rfl | exact Or.inr (Or.inl rfl) | exact Or.inr (Or.inr rfl)) (by decide) (by decide)) (@pa_nil _) (by rfl)) (by decide) (by decide) (by rfl) (by rfl)) (@pe_int _ _ _ _))) (by rfl) (by first | exact .inl rfl | exact .inr rfl | assumption)) (@pss_one _ _ _ (@ps_set _ _ 5 _ _ _ _ nd rfl (by first | exact Or.inl rfl | exact Or.inr rfl) (@pe_op _ _ _ _ _ _ _ _ (@op_add_str _) (@pe_op _ _ _ _ _ _ _ _ (@op_add_str _) (@pe_slice _ _ _ _ _ _ _ _ _ _ (@sl_str _) (@pvD _ 5 _ _ (by rfl) (by first | exact Or.inl rfl | exact Or.inr (Or.inl rfl) | exact Or.inr (Or.inr rfl)) (by decide) (by decide)) (@po_none _) (@po_some _ _ _ (@pvD _ 6 _ _ (by rfl) (by first | exact Or.inl rfl | exact Or.inr (Or.inl rfl) | exact Or.inr (Or.inr rfl)) (by decide) (by decide)))) (@pe_ix _ _ _ _ _ _ _ (@ix_str _) (@pvD _ 2 _ _ (by rfl) (by first | exact Or.inl rfl | exact Or.inr (Or.inl rfl) | exact Or.inr (Or.inr rfl)) (by decide) (by decide)) (@pe_op _ _ _ _ _ _ _ _ (@op_mod _) (@pe_op _ _ _ _ _ _ _ _ (@op_fdiv _) (@pvD _ 4 _ _ (by rfl) (by first | exact Or.inl rfl | exact Or.inr (Or.inl rfl) | exact Or.inr (Or.inr rfl)) (by decide) (by decide)) (@pe_int _ _ _ _)) (@pe_callB _ _ _ _ _ _ _ _ _ (@call_len_str _) rfl m_len b_len (@pa_cons _ _ _ _ _ (@pvD _ 2 _ _ (by rfl) (by first | exact Or.inl rfl | exact Or.inr (Or.inl rfl) | exact Or.inr (Or.inr rfl)) (by decide) (by decide)) (@pa_nil _) (by rfl)) (by decide) (by decide) (by rfl) (by rfl))) (fun _ _ => rfl))) (@pe_slice _ _ _ _ _ _ _ _ _ _ (@sl_str _) (@pvD _ 5 _ _ (by rfl) (by first | exact Or.inl rfl | exact Or.inr (Or.inl rfl) | exact Or.inr (Or.inr rfl)) (by decide) (by decide)) (@po_some _ _ _ (@pvD _ 6 _ _ (by rfl) (by first | exact Or.inl rfl | exact Or.inr (Or.inl rfl) | exact Or.inr (Or.inr rfl)) (by decide) (by decide))) (@po_none _))) (by rfl) (by first | exact .inl rfl | exact .inr rfl | assumption)))) (@pss_nil _)) (@pss_one _ _ _ (@ps_ret _ _ _ _ (@pvD _ 5 _ _ (by rfl) (by first | exact Or.inl rfl | exact Or.inr (Or.inl rfl) | exact Or.inr (Or.inr rfl)) (by decide) (by decide)))))))))))))), ?_⟩
 rw [show start ["cell", "letters", "signs", "rest", "spun", "word", "at"] [.int i] = [some (.int i), none, none, none, none, none, none] from rfl]
 clear hu hu0 nd hr
 push_cast [rIxL, rIxS, CDiv, scal_ii, scal_ss]
 have sz := sizeLine_eq
 have e60 : (10 : Nat) ^ 60 = 1000000000000000000000000000000000000000000000000000000000000 := by decide +kernel
 obtain ⟨sg, hsg, g0, g1, ga⟩ : ∃ sg : Str, sg = Str.ofString " !#$&'()*+,-./0189:;<=>?@AEZ[]^_`aelxz{|}~\n\"\\" ∧ 0 < sg.length ∧ sg.length ≤ 100 ∧ asciiS sg := ⟨_, rfl, by decide +kernel, by decide +kernel, ascii_of (by decide +kernel)⟩
 obtain ⟨lt, hlt, l26, la⟩ : ∃ lt : Str, lt = Str.ofString "abcdefghijklmnopqrstuvwxyz" ∧ lt.length = 26 ∧ asciiS lt := ⟨_, rfl, by decide +kernel, ascii_of (by decide +kernel)⟩
 rw [← hsg, ← hlt]
 have lts : lt.length ≤ sizeLine := by rw [l26]; decide
 have sgs : sg.length ≤ sizeLine := Nat.le_trans g1 (by decide)
 have sgp : (0 : Int) < (sg.length : Int) := Int.ofNat_lt.mpr g0
 have N6 : TxV [V.str (Str.ofString ""), V.str (Str.ofString "-"), V.str (Str.ofString "0"), V.str (Str.ofString "-0"), V.str (Str.ofString "00"), V.str (Str.ofString "-00")] := TxV.lits [Str.ofString "", Str.ofString "-", Str.ofString "0", Str.ofString "-0", Str.ofString "00", Str.ofString "-00"] (by decide +kernel)
 have a0 := Int.emod_nonneg (i / 4) (show (1000003 : Int) ≠ 0 by decide)
 have a1 : i / 4 % 1000003 < 1000003 := Int.emod_lt_of_pos _ (by decide)
 refine ⟨.inr ⟨by decide, by decide⟩, ?_⟩
 generalize hA : (i / 4 % 1000003 + 7) * 48271 % 2147483629 = A0
 have b0 : 0 ≤ A0 := by rw [← hA]; exact Int.emod_nonneg _ (by decide)
 have b1 : A0 < 2147483629 := by rw [← hA]; exact Int.emod_lt_of_pos _ (by decide)
 refine ⟨.inl ⟨by omega, by omega⟩, ?_⟩
 generalize hS : A0 * A0 % 2147483587 = S
 have s0 : 0 ≤ S := by rw [← hS]; exact Int.emod_nonneg _ (by decide)
 have s1 : S < 2147483587 := by rw [← hS]; exact Int.emod_lt_of_pos _ (by decide)
 have tS := text_len10 s0 (by omega)
 have wS : wordV (.int S) := log_small (show S.natAbs < 10 ^ 60 by rw [e60]; omega)
 generalize i / 4 = r
 have r0 := Int.emod_nonneg r (show (100 : Int) ≠ 0 by decide)
 have r1 : r % 100 < 100 := Int.emod_lt_of_pos _ (by decide)
 obtain ⟨_, hv6, z6, rfl, hz6, az6⟩ := tx_at N6 (n := 6) rfl (k := S % 6) (Int.emod_nonneg _ (by decide)) (by show S % 6 < 6; omega)
 have lz6 : z6.length ≤ 3 := by
  obtain ⟨v, h1, h2⟩ := atI_in [V.str (Str.ofString ""), V.str (Str.ofString "-"), V.str (Str.ofString "0"), V.str (Str.ofString "-0"), V.str (Str.ofString "00"), V.str (Str.ofString "-00")] (S % 6) (Int.emod_nonneg _ (by decide)) (by show S % 6 < 6; omega)
  rw [hv6] at h1
  obtain rfl := Option.some.inj h1
  simp only [List.mem_cons, List.not_mem_nil, or_false, V.str.injEq] at h2
  rcases h2 with rfl | rfl | rfl | rfl | rfl | rfl <;> decide +kernel
 have t2 := text_len10 (k := r % 100) (Int.emod_nonneg _ (by decide)) (by omega)
 have w2 : wordV (.int (r % 100)) := log_small (show (r % 100).natAbs < 10 ^ 60 by rw [e60]; omega)
 have lap : ∀ a b : Str, (a ++ b).length = a.length + b.length := fun a b => Str.length_append a b
 have six' : S % 6 < 6 := Int.emod_lt_of_pos _ (by decide)
 clear a0 a1 b0 b1 hA hS r0 r1 e60 s0 s1 hz6
 refine ⟨by show (6 : Nat) ≤ sizeLine; decide, fun p hp => ⟨_, SqL.of upd_same, _, hv6, w2, z6, rfl, by omega, ?_⟩⟩
 have hSp := same_new hp (HO.lst [V.str (Str.ofString ""), V.str (Str.ofString "-"), V.str (Str.ofString "0"), V.str (Str.ofString "-0"), V.str (Str.ofString "00"), V.str (Str.ofString "-00")])
 generalize upd H p (HO.lst [V.str (Str.ofString ""), V.str (Str.ofString "-"), V.str (Str.ofString "0"), V.str (Str.ofString "-0"), V.str (Str.ofString "00"), V.str (Str.ofString "-00")]) = H0 at hSp ⊢
 have i0 : (z6 ++ textV (V.int (r % 100))).length ≤ 90 := by rw [lap]; omega
 have i1 : asciiS (z6 ++ textV (V.int (r % 100))) := ascii_app az6 (text_ascii _)
 generalize z6 ++ textV (V.int (r % 100)) = z0 at i0 i1 ⊢
 refine tMid_of (fun σ' H1 => ∃ z : Str, σ' = [some (.int i), some (.str lt), some (.str sg), some (.int r), some (.int S), some (.str z), none] ∧ Same H H1 ∧ z.length ≤ 90 ∧ asciiS z) ?_ ?_
 ·push_cast [rIxL, rIxS, CDiv, scal_ii, scal_ss]
  have N4 : TxV [V.str (Str.ofString ""), V.str (Str.ofString "-"), V.str (Str.ofString "0"), V.str (Str.ofString "-0")] := TxV.lits [Str.ofString "", Str.ofString "-", Str.ofString "0", Str.ofString "-0"] (by decide +kernel)
  obtain ⟨v, hv, hm⟩ := atI_in [V.str (Str.ofString ""), V.str (Str.ofString "-"), V.str (Str.ofString "0"), V.str (Str.ofString "-0")] (S % 4) (Int.emod_nonneg _ (by decide)) (by show S % 4 < 4; omega)
  obtain ⟨z4, rfl, lz4, az4⟩ : ∃ z : Str, v = .str z ∧ z.length ≤ 2 ∧ asciiS z := by
   simp only [List.mem_cons, List.not_mem_nil, or_false] at hm
   rcases hm with rfl | rfl | rfl | rfl <;> exact ⟨_, rfl, by decide +kernel, ascii_of (by decide +kernel)⟩
  have m0 := Int.emod_nonneg r (show (7 : Int) ≠ 0 by decide)
  have m1 : r % 7 < 7 := Int.emod_lt_of_pos _ (by decide)
  have lm : (mulS (Str.ofString "1234567890") (r % 7).toNat).length ≤ 60 := by
   rw [length_mulS, show (Str.ofString "1234567890").length = 10 by decide +kernel]
   omega
  have lc := cutS_le (textV (V.int S)) none (some (r / 7 % 10))
  refine ite2 (fun _ => ⟨by show (4 : Nat) ≤ sizeLine; decide, fun p2 hp2 => ⟨_, SqL.of upd_same, _, hv, m0, by omega, by decide +kernel, z4, rfl, Nat.le_trans (Nat.add_le_add lz4 lm) (by decide), wS, Nat.le_trans tS (by decide), by rw [lap]; omega, hSp.trans (same_new hp2 _), by rw [lap, lap]; omega, ?_⟩⟩) fun _ => ⟨hSp, i0, i1⟩
  exact ascii_app (ascii_app az4 (ascii_mul (ascii_of (by decide +kernel)) _)) (ascii_cut (text_ascii _) _ _)
 rintro σ1 H1 ⟨z1, rfl, hS1, l1, a1'⟩
 refine tMid_of (fun σ' H1 => ∃ z : Str, σ' = [some (.int i), some (.str lt), some (.str sg), some (.int r), some (.int S), some (.str z), none] ∧ Same H H1 ∧ z.length ≤ 90 ∧ asciiS z) ?_ ?_
 ·push_cast [rIxL, rIxS, CDiv, scal_ii, scal_ss]
  have m0 := Int.emod_nonneg r (show (12 : Int) ≠ 0 by decide)
  have m1 : r % 12 < 12 := Int.emod_lt_of_pos _ (by decide)
  refine ite2 (fun _ => ⟨by omega, by omega, fun D hD => lc_range Ones3 (by omega) hD ⟨[], rfl, rfl, fun _ h => nomatch h⟩ (fun j ys H2 G' K' hj hP hl hS hG hK => ?_) fun ys H2 hP _ hS hL => ?_⟩) fun _ => ⟨hS1, l1, a1'⟩
  ·push_cast [rIxS, CDiv]
   obtain ⟨c, hc, cm⟩ := atI_in lt.cps.toList (S / (0 + (j : Int) + 1) % 26) (Int.emod_nonneg _ (by decide)) (by rw [← slen, l26]; exact Int.emod_lt_of_pos _ (by decide))
   exact ⟨by omega, by omega, lts, c, hc, hK _ _ (Same.refl _) (hP.more (la c cm))⟩
  ·obtain ⟨zs, rfl, hl, h1⟩ := hP
   have jl := join_le (Str.ofString "") zs
   rw [sum_ones zs (fun z hz => (h1 z hz).1), empty_len] at jl
   refine ⟨zs, SqL.of hL, ?_, hS1.trans hS, by omega, fun c hc => ?_⟩
   ·rw [sum_ones zs (fun z hz => (h1 z hz).1), empty_len]
    omega
   ·rcases glued_sub (sep := Str.ofString "") (parts := zs) hc with h | ⟨y, hy, h⟩
    ·exact absurd h (by rw [show (Str.ofString "").cps.toList = [] by decide +kernel]; exact List.not_mem_nil)
    ·exact (h1 y hy).2 c h
 rintro σ2 H2 ⟨z2, rfl, hS2, l2, a2'⟩
 refine tMid_of (fun σ' H1 => ∃ z : Str, σ' = [some (.int i), some (.str lt), some (.str sg), some (.int r), some (.int S), some (.str z), none] ∧ Same H H1 ∧ z.length ≤ 90 ∧ asciiS z) ?_ ?_
 ·push_cast [rIxL, rIxS, CDiv, scal_ii, scal_ss]
  obtain ⟨wd, hw, hwl, hwa⟩ := kept_at r
  obtain ⟨c, hc, cm⟩ := atI_in lt.cps.toList (S % 26) (Int.emod_nonneg _ (by decide)) (by rw [← slen, l26]; exact Int.emod_lt_of_pos _ (by decide))
  have o1 := one_len c
  have oa := one_ascii (la c cm)
  refine ite2 (fun _ => ⟨by show (9 : Nat) ≤ sizeLine; decide, fun p2 hp2 => ⟨keptV, SqL.of upd_same, _, hw, lts, c, hc, wd, rfl, Nat.le_trans (Nat.add_le_add_right hwl _) (by rw [o1]; decide), rfl, wd, rfl, hwa, Nat.le_trans hwl (by decide), lts, c, hc, wd, rfl, Nat.le_trans (Nat.add_le_add_left hwl _) (by rw [o1]; decide), by show (3 : Nat) ≤ sizeLine; decide, fun p3 hp3 => ⟨_, SqL.of upd_same, ?_⟩⟩⟩) fun _ => ⟨hS2, l2, a2'⟩
  obtain ⟨v, hv, hm⟩ := atI_in [V.str (wd ++ ⟨#[c]⟩), V.str (upS wd), V.str (⟨#[c]⟩ ++ wd)] (r / 9 % 3) (Int.emod_nonneg _ (by decide)) (by show r / 9 % 3 < 3; omega)
  refine ⟨v, hv, ?_⟩
  simp only [List.mem_cons, List.not_mem_nil, or_false] at hm
  rcases hm with rfl | rfl | rfl
  ·exact ⟨_, rfl, (hS2.trans (same_new hp2 _)).trans (same_new hp3 _), by rw [lap, o1]; exact Nat.le_trans (Nat.add_le_add_right hwl _) (by decide), ascii_app hwa oa⟩
  ·exact ⟨_, rfl, (hS2.trans (same_new hp2 _)).trans (same_new hp3 _), by rw [upS_len]; exact Nat.le_trans hwl (by decide), up_ascii hwa⟩
  ·exact ⟨_, rfl, (hS2.trans (same_new hp2 _)).trans (same_new hp3 _), by rw [lap, o1]; exact Nat.le_trans (Nat.add_le_add_left hwl _) (by decide), ascii_app oa hwa⟩
 rintro σ3 H3 ⟨z3, rfl, hS3, l3, a3'⟩
 refine tMid_of (fun σ' H1 => ∃ (z : Str) (v : Option V), σ' = [some (.int i), some (.str lt), some (.str sg), some (.int r), some (.int S), some (.str z), v] ∧ Same H H1 ∧ z.length ≤ 100 ∧ asciiS z) ?_ ?_
 ·push_cast [rIxL, rIxS, CDiv, scal_ii, scal_ss]
  obtain ⟨c, hc, cm⟩ := atI_in sg.cps.toList (S / 1000 % (sg.length : Int)) (Int.emod_nonneg _ (Int.ne_of_gt sgp)) (by rw [← slen]; exact Int.emod_lt_of_pos _ sgp)
  have z3s : z3.length ≤ sizeLine := Nat.le_trans l3 (by decide)
  have z3p : (0 : Int) < (z3.length : Int) + 1 := Int.lt_add_one_of_le (Int.natCast_nonneg _)
  generalize S / 78 % ((z3.length : Int) + 1) = at'
  have c4 := cut_sum z3 at'
  have o1 := one_len c
  clear tS t2 i0 l1 l2 g0 g1 l26 six'
  refine ite2 (fun _ => ⟨z3s, z3p, z3s, sgs, sgp, sgs, c, hc, by omega, z3s, by rw [lap]; omega, hS3, by rw [lap, lap]; omega, ascii_app (ascii_app (ascii_cut a3' _ _) (one_ascii (ga c cm))) (ascii_cut a3' _ _)⟩) fun _ => ⟨hS3, by omega, a3'⟩
 rintro σ4 H4 ⟨z4, v, rfl, hS4, l4, a4'⟩
 push_cast [and_true]
 exact q z4 H4 hS4 ⟨z4, rfl, l4, a4'⟩
noncomputable abbrev sOdd : Stmt := top 33
theorem scOdd : FnScope ["cell", "some"] ["cell"] (defScope sOdd) := ⟨rfl, rfl, rfl, by decide +kernel, rfl, by decide +kernel, by decide +kernel⟩
theorem hasOdd (G : Gs w K mg κ) (h_law_drawn : Has P w K mg base k "_law_drawn" ["cell"] spDrawn) (D : Def K mg "_law_odd" sOdd ["cell"]) : Has P w K mg base (k + 1) "_law_odd" ["cell"] spDrawn := by
 refine D.has scOdd (fun vs H Q E h => ?_) (fun f cdv A outer s H vs Q E hr h => ?_)
 ·obtain ⟨_, rfl, _⟩ := h
  rfl
 have nd := scOdd.nd
 have hu := hu_of hr
 have hu0 := Nat.lt_of_succ_lt hu
 obtain ⟨i, rfl, q⟩ := h
 have m_len := G.m_len
 refine ⟨_, (@pss_cons _ _ _ _ _ (@ps_if _ _ _ _ _ _ _ _ (@pt_cmpR _ _ _ _ _ _ _ _ (@op_eq _) (@pe_op _ _ _ _ _ _ _ _ (@op_mod _) (@pvD _ 0 _ _ (by rfl) (by first | exact Or.inl rfl | exact Or.inr (Or.inl rfl) | exact Or.inr (Or.inr rfl)) (by decide) (by decide)) (@pe_int _ _ _ _)) (@pe_int _ _ _ _) (@nomark _ _ (by decide) (by decide))) (@pss_one _ _ _ (@ps_ret _ _ _ _ (@pe_has _ _ _ _ _ _ _ _ _ _ h_law_drawn hr (@pa_cons _ _ _ _ _ (@pe_op _ _ _ _ _ _ _ _ (@op_fdiv _) (@pvD _ 0 _ _ (by rfl) (by first | exact Or.inl rfl | exact Or.inr (Or.inl rfl) | exact Or.inr (Or.inr rfl)) (by decide) (by decide)) (@pe_int _ _ _ _)) (@pa_nil _) (by rfl)) (by rfl) (by decide +kernel) (by rfl) (by rfl)))) (@pss_nil _)) (@pss_cons _ _ _ _ _ (@ps_set _ _ 1 _ _ _ _ nd rfl (by first | exact Or.inl rfl | exact Or.inr rfl) (@pe_lst _ _ _ _ (@pa_const _ _ _ (@CsOk.str _ _ _ _ _ (@CsOk.str _ _ _ _ _ (@CsOk.str _ _ _ _ _ (@CsOk.str _ _ _ _ _ (@CsOk.nil))))))) (by rfl) (by first | exact .inl rfl | exact .inr rfl | assumption)) (@pss_cons _ _ _ _ _ (@ps_set _ _ 1 _ _ _ _ nd rfl (by first | exact Or.inl rfl | exact Or.inr rfl) (@pe_op _ _ _ _ _ _ _ _ (@op_cat _) (@pvD _ 1 _ _ (by rfl) (by first | exact Or.inl rfl | exact Or.inr (Or.inl rfl) | exact Or.inr (Or.inr rfl)) (by decide) (by decide)) (@pe_lst _ _ _ _ (@pa_const _ _ _ (@CsOk.str _ _ _ _ _ (@CsOk.str _ _ _ _ _ (@CsOk.str _ _ _ _ _ (@CsOk.str _ _ _ _ _ (@CsOk.str _ _ _ _ _ (@CsOk.str _ _ _ _ _ (@CsOk.str _ _ _ _ _ (@CsOk.str _ _ _ _ _ (@CsOk.str _ _ _ _ _ (@CsOk.str _ _ _ _ _ (@CsOk.str _ _ _ _ _ (@CsOk.str _ _ _ _ _ (@CsOk.str _ _ _ _ _ (@CsOk.nil))))))))))))))))) (by rfl) (by first | exact .inl rfl | exact .inr rfl | assumption)) (@pss_cons _ _ _ _ _ (@ps_set _ _ 1 _ _ _ _ nd rfl (by first | exact Or.inl rfl | exact Or.inr rfl) (@pe_op _ _ _ _ _ _ _ _ (@op_cat _) (@pvD _ 1 _ _ (by rfl) (by first | exact Or.inl rfl | exact Or.inr (Or.inl rfl) | exact Or.inr (Or.inr rfl)) (by decide) (by decide)) (@pe_lst _ _ _ _ (@pa_const _ _ _ (@CsOk.str _ _ _ _ _ (@CsOk.str _ _ _ _ _ (@CsOk.str _ _ _ _ _ (@CsOk.str _ _ _ _ _ (@CsOk.nil)))))))) (by rfl) (by first | exact .inl rfl | exact .inr rfl | assumption)) (@pss_cons _ _ _ _ _ (@ps_set _ _ 1 _ _ _ _ nd rfl (by first | exact Or.inl rfl | exact Or.inr rfl) (@pe_op _ _ _ _ _ _ _ _ (@op_cat _) (@pvD _ 1 _ _ (by rfl) (by first | exact Or.inl rfl | exact Or.inr (Or.inl rfl) | exact Or.inr (Or.inr rfl)) (by decide) (by decide)) (@pe_lst _ _ _ _ (@pa_cons _ _ _ _ _ (@pe_op _ _ _ _ _ _ _ _ (@op_mul_str _) (@pe_str _ _ _ _) (@pe_int _ _ _ _)) (@pa_cons _ _ _ _ _ (@pe_op _ _ _ _ _ _ _ _ (@op_add_str _) (@pe_str _ _ _ _) (@pe_op _ _ _ _ _ _ _ _ (@op_mul_str _) (@pe_str _ _ _ _) (@pe_int _ _ _ _))) (@pa_cons _ _ _ _ _ (@pe_str _ _ _ _) (@pa_cons _ _ _ _ _ (@pe_str _ _ _ _) (@pa_cons _ _ _ _ _ (@pe_str _ _ _ _) (@pa_cons _ _ _ _ _ (@pe_str _ _ _ _) (@pa_cons _ _ _ _ _ (@pe_str _ _ _ _) (@pa_cons _ _ _ _ _ (@pe_str _ _ _ _) (@pa_cons _ _ _ _ _ (@pe_str _ _ _ _) (@pa_cons _ _ _ _ _ (@pe_str _ _ _ _) (@pa_nil _) (by rfl)) (by rfl)) (by rfl)) (by rfl)) (by rfl)) (by rfl)) (by rfl)) (by rfl)) (by rfl)) (by rfl)))) (by rfl) (by first | exact .inl rfl | exact .inr rfl | assumption)) (@pss_cons _ _ _ _ _ (@ps_set _ _ 1 _ _ _ _ nd rfl (by first | exact Or.inl rfl | exact Or.inr rfl) (@pe_op _ _ _ _ _ _ _ _ (@op_cat _) (@pvD _ 1 _ _ (by rfl) (by first | exact Or.inl rfl | exact Or.inr (Or.inl rfl) | exact Or.inr (Or.inr rfl)) (by decide) (by decide)) (@pe_lst _ _ _ _ (@pa_cons _ _ _ _ _ (@pe_str _ _ _ _) (@pa_cons _ _ _ _ _ (@pe_str _ _ _ _) (@pa_nil _) (by rfl)) (by rfl)))) (by rfl) (by first | exact .inl rfl | exact .inr rfl | assumption)) (@pss_one _ _ _ (@ps_ret _ _ _ _ (@pe_ix _ _ _ _ _ _ _ (@ix_list _) (@pvD _ 1 _ _ (by rfl) (by first | exact Or.inl rfl | exact Or.inr (Or.inl rfl) | exact Or.inr (Or.inr rfl)) (by decide) (by decide)) (@pe_op _ _ _ _ _ _ _ _ (@op_mod _) (@pe_op _ _ _ _ _ _ _ _ (@op_fdiv _) (@pvD _ 0 _ _ (by rfl) (by first | exact Or.inl rfl | exact Or.inr (Or.inl rfl) | exact Or.inr (Or.inr rfl)) (by decide) (by decide)) (@pe_int _ _ _ _)) (@pe_callB _ _ _ _ _ _ _ _ _ (@call_len_seq _) rfl m_len b_len (@pa_cons _ _ _ _ _ (@pvD _ 1 _ _ (by rfl) (by first | exact Or.inl rfl | exact Or.inr (Or.inl rfl) | exact Or.inr (Or.inr rfl)) (by decide) (by decide)) (@pa_nil _) (by rfl)) (by decide) (by decide) (by rfl) (by rfl))) (fun _ _ => rfl)))))))))), ?_⟩
 rw [show start ["cell", "some"] [.int i] = [some (.int i), none] from rfl]
 clear hu hu0 nd hr
 push_cast [spDrawn, tyV, rIxL, rIxS, CDiv, scal_ii, scal_ss]
 have T1 : TxV [V.str (Str.ofString "-01"), V.str (Str.ofString "-00"), V.str (Str.ofString "00"), V.str (Str.ofString "-007")] := TxV.lits [Str.ofString "-01", Str.ofString "-00", Str.ofString "00", Str.ofString "-007"] (by decide +kernel)
 have T2 : TxV [V.str (Str.ofString "any"), V.str (Str.ofString "var"), V.str (Str.ofString "put"), V.str (Str.ofString "load"), V.str (Str.ofString "out"), V.str (Str.ofString ""), V.str (Str.ofString "01"), V.str (Str.ofString "+1"), V.str (Str.ofString "-0"), V.str (Str.ofString "1_0"), V.str (Str.ofString "1.0"), V.str (Str.ofString "--1"), V.str (Str.ofString "-")] := TxV.lits [Str.ofString "any", Str.ofString "var", Str.ofString "put", Str.ofString "load", Str.ofString "out", Str.ofString "", Str.ofString "01", Str.ofString "+1", Str.ofString "-0", Str.ofString "1_0", Str.ofString "1.0", Str.ofString "--1", Str.ofString "-"] (by decide +kernel)
 have T3 : TxV [V.str (Str.ofString "A"), V.str (Str.ofString "aB"), V.str (Str.ofString "a1"), V.str (Str.ofString "a-b")] := TxV.lits [Str.ofString "A", Str.ofString "aB", Str.ofString "a1", Str.ofString "a-b"] (by decide +kernel)
 have T4 : TxV [V.str (mulS (Str.ofString "1") (Int.toNat 61)), V.str (Str.ofString "-" ++ mulS (Str.ofString "9") (Int.toNat 61)), V.str (Str.ofString "abcdefghi"), V.str (Str.ofString "add1"), V.str (Str.ofString "Add"), V.str (Str.ofString "ADD"), V.str (Str.ofString "adds "), V.str (Str.ofString "neg\n"), V.str (Str.ofString "div"), V.str (Str.ofString "plus")] := TxV.lits [mulS (Str.ofString "1") (Int.toNat 61), Str.ofString "-" ++ mulS (Str.ofString "9") (Int.toNat 61), Str.ofString "abcdefghi", Str.ofString "add1", Str.ofString "Add", Str.ofString "ADD", Str.ofString "adds ", Str.ofString "neg\n", Str.ofString "div", Str.ofString "plus"] (by decide +kernel)
 have T5 : TxV [V.str (Str.ofString "("), V.str (Str.ofString "x y")] := TxV.lits [Str.ofString "(", Str.ofString "x y"] (by decide +kernel)
 refine ite2 (fun _ z H' s hz => q z H' s hz) fun _ => ⟨by show (4 : Nat) ≤ sizeLine; decide, fun p hp => ⟨by show (13 : Nat) ≤ sizeLine; decide, fun p1 hp1 => cat_tx (same_new hp1 _ _ _ upd_same) upd_same (by show (17 : Nat) ≤ 1000; decide) fun r1 H1 s1 h1 => ⟨by show (4 : Nat) ≤ sizeLine; decide, fun p2 hp2 => cat_tx (same_new hp2 _ _ _ h1) upd_same (by show (21 : Nat) ≤ 1000; decide) fun r2 H2 s2 h2 =>
  ⟨by decide +kernel, by decide +kernel, by rw [length_mulS, show (Str.ofString "9").length = 1 by decide +kernel, show (Str.ofString "-").length = 1 by decide +kernel]; decide, by show (10 : Nat) ≤ sizeLine; decide, fun p3 hp3 => cat_tx (same_new hp3 _ _ _ h2) upd_same (by show (31 : Nat) ≤ 1000; decide) fun r3 H3 s3 h3 => ⟨by show (2 : Nat) ≤ sizeLine; decide, fun p4 hp4 => cat_tx (same_new hp4 _ _ _ h3) upd_same (by show (33 : Nat) ≤ 1000; decide) fun r4 H4 s4 h4 => ⟨r4, rfl, _, .inl (SqL.of h4), by show (0 : Int) < 33; decide, r4, rfl, _, SqL.of h4, ?_⟩⟩⟩⟩⟩⟩
 obtain ⟨v, hv, z, rfl, hz⟩ := tx_at ((((T1.app T2).app T3).app T4).app T5) (n := 33) rfl (k := i / 2 % 33) (Int.emod_nonneg _ (by decide)) (by show i / 2 % 33 < 33; omega)
 exact ⟨_, hv, q z _ (((((((((same_new hp _).trans (same_new hp1 _)).trans s1).trans (same_new hp2 _)).trans s2).trans (same_new hp3 _)).trans s3).trans (same_new hp4 _)).trans s4) ⟨z, rfl, hz⟩⟩
noncomputable abbrev sSpoiled : Stmt := top 34
theorem scSpoiled : FnScope ["words", "cell", "way", "rest", "at", "more"] ["words", "cell"] (defScope sSpoiled) := ⟨rfl, rfl, rfl, by decide +kernel, rfl, by decide +kernel, by decide +kernel⟩
theorem hasSpoiled (G : Gs w K mg κ) (h_law_odd : Has P w K mg base k "_law_odd" ["cell"] spDrawn) (D : Def K mg "_law_spoiled" sSpoiled ["words", "cell"]) : Has P w K mg base (k + 1) "_law_spoiled" ["words", "cell"] spSpoiled := by
 refine D.has scSpoiled (fun vs H Q E h => ?_) (fun f cdv A outer s H vs Q E hr h => ?_)
 ·obtain ⟨_, _, _, rfl, _, _, _, _, _⟩ := h
  rfl
 have nd := scSpoiled.nd
 have hu := hu_of hr
 have hu0 := Nat.lt_of_succ_lt hu
 obtain ⟨l, c, xs, rfl, hl, hx, h1, h2, q⟩ := h
 have m_len := G.m_len
 refine ⟨_, (@pss_cons _ _ _ _ _ (@ps_set _ _ 2 _ _ _ _ nd rfl (by first | exact Or.inl rfl | exact Or.inr rfl) (@pe_op _ _ _ _ _ _ _ _ (@op_mod _) (@pvD _ 1 _ _ (by rfl) (by first | exact Or.inl rfl | exact Or.inr (Or.inl rfl) | exact Or.inr (Or.inr rfl)) (by decide) (by decide)) (@pe_int _ _ _ _)) (by rfl) (by first | exact .inl rfl | exact .inr rfl | assumption)) (@pss_cons _ _ _ _ _ (@ps_set _ _ 3 _ _ _ _ nd rfl (by first | exact Or.inl rfl | exact Or.inr rfl) (@pe_op _ _ _ _ _ _ _ _ (@op_fdiv _) (@pvD _ 1 _ _ (by rfl) (by first | exact Or.inl rfl | exact Or.inr (Or.inl rfl) | exact Or.inr (Or.inr rfl)) (by decide) (by decide)) (@pe_int _ _ _ _)) (by rfl) (by first | exact .inl rfl | exact .inr rfl | assumption)) (@pss_cons _ _ _ _ _ (@ps_set _ _ 4 _ _ _ _ nd rfl (by first | exact Or.inl rfl | exact Or.inr rfl) (@pe_op _ _ _ _ _ _ _ _ (@op_mod _) (@pvD _ 3 _ _ (by rfl) (by first | exact Or.inl rfl | exact Or.inr (Or.inl rfl) | exact Or.inr (Or.inr rfl)) (by decide) (by decide)) (@pe_callB _ _ _ _ _ _ _ _ _ (@call_len_seq _) rfl m_len b_len (@pa_cons _ _ _ _ _ (@pvD _ 0 _ _ (by rfl) (by first | exact Or.inl rfl | exact Or.inr (Or.inl rfl) | exact Or.inr (Or.inr rfl)) (by decide) (by decide)) (@pa_nil _) (by rfl)) (by decide) (by decide) (by rfl) (by rfl))) (by rfl) (by first | exact .inl rfl | exact .inr rfl | assumption)) (@pss_cons _ _ _ _ _ (@ps_set _ _ 5 _ _ _ _ nd rfl (by first | exact Or.inl rfl | exact Or.inr rfl) (@pe_op _ _ _ _ _ _ _ _ (@op_fdiv _) (@pvD _ 3 _ _ (by rfl) (by first | exact Or.inl rfl | exact Or.inr (Or.inl rfl) | exact Or.inr (Or.inr rfl)) (by decide) (by decide)) (@pe_callB _ _ _ _ _ _ _ _ _ (@call_len_seq _) rfl m_len b_len (@pa_cons _ _ _ _ _ (@pvD _ 0 _ _ (by rfl) (by first | exact Or.inl rfl | exact Or.inr (Or.inl rfl) | exact Or.inr (Or.inr rfl)) (by decide) (by decide)) (@pa_nil _) (by rfl)) (by decide) (by decide) (by rfl) (by rfl))) (by rfl) (by first | exact .inl rfl | exact .inr rfl | assumption)) (@pss_cons _ _ _ _ _ (@ps_if _ _ _ _ _ _ _ _ (@pt_cmpR _ _ _ _ _ _ _ _ (@op_eq _) (@pvD _ 2 _ _ (by rfl) (by first | exact Or.inl rfl | exact Or.inr (Or.inl rfl) | exact Or.inr (Or.inr rfl)) (by decide) (by decide)) (@pe_int _ _ _ _) (@nomark _ _ (by decide) (by decide))) (@pss_one _ _ _ (@ps_ret _ _ _ _ (@pe_op _ _ _ _ _ _ _ _ (@op_cat _) (@pe_slice _ _ _ _ _ _ _ _ _ _ (@sl_list _) (@pvD _ 0 _ _ (by rfl) (by first | exact Or.inl rfl | exact Or.inr (Or.inl rfl) | exact Or.inr (Or.inr rfl)) (by decide) (by decide)) (@po_none _) (@po_some _ _ _ (@pvD _ 4 _ _ (by rfl) (by first | exact Or.inl rfl | exact Or.inr (Or.inl rfl) | exact Or.inr (Or.inr rfl)) (by decide) (by decide)))) (@pe_slice _ _ _ _ _ _ _ _ _ _ (@sl_list _) (@pvD _ 0 _ _ (by rfl) (by first | exact Or.inl rfl | exact Or.inr (Or.inl rfl) | exact Or.inr (Or.inr rfl)) (by decide) (by decide)) (@po_some _ _ _ (@pe_op _ _ _ _ _ _ _ _ (@op_add _) (@pvD _ 4 _ _ (by rfl) (by first | exact Or.inl rfl | exact Or.inr (Or.inl rfl) | exact Or.inr (Or.inr rfl)) (by decide) (by decide)) (@pe_int _ _ _ _))) (@po_none _))))) (@pss_nil _)) (@pss_cons _ _ _ _ _ (@ps_if _ _ _ _ _ _ _ _ (@pt_cmpR _ _ _ _ _ _ _ _ (@op_eq _) (@pvD _ 2 _ _ (by rfl) (by first | exact Or.inl rfl | exact Or.inr (Or.inl rfl) | exact Or.inr (Or.inr rfl)) (by decide) (by decide)) (@pe_int _ _ _ _) (@nomark _ _ (by decide) (by decide))) (@pss_one _ _ _ (@ps_ret _ _ _ _ (@pe_op _ _ _ _ _ _ _ _ (@op_cat _) (@pe_op _ _ _ _ _ _ _ _ (@op_cat _) (@pe_slice _ _ _ _ _ _ _ _ _ _ (@sl_list _) (@pvD _ 0 _ _ (by rfl) (by first | exact Or.inl rfl | exact Or.inr (Or.inl rfl) | exact Or.inr (Or.inr rfl)) (by decide) (by decide)) (@po_none _) (@po_some _ _ _ (@pvD _ 4 _ _ (by rfl) (by first | exact Or.inl rfl | exact Or.inr (Or.inl rfl) | exact Or.inr (Or.inr rfl)) (by decide) (by decide)))) (@pe_lst _ _ _ _ (@pa_cons _ _ _ _ _ (@pe_ix _ _ _ _ _ _ _ (@ix_list _) (@pvD _ 0 _ _ (by rfl) (by first | exact Or.inl rfl | exact Or.inr (Or.inl rfl) | exact Or.inr (Or.inr rfl)) (by decide) (by decide)) (@pvD _ 4 _ _ (by rfl) (by first | exact Or.inl rfl | exact Or.inr (Or.inl rfl) | exact Or.inr (Or.inr rfl)) (by decide) (by decide)) (fun _ _ => rfl)) (@pa_nil _) (by rfl)))) (@pe_slice _ _ _ _ _ _ _ _ _ _ (@sl_list _) (@pvD _ 0 _ _ (by rfl) (by first | exact Or.inl rfl | exact Or.inr (Or.inl rfl) | exact Or.inr (Or.inr rfl)) (by decide) (by decide)) (@po_some _ _ _ (@pvD _ 4 _ _ (by rfl) (by first | exact Or.inl rfl | exact Or.inr (Or.inl rfl) | exact Or.inr (Or.inr rfl)) (by decide) (by decide))) (@po_none _))))) (@pss_nil _)) (@pss_cons _ _ _ _ _ (@ps_if _ _ _ _ _ _ _ _ (@pt_cmpR _ _ _ _ _ _ _ _ (@op_eq _) (@pvD _ 2 _ _ (by rfl) (by first | exact Or.inl rfl | exact Or.inr (Or.inl rfl) | exact Or.inr (Or.inr rfl)) (by decide) (by decide)) (@pe_int _ _ _ _) (@nomark _ _ (by decide) (by decide))) (@pss_one _ _ _ (@ps_ret _ _ _ _ (@pe_op _ _ _ _ _ _ _ _ (@op_cat _) (@pe_lst _ _ _ _ (@pa_cons _ _ _ _ _ (@pe_ix _ _ _ _ _ _ _ (@ix_list _) (@pe_lst _ _ _ _ (@pa_const _ _ _ (@CsOk.str _ _ _ _ _ (@CsOk.str _ _ _ _ _ (@CsOk.str _ _ _ _ _ (@CsOk.str _ _ _ _ _ (@CsOk.nil))))))) (@pe_op _ _ _ _ _ _ _ _ (@op_mod _) (@pvD _ 5 _ _ (by rfl) (by first | exact Or.inl rfl | exact Or.inr (Or.inl rfl) | exact Or.inr (Or.inr rfl)) (by decide) (by decide)) (@pe_int _ _ _ _)) (fun _ _ => rfl)) (@pa_nil _) (by rfl))) (@pvD _ 0 _ _ (by rfl) (by first | exact Or.inl rfl | exact Or.inr (Or.inl rfl) | exact Or.inr (Or.inr rfl)) (by decide) (by decide))))) (@pss_nil _)) (@pss_cons _ _ _ _ _ (@ps_if _ _ _ _ _ _ _ _ (@pt_cmpR _ _ _ _ _ _ _ _ (@op_eq _) (@pvD _ 2 _ _ (by rfl) (by first | exact Or.inl rfl | exact Or.inr (Or.inl rfl) | exact Or.inr (Or.inr rfl)) (by decide) (by decide)) (@pe_int _ _ _ _) (@nomark _ _ (by decide) (by decide))) (@pss_one _ _ _ (@ps_ret _ _ _ _ (@pe_op _ _ _ _ _ _ _ _ (@op_cat _) (@pvD _ 0 _ _ (by rfl) (by first | exact Or.inl rfl | exact Or.inr (Or.inl rfl) | exact Or.inr (Or.inr rfl)) (by decide) (by decide)) (@pe_lst _ _ _ _ (@pa_cons _ _ _ _ _ (@pe_ix _ _ _ _ _ _ _ (@ix_list _) (@pe_lst _ _ _ _ (@pa_const _ _ _ (@CsOk.str _ _ _ _ _ (@CsOk.str _ _ _ _ _ (@CsOk.str _ _ _ _ _ (@CsOk.str _ _ _ _ _ (@CsOk.nil))))))) (@pe_op _ _ _ _ _ _ _ _ (@op_mod _) (@pvD _ 5 _ _ (by rfl) (by first | exact Or.inl rfl | exact Or.inr (Or.inl rfl) | exact Or.inr (Or.inr rfl)) (by decide) (by decide)) (@pe_int _ _ _ _)) (fun _ _ => rfl)) (@pa_nil _) (by rfl)))))) (@pss_nil _)) (@pss_cons _ _ _ _ _ (@ps_if _ _ _ _ _ _ _ _ (@pt_cmpR _ _ _ _ _ _ _ _ (@op_lt _) (@pvD _ 2 _ _ (by rfl) (by first | exact Or.inl rfl | exact Or.inr (Or.inl rfl) | exact Or.inr (Or.inr rfl)) (by decide) (by decide)) (@pe_int _ _ _ _) (@nomark _ _ (by decide) (by decide))) (@pss_one _ _ _ (@ps_ret _ _ _ _ (@pe_op _ _ _ _ _ _ _ _ (@op_cat _) (@pe_op _ _ _ _ _ _ _ _ (@op_cat _) (@pe_slice _ _ _ _ _ _ _ _ _ _ (@sl_list _) (@pvD _ 0 _ _ (by rfl) (by first | exact Or.inl rfl | exact Or.inr (Or.inl rfl) | exact Or.inr (Or.inr rfl)) (by decide) (by decide)) (@po_none _) (@po_some _ _ _ (@pvD _ 4 _ _ (by rfl) (by first | exact Or.inl rfl | exact Or.inr (Or.inl rfl) | exact Or.inr (Or.inr rfl)) (by decide) (by decide)))) (@pe_lst _ _ _ _ (@pa_cons _ _ _ _ _ (@pe_has _ _ _ _ _ _ _ _ _ _ h_law_odd hr (@pa_cons _ _ _ _ _ (@pvD _ 5 _ _ (by rfl) (by first | exact Or.inl rfl | exact Or.inr (Or.inl rfl) | exact Or.inr (Or.inr rfl)) (by decide) (by decide)) (@pa_nil _) (by rfl)) (by rfl) (by decide +kernel) (by rfl) (by rfl)) (@pa_nil _) (by rfl)))) (@pe_slice _ _ _ _ _ _ _ _ _ _ (@sl_list _) (@pvD _ 0 _ _ (by rfl) (by first | exact Or.inl rfl | exact Or.inr (Or.inl rfl) | exact Or.inr (Or.inr rfl)) (by decide) (by decide)) (@po_some _ _ _ (@pe_op _ _ _ _ _ _ _ _ (@op_add _) (@pvD _ 4 _ _ (by rfl) (by first | exact Or.inl rfl | exact Or.inr (Or.inl rfl) | exact Or.inr (Or.inr rfl)) (by decide) (by decide)) (@pe_int _ _ _ _))) (@po_none _))))) (@pss_nil _)) (@pss_cons _ _ _ _ _ (@ps_if _ _ _ _ _ _ _ _ (@pt_cmpR _ _ _ _ _ _ _ _ (@op_eq _) (@pvD _ 2 _ _ (by rfl) (by first | exact Or.inl rfl | exact Or.inr (Or.inl rfl) | exact Or.inr (Or.inr rfl)) (by decide) (by decide)) (@pe_int _ _ _ _) (@nomark _ _ (by decide) (by decide))) (@pss_one _ _ _ (@ps_ret _ _ _ _ (@pe_op _ _ _ _ _ _ _ _ (@op_cat _) (@pe_op _ _ _ _ _ _ _ _ (@op_cat _) (@pe_slice _ _ _ _ _ _ _ _ _ _ (@sl_list _) (@pvD _ 0 _ _ (by rfl) (by first | exact Or.inl rfl | exact Or.inr (Or.inl rfl) | exact Or.inr (Or.inr rfl)) (by decide) (by decide)) (@po_none _) (@po_some _ _ _ (@pvD _ 4 _ _ (by rfl) (by first | exact Or.inl rfl | exact Or.inr (Or.inl rfl) | exact Or.inr (Or.inr rfl)) (by decide) (by decide)))) (@pe_lst _ _ _ _ (@pa_cons _ _ _ _ _ (@pe_ix _ _ _ _ _ _ _ (@ix_list _) (@pe_lst _ _ _ _ (@pa_const _ _ _ (@CsOk.str _ _ _ _ _ (@CsOk.str _ _ _ _ _ (@CsOk.str _ _ _ _ _ (@CsOk.str _ _ _ _ _ (@CsOk.str _ _ _ _ _ (@CsOk.nil)))))))) (@pe_op _ _ _ _ _ _ _ _ (@op_mod _) (@pvD _ 5 _ _ (by rfl) (by first | exact Or.inl rfl | exact Or.inr (Or.inl rfl) | exact Or.inr (Or.inr rfl)) (by decide) (by decide)) (@pe_int _ _ _ _)) (fun _ _ => rfl)) (@pa_nil _) (by rfl)))) (@pe_slice _ _ _ _ _ _ _ _ _ _ (@sl_list _) (@pvD _ 0 _ _ (by rfl) (by first | exact Or.inl rfl | exact Or.inr (Or.inl rfl) | exact Or.inr (Or.inr rfl)) (by decide) (by decide)) (@po_some _ _ _ (@pe_op _ _ _ _ _ _ _ _ (@op_add _) (@pvD _ 4 _ _ (by rfl) (by first | exact Or.inl rfl | exact Or.inr (Or.inl rfl) | exact Or.inr (Or.inr rfl)) (by decide) (by decide)) (@pe_int _ _ _ _))) (@po_none _))))) (@pss_nil _)) (@pss_cons _ _ _ _ _ (@ps_if _ _ _ _ _ _ _ _ (@pt_cmpR _ _ _ _ _ _ _ _ (@op_eq _) (@pvD _ 2 _ _ (by rfl) (by first | exact Or.inl rfl | exact Or.inr (Or.inl rfl) | exact Or.inr (Or.inr rfl)) (by decide) (by decide)) (@pe_int _ _ _ _) (@nomark _ _ (by decide) (by decide))) (@pss_one _ _ _ (@ps_ret _ _ _ _ (@pe_op _ _ _ _ _ _ _ _ (@op_cat _) (@pe_slice _ _ _ _ _ _ _ _ _ _ (@sl_list _) (@pvD _ 0 _ _ (by rfl) (by first | exact Or.inl rfl | exact Or.inr (Or.inl rfl) | exact Or.inr (Or.inr rfl)) (by decide) (by decide)) (@po_some _ _ _ (@pvD _ 4 _ _ (by rfl) (by first | exact Or.inl rfl | exact Or.inr (Or.inl rfl) | exact Or.inr (Or.inr rfl)) (by decide) (by decide))) (@po_none _)) (@pe_slice _ _ _ _ _ _ _ _ _ _ (@sl_list _) (@pvD _ 0 _ _ (by rfl) (by first | exact Or.inl rfl | exact Or.inr (Or.inl rfl) | exact Or.inr (Or.inr rfl)) (by decide) (by decide)) (@po_none _) (@po_some _ _ _ (@pvD _ 4 _ _ (by rfl) (by first | exact Or.inl rfl | exact Or.inr (Or.inl rfl) | exact Or.inr (Or.inr rfl)) (by decide) (by decide))))))) (@pss_nil _)) (@pss_cons _ _ _ _ _ (@ps_if _ _ _ _ _ _ _ _ (@pt_cmpR _ _ _ _ _ _ _ _ (@op_eq _) (@pvD _ 2 _ _ (by rfl) (by first | exact Or.inl rfl | exact Or.inr (Or.inl rfl) | exact Or.inr (Or.inr rfl)) (by decide) (by decide)) (@pe_int _ _ _ _) (@nomark _ _ (by decide) (by decide))) (@pss_one _ _ _ (@ps_ret _ _ _ _ (@pe_op _ _ _ _ _ _ _ _ (@op_cat _) (@pe_op _ _ _ _ _ _ _ _ (@op_cat _) (@pe_slice _ _ _ _ _ _ _ _ _ _ (@sl_list _) (@pvD _ 0 _ _ (by rfl) (by first | exact Or.inl rfl | exact Or.inr (Or.inl rfl) | exact Or.inr (Or.inr rfl)) (by decide) (by decide)) (@po_none _) (@po_some _ _ _ (@pvD _ 4 _ _ (by rfl) (by first | exact Or.inl rfl | exact Or.inr (Or.inl rfl) | exact Or.inr (Or.inr rfl)) (by decide) (by decide)))) (@pe_lst _ _ _ _ (@pa_cons _ _ _ _ _ (@pe_str _ _ _ _) (@pa_nil _) (by rfl)))) (@pe_slice _ _ _ _ _ _ _ _ _ _ (@sl_list _) (@pvD _ 0 _ _ (by rfl) (by first | exact Or.inl rfl | exact Or.inr (Or.inl rfl) | exact Or.inr (Or.inr rfl)) (by decide) (by decide)) (@po_some _ _ _ (@pvD _ 4 _ _ (by rfl) (by first | exact Or.inl rfl | exact Or.inr (Or.inl rfl) | exact Or.inr (Or.inr rfl)) (by decide) (by decide))) (@po_none _))))) (@pss_nil _)) (@pss_cons _ _ _ _ _ (@ps_if _ _ _ _ _ _ _ _ (@pt_cmpR _ _ _ _ _ _ _ _ (@op_eq _) (@pvD _ 2 _ _ (by rfl) (by first | exact Or.inl rfl | exact Or.inr (Or.inl rfl) | exact Or.inr (Or.inr rfl)) (by decide) (by decide)) (@pe_int _ _ _ _) (@nomark _ _ (by decide) (by decide))) (@pss_one _ _ _ (@ps_ret _ _ _ _ (@pe_op _ _ _ _ _ _ _ _ (@op_cat _) (@pvD _ 0 _ _ (by rfl) (by first | exact Or.inl rfl | exact Or.inr (Or.inl rfl) | exact Or.inr (Or.inr rfl)) (by decide) (by decide)) (@pe_lst _ _ _ _ (@pa_cons _ _ _ _ _ (@pe_str _ _ _ _) (@pa_nil _) (by rfl)))))) (@pss_nil _)) (@pss_one _ _ _ (@ps_ret _ _ _ _ (@pe_lst _ _ _ _ (@pa_nil _))))))))))))))))), ?_⟩
 rw [show start ["words", "cell", "way", "rest", "at", "more"] [.ref l, .int c] = [some (.ref l), some (.int c), none, none, none, none] from rfl]
 clear hu hu0 nd hr
 push_cast [spDrawn, CDiv, scal_ii, scal_ss]
 have N4 : TxV [V.str (Str.ofString "neg"), V.str (Str.ofString "add"), V.str (Str.ofString "1"), V.str (Str.ofString "a")] := TxV.lits [Str.ofString "neg", Str.ofString "add", Str.ofString "1", Str.ofString "a"] (by decide +kernel)
 have N5 : TxV [V.str (Str.ofString "add"), V.str (Str.ofString "neg"), V.str (Str.ofString "7"), V.str (Str.ofString "b"), V.str (Str.ofString "mul")] := TxV.lits [Str.ofString "add", Str.ofString "neg", Str.ofString "7", Str.ofString "b", Str.ofString "mul"] (by decide +kernel)
 have N0 : txV (.str (Str.ofString "")) := okB.tx (by decide +kernel)
 have o1 : (1 : Nat) ≤ sizeLine := by decide
 have cl : ∀ a b, (cutV xs a b).length ≤ 60 := fun a b => Nat.le_trans (cutV_length _ _ _) h2
 refine ⟨xs, .inl (SqL.of hl), by omega, xs, .inl (SqL.of hl), by omega, by omega, ?_⟩
 obtain ⟨v, hv, tv⟩ := tx_at hx (n := xs.length) rfl (k := c / 12 % (xs.length : Int)) (Int.emod_nonneg _ (by omega)) (Int.emod_lt_of_pos _ (by omega))
 generalize c / 12 % (xs.length : Int) = j at hv ⊢
 generalize c / 12 / (xs.length : Int) = more
 obtain ⟨v4, hv4, tv4⟩ := tx_at N4 (n := 4) rfl (k := more % 4) (Int.emod_nonneg _ (by decide)) (by show more % 4 < 4; omega)
 obtain ⟨v5, hv5, tv5⟩ := tx_at N5 (n := 5) rfl (k := more % 5) (Int.emod_nonneg _ (by decide)) (by show more % 5 < 5; omega)
 have tail : ∀ (r1 : Addr) (H1 : Hp) (Y : List V) (a b : Option Int), Same H H1 → H1 r1 = some (.lst Y) → TxV Y → Y.length ≤ 61 → ∃ x, SqL K H1 l x ∧ ∀ p, H1 p = none → rCat (.ref r1) (.ref p) (upd H1 p (.lst (cutV x a b))) Q :=
  fun r1 H1 Y a b s1 h1 hY lY => ⟨xs, SqL.of (s1 _ _ hl), fun p hp => cat_tx (same_new hp _ _ _ h1) upd_same (by have := cl a b; omega) fun r H' s h => q r H' _ ((s1.trans (same_new hp _)).trans s) h (hY.app (hx.cut _ _)) (by rw [List.length_append]; have := cl a b; omega)⟩
 have one : ∀ (p : Addr) (H1 : Hp) (u : V) (a b a' b' : Option Int), Same H H1 → H1 p = some (.lst (cutV xs a b)) → txV u → ∀ p1, H1 p1 = none → rCat (.ref p) (.ref p1) (upd H1 p1 (.lst [u])) fun x H2 => ∃ x_1, SqL K H2 l x_1 ∧ ∀ p, H2 p = none → rCat x (.ref p) (upd H2 p (.lst (cutV x_1 a' b'))) Q :=
  fun p H1 u a b a' b' s1 h1 tu p1 hp1 => cat_tx (same_new hp1 _ _ _ h1) upd_same (by have := cl a b; show _ + 1 ≤ 1000; omega) fun r1 H2 s2 h2 => tail r1 H2 _ a' b' ((s1.trans (same_new hp1 _)).trans s2) h2 ((hx.cut _ _).app (TxV.one tu)) (by rw [List.length_append, List.length_singleton]; have := cl a b; omega)
 have two : ∀ (a b a' b' : Option Int), ∃ x_2, SqL K H l x_2 ∧ ∀ p, H p = none → ∃ x_3, SqL K (upd H p (HO.lst (cutV x_2 a b))) l x_3 ∧ ∀ p_1, upd H p (HO.lst (cutV x_2 a b)) p_1 = none → rCat (V.ref p) (V.ref p_1) (upd (upd H p (HO.lst (cutV x_2 a b))) p_1 (HO.lst (cutV x_3 a' b'))) Q :=
  fun a b a' b' => ⟨xs, SqL.of hl, fun p hp => tail p _ _ a' b' (same_new hp _) upd_same (hx.cut _ _) (by have := cl a b; omega)⟩
 refine ite2 (fun _ => two _ _ _ _) fun _ => ite2 (fun _ => ⟨xs, SqL.of hl, fun p hp => rIxL_ok (same_new hp _ _ _ hl) hv ⟨o1, one p _ v _ _ _ _ (same_new hp _) upd_same tv⟩⟩) fun _ =>
  ite2 (fun _ => ⟨by show (4 : Nat) ≤ sizeLine; decide, fun p hp => rIxL_ok upd_same hv4 ⟨o1, fun p1 hp1 => cat_tx upd_same (same_new hp1 _ _ _ (same_new hp _ _ _ hl)) (by show 1 + _ ≤ 1000; omega) fun r H' s h => q r H' _ (((same_new hp _).trans (same_new hp1 _)).trans s) h ((TxV.one tv4).app hx) (by rw [List.length_append, List.length_singleton]; omega)⟩⟩) fun _ =>
  ite2 (fun _ => ⟨by show (4 : Nat) ≤ sizeLine; decide, fun p hp => rIxL_ok upd_same hv4 ⟨o1, fun p1 hp1 => cat_tx (same_new hp1 _ _ _ (same_new hp _ _ _ hl)) upd_same (by show _ + 1 ≤ 1000; omega) fun r H' s h => q r H' _ (((same_new hp _).trans (same_new hp1 _)).trans s) h (hx.app (TxV.one tv4)) (by rw [List.length_append, List.length_singleton]; omega)⟩⟩) fun _ =>
  ite2 (fun _ => ⟨xs, SqL.of hl, fun p hp z H1 s1 hz => ⟨o1, one p H1 (.str z) _ _ _ _ ((same_new hp _).trans s1) (s1 _ _ upd_same) hz⟩⟩) fun _ =>
  ite2 (fun _ => ⟨xs, SqL.of hl, fun p hp => ⟨by show (5 : Nat) ≤ sizeLine; decide, fun p1 hp1 => rIxL_ok upd_same hv5 ⟨o1, one p _ v5 _ _ _ _ ((same_new hp _).trans (same_new hp1 _)) (same_new hp1 _ _ _ upd_same) tv5⟩⟩⟩) fun _ =>
  ite2 (fun _ => two _ _ _ _) fun _ => ite2 (fun _ => ⟨xs, SqL.of hl, fun p hp => ⟨o1, one p _ _ _ _ _ _ (same_new hp _) upd_same N0⟩⟩) fun _ =>
  ite2 (fun _ => ⟨o1, fun p hp => cat_tx (same_new hp _ _ _ hl) upd_same (by show _ + 1 ≤ 1000; omega) fun r H' s h => q r H' _ ((same_new hp _).trans s) h (hx.app (TxV.one N0)) (by rw [List.length_append, List.length_singleton]; omega)⟩) fun _ =>
  ⟨Nat.zero_le _, fun p hp => q p _ [] (same_new hp _) upd_same TxV.nil (Nat.zero_le _)⟩
noncomputable abbrev sLaw : Stmt := top 38
theorem scLaw : FnScope ["script", "deck", "words", "k", "cell", "spoiled"] ["script"] (defScope sLaw) := ⟨rfl, rfl, rfl, by decide +kernel, rfl, by decide +kernel, by decide +kernel⟩
theorem hasLaw {f : Addr} {fd : FuncData} (G : Gs w K mg κ) (h_law_next : Has P w K mg base k "_law_next" ["deck"] spNext) (h_law_right : Has P w K mg base k "_law_right" ["text"] spRight) (h_law_spoiled : Has P w K mg base k "_law_spoiled" ["words", "cell"] spSpoiled) (h_law_words : Has P w K mg base k "_law_words" ["deck", "most"] spWords) (F : Fun K "law" "law" sLaw f fd) : FnOk P w K mg base CX0 (k + 1) f fd ["script"] (spLaw K) := by
 refine F.ok scLaw (fun vs H Q E h => ?_) (fun cdv A outer s H vs Q E hr h => ?_)
 ·obtain ⟨_, _, rfl, _, _, _⟩ := h
  rfl
 have nd := scLaw.nd
 have hu := hu_of hr
 have hu0 := Nat.lt_of_succ_lt hu
 obtain ⟨a, ns, rfl, hL, hl0, q⟩ := h
 have m_list := G.m_list
 have m_range := G.m_range
 refine ⟨_, (@pss_cons _ _ _ _ _ (@ps_set _ _ 1 _ _ _ _ nd rfl (by first | exact Or.inl rfl | exact Or.inr rfl) (@pe_lst _ _ _ _ (@pa_cons _ _ _ _ _ (@pe_callTy _ _ _ _ _ _ _ _ _ (@call_list_of _) rfl m_list b_list (@pa_cons _ _ _ _ _ (@pe_slice _ _ _ _ _ _ _ _ _ _ (@sl_list _) (@pvD _ 0 _ _ (by rfl) (by first | exact Or.inl rfl | exact Or.inr (Or.inl rfl) | exact Or.inr (Or.inr rfl)) (by decide) (by decide)) (@po_none _) (@po_some _ _ _ (@pe_int _ _ _ _))) (@pa_nil _) (by rfl)) (by decide) (by decide) (by rfl) (by rfl)) (@pa_cons _ _ _ _ _ (@pe_int _ _ _ _) (@pa_nil _) (by rfl)) (by rfl))) (by rfl) (by first | exact .inl rfl | exact .inr rfl | assumption)) (@pss_cons _ _ _ _ _ (@ps_set _ _ 2 _ _ _ _ nd rfl (by first | exact Or.inl rfl | exact Or.inr rfl) (@pe_has _ _ _ _ _ _ _ _ _ _ h_law_words hr (@pa_cons _ _ _ _ _ (@pvD _ 1 _ _ (by rfl) (by first | exact Or.inl rfl | exact Or.inr (Or.inl rfl) | exact Or.inr (Or.inr rfl)) (by decide) (by decide)) (@pa_cons _ _ _ _ _ (@pe_op _ _ _ _ _ _ _ _ (@op_add _) (@pe_int _ _ _ _) (@pe_op _ _ _ _ _ _ _ _ (@op_mod _) (@pe_has _ _ _ _ _ _ _ _ _ _ h_law_next hr (@pa_cons _ _ _ _ _ (@pvD _ 1 _ _ (by rfl) (by first | exact Or.inl rfl | exact Or.inr (Or.inl rfl) | exact Or.inr (Or.inr rfl)) (by decide) (by decide)) (@pa_nil _) (by rfl)) (by rfl) (by decide +kernel) (by rfl) (by rfl)) (@pe_int _ _ _ _))) (@pa_nil _) (by rfl)) (by rfl)) (by rfl) (by decide +kernel) (by rfl) (by rfl)) (by rfl) (by first | exact .inl rfl | exact .inr rfl | assumption)) (@pss_cons _ _ _ _ _ (@ps_if _ _ _ _ _ _ _ _ (@pt_not _ _ _ _ (@pt_val _ _ _ (@pe_has _ _ _ _ _ _ _ _ _ _ h_law_right hr (@pa_cons _ _ _ _ _ (@pe_bm _ _ _ _ _ _ _ _ _ _ _ _ PySem.F.plainAttrs_str PySem.F.slot_str_join PySem.F.type_str_join (@mt_join _) (@pe_str _ _ _ _) (@pa_cons _ _ _ _ _ (@pvD _ 2 _ _ (by rfl) (by first | exact Or.inl rfl | exact Or.inr (Or.inl rfl) | exact Or.inr (Or.inr rfl)) (by decide) (by decide)) (@pa_nil _) (by rfl)) (by rfl) (by rfl) (by rfl) (by rfl) (by rfl)) (@pa_nil _) (by rfl)) (by rfl) (by decide +kernel) (by rfl) (by rfl)) (by intro _; rfl))) (@pss_one _ _ _ (@ps_ret _ _ _ _ (@pe_bl _ _ _ _))) (@pss_nil _)) (@pss_cons _ _ _ _ _ (@ps_for _ _ _ _ _ _ _ _ PassesOwn.never rfl (@pi_range1 _ _ _ _ _ _ rfl m_range (@pa_cons _ _ _ _ _ (@pe_int _ _ _ _) (@pa_nil _) (by rfl)) (by rfl)) (@pg_name _ _ 3 _ nd rfl (by first | exact Or.inl rfl | exact Or.inr rfl) (by first | exact .inl rfl | exact .inr rfl | assumption)) (@pss_cons _ _ _ _ _ (@ps_set _ _ 4 _ _ _ _ nd rfl (by first | exact Or.inl rfl | exact Or.inr rfl) (@pe_has _ _ _ _ _ _ _ _ _ _ h_law_next hr (@pa_cons _ _ _ _ _ (@pvD _ 1 _ _ (by rfl) (by first | exact Or.inl rfl | exact Or.inr (Or.inl rfl) | exact Or.inr (Or.inr rfl)) (by decide) (by decide)) (@pa_nil _) (by rfl)) (by rfl) (by decide +kernel) (by rfl) (by rfl)) (by rfl) (by first | exact .inl rfl | exact .inr rfl | assumption)) (@pss_cons _ _ _ _ _ (@ps_set _ _ 5 _ _ _ _ nd rfl (by first | exact Or.inl rfl | exact Or.inr rfl) (@pe_has _ _ _ _ _ _ _ _ _ _ h_law_spoiled hr (@pa_cons _ _ _ _ _ (@pvD _ 2 _ _ (by rfl) (by first | exact Or.inl rfl | exact Or.inr (Or.inl rfl) | exact Or.inr (Or.inr rfl)) (by decide) (by decide)) (@pa_cons _ _ _ _ _ (@pvD _ 4 _ _ (by rfl) (by first | exact Or.inl rfl | exact Or.inr (Or.inl rfl) | exact Or.inr (Or.inr rfl)) (by decide) (by decide)) (@pa_nil _) (by rfl)) (by rfl)) (by rfl) (by decide +kernel) (by rfl) (by rfl)) (by rfl) (by first | exact .inl rfl | exact .inr rfl | assumption)) (@pss_cons _ _ _ _ _ (@ps_if _ _ _ _ _ _ _ _ (@PW.pt _ _ _ (@pw_or _ _ _ _ _ _ _ (@pt_not _ _ _ _ (@pt_val _ _ _ (@pe_has _ _ _ _ _ _ _ _ _ _ h_law_right hr (@pa_cons _ _ _ _ _ (@pe_bm _ _ _ _ _ _ _ _ _ _ _ _ PySem.F.plainAttrs_str PySem.F.slot_str_join PySem.F.type_str_join (@mt_join _) (@pe_str _ _ _ _) (@pa_cons _ _ _ _ _ (@pvD _ 5 _ _ (by rfl) (by first | exact Or.inl rfl | exact Or.inr (Or.inl rfl) | exact Or.inr (Or.inr rfl)) (by decide) (by decide)) (@pa_nil _) (by rfl)) (by rfl) (by rfl) (by rfl) (by rfl) (by rfl)) (@pa_nil _) (by rfl)) (by rfl) (by decide +kernel) (by rfl) (by rfl)) (by intro _; rfl))) (@pw_or1 _ _ _ _ (@pt_not _ _ _ _ (@pt_val _ _ _ (@pe_has _ _ _ _ _ _ _ _ _ _ h_law_right hr (@pa_cons _ _ _ _ _ (@pe_bm _ _ _ _ _ _ _ _ _ _ _ _ PySem.F.plainAttrs_str PySem.F.slot_str_join PySem.F.type_str_join (@mt_join _) (@pe_str _ _ _ _) (@pa_cons _ _ _ _ _ (@pvD _ 2 _ _ (by rfl) (by first | exact Or.inl rfl | exact Or.inr (Or.inl rfl) | exact Or.inr (Or.inr rfl)) (by decide) (by decide)) (@pa_nil _) (by rfl)) (by rfl) (by rfl) (by rfl) (by rfl) (by rfl)) (@pa_nil _) (by rfl)) (by rfl) (by decide +kernel) (by rfl) (by rfl)) (by intro _; rfl)))))) (@pss_one _ _ _ (@ps_ret _ _ _ _ (@pe_bl _ _ _ _))) (@pss_nil _)) (@pss_cons _ _ _ _ _ (@ps_if _ _ _ _ _ _ _ _ (@pt_not _ _ _ _ (@pt_val _ _ _ (@pe_has _ _ _ _ _ _ _ _ _ _ h_law_right hr (@pa_cons _ _ _ _ _ (@pe_repl _ _ _ _ _ _ _ _ _ _ _ _ _ _ _ _ _ _ _ (@pe_bm _ _ _ _ _ _ _ _ _ _ _ _ PySem.F.plainAttrs_str PySem.F.slot_str_join PySem.F.type_str_join (@mt_join _) (@pe_str _ _ _ _) (@pa_cons _ _ _ _ _ (@pvD _ 2 _ _ (by rfl) (by first | exact Or.inl rfl | exact Or.inr (Or.inl rfl) | exact Or.inr (Or.inr rfl)) (by decide) (by decide)) (@pa_nil _) (by rfl)) (by rfl) (by rfl) (by rfl) (by rfl) (by rfl)) (@pe_op _ _ _ _ _ _ _ _ (@op_add _) (@pe_int _ _ _ _) (@pe_op _ _ _ _ _ _ _ _ (@op_mod _) (@pvD _ 4 _ _ (by rfl) (by first | exact Or.inl rfl | exact Or.inr (Or.inl rfl) | exact Or.inr (Or.inr rfl)) (by decide) (by decide)) (@pe_int _ _ _ _))) (by decide +kernel) (by decide +kernel) (by rfl) (by rfl)) (@pa_nil _) (by rfl)) (by rfl) (by decide +kernel) (by rfl) (by rfl)) (by intro _; rfl))) (@pss_one _ _ _ (@ps_ret _ _ _ _ (@pe_bl _ _ _ _))) (@pss_nil _)) (@pss_one _ _ _ (@ps_if _ _ _ _ _ _ _ _ (@PW.pt _ _ _ (@pw_or _ _ _ _ _ _ _ (@pt_not _ _ _ _ (@pt_val _ _ _ (@pe_has _ _ _ _ _ _ _ _ _ _ h_law_right hr (@pa_cons _ _ _ _ _ (@pe_op _ _ _ _ _ _ _ _ (@op_add_str _) (@pe_str _ _ _ _) (@pe_bm _ _ _ _ _ _ _ _ _ _ _ _ PySem.F.plainAttrs_str PySem.F.slot_str_join PySem.F.type_str_join (@mt_join _) (@pe_str _ _ _ _) (@pa_cons _ _ _ _ _ (@pvD _ 2 _ _ (by rfl) (by first | exact Or.inl rfl | exact Or.inr (Or.inl rfl) | exact Or.inr (Or.inr rfl)) (by decide) (by decide)) (@pa_nil _) (by rfl)) (by rfl) (by rfl) (by rfl) (by rfl) (by rfl))) (@pa_nil _) (by rfl)) (by rfl) (by decide +kernel) (by rfl) (by rfl)) (by intro _; rfl))) (@pw_or1 _ _ _ _ (@pt_not _ _ _ _ (@pt_val _ _ _ (@pe_has _ _ _ _ _ _ _ _ _ _ h_law_right hr (@pa_cons _ _ _ _ _ (@pe_bm _ _ _ _ _ _ _ _ _ _ _ _ PySem.F.plainAttrs_str PySem.F.slot_str_join PySem.F.type_str_join (@mt_join _) (@pe_str _ _ _ _) (@pa_cons _ _ _ _ _ (@pe_op _ _ _ _ _ _ _ _ (@op_cat _) (@pe_has _ _ _ _ _ _ _ _ _ _ h_law_spoiled hr (@pa_cons _ _ _ _ _ (@pvD _ 2 _ _ (by rfl) (by first | exact Or.inl rfl | exact Or.inr (Or.inl rfl) | exact Or.inr (Or.inr rfl)) (by decide) (by decide)) (@pa_cons _ _ _ _ _ (@pe_op _ _ _ _ _ _ _ _ (@op_fdiv _) (@pvD _ 4 _ _ (by rfl) (by first | exact Or.inl rfl | exact Or.inr (Or.inl rfl) | exact Or.inr (Or.inr rfl)) (by decide) (by decide)) (@pe_int _ _ _ _)) (@pa_nil _) (by rfl)) (by rfl)) (by rfl) (by decide +kernel) (by rfl) (by rfl)) (@pvD _ 2 _ _ (by rfl) (by first | exact Or.inl rfl | exact Or.inr (Or.inl rfl) | exact Or.inr (Or.inr rfl)) (by decide) (by decide))) (@pa_nil _) (by rfl)) (by rfl) (by rfl) (by rfl) (by rfl) (by rfl)) (@pa_nil _) (by rfl)) (by rfl) (by decide +kernel) (by rfl) (by rfl)) (by intro _; rfl)))))) (@pss_one _ _ _ (@ps_ret _ _ _ _ (@pe_bl _ _ _ _))) (@pss_nil _))))))) (by intro _; rfl)) (@pss_one _ _ _ (@ps_ret _ _ _ _ (@pe_and _ _ _ _ _ _ _ (@pe_has _ _ _ _ _ _ _ _ _ _ h_law_right hr (@pa_cons _ _ _ _ _ (@pe_str _ _ _ _) (@pa_nil _) (by rfl)) (by rfl) (by decide +kernel) (by rfl) (by rfl)) (@pe_and _ _ _ _ _ _ _ (@pe_has _ _ _ _ _ _ _ _ _ _ h_law_right hr (@pa_cons _ _ _ _ _ (@pe_str _ _ _ _) (@pa_nil _) (by rfl)) (by rfl) (by decide +kernel) (by rfl) (by rfl)) (@pe_and _ _ _ _ _ _ _ (@pe_has _ _ _ _ _ _ _ _ _ _ h_law_right hr (@pa_cons _ _ _ _ _ (@pe_str _ _ _ _) (@pa_nil _) (by rfl)) (by rfl) (by decide +kernel) (by rfl) (by rfl)) (@pe_one _ _ _ _ _ (@pe_has _ _ _ _ _ _ _ _ _ _ h_law_right hr (@pa_cons _ _ _ _ _ (@pe_str _ _ _ _) (@pa_nil _) (by rfl)) (by rfl) (by decide +kernel) (by rfl) (by rfl)))))))))))), ?_⟩
 rw [show start ["script", "deck", "words", "k", "cell", "spoiled"] [.ref a] = [some (.ref a), none, none, none, none, none] from rfl]
 clear hu hu0 nd hr
 push_cast [spNext, spRight, spSpoiled, spWords]
 have sz := sizeLine_eq
 obtain ⟨ms, em, hms⟩ := cut_ints ns none (some 60)
 refine ⟨ns.map V.int, hL, fun p hp => ?_⟩
 rw [em]
 refine ⟨ms.map V.int, .inl (SqL.of upd_same), fun l hl => ⟨by show (2 : Nat) ≤ sizeLine; decide, fun d hd => ⟨l, ms, 0, ⟨upd_same, same_new hd _ _ _ upd_same⟩, by decide, fun c H1 s1 d1 => ?_⟩⟩⟩
 have D1 : Deck H1 d l ms 1 := Deck.next ⟨upd_same, same_new hd _ _ _ upd_same⟩ s1 d1
 have c0 := Int.emod_nonneg c (show (40 : Int) ≠ 0 by decide)
 have c1 : c % 40 < 40 := Int.emod_lt_of_pos _ (by decide)
 refine ⟨l, ms, (1 + c % 40).toNat, by omega, 1, D1, by omega, by omega, by decide, fun wl n2 H2 xs s2 d2 hn2 hwl h2 hx x1 x2 => ?_⟩
 have nwd : wl ≠ d := (ne_of_none D1.1 hwl).symm
 have D2 := D1.next s2 d2
 obtain ⟨zs, rfl, hzs⟩ := hx.strs
 rw [List.length_map] at x1 x2
 have x2 : zs.length ≤ 40 := by omega
 have hn2 : n2 ≤ 41 := by omega
 clear c0 c1 hms hl0
 obtain ⟨j1, j2, j3⟩ := join_ok hzs (by omega)
 refine ⟨zs, SqL.of h2, j1, by omega, j3, fun H3 s3 => iteF ?_⟩
 have h3 := s3 _ _ h2
 have D3 : Deck H3 d l ms n2 := ⟨s3 _ _ D2.1, s3 _ _ D2.2⟩
 refine forW_range (lo := 0) (n := 8) (fun k σ H' => ∃ (n : Nat) (v3 v4 v5 : Option V), σ = [some (.ref a), some (.ref d), some (.ref wl), v3, v4, v5] ∧ Deck H' d l ms n ∧ H' wl = some (.lst (zs.map V.str)) ∧ n ≤ n2 + k) ⟨n2, none, none, none, rfl, D3, h3, Nat.le_refl _⟩ ?_ ?_
 ·rintro k σ H' hk ⟨n, v3, v4, v5, rfl, hD', hw', hnn⟩
  push_cast [spNext, spSpoiled, spRight, tRepl]
  refine ⟨l, ms, n, hD', by omega, fun c H4 s4 d4 => ?_⟩
  have D4 := hD'.next s4 d4
  have w4 := s4 wl _ nwd hw'
  have ax : TxV (zs.map V.str) := hx
  have n1 : n + 1 ≤ n2 + (k + 1) := by omega
  have lz1 : 1 ≤ (zs.map V.str).length := by rw [List.length_map]; exact x1
  have lz2 : (zs.map V.str).length ≤ 60 := by rw [List.length_map]; omega
  have j2' : (Txt.join (Str.ofString " ") zs).length ≤ 20000 := Nat.le_trans j2 (by decide)
  clear hnn hn2 hk
  refine ⟨zs.map V.str, w4, ax, lz1, lz2, fun sl H5 ys s5 h5 hy ly => ?_⟩
  obtain ⟨us, rfl, hus⟩ := hy.strs
  rw [List.length_map] at ly
  obtain ⟨k1, k2, k3⟩ := join_ok hus (by omega)
  have w5 := s5 _ _ w4
  refine ⟨us, SqL.of h5, k1, Nat.le_trans k2 (by decide), k3, fun H6 s6 => iteF ⟨zs, SqL.of (s6 _ _ w5), j1, j2', j3, fun H7 s7 => iteF ?_⟩⟩
  have w7 := s7 _ _ (s6 _ _ w5)
  have m0 := Int.emod_nonneg c (show (3 : Int) ≠ 0 by decide)
  have m1 : c % 3 < 3 := Int.emod_lt_of_pos _ (by decide)
  have lb : (Str.ofString " ").length = 1 := by decide +kernel
  have nla : asciiS (Str.ofString "\n") := ascii_of (by decide +kernel)
  clear k2
  refine ⟨zs, SqL.of w7, j1, by omega, by omega, Nat.le_trans j2 (by decide), fun t' ht' hc' => ⟨by rw [ht']; exact j2', fun x hx => (hc' x hx).elim (nla x) (j3 x), fun H8 s8 => iteF ⟨zs, SqL.of (s8 _ _ w7), j1, by omega, by rw [Str.length_append]; omega, ascii_app (ascii_of (by decide +kernel)) j3, fun H9 s9 => iteF ?_⟩⟩⟩
  have w9 := s9 _ _ (s8 _ _ w7)
  clear m0 m1 lb j2
  refine ⟨zs.map V.str, w9, ax, lz1, lz2, fun r HA ys sA hA hy lyA => cat_tx hA (sA _ _ w9) (by omega) fun r2 HB sB hB => ⟨r2, rfl, ?_⟩⟩
  obtain ⟨ts, e, hts⟩ := (hy.app ax).strs
  have lts : ts.length ≤ 190 := by
   have := congrArg List.length e
   rw [List.length_append, List.length_map (as := ts)] at this
   omega
  rw [e] at hB
  obtain ⟨k4, k5, k6⟩ := join_ok hts lts
  refine ⟨ts, SqL.of hB, k4, Nat.le_trans k5 (by decide), k6, fun HC sC => iteF ?_⟩
  have sAll := (((((((s5.trans s6).trans s7).trans s8).trans s9).trans sA).trans sB).trans sC)
  exact ⟨n + 1, ⟨sAll _ _ D4.1, sAll _ _ D4.2⟩, sAll _ _ w4, n1⟩
 ·rintro σ H' ⟨n, v3, v4, v5, rfl, hD', hw', hnn⟩
  push_cast [spRight]
  exact ⟨by decide +kernel, ascii_of (by decide +kernel), fun _ _ => ⟨by decide +kernel, ascii_of (by decide +kernel), fun _ _ => ⟨by decide +kernel, ascii_of (by decide +kernel), fun _ _ => ⟨by decide +kernel, ascii_of (by decide +kernel), fun _ _ => q _⟩⟩⟩⟩
end
end K03
namespace K03
open PySem PySem.Spec L2 PyProof.Rows Pc
theorem all_mk {l : PySem.W.OpenLaw} {w : World} {K : PySem.W.Frag} {h : Heap} {mg : Str → Option Value} {fa : Addr} (X : K.In h) (G : h.Ns mainGlobals mg) (hfa : mg "law" = some (.ref fa))
  {f0 f1 f2 f3 f4 f5 f6 f7 f8 f9 f10 f11 f12 f13 f14 f15 f16 f17 g4 g5 : Addr} {od0 an0 od1 an1 od2 an2 od3 an3 od4 an4 od5 an5 od6 an6 od7 an7 od8 an8 od9 an9 od10 an10 od11 an11 od12 an12 od13 an13 od14 an14 od15 an15 od16 an16 od17 an17 gd4 : Option Addr} {sl0 sl1 sl2 sl3 sl4 sl5 sl6 sl7 sl8 sl9 sl10 sl11 sl12 sl13 sl14 sl15 sl16 sl17 gs4 : Array (Option Value)} {oc0 kV0 dc0 pm0 cd0 ct0 oc1 kV1 dc1 pm1 cd1 ct1 oc2 kV2 dc2 pm2 cd2 ct2 oc3 kV3 dc3 pm3 cd3 ct3 oc4 kV4 dc4 pm4 cd4 ct4 oc5 kV5 dc5 pm5 cd5 ct5 oc6 kV6 dc6 pm6 cd6 ct6 oc7 kV7 dc7 pm7 cd7 ct7 oc8 kV8 dc8 pm8 cd8 ct8 oc9 kV9 dc9 pm9 cd9 ct9 oc10 kV10 dc10 pm10 cd10 ct10 oc11 kV11 dc11 pm11 cd11 ct11 oc12 kV12 dc12 pm12 cd12 ct12 oc13 kV13 dc13 pm13 cd13 ct13 oc14 kV14 dc14 pm14 cd14 ct14 oc15 kV15 dc15 pm15 cd15 ct15 oc16 kV16 dc16 pm16 cd16 ct16 oc17 kV17 dc17 pm17 cd17 ct17 : Value} {tk0 tk1 tk2 tk3 gt4x0 gt4x1 gt4x2 gt4x3 gt4x4 gt4x5 gt4x6 gt4x7 gt4x8 gn4 dt5x0 dt5x1 dt5x2 dt5x3 du5x0 du5x1 du5x2 du5x3 dp5 : Nat} {dh5x0 dh5x1 dh5x2 dh5x3 : Int} {e0 e1 e2 e3 e4 e5 e6 e7 e8 e9 e10 e11 eN0 eN1 eN2 eN3 eN4 eN5 eN6 eN7 eN8 eN9 eN10 eN11 : Addr} {enm0 enm1 enm2 enm3 enm4 enm5 enm6 enm7 enm8 enm9 enm10 enm11 eqn0 eqn1 eqn2 eqn3 eqn4 eqn5 eqn6 eqn7 eqn8 eqn9 eqn10 eqn11 : Str} {ebs0 ebs1 ebs2 ebs3 ebs4 ebs5 ebs6 ebs7 ebs8 ebs9 ebs10 ebs11 esu0 esu1 esu2 esu3 esu4 esu5 esu6 esu7 esu8 esu9 esu10 esu11 : List Value} {esn0 esn1 esn2 esn3 esn4 esn5 esn6 esn7 esn8 esn9 esn10 esn11 : List Str} {eab0 eab1 eab2 eab3 eab4 eab5 eab6 eab7 eab8 eab9 eab10 eab11 : Bool} {eco0 eco1 eco2 eco3 eco4 eco5 eco6 eco7 eco8 eco9 eco10 eco11 : Option Bool} {edd0 edd1 edd2 edd3 edd4 edd5 edd6 edd7 edd8 edd9 edd10 edd11 : Option Addr} {eka0 eka1 eka2 eka3 eka4 eka5 eka6 eka7 eka8 eka9 eka10 eka11 ekb0 ekb1 ekb2 ekb3 ekb4 ekb5 ekb6 ekb7 ekb8 ekb9 ekb10 ekb11 ekc0 ekc1 ekc2 ekc3 ekc4 ekc5 ekc6 ekc7 ekc8 ekc9 ekc10 ekc11 ekd0 ekd1 ekd2 ekd3 ekd4 ekd5 ekd6 ekd7 ekd8 ekd9 ekd10 ekd11 eke0 eke1 eke2 eke3 eke4 eke5 eke6 eke7 eke8 eke9 eke10 eke11 : Option Value}
  (a0 : PySem.W.nsIn K mainGlobals "made_of" = some (some (.ref f0)))
  (l0 : K.lookup f0 = some ⟨oc0, od0, .func (PySem.W.fnOf "made_of" "made_of" (defArgs sMade) (defBody sMade) (defScope sMade) .none kV0 dc0 pm0 an0 cd0 ct0), sl0⟩)
  (c0 : PySem.W.codeIn K cd0 "made_of" = true)
  (k0 : PySem.W.keepIn K (.ref f0) = true)
  (a1 : PySem.W.nsIn K mainGlobals "is_name" = some (some (.ref f1)))
  (l1 : K.lookup f1 = some ⟨oc1, od1, .func (PySem.W.fnOf "is_name" "is_name" (defArgs sName) (defBody sName) (defScope sName) .none kV1 dc1 pm1 an1 cd1 ct1), sl1⟩)
  (c1 : PySem.W.codeIn K cd1 "is_name" = true)
  (k1 : PySem.W.keepIn K (.ref f1) = true)
  (a2 : PySem.W.nsIn K mainGlobals "is_number" = some (some (.ref f2)))
  (l2 : K.lookup f2 = some ⟨oc2, od2, .func (PySem.W.fnOf "is_number" "is_number" (defArgs sNum) (defBody sNum) (defScope sNum) .none kV2 dc2 pm2 an2 cd2 ct2), sl2⟩)
  (c2 : PySem.W.codeIn K cd2 "is_number" = true)
  (k2 : PySem.W.keepIn K (.ref f2) = true)
  (a3 : PySem.W.nsIn K mainGlobals "is_term_word" = some (some (.ref f3)))
  (l3 : K.lookup f3 = some ⟨oc3, od3, .func (PySem.W.fnOf "is_term_word" "is_term_word" (defArgs sTermW) (defBody sTermW) (defScope sTermW) .none kV3 dc3 pm3 an3 cd3 ct3), sl3⟩)
  (c3 : PySem.W.codeIn K cd3 "is_term_word" = true)
  (k3 : PySem.W.keepIn K (.ref f3) = true)
  (a4 : PySem.W.nsIn K mainGlobals "how_many_below" = some (some (.ref f4)))
  (l4 : K.lookup f4 = some ⟨oc4, od4, .func (PySem.W.fnOf "how_many_below" "how_many_below" (defArgs sHow) (defBody sHow) (defScope sHow) .none kV4 dc4 pm4 an4 cd4 ct4), sl4⟩)
  (c4 : PySem.W.codeIn K cd4 "how_many_below" = true)
  (k4 : PySem.W.keepIn K (.ref f4) = true)
  (a5 : PySem.W.nsIn K mainGlobals "number_or_text" = some (some (.ref f5)))
  (l5 : K.lookup f5 = some ⟨oc5, od5, .func (PySem.W.fnOf "number_or_text" "number_or_text" (defArgs sNumT) (defBody sNumT) (defScope sNumT) .none kV5 dc5 pm5 an5 cd5 ct5), sl5⟩)
  (c5 : PySem.W.codeIn K cd5 "number_or_text" = true)
  (k5 : PySem.W.keepIn K (.ref f5) = true)
  (a6 : PySem.W.nsIn K mainGlobals "read_word" = some (some (.ref f6)))
  (l6 : K.lookup f6 = some ⟨oc6, od6, .func (PySem.W.fnOf "read_word" "read_word" (defArgs sReadW) (defBody sReadW) (defScope sReadW) .none kV6 dc6 pm6 an6 cd6 ct6), sl6⟩)
  (c6 : PySem.W.codeIn K cd6 "read_word" = true)
  (k6 : PySem.W.keepIn K (.ref f6) = true)
  (a7 : PySem.W.nsIn K mainGlobals "is_one_term" = some (some (.ref f7)))
  (l7 : K.lookup f7 = some ⟨oc7, od7, .func (PySem.W.fnOf "is_one_term" "is_one_term" (defArgs sOne) (defBody sOne) (defScope sOne) .none kV7 dc7 pm7 an7 cd7 ct7), sl7⟩)
  (c7 : PySem.W.codeIn K cd7 "is_one_term" = true)
  (k7 : PySem.W.keepIn K (.ref f7) = true)
  (a8 : PySem.W.nsIn K mainGlobals "read_term" = some (some (.ref f8)))
  (l8 : K.lookup f8 = some ⟨oc8, od8, .func (PySem.W.fnOf "read_term" "read_term" (defArgs sReadT) (defBody sReadT) (defScope sReadT) .none kV8 dc8 pm8 an8 cd8 ct8), sl8⟩)
  (c8 : PySem.W.codeIn K cd8 "read_term" = true)
  (k8 : PySem.W.keepIn K (.ref f8) = true)
  (a9 : PySem.W.nsIn K mainGlobals "_law_good_word" = some (some (.ref f9)))
  (l9 : K.lookup f9 = some ⟨oc9, od9, .func (PySem.W.fnOf "_law_good_word" "_law_good_word" (defArgs sGoodW) (defBody sGoodW) (defScope sGoodW) .none kV9 dc9 pm9 an9 cd9 ct9), sl9⟩)
  (c9 : PySem.W.codeIn K cd9 "_law_good_word" = true)
  (k9 : PySem.W.keepIn K (.ref f9) = true)
  (a10 : PySem.W.nsIn K mainGlobals "_law_good" = some (some (.ref f10)))
  (l10 : K.lookup f10 = some ⟨oc10, od10, .func (PySem.W.fnOf "_law_good" "_law_good" (defArgs sGood) (defBody sGood) (defScope sGood) .none kV10 dc10 pm10 an10 cd10 ct10), sl10⟩)
  (c10 : PySem.W.codeIn K cd10 "_law_good" = true)
  (k10 : PySem.W.keepIn K (.ref f10) = true)
  (a11 : PySem.W.nsIn K mainGlobals "_law_right" = some (some (.ref f11)))
  (l11 : K.lookup f11 = some ⟨oc11, od11, .func (PySem.W.fnOf "_law_right" "_law_right" (defArgs sRight) (defBody sRight) (defScope sRight) .none kV11 dc11 pm11 an11 cd11 ct11), sl11⟩)
  (c11 : PySem.W.codeIn K cd11 "_law_right" = true)
  (k11 : PySem.W.keepIn K (.ref f11) = true)
  (a12 : PySem.W.nsIn K mainGlobals "_law_next" = some (some (.ref f12)))
  (l12 : K.lookup f12 = some ⟨oc12, od12, .func (PySem.W.fnOf "_law_next" "_law_next" (defArgs sNext) (defBody sNext) (defScope sNext) .none kV12 dc12 pm12 an12 cd12 ct12), sl12⟩)
  (c12 : PySem.W.codeIn K cd12 "_law_next" = true)
  (k12 : PySem.W.keepIn K (.ref f12) = true)
  (a13 : PySem.W.nsIn K mainGlobals "_law_words" = some (some (.ref f13)))
  (l13 : K.lookup f13 = some ⟨oc13, od13, .func (PySem.W.fnOf "_law_words" "_law_words" (defArgs sWords) (defBody sWords) (defScope sWords) .none kV13 dc13 pm13 an13 cd13 ct13), sl13⟩)
  (c13 : PySem.W.codeIn K cd13 "_law_words" = true)
  (k13 : PySem.W.keepIn K (.ref f13) = true)
  (a14 : PySem.W.nsIn K mainGlobals "_law_drawn" = some (some (.ref f14)))
  (l14 : K.lookup f14 = some ⟨oc14, od14, .func (PySem.W.fnOf "_law_drawn" "_law_drawn" (defArgs sDrawn) (defBody sDrawn) (defScope sDrawn) .none kV14 dc14 pm14 an14 cd14 ct14), sl14⟩)
  (c14 : PySem.W.codeIn K cd14 "_law_drawn" = true)
  (k14 : PySem.W.keepIn K (.ref f14) = true)
  (a15 : PySem.W.nsIn K mainGlobals "_law_odd" = some (some (.ref f15)))
  (l15 : K.lookup f15 = some ⟨oc15, od15, .func (PySem.W.fnOf "_law_odd" "_law_odd" (defArgs sOdd) (defBody sOdd) (defScope sOdd) .none kV15 dc15 pm15 an15 cd15 ct15), sl15⟩)
  (c15 : PySem.W.codeIn K cd15 "_law_odd" = true)
  (k15 : PySem.W.keepIn K (.ref f15) = true)
  (a16 : PySem.W.nsIn K mainGlobals "_law_spoiled" = some (some (.ref f16)))
  (l16 : K.lookup f16 = some ⟨oc16, od16, .func (PySem.W.fnOf "_law_spoiled" "_law_spoiled" (defArgs sSpoiled) (defBody sSpoiled) (defScope sSpoiled) .none kV16 dc16 pm16 an16 cd16 ct16), sl16⟩)
  (c16 : PySem.W.codeIn K cd16 "_law_spoiled" = true)
  (k16 : PySem.W.keepIn K (.ref f16) = true)
  (a17 : PySem.W.nsIn K mainGlobals "law" = some (some (.ref f17)))
  (l17 : K.lookup f17 = some ⟨oc17, od17, .func (PySem.W.fnOf "law" "law" (defArgs sLaw) (defBody sLaw) (defScope sLaw) .none kV17 dc17 pm17 an17 cd17 ct17), sl17⟩)
  (c17 : PySem.W.codeIn K cd17 "law" = true)
  (k17 : PySem.W.keepIn K (.ref f17) = true)
  (z0 : PySem.W.nsIn K mainGlobals "ValueError" = some none)
  (z1 : PySem.W.nsIn K mainGlobals "all" = some none)
  (z2 : PySem.W.nsIn K mainGlobals "int" = some none)
  (z3 : PySem.W.nsIn K mainGlobals "isinstance" = some none)
  (z4 : PySem.W.nsIn K mainGlobals "len" = some none)
  (z5 : PySem.W.nsIn K mainGlobals "list" = some none)
  (z6 : PySem.W.nsIn K mainGlobals "range" = some none)
  (z7 : PySem.W.nsIn K mainGlobals "str" = some none)
  (z8 : PySem.W.nsIn K mainGlobals "sum" = some none)
  (z9 : PySem.W.nsIn K mainGlobals "tuple" = some none)
  (y0 : PySem.W.nsIn K mainGlobals "LETTERS" = some (some (.str "abcdefghijklmnopqrstuvwxyz" tk0)))
  (y1 : PySem.W.nsIn K mainGlobals "FIGURES" = some (some (.str "0123456789" tk1)))
  (y2 : PySem.W.nsIn K mainGlobals "MOST_LETTERS" = some (some (.int 8 tk2)))
  (y3 : PySem.W.nsIn K mainGlobals "MOST_FIGURES" = some (some (.int 60 tk3)))
  (y4 : PySem.W.nsIn K mainGlobals "KEPT_WORDS" = some (some (.ref g4)))
  (x4 : K.lookup g4 = some ⟨.type "tuple", gd4, .seq #[.str "add" gt4x0, .str "sub" gt4x1, .str "mul" gt4x2, .str "neg" gt4x3, .str "any" gt4x4, .str "var" gt4x5, .str "put" gt4x6, .str "load" gt4x7, .str "out" gt4x8] gn4, gs4⟩)
  (y5 : PySem.W.nsIn K mainGlobals "PARTS_BELOW" = some (some (.ref g5)))
  (x5 : K.lookup g5 = some ⟨.type "dict", none, .dict #[⟨dh5x0, .str "add" dt5x0, .int 2 du5x0⟩, ⟨dh5x1, .str "sub" dt5x1, .int 2 du5x1⟩, ⟨dh5x2, .str "mul" dt5x2, .int 2 du5x2⟩, ⟨dh5x3, .str "neg" dt5x3, .int 1 du5x3⟩] dp5, #[]⟩)
  (hh5x0 : dh5x0 = hashStr w "add")
  (hh5x1 : dh5x1 = hashStr w "sub")
  (hh5x2 : dh5x2 = hashStr w "mul")
  (hh5x3 : dh5x3 = hashStr w "neg")
  (ha5 : (g5 == sysModules) = false)
  (cn0 : PySem.W.nsIn K mainGlobals "CoverError" = some (some (.ref e0)))
  (cl0 : K.lookup e0 = some (excClassObj enm0 eqn0 e0 eN0 ebs0 vbm true esn0 esu0 eab0 eco0 edd0 eka0 ekb0 ekc0 ekd0 eke0 "ValueError.__new__"))
  (ck0 : PySem.W.keepIn K (.ref e0) = true)
  (cs0 : PySem.W.findIn K (.ref e0) "__setattr__" = some (some (.builtin "object.__setattr__")))
  (cg0 : PySem.W.findIn K (.ref e0) "__getattribute__" = some (some (.builtin "BaseException.__getattribute__")))
  (ch0 : PySem.W.findIn K (.ref e0) "__getattr__" = some (none))
  (cc0 : PySem.W.findIn K (.ref e0) "__class__" = some (some (.builtin "object.__class__")))
  (cn1 : PySem.W.nsIn K mainGlobals "NoTerm" = some (some (.ref e1)))
  (cl1 : K.lookup e1 = some (excClassObj enm1 eqn1 e1 eN1 ebs1 (.ref e0 :: vbm) true esn1 esu1 eab1 eco1 edd1 eka1 ekb1 ekc1 ekd1 eke1 "ValueError.__new__"))
  (ck1 : PySem.W.keepIn K (.ref e1) = true)
  (cs1 : PySem.W.findIn K (.ref e1) "__setattr__" = some (some (.builtin "object.__setattr__")))
  (cg1 : PySem.W.findIn K (.ref e1) "__getattribute__" = some (some (.builtin "BaseException.__getattribute__")))
  (ch1 : PySem.W.findIn K (.ref e1) "__getattr__" = some (none))
  (cc1 : PySem.W.findIn K (.ref e1) "__class__" = some (some (.builtin "object.__class__")))
  (cn2 : PySem.W.nsIn K mainGlobals "NoBox" = some (some (.ref e2)))
  (cl2 : K.lookup e2 = some (excClassObj enm2 eqn2 e2 eN2 ebs2 (.ref e0 :: vbm) true esn2 esu2 eab2 eco2 edd2 eka2 ekb2 ekc2 ekd2 eke2 "ValueError.__new__"))
  (ck2 : PySem.W.keepIn K (.ref e2) = true)
  (cs2 : PySem.W.findIn K (.ref e2) "__setattr__" = some (some (.builtin "object.__setattr__")))
  (cg2 : PySem.W.findIn K (.ref e2) "__getattribute__" = some (some (.builtin "BaseException.__getattribute__")))
  (ch2 : PySem.W.findIn K (.ref e2) "__getattr__" = some (none))
  (cc2 : PySem.W.findIn K (.ref e2) "__class__" = some (some (.builtin "object.__class__")))
  (cn3 : PySem.W.nsIn K mainGlobals "BadCover" = some (some (.ref e3)))
  (cl3 : K.lookup e3 = some (excClassObj enm3 eqn3 e3 eN3 ebs3 (.ref e0 :: vbm) true esn3 esu3 eab3 eco3 edd3 eka3 ekb3 ekc3 ekd3 eke3 "ValueError.__new__"))
  (ck3 : PySem.W.keepIn K (.ref e3) = true)
  (cs3 : PySem.W.findIn K (.ref e3) "__setattr__" = some (some (.builtin "object.__setattr__")))
  (cg3 : PySem.W.findIn K (.ref e3) "__getattribute__" = some (some (.builtin "BaseException.__getattribute__")))
  (ch3 : PySem.W.findIn K (.ref e3) "__getattr__" = some (none))
  (cc3 : PySem.W.findIn K (.ref e3) "__class__" = some (some (.builtin "object.__class__")))
  (cn4 : PySem.W.nsIn K mainGlobals "NoCover" = some (some (.ref e4)))
  (cl4 : K.lookup e4 = some (excClassObj enm4 eqn4 e4 eN4 ebs4 (.ref e0 :: vbm) true esn4 esu4 eab4 eco4 edd4 eka4 ekb4 ekc4 ekd4 eke4 "ValueError.__new__"))
  (ck4 : PySem.W.keepIn K (.ref e4) = true)
  (cs4 : PySem.W.findIn K (.ref e4) "__setattr__" = some (some (.builtin "object.__setattr__")))
  (cg4 : PySem.W.findIn K (.ref e4) "__getattribute__" = some (some (.builtin "BaseException.__getattribute__")))
  (ch4 : PySem.W.findIn K (.ref e4) "__getattr__" = some (none))
  (cc4 : PySem.W.findIn K (.ref e4) "__class__" = some (some (.builtin "object.__class__")))
  (cn5 : PySem.W.nsIn K mainGlobals "BadRow" = some (some (.ref e5)))
  (cl5 : K.lookup e5 = some (excClassObj enm5 eqn5 e5 eN5 ebs5 (.ref e0 :: vbm) true esn5 esu5 eab5 eco5 edd5 eka5 ekb5 ekc5 ekd5 eke5 "ValueError.__new__"))
  (ck5 : PySem.W.keepIn K (.ref e5) = true)
  (cs5 : PySem.W.findIn K (.ref e5) "__setattr__" = some (some (.builtin "object.__setattr__")))
  (cg5 : PySem.W.findIn K (.ref e5) "__getattribute__" = some (some (.builtin "BaseException.__getattribute__")))
  (ch5 : PySem.W.findIn K (.ref e5) "__getattr__" = some (none))
  (cc5 : PySem.W.findIn K (.ref e5) "__class__" = some (some (.builtin "object.__class__")))
  (cn6 : PySem.W.nsIn K mainGlobals "NoValue" = some (some (.ref e6)))
  (cl6 : K.lookup e6 = some (excClassObj enm6 eqn6 e6 eN6 ebs6 (.ref e0 :: vbm) true esn6 esu6 eab6 eco6 edd6 eka6 ekb6 ekc6 ekd6 eke6 "ValueError.__new__"))
  (ck6 : PySem.W.keepIn K (.ref e6) = true)
  (cs6 : PySem.W.findIn K (.ref e6) "__setattr__" = some (some (.builtin "object.__setattr__")))
  (cg6 : PySem.W.findIn K (.ref e6) "__getattribute__" = some (some (.builtin "BaseException.__getattribute__")))
  (ch6 : PySem.W.findIn K (.ref e6) "__getattr__" = some (none))
  (cc6 : PySem.W.findIn K (.ref e6) "__class__" = some (some (.builtin "object.__class__")))
  (cn7 : PySem.W.nsIn K mainGlobals "Twice" = some (some (.ref e7)))
  (cl7 : K.lookup e7 = some (excClassObj enm7 eqn7 e7 eN7 ebs7 (.ref e0 :: vbm) true esn7 esu7 eab7 eco7 edd7 eka7 ekb7 ekc7 ekd7 eke7 "ValueError.__new__"))
  (ck7 : PySem.W.keepIn K (.ref e7) = true)
  (cs7 : PySem.W.findIn K (.ref e7) "__setattr__" = some (some (.builtin "object.__setattr__")))
  (cg7 : PySem.W.findIn K (.ref e7) "__getattribute__" = some (some (.builtin "BaseException.__getattribute__")))
  (ch7 : PySem.W.findIn K (.ref e7) "__getattr__" = some (none))
  (cc7 : PySem.W.findIn K (.ref e7) "__class__" = some (some (.builtin "object.__class__")))
  (cn8 : PySem.W.nsIn K mainGlobals "NoName" = some (some (.ref e8)))
  (cl8 : K.lookup e8 = some (excClassObj enm8 eqn8 e8 eN8 ebs8 (.ref e0 :: vbm) true esn8 esu8 eab8 eco8 edd8 eka8 ekb8 ekc8 ekd8 eke8 "ValueError.__new__"))
  (ck8 : PySem.W.keepIn K (.ref e8) = true)
  (cs8 : PySem.W.findIn K (.ref e8) "__setattr__" = some (some (.builtin "object.__setattr__")))
  (cg8 : PySem.W.findIn K (.ref e8) "__getattribute__" = some (some (.builtin "BaseException.__getattribute__")))
  (ch8 : PySem.W.findIn K (.ref e8) "__getattr__" = some (none))
  (cc8 : PySem.W.findIn K (.ref e8) "__class__" = some (some (.builtin "object.__class__")))
  (cn9 : PySem.W.nsIn K mainGlobals "BadShape" = some (some (.ref e9)))
  (cl9 : K.lookup e9 = some (excClassObj enm9 eqn9 e9 eN9 ebs9 (.ref e0 :: vbm) true esn9 esu9 eab9 eco9 edd9 eka9 ekb9 ekc9 ekd9 eke9 "ValueError.__new__"))
  (ck9 : PySem.W.keepIn K (.ref e9) = true)
  (cs9 : PySem.W.findIn K (.ref e9) "__setattr__" = some (some (.builtin "object.__setattr__")))
  (cg9 : PySem.W.findIn K (.ref e9) "__getattribute__" = some (some (.builtin "BaseException.__getattribute__")))
  (ch9 : PySem.W.findIn K (.ref e9) "__getattr__" = some (none))
  (cc9 : PySem.W.findIn K (.ref e9) "__class__" = some (some (.builtin "object.__class__")))
  (cn10 : PySem.W.nsIn K mainGlobals "BadDeed" = some (some (.ref e10)))
  (cl10 : K.lookup e10 = some (excClassObj enm10 eqn10 e10 eN10 ebs10 (.ref e0 :: vbm) true esn10 esu10 eab10 eco10 edd10 eka10 ekb10 ekc10 ekd10 eke10 "ValueError.__new__"))
  (ck10 : PySem.W.keepIn K (.ref e10) = true)
  (cs10 : PySem.W.findIn K (.ref e10) "__setattr__" = some (some (.builtin "object.__setattr__")))
  (cg10 : PySem.W.findIn K (.ref e10) "__getattribute__" = some (some (.builtin "BaseException.__getattribute__")))
  (ch10 : PySem.W.findIn K (.ref e10) "__getattr__" = some (none))
  (cc10 : PySem.W.findIn K (.ref e10) "__class__" = some (some (.builtin "object.__class__")))
  (cn11 : PySem.W.nsIn K mainGlobals "Unsound" = some (some (.ref e11)))
  (cl11 : K.lookup e11 = some (excClassObj enm11 eqn11 e11 eN11 ebs11 (.ref e0 :: vbm) true esn11 esu11 eab11 eco11 edd11 eka11 ekb11 ekc11 ekd11 eke11 "ValueError.__new__"))
  (ck11 : PySem.W.keepIn K (.ref e11) = true)
  (cs11 : PySem.W.findIn K (.ref e11) "__setattr__" = some (some (.builtin "object.__setattr__")))
  (cg11 : PySem.W.findIn K (.ref e11) "__getattribute__" = some (some (.builtin "BaseException.__getattribute__")))
  (ch11 : PySem.W.findIn K (.ref e11) "__getattr__" = some (none))
  (cc11 : PySem.W.findIn K (.ref e11) "__class__" = some (some (.builtin "object.__class__")))
  (crd : PySem.W.readsIn K e0 (.type "type") = true)
  (cty : PySem.W.typeIn K (.ref e0) = some (.type "type"))
  (cfi : PySem.W.findCls K (.ref e0) (.type "type") "__init__" = some (.val (.builtin "ValueError.__init__")))
  (ndup : ([e0, e1, e2, e3, e4, e5, e6, e7, e8, e9, e10, e11] : List Addr).Nodup)
  (ip1 : PySem.W.findIn K (.ref e1) "__init__" = some (some (.builtin "ValueError.__init__"))) :
  ∃ fd : FuncData, (∀ (s : Shared) (v : Value), BindsTo s fd ⟨[v], []⟩ [("script", v)]) ∧ ∀ base : Heap, K.In base → base.Ns mainGlobals mg → FnOk l.prog w K mg base CX0 7 fa fd ["script"] (spLaw K) := by
 have e := hfa.symm.trans (PySem.W.mg_of X G a17)
 cases e
 have G0 : Gs w K mg ⟨e0, e1, e2, e3, e4, e5, e6, e7, e8, e9, e10, e11⟩ := ⟨⟨ndup, PySem.W.mg_of X G cn0, PySem.W.mg_of X G cn1, PySem.W.mg_of X G cn2, PySem.W.mg_of X G cn3, PySem.W.mg_of X G cn4, PySem.W.mg_of X G cn5, PySem.W.mg_of X G cn6, PySem.W.mg_of X G cn7, PySem.W.mg_of X G cn8, PySem.W.mg_of X G cn9, PySem.W.mg_of X G cn10, PySem.W.mg_of X G cn11, Xc.mk' cl0 ck0 cs0 cg0 ch0 cc0 (.inl rfl), Xc.mk' cl1 ck1 cs1 cg1 ch1 cc1 (.inr ⟨_, rfl⟩), Xc.mk' cl2 ck2 cs2 cg2 ch2 cc2 (.inr ⟨_, rfl⟩), Xc.mk' cl3 ck3 cs3 cg3 ch3 cc3 (.inr ⟨_, rfl⟩), Xc.mk' cl4 ck4 cs4 cg4 ch4 cc4 (.inr ⟨_, rfl⟩), Xc.mk' cl5 ck5 cs5 cg5 ch5 cc5 (.inr ⟨_, rfl⟩), Xc.mk' cl6 ck6 cs6 cg6 ch6 cc6 (.inr ⟨_, rfl⟩), Xc.mk' cl7 ck7 cs7 cg7 ch7 cc7 (.inr ⟨_, rfl⟩), Xc.mk' cl8 ck8 cs8 cg8 ch8 cc8 (.inr ⟨_, rfl⟩), Xc.mk' cl9 ck9 cs9 cg9 ch9 cc9 (.inr ⟨_, rfl⟩), Xc.mk' cl10 ck10 cs10 cg10 ch10 cc10 (.inr ⟨_, rfl⟩), Xc.mk' cl11 ck11 cs11 cg11 ch11 cc11 (.inr ⟨_, rfl⟩), crd, cty, cfi⟩, ip1, PySem.W.mg_none_of X G z0, PySem.W.mg_none_of X G z1, PySem.W.mg_none_of X G z2, PySem.W.mg_none_of X G z3, PySem.W.mg_none_of X G z4, PySem.W.mg_none_of X G z5, PySem.W.mg_none_of X G z6, PySem.W.mg_none_of X G z7, PySem.W.mg_none_of X G z8, PySem.W.mg_none_of X G z9, ⟨_, PySem.W.mg_of X G y0⟩, ⟨_, PySem.W.mg_of X G y1⟩, ⟨_, PySem.W.mg_of X G y2⟩, ⟨_, PySem.W.mg_of X G y3⟩, ⟨g4, PySem.W.mg_of X G y4, fun H => .inr ⟨_, _, _, x4, rfl, rfl, (by show (9 : Nat) ≤ sizeLine; decide), (.cons ⟨_, rfl⟩ (.cons ⟨_, rfl⟩ (.cons ⟨_, rfl⟩ (.cons ⟨_, rfl⟩ (.cons ⟨_, rfl⟩ (.cons ⟨_, rfl⟩ (.cons ⟨_, rfl⟩ (.cons ⟨_, rfl⟩ (.cons ⟨_, rfl⟩ .nil)))))))))⟩⟩, ⟨g5, PySem.W.mg_of X G y5, modD_mk [(dh5x0, "add", dt5x0, 2, du5x0), (dh5x1, "sub", dt5x1, 2, du5x1), (dh5x2, "mul", dt5x2, 2, du5x2), (dh5x3, "neg", dt5x3, 1, du5x3)] x5 ha5 (by intro e he; simp only [List.mem_cons, List.not_mem_nil, or_false] at he; rcases he with rfl | rfl | rfl | rfl <;> assumption) (by show List.Nodup ([Sum.inr "add", Sum.inr "sub", Sum.inr "mul", Sum.inr "neg"] : List Key); decide +kernel)⟩⟩
 have F0 := fun_mk (st := sMade) l0 c0 k0
 have D0 : Def K mg "made_of" sMade ["text", "signs"] := ⟨f0, _, F0, F0.binds (ps := ["text", "signs"]) (fun _ _ _ _ _ _ us hl => by refine us2 (P := fun us => bindArgs _ ⟨us, []⟩ = pure (List.zip _ us)) hl ?_; intros; rfl), PySem.W.mg_of X G a0⟩
 have F1 := fun_mk (st := sName) l1 c1 k1
 have D1 : Def K mg "is_name" sName ["word"] := ⟨f1, _, F1, F1.binds (ps := ["word"]) (fun _ _ _ _ _ _ us hl => by refine us1 (P := fun us => bindArgs _ ⟨us, []⟩ = pure (List.zip _ us)) hl ?_; intros; rfl), PySem.W.mg_of X G a1⟩
 have F2 := fun_mk (st := sNum) l2 c2 k2
 have D2 : Def K mg "is_number" sNum ["word"] := ⟨f2, _, F2, F2.binds (ps := ["word"]) (fun _ _ _ _ _ _ us hl => by refine us1 (P := fun us => bindArgs _ ⟨us, []⟩ = pure (List.zip _ us)) hl ?_; intros; rfl), PySem.W.mg_of X G a2⟩
 have F3 := fun_mk (st := sTermW) l3 c3 k3
 have D3 : Def K mg "is_term_word" sTermW ["word"] := ⟨f3, _, F3, F3.binds (ps := ["word"]) (fun _ _ _ _ _ _ us hl => by refine us1 (P := fun us => bindArgs _ ⟨us, []⟩ = pure (List.zip _ us)) hl ?_; intros; rfl), PySem.W.mg_of X G a3⟩
 have F4 := fun_mk (st := sHow) l4 c4 k4
 have D4 : Def K mg "how_many_below" sHow ["word"] := ⟨f4, _, F4, F4.binds (ps := ["word"]) (fun _ _ _ _ _ _ us hl => by refine us1 (P := fun us => bindArgs _ ⟨us, []⟩ = pure (List.zip _ us)) hl ?_; intros; rfl), PySem.W.mg_of X G a4⟩
 have F5 := fun_mk (st := sNumT) l5 c5 k5
 have D5 : Def K mg "number_or_text" sNumT ["word"] := ⟨f5, _, F5, F5.binds (ps := ["word"]) (fun _ _ _ _ _ _ us hl => by refine us1 (P := fun us => bindArgs _ ⟨us, []⟩ = pure (List.zip _ us)) hl ?_; intros; rfl), PySem.W.mg_of X G a5⟩
 have F6 := fun_mk (st := sReadW) l6 c6 k6
 have D6 : Def K mg "read_word" sReadW ["word"] := ⟨f6, _, F6, F6.binds (ps := ["word"]) (fun _ _ _ _ _ _ us hl => by refine us1 (P := fun us => bindArgs _ ⟨us, []⟩ = pure (List.zip _ us)) hl ?_; intros; rfl), PySem.W.mg_of X G a6⟩
 have F7 := fun_mk (st := sOne) l7 c7 k7
 have D7 : Def K mg "is_one_term" sOne ["words"] := ⟨f7, _, F7, F7.binds (ps := ["words"]) (fun _ _ _ _ _ _ us hl => by refine us1 (P := fun us => bindArgs _ ⟨us, []⟩ = pure (List.zip _ us)) hl ?_; intros; rfl), PySem.W.mg_of X G a7⟩
 have F8 := fun_mk (st := sReadT) l8 c8 k8
 have D8 : Def K mg "read_term" sReadT ["text"] := ⟨f8, _, F8, F8.binds (ps := ["text"]) (fun _ _ _ _ _ _ us hl => by refine us1 (P := fun us => bindArgs _ ⟨us, []⟩ = pure (List.zip _ us)) hl ?_; intros; rfl), PySem.W.mg_of X G a8⟩
 have F9 := fun_mk (st := sGoodW) l9 c9 k9
 have D9 : Def K mg "_law_good_word" sGoodW ["word"] := ⟨f9, _, F9, F9.binds (ps := ["word"]) (fun _ _ _ _ _ _ us hl => by refine us1 (P := fun us => bindArgs _ ⟨us, []⟩ = pure (List.zip _ us)) hl ?_; intros; rfl), PySem.W.mg_of X G a9⟩
 have F10 := fun_mk (st := sGood) l10 c10 k10
 have D10 : Def K mg "_law_good" sGood ["text"] := ⟨f10, _, F10, F10.binds (ps := ["text"]) (fun _ _ _ _ _ _ us hl => by refine us1 (P := fun us => bindArgs _ ⟨us, []⟩ = pure (List.zip _ us)) hl ?_; intros; rfl), PySem.W.mg_of X G a10⟩
 have F11 := fun_mk (st := sRight) l11 c11 k11
 have D11 : Def K mg "_law_right" sRight ["text"] := ⟨f11, _, F11, F11.binds (ps := ["text"]) (fun _ _ _ _ _ _ us hl => by refine us1 (P := fun us => bindArgs _ ⟨us, []⟩ = pure (List.zip _ us)) hl ?_; intros; rfl), PySem.W.mg_of X G a11⟩
 have F12 := fun_mk (st := sNext) l12 c12 k12
 have D12 : Def K mg "_law_next" sNext ["deck"] := ⟨f12, _, F12, F12.binds (ps := ["deck"]) (fun _ _ _ _ _ _ us hl => by refine us1 (P := fun us => bindArgs _ ⟨us, []⟩ = pure (List.zip _ us)) hl ?_; intros; rfl), PySem.W.mg_of X G a12⟩
 have F13 := fun_mk (st := sWords) l13 c13 k13
 have D13 : Def K mg "_law_words" sWords ["deck", "most"] := ⟨f13, _, F13, F13.binds (ps := ["deck", "most"]) (fun _ _ _ _ _ _ us hl => by refine us2 (P := fun us => bindArgs _ ⟨us, []⟩ = pure (List.zip _ us)) hl ?_; intros; rfl), PySem.W.mg_of X G a13⟩
 have F14 := fun_mk (st := sDrawn) l14 c14 k14
 have D14 : Def K mg "_law_drawn" sDrawn ["cell"] := ⟨f14, _, F14, F14.binds (ps := ["cell"]) (fun _ _ _ _ _ _ us hl => by refine us1 (P := fun us => bindArgs _ ⟨us, []⟩ = pure (List.zip _ us)) hl ?_; intros; rfl), PySem.W.mg_of X G a14⟩
 have F15 := fun_mk (st := sOdd) l15 c15 k15
 have D15 : Def K mg "_law_odd" sOdd ["cell"] := ⟨f15, _, F15, F15.binds (ps := ["cell"]) (fun _ _ _ _ _ _ us hl => by refine us1 (P := fun us => bindArgs _ ⟨us, []⟩ = pure (List.zip _ us)) hl ?_; intros; rfl), PySem.W.mg_of X G a15⟩
 have F16 := fun_mk (st := sSpoiled) l16 c16 k16
 have D16 : Def K mg "_law_spoiled" sSpoiled ["words", "cell"] := ⟨f16, _, F16, F16.binds (ps := ["words", "cell"]) (fun _ _ _ _ _ _ us hl => by refine us2 (P := fun us => bindArgs _ ⟨us, []⟩ = pure (List.zip _ us)) hl ?_; intros; rfl), PySem.W.mg_of X G a16⟩
 have F17 := fun_mk (st := sLaw) l17 c17 k17
 refine ⟨PySem.W.fnOf "law" "law" (defArgs sLaw) (defBody sLaw) (defScope sLaw) .none kV17 dc17 pm17 an17 cd17 ct17, fun s v => .of_eq rfl, fun base _ _ => ?_⟩
 have H0 : Has l.prog w K mg base 1 "made_of" ["text", "signs"] spMade := hasMade (k := 0) G0   D0
 have H1 : Has l.prog w K mg base 2 "is_name" ["word"] spName := hasName (k := 1) G0 (H0.up (by decide))  D1
 have H2 : Has l.prog w K mg base 2 "is_number" ["word"] spNum := hasNum (k := 1) G0 (H0.up (by decide))  D2
 have H3 : Has l.prog w K mg base 3 "is_term_word" ["word"] spTW := hasTermW (k := 2) G0 (H1.up (by decide)) (H2.up (by decide))  D3
 have H4 : Has l.prog w K mg base 1 "how_many_below" ["word"] spHow := hasHow (k := 0) G0   D4
 have H5 : Has l.prog w K mg base 3 "number_or_text" ["word"] spNumT := hasNumT (k := 2) G0 (H2.up (by decide))  D5
 have H6 : HasX l.prog w K mg base 4 "read_word" ["word"] (spReadW (Cl.mk e0 e1 e2 e3 e4 e5 e6 e7 e8 e9 e10 e11)) := hasReadW (k := 3) G0 (H3.up (by decide)) (H5.up (by decide))  D6
 have H7 : Has l.prog w K mg base 2 "is_one_term" ["words"] (spOne K) := hasOne (k := 1) G0 (H4.up (by decide))  D7
 have H8 : HasX l.prog w K mg base 5 "read_term" ["text"] (spReadT (Cl.mk e0 e1 e2 e3 e4 e5 e6 e7 e8 e9 e10 e11)) := hasReadT (k := 4) G0 (H7.up (by decide)) (H6.up (by decide))  D8
 have H9 : Has l.prog w K mg base 1 "_law_good_word" ["word"] spTW := hasGoodW (k := 0) G0   D9
 have H10 : Has l.prog w K mg base 2 "_law_good" ["text"] spGood := hasGood (k := 1) G0 (H9.up (by decide))  D10
 have H11 : Has l.prog w K mg base 6 "_law_right" ["text"] spRight := hasRight (k := 5) G0 (H10.up (by decide)) (H8.up (by decide))  D11
 have H12 : Has l.prog w K mg base 1 "_law_next" ["deck"] spNext := hasNext (k := 0) G0   D12
 have H13 : Has l.prog w K mg base 2 "_law_words" ["deck", "most"] spWords := hasWords (k := 1) G0 (H12.up (by decide))  D13
 have H14 : Has l.prog w K mg base 1 "_law_drawn" ["cell"] spDrawn := hasDrawn (k := 0) G0   D14
 have H15 : Has l.prog w K mg base 2 "_law_odd" ["cell"] spDrawn := hasOdd (k := 1) G0 (H14.up (by decide))  D15
 have H16 : Has l.prog w K mg base 3 "_law_spoiled" ["words", "cell"] spSpoiled := hasSpoiled (k := 2) G0 (H15.up (by decide))  D16
 exact hasLaw (k := 6) G0 (H12.up (by decide)) (H11.up (by decide)) (H16.up (by decide)) (H13.up (by decide))  F17
theorem walk {l : PySem.W.OpenLaw} {q : Program} {loose : List Str} {XP : (Str → Option Value) → Heap → Prop} {YP : World → Heap → Prop} {d : DefRec} {K : Params → PySem.W.Frag} (hn : l.most = some 63) (hdf : d.params.defaults = [])
  (hY : ∀ (w : World) (h : Heap), YP w h → (K w.params).In h)
  (F : ∀ (w : World) (mg : Str → Option Value) (fa : Addr) (h : Heap), (K w.params).In h → h.Ns mainGlobals mg → mg d.name = some (.ref fa) →
   ∃ fd : FuncData, (∀ (s : Shared) (u : Value), BindsTo s fd ⟨[u], []⟩ [("script", u)]) ∧ ∀ base : Heap, (K w.params).In base → base.Ns mainGlobals mg → FnOk l.prog w (K w.params) mg base CX0 7 fa fd ["script"] (spLaw (K w.params))) :
  PySem.W.WalkO q loose XP YP l.row.toRowW d [] (fun f vs => PySem.call f vs) :=
 L2.walk_of (n := 63) (k := 7) (x := "script") (CX := fun _ => CX0) (sp := fun w => spLaw (K w.params)) hn (by decide) hdf ⟨rfl, by decide, by decide⟩ hY F (fun _ _ a ns hl _ hS => ⟨a, ns, rfl, hS, hl, fun _ => rfl⟩) fun _ _ _ _ _ z => z
end K03
open PySem PySem.W PyProof.Rows
set_option maxRecDepth 100000 in
set_option maxHeartbeats 0 in
theorem PySem.Challenge.cw_pricecover_k03_no_term_holds : PySem.Challenge.rw_pricecover_k03_no_term.Holds := by
 w_on; o_law; k_head; (case hw => w_witness2)
 k_fill
 refine K03.walk (l := PySem.Challenge.rw_pricecover_k03_no_term) rfl rfl (fun w h Y => PySem.W.kIn_of Y) ?F
 case F =>
  intro w mg fa h KX G hmg
  refine' K03.all_mk KX G hmg ?a0 ?l0 ?c0 ?k0 ?a1 ?l1 ?c1 ?k1 ?a2 ?l2 ?c2 ?k2 ?a3 ?l3 ?c3 ?k3 ?a4 ?l4 ?c4 ?k4 ?a5 ?l5 ?c5 ?k5 ?a6 ?l6 ?c6 ?k6 ?a7 ?l7 ?c7 ?k7 ?a8 ?l8 ?c8 ?k8 ?a9 ?l9 ?c9 ?k9 ?a10 ?l10 ?c10 ?k10 ?a11 ?l11 ?c11 ?k11 ?a12 ?l12 ?c12 ?k12 ?a13 ?l13 ?c13 ?k13 ?a14 ?l14 ?c14 ?k14 ?a15 ?l15 ?c15 ?k15 ?a16 ?l16 ?c16 ?k16 ?a17 ?l17 ?c17 ?k17 ?z0 ?z1 ?z2 ?z3 ?z4 ?z5 ?z6 ?z7 ?z8 ?z9 ?y0 ?y1 ?y2 ?y3 ?y4 ?x4 ?y5 ?x5 ?hh5x0 ?hh5x1 ?hh5x2 ?hh5x3 ?ha5 ?cn0 ?cl0 ?ck0 ?cs0 ?cg0 ?ch0 ?cc0 ?cn1 ?cl1 ?ck1 ?cs1 ?cg1 ?ch1 ?cc1 ?cn2 ?cl2 ?ck2 ?cs2 ?cg2 ?ch2 ?cc2 ?cn3 ?cl3 ?ck3 ?cs3 ?cg3 ?ch3 ?cc3 ?cn4 ?cl4 ?ck4 ?cs4 ?cg4 ?ch4 ?cc4 ?cn5 ?cl5 ?ck5 ?cs5 ?cg5 ?ch5 ?cc5 ?cn6 ?cl6 ?ck6 ?cs6 ?cg6 ?ch6 ?cc6 ?cn7 ?cl7 ?ck7 ?cs7 ?cg7 ?ch7 ?cc7 ?cn8 ?cl8 ?ck8 ?cs8 ?cg8 ?ch8 ?cc8 ?cn9 ?cl9 ?ck9 ?cs9 ?cg9 ?ch9 ?cc9 ?cn10 ?cl10 ?ck10 ?cs10 ?cg10 ?ch10 ?cc10 ?cn11 ?cl11 ?ck11 ?cs11 ?cg11 ?ch11 ?cc11 ?crd ?cty ?cfi ?ndup ?ip1
  (case a0 => k_is)
  (case l0 => k_is)
  (case c0 => k_is)
  (case k0 => k_is)
  (case a1 => k_is)
  (case l1 => k_is)
  (case c1 => k_is)
  (case k1 => k_is)
  (case a2 => k_is)
  (case l2 => k_is)
  (case c2 => k_is)
  (case k2 => k_is)
  (case a3 => k_is)
  (case l3 => k_is)
  (case c3 => k_is)
  (case k3 => k_is)
  (case a4 => k_is)
  (case l4 => k_is)
  (case c4 => k_is)
  (case k4 => k_is)
  (case a5 => k_is)
  (case l5 => k_is)
  (case c5 => k_is)
  (case k5 => k_is)
  (case a6 => k_is)
  (case l6 => k_is)
  (case c6 => k_is)
  (case k6 => k_is)
  (case a7 => k_is)
  (case l7 => k_is)
  (case c7 => k_is)
  (case k7 => k_is)
  (case a8 => k_is)
  (case l8 => k_is)
  (case c8 => k_is)
  (case k8 => k_is)
  (case a9 => k_is)
  (case l9 => k_is)
  (case c9 => k_is)
  (case k9 => k_is)
  (case a10 => k_is)
  (case l10 => k_is)
  (case c10 => k_is)
  (case k10 => k_is)
  (case a11 => k_is)
  (case l11 => k_is)
  (case c11 => k_is)
  (case k11 => k_is)
  (case a12 => k_is)
  (case l12 => k_is)
  (case c12 => k_is)
  (case k12 => k_is)
  (case a13 => k_is)
  (case l13 => k_is)
  (case c13 => k_is)
  (case k13 => k_is)
  (case a14 => k_is)
  (case l14 => k_is)
  (case c14 => k_is)
  (case k14 => k_is)
  (case a15 => k_is)
  (case l15 => k_is)
  (case c15 => k_is)
  (case k15 => k_is)
  (case a16 => k_is)
  (case l16 => k_is)
  (case c16 => k_is)
  (case k16 => k_is)
  (case a17 => k_is)
  (case l17 => k_is)
  (case c17 => k_is)
  (case k17 => k_is)
  (case z0 => k_is)
  (case z1 => k_is)
  (case z2 => k_is)
  (case z3 => k_is)
  (case z4 => k_is)
  (case z5 => k_is)
  (case z6 => k_is)
  (case z7 => k_is)
  (case z8 => k_is)
  (case z9 => k_is)
  (case y0 => k_is)
  (case y1 => k_is)
  (case y2 => k_is)
  (case y3 => k_is)
  (case y4 => k_is)
  (case x4 => k_is)
  (case y5 => k_is)
  (case x5 => k_is)
  (case hh5x0 => first | rfl | k_is)
  (case hh5x1 => first | rfl | k_is)
  (case hh5x2 => first | rfl | k_is)
  (case hh5x3 => first | rfl | k_is)
  (case ha5 => first | rfl | decide | k_is)
  (case cn0 => k_is)
  (case cl0 => k_is)
  (case ck0 => k_is)
  (case cs0 => k_is)
  (case cg0 => k_is)
  (case ch0 => k_is)
  (case cc0 => k_is)
  (case cn1 => k_is)
  (case cl1 => k_is)
  (case ck1 => k_is)
  (case cs1 => k_is)
  (case cg1 => k_is)
  (case ch1 => k_is)
  (case cc1 => k_is)
  (case cn2 => k_is)
  (case cl2 => k_is)
  (case ck2 => k_is)
  (case cs2 => k_is)
  (case cg2 => k_is)
  (case ch2 => k_is)
  (case cc2 => k_is)
  (case cn3 => k_is)
  (case cl3 => k_is)
  (case ck3 => k_is)
  (case cs3 => k_is)
  (case cg3 => k_is)
  (case ch3 => k_is)
  (case cc3 => k_is)
  (case cn4 => k_is)
  (case cl4 => k_is)
  (case ck4 => k_is)
  (case cs4 => k_is)
  (case cg4 => k_is)
  (case ch4 => k_is)
  (case cc4 => k_is)
  (case cn5 => k_is)
  (case cl5 => k_is)
  (case ck5 => k_is)
  (case cs5 => k_is)
  (case cg5 => k_is)
  (case ch5 => k_is)
  (case cc5 => k_is)
  (case cn6 => k_is)
  (case cl6 => k_is)
  (case ck6 => k_is)
  (case cs6 => k_is)
  (case cg6 => k_is)
  (case ch6 => k_is)
  (case cc6 => k_is)
  (case cn7 => k_is)
  (case cl7 => k_is)
  (case ck7 => k_is)
  (case cs7 => k_is)
  (case cg7 => k_is)
  (case ch7 => k_is)
  (case cc7 => k_is)
  (case cn8 => k_is)
  (case cl8 => k_is)
  (case ck8 => k_is)
  (case cs8 => k_is)
  (case cg8 => k_is)
  (case ch8 => k_is)
  (case cc8 => k_is)
  (case cn9 => k_is)
  (case cl9 => k_is)
  (case ck9 => k_is)
  (case cs9 => k_is)
  (case cg9 => k_is)
  (case ch9 => k_is)
  (case cc9 => k_is)
  (case cn10 => k_is)
  (case cl10 => k_is)
  (case ck10 => k_is)
  (case cs10 => k_is)
  (case cg10 => k_is)
  (case ch10 => k_is)
  (case cc10 => k_is)
  (case cn11 => k_is)
  (case cl11 => k_is)
  (case ck11 => k_is)
  (case cs11 => k_is)
  (case cg11 => k_is)
  (case ch11 => k_is)
  (case cc11 => k_is)
  (case crd => k_is)
  (case cty => k_is)
  (case cfi => k_is)
  (case ndup => decide)
  (case ip1 => k_is)
#print axioms PySem.Challenge.cw_pricecover_k03_no_term_holds
