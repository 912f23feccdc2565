import PyProof.Rows.All
import Wide.All
import OpenK.AllK
import Wide.FinOn
import Lean
import PyProof.EqAt
import PyProof.EqKinds
import PyProof.TupleCall
import KE.KSortTup
import PyProof.EnumMake
import PyProof.EnumStmt
import PyProof.ListRange
import KE.KDictList
import PyProof.DictItems
import PyProof.DictIter
import PyProof.Draws
import PyProof.Rows.CallKwBuiltin
import PyProof.Rows.SortPure
import PyProof.Rows.SortRuns
import KE.KRevIter
import PySem.Challenge.RW_pricecover_k33_whole_shown_and_read
set_option Elab.async false
set_option bootstrap.genMatcherCode false
set_option linter.all false
set_option maxRecDepth 100000
set_option maxHeartbeats 4000000
namespace L2
open PySem PySem.Spec PyProof.Rows
abbrev Key := Sum Int Str
noncomputable def keyIs : Key → Value → Bool
 | .inl k, v => Value.isInt k v
 | .inr x, v => Value.isStrOf x v
noncomputable def keyH (w : World) : Key → Int
 | .inl k => hashInt k
 | .inr x => hashStr w x
theorem keyIs_shape : ∀ {k : Key} {v : Value}, keyIs k v = true → (∃ i t, k = Sum.inl i ∧ v = Value.int i t) ∨ (∃ x t, k = Sum.inr x ∧ v = Value.str x t)
 | .inl i, v, h => by
  obtain ⟨t, e⟩ := Value.isInt_shape (k := i) (v := v) h
  exact .inl ⟨i, t, rfl, e⟩
 | .inr x, v, h => by
  obtain ⟨t, e⟩ := Value.isStrOf_shape (x := x) (v := v) h
  exact .inr ⟨x, t, rfl, e⟩
theorem keyIs_int (i : Int) (t : Tok) : keyIs (.inl i) (.int i t) = true := by simp [keyIs, Value.isInt]
theorem keyIs_str (x : Str) (t : Tok) : keyIs (.inr x) (.str x t) = true := by simp [keyIs, Value.isStrOf]
theorem key_ll (a b : Int) : decide ((Sum.inl a : Key) = Sum.inl b) = (a == b) := by
 by_cases e : a = b
 ·subst e; simp
 ·have h : ¬ (Sum.inl a : Key) = Sum.inl b := fun q => e (Sum.inl.inj q)
  rw [decide_eq_false h]
  exact (beq_eq_false_iff_ne.mpr e).symm
theorem key_rr (a b : Str) : decide ((Sum.inr a : Key) = Sum.inr b) = decide (a = b) := by
 by_cases e : a = b
 ·subst e; simp
 ·have h : ¬ (Sum.inr a : Key) = Sum.inr b := fun q => e (Sum.inr.inj q)
  rw [decide_eq_false h, decide_eq_false e]
theorem key_lr (a : Int) (b : Str) : decide ((Sum.inl a : Key) = Sum.inr b) = false := decide_eq_false (fun q => nomatch q)
theorem key_rl (a : Str) (b : Int) : decide ((Sum.inr a : Key) = Sum.inl b) = false := decide_eq_false (fun q => nomatch q)
noncomputable def mixKind (prog : Program) (w : World) : PySem.KeyKind prog w Key where
 is := keyIs
 hash := keyH w
 inj := fun v a b ha hb => by
  rcases keyIs_shape ha with ⟨i, t, rfl, rfl⟩ | ⟨x, t, rfl, rfl⟩
  ·rcases keyIs_shape hb with ⟨j, u, rfl, e⟩ | ⟨y, u, rfl, e⟩
   ·injection e with e1 _; rw [e1]
   ·exact nomatch e
  ·rcases keyIs_shape hb with ⟨j, u, rfl, e⟩ | ⟨y, u, rfl, e⟩
   ·exact nomatch e
   ·injection e with e1 _; rw [e1]
 byValue := fun k v h => by
  rcases keyIs_shape h with ⟨i, t, rfl, rfl⟩ | ⟨x, t, rfl, rfl⟩ <;> rfl
 pyHash := fun hv h => by
  rcases keyIs_shape hv with ⟨i, t, rfl, rfl⟩ | ⟨x, t, rfl, rfl⟩
  ·exact wpAny_pyHash_int h
  ·exact wpAny_pyHash_str h
 eqBool := fun hu hv h => by
  rcases keyIs_shape hu with ⟨i, t, rfl, rfl⟩ | ⟨x, t, rfl, rfl⟩
  ·rcases keyIs_shape hv with ⟨j, u, rfl, rfl⟩ | ⟨y, u, rfl, rfl⟩
   ·rw [key_ll] at h; exact wpAny_eqBool_int h
   ·rw [key_lr] at h; exact SeqAt.EqAt.int_str i t y u _ _ _ _ h
  ·rcases keyIs_shape hv with ⟨j, u, rfl, rfl⟩ | ⟨y, u, rfl, rfl⟩
   ·rw [key_rl] at h; exact SeqAt.EqAt.str_int x t j u _ _ _ _ h
   ·rw [key_rr] at h; exact wpAny_eqBool_str h
 «strs» := fun k x t v h => by
  rcases keyIs_shape h with ⟨i, u, rfl, e⟩ | ⟨y, u, rfl, e⟩
  ·exact nomatch e
  ·injection e with e1 _
   subst e1
   cases v <;> rfl
theorem mixKind_int (prog : Program) (w : World) (i : Int) (t : Tok) : (mixKind prog w).is (.inl i) (.int i t) = true := keyIs_int i t
theorem mixKind_str (prog : Program) (w : World) (x : Str) (t : Tok) : (mixKind prog w).is (.inr x) (.str x t) = true := keyIs_str x t
end L2
namespace L2
open PySem PySem.Spec PyProof.Rows
inductive V where
 | non | bl (b : Bool) | int (i : Int) | str (x : Str) | byt (b : Array UInt8) | flt (b : UInt64) | ref (a : Addr) | ty (n : String)
 deriving DecidableEq
def RelV : V → Value → Prop
 | .non, u => u = Value.none
 | .bl b, u => u = Value.bool b
 | .int i, u => ∃ t, u = Value.int i t
 | .str x, u => ∃ t, u = Value.str x t
 | .byt b, u => ∃ t, u = Value.bytes b t
 | .flt b, u => ∃ t, u = Value.float b t
 | .ref a, u => u = Value.ref a
 | .ty n, u => u = Value.type n
abbrev Vals : List V → List Value → Prop := Paired RelV
theorem Vals.length {xs : List V} {us : List Value} (r : Vals xs us) : xs.length = us.length := Paired.length r
theorem Vals.get : ∀ {xs : List V} {us : List Value} {i : Nat} {x : V}, Vals xs us → xs[i]? = some x → ∃ u, us[i]? = some u ∧ RelV x u
 | _, _, _, _, .nil, e => by simp at e
 | _, _, 0, _, .cons r _, e => by simp at e; subst e; exact ⟨_, rfl, r⟩
 | _, _, i + 1, x, .cons _ t, e => by
  obtain ⟨u, h1, h2⟩ := Vals.get (i := i) (x := x) t (by simpa using e)
  exact ⟨u, by simpa using h1, h2⟩
theorem Vals.set {x : V} {u : Value} (r : RelV x u) : ∀ {xs : List V} {us : List Value} (i : Nat), Vals xs us → Vals (xs.set i x) (us.set i u)
 | _, _, _, .nil => .nil
 | _, _, 0, .cons _ t => .cons r t
 | _, _, i + 1, .cons q t => .cons q (Vals.set r i t)
theorem Vals.append : ∀ {xs ys : List V} {us ws : List Value}, Vals xs us → Vals ys ws → Vals (xs ++ ys) (us ++ ws)
 | _, _, _, _, .nil, s => s
 | _, _, _, _, .cons r t, s => .cons r (Vals.append t s)
theorem Vals.take : ∀ {xs : List V} {us : List Value} (n : Nat), Vals xs us → Vals (xs.take n) (us.take n)
 | _, _, 0, _ => .nil
 | _, _, _ + 1, .nil => .nil
 | _, _, n + 1, .cons r t => .cons r (Vals.take n t)
theorem Vals.drop : ∀ {xs : List V} {us : List Value} (n : Nat), Vals xs us → Vals (xs.drop n) (us.drop n)
 | _, _, 0, r => r
 | _, _, _ + 1, .nil => .nil
 | _, _, n + 1, .cons _ t => Vals.drop n t
theorem Vals.none_of : ∀ {xs : List V} {us : List Value} {i : Nat}, Vals xs us → xs[i]? = none → us[i]? = none := fun {xs us i} r e => by
 have h1 := r.length
 have h2 : xs.length ≤ i := List.getElem?_eq_none_iff.mp e
 exact List.getElem?_eq_none_iff.mpr (by omega)
def RelO : Option V → Option Value → Prop
 | some v, some u => RelV v u
 | none, none => True
 | _, _ => False
def KV {κ : Type} : List (κ × V) → List (κ × Value) → Prop := Paired fun (p : κ × V) (q : κ × Value) => p.1 = q.1 ∧ RelV p.2 q.2
noncomputable def kV : Key → V
 | .inl i => .int i
 | .inr x => .str x
inductive HO where
  | lst (xs : List V)
  | tup (xs : List V)
  | dK (kvs : List (Key × V)) | dT (kvs : List (List Key × V))
  | set (S : Int → Bool) (n : Nat)
  | ins (C dx : Addr) (fs : List (Str × V))
  | own (x : Addr)
  | xd (fs : List (Str × V))
  | met (f x : Addr)
  | rng (lo hi : Int)
  | frz (o : Obj) (u : HO)
  | tbl (ps : Array Value)
  | ext (φ : Heap → Prop)
abbrev Hp := Addr → Option HO
noncomputable def upd (H : Hp) (a : Addr) (o : HO) : Hp := fun b => if b = a then some o else H b
theorem upd_same {H : Hp} {a : Addr} {o : HO} : upd H a o a = some o := by unfold upd; rw [if_pos rfl]
theorem upd_ne {H : Hp} {a b : Addr} {o : HO} (h : b ≠ a) : upd H a o b = H b := by unfold upd; rw [if_neg h]
theorem ne_of {H : Hp} {a b : Addr} {o u : HO} (h : H a = some o) (h' : H b = some u) (d : o ≠ u) : a ≠ b := by
 intro e; subst e; rw [h] at h'; exact d (Option.some.inj h')
theorem ne_of_none {H : Hp} {a b : Addr} {o : HO} (h : H a = some o) (h' : H b = none) : a ≠ b := by
 intro e; subst e; rw [h] at h'; cases h'
section
variable (P : Program) (w : World)
def IsTupD (h : Heap) (a : Addr) (its : Array Value) : Prop := ∃ o, h.get? a = some o ∧ o.cls = .type "tuple" ∧ ∃ n, o.data = .seq its n ∧ o.dict = none
theorem IsTupD.tup {h : Heap} {a : Addr} {its : Array Value} (x : IsTupD h a its) : IsTup h a its := let ⟨o, h1, h2, n, h3, _⟩ := x; ⟨o, h1, h2, n, h3⟩
def ObjOk (H : Hp) (h : Heap) (a : Addr) : HO → Prop
 | .lst xs => xs.length ≤ sizeLine ∧ ∃ (its : List Value) (n : Nat), Vals xs its ∧ h.get? a = some { cls := .type "list", data := .seq its.toArray n }
 | .tup xs => xs.length ≤ sizeLine ∧ ∃ its : List Value, Vals xs its ∧ IsTupD h a its.toArray
 | .dK kvs => kvs.length ≤ sizeLine ∧ (a == sysModules) = false ∧ ∃ vs, KV kvs vs ∧ h.DictOf (mixKind P w) a vs
 | .dT kvs => kvs.length ≤ sizeLine ∧ (a == sysModules) = false ∧ ∃ xs : List (List Key × Addr × Value),
   Paired (fun (p : List Key × V) (q : List Key × Addr × Value) => p.1 = q.1 ∧ H q.2.1 = some (.tup (p.1.map kV)) ∧ RelV p.2 q.2.2) kvs xs ∧
   ∃ o es ep, h.get? a = some o ∧ o.ExactDict ∧ o.data = .dict es ep ∧ es.toList = xs.map (entryOfKey (tupleKind (mixKind P w))) ∧ (xs.map (·.1)).Nodup
 | .set S n => h.SetOf (intKind P w) a S n
 | .ins C dx fs => H dx = some (.own a) ∧ fs.length ≤ 1000 ∧ dx ≠ a ∧ h.get? a = some (PySem.W.instObj C dx) ∧
   ∃ mA, h.Ns1 dx mA ∧ (∀ f, RelO (fs.lookup f) (mA f)) ∧ PySem.Within mA (fs.map (·.1))
 | .own _ => ∃ o, h.get? a = some o
 | .xd fs => ∃ mA, h.Ns1 a mA ∧ ∀ f, RelO (fs.lookup f) (mA f)
 | .rng lo hi => ∃ t u v, h.get? a = some { cls := .type "range", data := .fields #[.int lo t, .int hi u, .int 1 v] }
 | .frz o u => h.get? a = some o ∧ ObjOk H h a u
 | .tbl ps => h.get? a = some { cls := .none, data := .fields ps }
 | .met f x => h.get? a = some (PySem.W.methodObj (.ref f) (.ref x))
 | .ext φ => φ h ∧ (∃ o, h.get? a = some o) ∧ ∀ h1 h2 : Heap, φ h1 → (∀ o, h1.get? a = some o → h2.get? a = some o) → φ h2
def HOk (H : Hp) (h : Heap) : Prop := ∀ a o, H a = some o → ObjOk P w H h a o
end
section
variable {P : Program} {w : World} {H H' : Hp} {h h' : Heap} {a : Addr} {o : HO}
theorem ObjOk.lt (x : ObjOk P w H h a o) : a < h.objs.size := by
 cases o with
 | lst xs => obtain ⟨_, _, _, _, e⟩ := x; exact Heap.lt_size e
 | tup xs => obtain ⟨_, _, _, p⟩ := x; exact p.tup.lt
 | dK kvs => obtain ⟨_, _, _, _, o, _, _, e, _⟩ := x; exact Heap.lt_size e
 | dT kvs => obtain ⟨_, _, _, _, o, _, _, e, _⟩ := x; exact Heap.lt_size e
 | set S n => obtain ⟨o, _, _, _, e, _⟩ := x; exact Heap.lt_size e
 | ins C dx fs => obtain ⟨_, _, _, e, _⟩ := x; exact Heap.lt_size e
 | own y => obtain ⟨_, e⟩ := x; exact Heap.lt_size e
 | xd fs => obtain ⟨_, ⟨_, _, _, e, _⟩, _⟩ := x; exact Heap.lt_size e
 | rng lo hi => obtain ⟨_, _, _, e⟩ := x; exact Heap.lt_size e
 | frz ob u => obtain ⟨e, _⟩ := x; exact Heap.lt_size e
 | tbl ps => exact Heap.lt_size (show h.get? a = some _ from x)
 | met f y => exact Heap.lt_size (show h.get? a = some _ from x)
 | ext φ => obtain ⟨_, ⟨_, e⟩, _⟩ := x; exact Heap.lt_size e
theorem Paired.mapP {α β : Type} {F G : α → β → Prop} : ∀ {l₁ : List α} {l₂ : List β}, Paired F l₁ l₂ → (∀ a b, F a b → G a b) → Paired G l₁ l₂
 | _, _, .nil, _ => .nil
 | _, _, .cons r t, f => .cons (f _ _ r) (Paired.mapP t f)
theorem ObjOk.stay (x : ObjOk P w H h a o) (k : ∀ b u, (b = a ∨ H b = some (.own a)) → h.get? b = some u → h'.get? b = some u)
  (ho : ∀ b, H b = some (.own a) → H' b = some (.own a)) (ht : ∀ b xs, H b = some (.tup xs) → H' b = some (.tup xs)) : ObjOk P w H' h' a o := by
 induction o with
 | lst xs => obtain ⟨z, its, n, r, e⟩ := x; exact ⟨z, its, n, r, k _ _ (.inl rfl) e⟩
 | tup xs => obtain ⟨z, its, r, ob, e, c⟩ := x; exact ⟨z, its, r, ob, k _ _ (.inl rfl) e, c⟩
 | dK kvs => obtain ⟨z, y, vs, r, ob, es, ep, e, c⟩ := x; exact ⟨z, y, vs, r, ob, es, ep, k _ _ (.inl rfl) e, c⟩
 | dT kvs =>
  obtain ⟨z, y, xs, r, ob, es, ep, e, c⟩ := x
  exact ⟨z, y, xs, Paired.mapP r fun p q z => ⟨z.1, ht _ _ z.2.1, z.2.2⟩, ob, es, ep, k _ _ (.inl rfl) e, c⟩
 | set S n => obtain ⟨ob, es, ep, t, e, c⟩ := x; exact ⟨ob, es, ep, t, k _ _ (.inl rfl) e, c⟩
 | ins C dx fs =>
  obtain ⟨d, z, ne, e, mA, ⟨od, es, ep, e2, c⟩, r⟩ := x
  exact ⟨ho _ d, z, ne, k _ _ (.inl rfl) e, mA, ⟨od, es, ep, k _ _ (.inr d) e2, c⟩, r⟩
 | own y => obtain ⟨ob, e⟩ := x; exact ⟨ob, k _ _ (.inl rfl) e⟩
 | xd fs => obtain ⟨mA, ⟨od, es, ep, e, c⟩, r⟩ := x; exact ⟨mA, ⟨od, es, ep, k _ _ (.inl rfl) e, c⟩, r⟩
 | rng lo hi => obtain ⟨t, u, v, e⟩ := x; exact ⟨t, u, v, k _ _ (.inl rfl) e⟩
 | frz ob u ih => obtain ⟨e, q⟩ := x; exact ⟨k _ _ (.inl rfl) e, ih q⟩
 | tbl ps =>
  have e : h.get? a = some { cls := .none, data := .fields ps } := x
  show h'.get? a = some { cls := .none, data := .fields ps }
  exact k a _ (.inl rfl) e
 | met f y =>
  have e : h.get? a = some (PySem.W.methodObj (.ref f) (.ref y)) := x
  show h'.get? a = some (PySem.W.methodObj (.ref f) (.ref y))
  exact k a _ (.inl rfl) e
 | ext φ => obtain ⟨p, ⟨o, e⟩, st⟩ := x; exact ⟨st _ _ p fun o q => k _ _ (.inl rfl) q, ⟨o, k _ _ (.inl rfl) e⟩, st⟩
theorem HOk.lt (x : HOk P w H h) (e : H a = some o) : a < h.objs.size := (x a o e).lt
theorem HOk.fresh (x : HOk P w H h) (e : h.objs.size ≤ a) : H a = none := by
 cases q : H a with
 | none => rfl
 | some u => exact absurd (Nat.lt_of_lt_of_le (x.lt q) e) (Nat.lt_irrefl _)
theorem HOk.kept (x : HOk P w H h) (k : ∀ b u, h.get? b = some u → h'.get? b = some u) : HOk P w H h' := fun a o e =>
 (x a o e).stay (fun b u _ q => k b u q) (fun _ q => q) fun _ _ q => q
theorem HOk.laid (x : HOk P w H h) (k : ∀ b u, h.get? b = some u → h'.get? b = some u) (hp : h.objs.size ≤ a) (new : ObjOk P w (upd H a o) h' a o) : HOk P w (upd H a o) h' := fun b u e => by
 have hn := x.fresh hp
 by_cases hb : b = a
 ·subst hb; rw [upd_same] at e; cases e; exact new
 ·rw [upd_ne hb] at e
  exact (x b u e).stay (fun c v _ q => k c v q) (fun c q => by rw [upd_ne (ne_of_none q hn)]; exact q) fun c xs q => by rw [upd_ne (ne_of_none q hn)]; exact q
end
def Rd (H : Hp) (a : Addr) (u : HO) : Prop := H a = some u ∨ ∃ o, H a = some (.frz o u)
theorem Rd.of {H : Hp} {a : Addr} {u : HO} (h : H a = some u) : Rd H a u := .inl h
theorem Rd.ok {P : Program} {w : World} {H : Hp} {h : Heap} {a : Addr} {u : HO} (r : Rd H a u) (x : HOk P w H h) : ObjOk P w H h a u := by
 rcases r with r | ⟨o, r⟩
 ·exact x a u r
 ·obtain ⟨_, q⟩ := x a _ r
  exact q
def Mut : Option HO → Prop
 | some (.lst _) => True
 | some (.dK _) => True
 | some (.dT _) => True
 | some (.set _ _) => True
 | some (.ins _ _ _) => True
 | some (.ext _) => True
 | _ => False
section
variable {P : Program} {w : World} {H : Hp} {h h' : Heap} {x e : Addr} {o' : HO}
theorem HOk.write (ok : HOk P w H h) (mu : Mut (H x)) (he : e = x ∨ H e = some (.own x)) (k : ∀ b u, b ≠ e → h.get? b = some u → h'.get? b = some u) (heo : ∃ u, h'.get? e = some u)
  (new : ObjOk P w (upd H x o') h' x o') : HOk P w (upd H x o') h' := fun b u q => by
 have nown : ∀ c y, H c = some (.own y) → c ≠ x := fun c y r z => by subst z; rw [r] at mu; exact mu
 have ntup : ∀ c xs, H c = some (.tup xs) → c ≠ x := fun c xs r z => by subst z; rw [r] at mu; exact mu
 by_cases hb : b = x
 ·subst hb; rw [upd_same] at q; cases q; exact new
 ·rw [upd_ne hb] at q
  by_cases hbe : b = e
  ·have q' : H b = some (.own x) := by
    rcases he with z | z
    ·exact absurd (hbe.trans z) hb
    ·rw [hbe]; exact z
   rw [q] at q'; cases q'
   obtain ⟨v, hv⟩ := heo
   exact ⟨v, by rw [hbe]; exact hv⟩
  ·refine (ok b u q).stay (fun c v hc r => k c v ?_ r) (fun c r => by rw [upd_ne (nown c b r)]; exact r) fun c xs r => by rw [upd_ne (ntup c xs r)]; exact r
   rcases hc with rfl | hc
   ·exact hbe
   ·rintro rfl
    rcases he with z | z
    ·exact nown c b hc z
    ·rw [hc] at z; cases z; exact hb rfl
end
structure Un (fs ex : List Addr) (H H' : Hp) (h h' : Heap) : Prop where
 keep : ∀ b o, h.get? b = some o → H b = none → b ∉ fs → b ∉ ex → h'.get? b = some o
 slot : ∀ b o, h.get? b = some o → H b = none → b ∈ fs → b ∉ ex → ∃ sl, h'.get? b = some { o with slots := sl }
 free : ∀ b o, h.get? b = some o → H b = none → b ∉ ex → H' b = none
 there : ∀ b o, h.get? b = some o → b ∉ ex → ∃ o', h'.get? b = some o'
 tups : ∀ b xs, H b = some (.tup xs) → H' b = some (.tup xs)
 frzs : ∀ b o u, H b = some (.frz o u) → H' b = some (.frz o u)
 tbls : ∀ b ps, H b = some (.tbl ps) → ∃ more, H' b = some (.tbl (ps ++ more))
section
variable {fs fs' ex ex' : List Addr} {H H1 H2 : Hp} {h h1 h2 h' : Heap} {a x e : Addr} {o : HO}
theorem Un.any (u : Un fs ex H H1 h h1) {b : Addr} {ob : Obj} (q : h.get? b = some ob) (n : H b = none) (hx : b ∉ ex) : ∃ sl, h1.get? b = some { ob with slots := sl } := by
 by_cases hb : b ∈ fs
 ·exact u.slot b ob q n hb hx
 ·exact ⟨ob.slots, u.keep b ob q n hb hx⟩
theorem Un.trans (a : Un fs ex H H1 h h1) (b : Un fs ex H1 H2 h1 h2) : Un fs ex H H2 h h2 where
 keep := fun c ob q n hc hx => b.keep c ob (a.keep c ob q n hc hx) (a.free c ob q n hx) hc hx
 slot := fun c ob q n hc hx => by
  obtain ⟨sl, e1⟩ := a.slot c ob q n hc hx
  obtain ⟨sl', e2⟩ := b.slot c _ e1 (a.free c ob q n hx) hc hx
  exact ⟨sl', e2⟩
 free := fun c ob q n hx => by
  obtain ⟨o', e1⟩ := a.there c ob q hx
  exact b.free c o' e1 (a.free c ob q n hx) hx
 there := fun c ob q hx => by
  obtain ⟨o', e1⟩ := a.there c ob q hx
  exact b.there c o' e1 hx
 tups := fun c xs q => b.tups c xs (a.tups c xs q)
 frzs := fun c ob xs q => b.frzs c ob xs (a.frzs c ob xs q)
 tbls := fun c ps q => by
  obtain ⟨m1, e1⟩ := a.tbls c ps q
  obtain ⟨m2, e2⟩ := b.tbls c _ e1
  exact ⟨m1 ++ m2, by rw [e2, Array.append_assoc]⟩
theorem Un.kept (k : ∀ b u, h.get? b = some u → h'.get? b = some u) : Un fs ex H H h h' :=
 ⟨fun b ob q _ _ _ => k b ob q, fun b ob q _ _ _ => ⟨ob.slots, k b ob q⟩, fun _ _ _ n _ => n, fun b ob q _ => ⟨ob, k b ob q⟩, fun _ _ q => q, fun _ _ _ q => q, fun _ ps q => ⟨#[], by rw [q]; simp⟩⟩
theorem Un.refl : Un fs ex H H h h := Un.kept fun _ _ q => q
theorem Un.laid (k : ∀ b u, h.get? b = some u → h'.get? b = some u) (hp : h.objs.size ≤ a) (hn : H a = none) : Un fs ex H (upd H a o) h h' where
 keep := fun b u q _ _ _ => k b u q
 slot := fun b u q _ _ _ => ⟨u.slots, k b u q⟩
 free := fun b u q n _ => by rw [upd_ne (Nat.ne_of_lt (Nat.lt_of_lt_of_le (Heap.lt_size q) hp))]; exact n
 there := fun b u q _ => ⟨u, k b u q⟩
 tups := fun b xs q => by rw [upd_ne (ne_of_none q hn)]; exact q
 frzs := fun b u xs q => by rw [upd_ne (ne_of_none q hn)]; exact q
 tbls := fun b ps q => ⟨#[], by rw [upd_ne (ne_of_none q hn), q]; simp⟩
theorem Un.write (mu : Mut (H x)) (he : e = x ∨ H e = some (.own x)) (k : ∀ b u, b ≠ e → h.get? b = some u → h'.get? b = some u) (heo : ∃ u, h'.get? e = some u) : Un fs ex H (upd H x o) h h' := by
 have hx : ∀ b, H b = none → b ≠ x := fun b n z => by subst z; rw [n] at mu; exact mu
 have hb : ∀ b, H b = none → b ≠ e := fun b n z => by
  subst z
  rcases he with r | r
  ·exact hx b n r
  ·rw [n] at r; cases r
 have hm : ∀ b u, H b = some u → ¬ Mut (some u) → b ≠ x := fun b u q nm z => by subst z; rw [q] at mu; exact nm mu
 refine ⟨fun b u q n _ _ => k b u (hb b n) q, fun b u q n _ _ => ⟨u.slots, k b u (hb b n) q⟩, fun b u q n _ => by rw [upd_ne (hx b n)]; exact n, fun b u q _ => ?_,
  fun b xs q => by rw [upd_ne (hm b _ q fun z => z)]; exact q, fun b u xs q => by rw [upd_ne (hm b _ q fun z => z)]; exact q, fun b ps q => ⟨#[], by rw [upd_ne (hm b _ q fun z => z), q]; simp⟩⟩
 by_cases hbe : b = e
 ·subst hbe; exact heo
 ·exact ⟨u, k b u hbe q⟩
theorem Un.mono (u : Un fs ex H H1 h h1) (hs : ∀ b ∈ fs, b ∈ fs') (hx : ∀ b ∈ ex, b ∈ ex') : Un fs' ex' H H1 h h1 :=
 ⟨fun b ob q n hb he => u.keep b ob q n (fun z => hb (hs b z)) fun z => he (hx b z), fun _ _ q n _ he => u.any q n fun z => he (hx _ z), fun b ob q n he => u.free b ob q n fun z => he (hx b z), fun b ob q he => u.there b ob q fun z => he (hx b z), u.tups, u.frzs, u.tbls⟩
end
noncomputable def trk (h : Heap) (H : Hp) : List Addr := (List.range h.objs.size).filter fun a => (H a).isSome
noncomputable def hidT (h : Heap) (H : Hp) : Heap := PySem.W.hideAll h (trk h H)
theorem hidT_size (h : Heap) (H : Hp) : (hidT h H).objs.size = h.objs.size := PySem.W.hideAll_size _ _
theorem hidT_get {h : Heap} {H : Hp} {b : Addr} {o : Obj} (e : h.get? b = some o) (n : H b = none) : (hidT h H).get? b = some o :=
 PySem.W.hideAll_get _ e fun hm => by
  have q : (H b).isSome = true := (List.mem_filter.mp hm).2
  rw [n] at q; simp at q
theorem of_hidT {h : Heap} {H : Hp} {b : Addr} {o : Obj} (e : (hidT h H).get? b = some o) : h.get? b = some o ∧ H b = none := by
 have e' : h.get? b = some o := PySem.W.of_hideAll (trk h H) e
 refine ⟨e', ?_⟩
 cases q : H b with
 | none => rfl
 | some x =>
  have hm : b ∈ trk h H := List.mem_filter.mpr ⟨List.mem_range.mpr (Heap.lt_size e'), by simp [q]⟩
  have z : (hidT h H).get? b = none := PySem.W.hideAll_none (trk h H) hm
  rw [z] at e; cases e
noncomputable def allNews (g h : Heap) (L : Addr) : List (Addr × Obj) := (List.range h.objs.size).filterMap fun a => if a = L ∨ (g.get? a).isSome = true then none else (h.get? a).map fun o => (a, o)
noncomputable def rest (g h : Heap) (L d : Addr) : List (Addr × Obj) := (allNews g h L).filter fun p => decide (p.1 ≠ d)
end L2
namespace L2
open PySem PySem.Spec PyProof.Rows
structure Mod (K : PySem.W.Frag) (mg : Str → Option Value) (base : Heap) : Prop where
 kin : K.In base
 glob : base.Ns mainGlobals mg
 blt : ∃ mb, base.Ns builtinsNs mb ∧ ∀ x : Str, x ≠ "__name__" → mb x = bootBuiltins x
 nolimit : base.NoLimit
structure Cx where
 prog : Program
 w : World
 K : PySem.W.Frag
 mg : Str → Option Value
 base : Heap
 A : Around
 N : List Str
 s₀ : Shared
 H₀ : Hp
 env : Env
 outer : List Env
 stack : List Env
 ex : List Addr
 fn : Str → Bool
 calm : Bool
 pn : List (Addr × Obj)
 xe : Value → Shared → Prop
noncomputable def frs (l : List Env) : List Addr := l.filterMap (·.frame)
noncomputable abbrev Cx.fs (X : Cx) : List Addr := frs X.outer
def Vis (sc : Scope) (x : Str) : Prop := sc.names.lookup x = some .local ∨ sc.names.lookup x = some .cell ∨ sc.names.lookup x = some .free
def Loc (sc : Scope) (x : Str) : Prop := sc.names.lookup x = some .local ∨ sc.names.lookup x = some .cell
def Look (env : Env) (h : Heap) (m : Str → Option Value) (x : Str) (u : Value) : Prop :=
 (env.kindOf x = some .local ∧ m x = some u) ∨ ((env.kindOf x = some .cell ∨ env.kindOf x = some .free) ∧ ∃ c, env.cells.lookup x = some c ∧ h.IsCell c (some u))
structure Cx.Ok (X : Cx) : Prop where
 mod : Mod X.K X.mg X.base
 kind : X.env.scope.kind = .function
 glob : X.env.globals = mainGlobals
 blt : X.env.builtins = builtinsNs
 above : X.s₀.heap.objs.size ≤ X.env.locals
 inj : ∀ x y c, X.env.cells.lookup x = some c → X.env.cells.lookup y = some c → x = y
 has : ∀ x, (X.env.kindOf x = some .cell ∨ X.env.kindOf x = some .free) → ∃ c, X.env.cells.lookup x = some c
 cab : ∀ x c, X.fn x = true → X.env.cells.lookup x = some c → X.s₀.heap.objs.size ≤ c
 hd : X.calm = true → X.A.handled = none
 frames : X.A.frames = some X.stack
 stk : X.stack = X.outer ∨ (X.stack = X.env :: X.outer ∧ X.env.frame = some X.env.locals)
 exf : ∀ b ∈ X.ex, b ≠ X.env.locals ∧ ∀ x c, X.env.cells.lookup x = some c → c ≠ b
 bs : ∀ b o, X.base.get? b = some o → X.s₀.heap.get? b = some o ∧ X.H₀ b = none
 bsz : X.base.objs.size ≤ X.s₀.heap.objs.size
 noex : ∀ b o, X.base.get? b = some o → b ∉ X.ex
 exfs : ∀ b ∈ X.ex, b ∉ X.fs
 funs : X.s₀.heap.FunFrames X.base X.outer
 frf : ∀ b ∈ X.fs, X.H₀ b = none
structure Inv (X : Cx) (pins : List (Addr × Obj)) (σ : List (Option V)) (H : Hp) (s : Shared) : Prop where
 ok : X.Ok
 os : s.os = X.s₀.os
 bare : AllBare s.gens
 base : Un X.fs X.ex X.H₀ H X.s₀.heap s.heap
 loc : ∃ m, s.heap.Ns X.env.locals m ∧ ∀ (i : Nat) (x : Str) (v : V), X.N[i]? = some x → σ[i]? = some (some v) → Vis X.env.scope x → ∃ u, RelV v u ∧ Look X.env s.heap m x u
 cell : ∀ x c, X.env.cells.lookup x = some c → ∃ v, s.heap.IsCell c v
 free : H X.env.locals = none
 freeC : ∀ x c, X.env.cells.lookup x = some c → H c = none
 pin : ∀ p ∈ X.pn ++ pins, s.heap.get? p.1 = some p.2 ∧ H p.1 = none ∧ p.1 ≠ X.env.locals ∧ p.1 ∉ X.fs ∧ ∀ v, p.2.data ≠ .cell v
 hok : HOk X.prog X.w H s.heap
 len : σ.length = X.N.length
section
variable {X : Cx} {pins : List (Addr × Obj)} {σ : List (Option V)} {H H' : Hp} {s : Shared} {h' : Heap}
theorem Cx.Ok.nofr (ok : X.Ok) {b : Addr} {o : Obj} (e : X.base.get? b = some o) : b ∉ X.fs := fun hb => by
 have := (ok.funs.mem hb).1
 rw [e] at this; cases this
theorem Inv.bs (I : Inv X pins σ H s) : ∀ b o, X.base.get? b = some o → s.heap.get? b = some o ∧ H b = none := fun b o e =>
 ⟨I.base.keep b o (I.ok.bs b o e).1 (I.ok.bs b o e).2 (I.ok.nofr e) (I.ok.noex b o e), I.base.free b o (I.ok.bs b o e).1 (I.ok.bs b o e).2 (I.ok.noex b o e)⟩
theorem Inv.bk (I : Inv X pins σ H s) : ∀ b o, X.base.get? b = some o → s.heap.get? b = some o := fun b o e => (I.bs b o e).1
theorem Inv.mod (I : Inv X pins σ H s) : Mod X.K X.mg X.base := I.ok.mod
theorem Inv.kIn (I : Inv X pins σ H s) : X.K.In s.heap := I.ok.mod.kin.keeps I.bk
theorem Inv.nolimit (I : Inv X pins σ H s) : s.heap.NoLimit := I.ok.mod.nolimit.keeps I.bk
theorem Inv.fr (I : Inv X pins σ H s) : ∃ m, Fr X.base X.env.locals s.heap m :=
 let ⟨m, hn, _⟩ := I.loc
 ⟨m, hn, I.bk, Nat.le_trans I.ok.bsz I.ok.above⟩
theorem Inv.lt (I : Inv X pins σ H s) : X.env.locals < s.heap.objs.size := let ⟨_, hn, _⟩ := I.loc; hn.lt
theorem Inv.sz (I : Inv X pins σ H s) : X.s₀.heap.objs.size ≤ s.heap.objs.size := Nat.le_trans I.ok.above (Nat.le_of_lt I.lt)
theorem Inv.nofs (I : Inv X pins σ H s) {a : Addr} (h : s.heap.objs.size ≤ a) : a ∉ X.fs := fun hb => by
 obtain ⟨_, o, ho, _⟩ := I.ok.funs.mem hb
 exact absurd (Nat.lt_of_lt_of_le (Heap.lt_size ho) (Nat.le_trans I.sz h)) (Nat.lt_irrefl _)
theorem Inv.cne (I : Inv X pins σ H s) : ∀ x c, X.env.cells.lookup x = some c → c ≠ X.env.locals := fun x c e z => by
 obtain ⟨v, o, ho, hd⟩ := I.cell x c e
 obtain ⟨m, ⟨o', es, ep, ho', hd', _⟩, _⟩ := I.loc
 rw [z, ho'] at ho; cases ho; rw [hd'] at hd; cases hd
theorem Inv.funs (I : Inv X pins σ H s) : s.heap.FunFrames X.base X.outer := by
 have all : ∀ (l : List Env), (∀ b ∈ frs l, b ∈ X.fs) → X.s₀.heap.FunFrames X.base l → s.heap.FunFrames X.base l := by
  intro l
  induction l with
  | nil => intro _ _; trivial
  | cons env r ih =>
   intro hs hl
   obtain ⟨hk, ⟨L, o, hf, hn, ho, hd⟩, hr⟩ := hl
   have hL : L ∈ X.fs := hs L (by unfold frs; rw [List.filterMap_cons, hf]; exact List.mem_cons_self)
   obtain ⟨sl, e⟩ := I.base.slot L o ho (I.ok.frf L hL) hL fun z => I.ok.exfs L z hL
   exact ⟨hk, ⟨L, _, hf, hn, e, hd⟩, ih (fun b hb => hs b (by unfold frs; rw [List.filterMap_cons, hf]; exact List.mem_cons_of_mem _ hb)) hr⟩
 exact all X.outer (fun _ hb => hb) I.ok.funs
theorem Inv.stack (I : Inv X pins σ H s) : s.heap.FunFrames X.base X.stack := by
 rcases I.ok.stk with e | ⟨e, hf⟩
 ·rw [e]; exact I.funs
 ·rw [e]
  obtain ⟨m, hn, _⟩ := I.loc
  refine .cons (by rw [I.ok.kind]; decide) hf hn ?_ I.funs
  exact Heap.get?_none_of_le (Nat.le_trans I.ok.bsz I.ok.above)
theorem Inv.stkSub (I : Inv X pins σ H s) : ∀ b ∈ frs X.stack, b ∈ X.env.locals :: X.fs := fun b hb => by
 rcases I.ok.stk with e | ⟨e, hf⟩
 ·rw [e] at hb; exact List.mem_cons_of_mem _ hb
 ·rw [e] at hb
  unfold frs at hb
  rw [List.filterMap_cons, hf] at hb
  exact hb
theorem Inv.stkFree (I : Inv X pins σ H s) : ∀ b ∈ frs X.stack, H b = none := fun b hb => by
 rcases List.mem_cons.mp (I.stkSub b hb) with e | hb
 ·rw [e]; exact I.free
 ·obtain ⟨_, o, ho, _⟩ := I.ok.funs.mem hb
  exact I.base.free b o ho (I.ok.frf b hb) fun z => I.ok.exfs b z hb
theorem Inv.step {g' : Array GenState} {t' : Nat} {d' : Drawn} {ch : List Addr} (I : Inv X pins σ H s)
  (hch : ∀ b ∈ ch, (b ∈ X.ex ∨ X.s₀.heap.objs.size ≤ b) ∧ b ≠ X.env.locals ∧ (∀ x c, X.env.cells.lookup x = some c → c ≠ b) ∧ ∀ p ∈ X.pn ++ pins, p.1 ≠ b)
  (keep : ∀ b o, b ≠ X.env.locals → b ∉ X.fs → b ∉ ch → s.heap.get? b = some o → H b = none → h'.get? b = some o)
  (slot : ∀ b o, b ≠ X.env.locals → b ∈ X.fs → b ∉ ch → s.heap.get? b = some o → H b = none → ∃ sl, h'.get? b = some { o with slots := sl }) (free : ∀ b o, b ∉ ch → s.heap.get? b = some o → H b = none → H' b = none)
  (there : ∀ b o, b ∉ ch → s.heap.get? b = some o → ∃ o', h'.get? b = some o')
  (tups : ∀ b xs, H b = some (.tup xs) → H' b = some (.tup xs)) (frzs : ∀ b o u, H b = some (.frz o u) → H' b = some (.frz o u)) (tbls : ∀ b ps, H b = some (.tbl ps) → ∃ more, H' b = some (.tbl (ps ++ more)))
  (ns : ∀ m, s.heap.Ns X.env.locals m → h'.Ns X.env.locals m) (hok : HOk X.prog X.w H' h') (hg : AllBare g') :
  Inv X pins σ H' { s with heap := h', gens := g', drawn := d', toks := t' } := by
 have neL : ∀ b o, X.s₀.heap.get? b = some o → b ≠ X.env.locals := fun b o e => Nat.ne_of_lt (Nat.lt_of_lt_of_le (Heap.lt_size e) I.ok.above)
 have neC : ∀ b o, X.s₀.heap.get? b = some o → b ∉ X.ex → b ∉ ch := fun b o e hx hb => by
  rcases (hch b hb).1 with z | z
  ·exact hx z
  ·exact absurd (Nat.lt_of_lt_of_le (Heap.lt_size e) z) (Nat.lt_irrefl _)
 have cellK : ∀ x c, X.env.cells.lookup x = some c → ∀ v, s.heap.IsCell c v → h'.IsCell c v := fun x c e v ⟨o, ho, hd⟩ => by
  have nch : c ∉ ch := fun z => (hch c z).2.2.1 x c e rfl
  by_cases hc : c ∈ X.fs
  ·obtain ⟨sl, q⟩ := slot c o (I.cne x c e) hc nch ho (I.freeC x c e)
   exact ⟨_, q, hd⟩
  ·exact ⟨o, keep c o (I.cne x c e) hc nch ho (I.freeC x c e), hd⟩
 refine ⟨I.ok, I.os, hg, ⟨fun b o e n hb hx => ?_, fun b o e n hb hx => ?_, fun b o e n hx => ?_, fun b o e hx => ?_, fun b xs e => tups b xs (I.base.tups b xs e), fun b o xs e => frzs b o xs (I.base.frzs b o xs e), fun b ps e => ?_⟩, ?_, fun x c e => ?_, ?_, fun x c e => ?_, fun p hp => ?_, hok, I.len⟩
 ·exact keep b o (neL b o e) hb (neC b o e hx) (I.base.keep b o e n hb hx) (I.base.free b o e n hx)
 ·obtain ⟨sl, e1⟩ := I.base.slot b o e n hb hx
  obtain ⟨sl', e2⟩ := slot b _ (neL b o e) hb (neC b o e hx) e1 (I.base.free b o e n hx)
  exact ⟨sl', e2⟩
 ·obtain ⟨o', e1⟩ := I.base.there b o e hx
  exact free b o' (neC b o e hx) e1 (I.base.free b o e n hx)
 ·obtain ⟨o', e1⟩ := I.base.there b o e hx
  exact there b o' (neC b o e hx) e1
 ·obtain ⟨m1, e1⟩ := I.base.tbls b ps e
  obtain ⟨m2, e2⟩ := tbls b _ e1
  exact ⟨m1 ++ m2, by rw [e2, Array.append_assoc]⟩
 ·obtain ⟨m, hn, hl⟩ := I.loc
  refine ⟨m, ns m hn, fun i x v e1 e2 e3 => ?_⟩
  obtain ⟨u, r, l⟩ := hl i x v e1 e2 e3
  refine ⟨u, r, ?_⟩
  rcases l with l | ⟨k, c, e, z⟩
  ·exact .inl l
  ·exact .inr ⟨k, c, e, cellK x c e _ z⟩
 ·obtain ⟨v, z⟩ := I.cell x c e
  exact ⟨v, cellK x c e v z⟩
 ·obtain ⟨m, ⟨o, _, _, ho, _⟩, _⟩ := I.loc
  exact free _ o (fun z => (hch _ z).2.1 rfl) ho I.free
 ·obtain ⟨v, o, ho, hd⟩ := I.cell x c e
  exact free c o (fun z => (hch c z).2.2.1 x c e rfl) ho (I.freeC x c e)
 ·obtain ⟨e, n, ne, nf, d⟩ := I.pin p hp
  have nch : p.1 ∉ ch := fun z => (hch p.1 z).2.2.2 p hp rfl
  exact ⟨keep p.1 p.2 ne nf nch e n, free p.1 p.2 nch e n, ne, nf, d⟩
theorem Inv.un {t' : Nat} (I : Inv X pins σ H s) (u : Un X.fs [] H H' s.heap h') (hok : HOk X.prog X.w H' h') : Inv X pins σ H' { s with heap := h', toks := t' } := by
 obtain ⟨m, ⟨o, es, ep, ho, r⟩, _⟩ := id I.loc
 obtain ⟨sl, hL⟩ := u.any ho I.free (by simp)
 exact I.step (g' := s.gens) (d' := s.drawn) (ch := []) (fun _ z => nomatch z) (fun b o _ hb _ e n => u.keep b o e n hb (by simp)) (fun b o _ hb _ e n => u.slot b o e n hb (by simp)) (fun b o _ e n => u.free b o e n (by simp)) (fun b o _ e => u.there b o e (by simp)) u.tups u.frzs u.tbls (fun m' hm => by
  obtain ⟨o', es', ep', ho', r'⟩ := hm
  rw [ho] at ho'; cases ho'
  exact ⟨_, es', ep', hL, r'⟩) hok I.bare
theorem Inv.call {g' : Array GenState} {t' : Nat} {d' : Drawn} {ch : List Addr} (I : Inv X pins σ H s) (u : Un (frs X.stack) ch H H' s.heap h') (hok : HOk X.prog X.w H' h') (hg : AllBare g')
  (hch : ∀ b ∈ ch, (b ∈ X.ex ∨ X.s₀.heap.objs.size ≤ b) ∧ b ≠ X.env.locals ∧ (∀ x c, X.env.cells.lookup x = some c → c ≠ b) ∧ ∀ p ∈ X.pn ++ pins, p.1 ≠ b) :
  Inv X pins σ H' { s with heap := h', gens := g', drawn := d', toks := t' } := by
 obtain ⟨m, ⟨o, es, ep, ho, r⟩, _⟩ := id I.loc
 obtain ⟨sl, hL⟩ := u.any ho I.free fun z => (hch _ z).2.1 rfl
 exact I.step (ch := ch) hch (fun b o hL hb hc e n => u.keep b o e n (fun z => (List.mem_cons.mp (I.stkSub b z)).elim hL hb) hc) (fun b o _ _ hc e n => u.any e n hc) (fun b o hc e n => u.free b o e n hc) (fun b o hc e => u.there b o e hc) u.tups u.frzs u.tbls (fun m' hm => by
  obtain ⟨o', es', ep', ho', r'⟩ := hm
  rw [ho] at ho'; cases ho'
  exact ⟨_, es', ep', hL, r'⟩) hok hg
theorem Inv.turned {t' : Nat} {it : Addr} (I : Inv X pins σ H s) (k : ∀ b o, b ≠ it → s.heap.get? b = some o → h'.get? b = some o) (hn : H it = none) (hL : it ≠ X.env.locals)
  (h1 : it ∈ X.ex ∨ X.s₀.heap.objs.size ≤ it) (h2 : ∀ x c, X.env.cells.lookup x = some c → c ≠ it) (h3 : ∀ p ∈ X.pn ++ pins, p.1 ≠ it) : Inv X pins σ H { s with heap := h', toks := t' } := by
 have nit : ∀ b u, H b = some u → b ≠ it := fun b u e z => by rw [z, hn] at e; cases e
 refine I.step (g' := s.gens) (d' := s.drawn) (ch := [it]) (fun b hb => ?_) (fun b o _ _ hc e _ => k b o (fun z => hc (by simp [z])) e) (fun b o _ _ hc e _ => ⟨o.slots, k b o (fun z => hc (by simp [z])) e⟩) (fun _ _ _ _ n => n)
  (fun b o hc e => ⟨o, k b o (fun z => hc (by simp [z])) e⟩) (fun _ _ e => e) (fun _ _ _ e => e) (fun b ps e => ⟨#[], by rw [e]; simp⟩) (fun m hm => ?_) (fun b u e => ?_) I.bare
 ·have e : b = it := by simpa using hb
  subst e
  exact ⟨h1, hL, h2, h3⟩
 ·obtain ⟨o, es, ep, ho, r⟩ := hm
  exact ⟨o, es, ep, k _ o (Ne.symm hL) ho, r⟩
 ·refine (I.hok b u e).stay (fun c v hc q => k c v ?_ q) (fun _ q => q) fun _ _ q => q
  rcases hc with z | z
  ·rw [z]; exact nit b u e
  ·exact nit c _ z
theorem Inv.tok (I : Inv X pins σ H s) (t : Nat) : Inv X pins σ H { s with toks := t } := I.un (h' := s.heap) (t' := t) Un.refl I.hok
theorem Inv.kept {t' : Nat} (I : Inv X pins σ H s) (k : ∀ b u, s.heap.get? b = some u → h'.get? b = some u) : Inv X pins σ H { s with heap := h', toks := t' } := I.un (Un.kept k) (I.hok.kept k)
theorem Inv.laid {a : Addr} {o : HO} {t' : Nat} (I : Inv X pins σ H s) (k : ∀ b u, s.heap.get? b = some u → h'.get? b = some u) (hp : s.heap.objs.size ≤ a) (new : ObjOk X.prog X.w (upd H a o) h' a o) :
  Inv X pins σ (upd H a o) { s with heap := h', toks := t' } := I.un (Un.laid k hp (I.hok.fresh hp)) (I.hok.laid k hp new)
theorem Inv.write {x e : Addr} {o : HO} {t' : Nat} (I : Inv X pins σ H s) (mu : Mut (H x)) (he : e = x ∨ H e = some (.own x)) (k : ∀ b u, b ≠ e → s.heap.get? b = some u → h'.get? b = some u) (heo : ∃ u, h'.get? e = some u)
  (new : ObjOk X.prog X.w (upd H x o) h' x o) : Inv X pins σ (upd H x o) { s with heap := h', toks := t' } := I.un (Un.write mu he k heo) (I.hok.write mu he k heo new)
theorem Inv.pins_of {pins' : List (Addr × Obj)} (I : Inv X pins σ H s) (h : ∀ p ∈ pins', s.heap.get? p.1 = some p.2 ∧ H p.1 = none ∧ p.1 ≠ X.env.locals ∧ p.1 ∉ X.fs ∧ ∀ v, p.2.data ≠ .cell v) : Inv X pins' σ H s :=
 ⟨I.ok, I.os, I.bare, I.base, I.loc, I.cell, I.free, I.freeC, fun p hp => (List.mem_append.mp hp).elim (fun z => I.pin p (List.mem_append_left _ z)) (h p), I.hok, I.len⟩
theorem nodup_ix {N : List Str} (hN : N.Nodup) {i j : Nat} {x : Str} (a : N[i]? = some x) (b : N[j]? = some x) : i = j := by
 obtain ⟨h1, e1⟩ := List.getElem?_eq_some_iff.mp a
 obtain ⟨h2, e2⟩ := List.getElem?_eq_some_iff.mp b
 exact (List.getElem_inj hN).mp (e1.trans e2.symm)
theorem store_ok2 {M : Model} {A : Around} {E : Value → Shared → Prop} {i : Nat} {x : Str} {v : V} {u : Value} {Q : Unit → Shared → Prop} (I : Inv X pins σ H s) (hN : X.N.Nodup) (hi : X.N[i]? = some x) (hx : Loc X.env.scope x) (r : RelV v u)
  (h : ∀ s', Inv X pins (σ.set i (some v)) H s' → (∃ a, Heap.SameBut a s.heap s'.heap ∧ (a = X.env.locals ∨ X.env.cells.lookup x = some a)) → Q () s') (hf : X.fn x = true ∨ X.env.scope.names.lookup x = some .local := by first | exact .inl rfl | exact .inr rfl | assumption) : wpAny M A (storeName X.env x u) Q E s := by
 obtain ⟨m, hn, hl⟩ := id I.loc
 have hcls : (X.env.scope.kind == .class || (X.env.scope.kind == .module && X.env.locals != X.env.globals)) = false := by rw [I.ok.kind]; rfl
 have hiσ : i < σ.length := by rw [I.len]; exact (List.getElem?_eq_some_iff.mp hi).1
 have cne := I.cne
 have tracked : ∀ {a : Addr} {h' : Heap}, (∃ o, s.heap.get? a = some o ∧ H a = none) → Heap.SameBut a s.heap h' → HOk X.prog X.w H h' := fun {a h'} ha hs b ob e => by
  obtain ⟨_, _, hfree⟩ := ha
  refine (I.hok b ob e).stay (fun c w' hc q => (hs.2 c ?_).trans q) (fun _ q => q) fun _ _ q => q
  rintro rfl
  rcases hc with rfl | hc
  ·rw [hfree] at e; cases e
  ·rw [hfree] at hc; cases hc
 rcases hx with hk | hk
 ·refine wpAny_storeName_local hk hn (fun h' hn' hs => ?_) hcls
  obtain ⟨oL, _, _, hoL, _⟩ := id hn
  refine h _ ⟨I.ok, I.os, I.bare, ⟨fun b o e n hb hx => ?_, fun b o e n hb hx => ?_, I.base.free, fun b o e hx => ?_, I.base.tups, I.base.frzs, I.base.tbls⟩, ⟨_, hn', fun j y v' e1 e2 e3 => ?_⟩, fun y c e => ?_, I.free, I.freeC, fun p hp => ?_, tracked ⟨oL, hoL, I.free⟩ hs, by simpa using I.len⟩ ⟨_, hs, .inl rfl⟩
  ·exact (hs.2 b (Nat.ne_of_lt (Nat.lt_of_lt_of_le (Heap.lt_size e) I.ok.above))).trans (I.base.keep b o e n hb hx)
  ·obtain ⟨sl, e1⟩ := I.base.slot b o e n hb hx
   exact ⟨sl, (hs.2 b (Nat.ne_of_lt (Nat.lt_of_lt_of_le (Heap.lt_size e) I.ok.above))).trans e1⟩
  ·obtain ⟨o', e1⟩ := I.base.there b o e hx
   exact ⟨o', (hs.2 b (Nat.ne_of_lt (Nat.lt_of_lt_of_le (Heap.lt_size e) I.ok.above))).trans e1⟩
  ·by_cases hj : j = i
   ·subst hj
    rw [hi] at e1; cases e1
    rw [List.getElem?_set_self hiσ] at e2
    cases e2
    exact ⟨u, r, .inl ⟨hk, by simp⟩⟩
   ·rw [List.getElem?_set_ne (Ne.symm hj)] at e2
    obtain ⟨u', r', q⟩ := hl j y v' e1 e2 e3
    refine ⟨u', r', ?_⟩
    rcases q with ⟨k, e⟩ | ⟨k, c, e, z⟩
    ·refine .inl ⟨k, ?_⟩
     have : y ≠ x := fun e => hj (nodup_ix hN e1 (e ▸ hi))
     simp [this, e]
    ·exact .inr ⟨k, c, e, z.sameBut hs (cne y c e)⟩
  ·obtain ⟨w', z⟩ := I.cell y c e
   exact ⟨w', z.sameBut hs (cne y c e)⟩
  ·obtain ⟨e, n, ne, nf, d⟩ := I.pin p hp
   exact ⟨(hs.2 p.1 ne).trans e, n, ne, nf, d⟩
 ·have hfn : X.fn x = true := by
   rcases hf with z | z
   ·exact z
   ·rw [z] at hk; cases hk
  obtain ⟨c, hc⟩ := I.ok.has x (.inl hk)
  obtain ⟨w', z⟩ := I.cell x c hc
  refine wpAny_storeName_cell I.ok.kind hk hc z (fun h' hc' hs => ?_)
  obtain ⟨oc, hoc, hocd⟩ := id z
  refine h { s with heap := h' } ⟨I.ok, I.os, I.bare, ⟨fun b o e n hb hx => ?_, fun b o e n hb hx => ?_, I.base.free, fun b o e hx => ?_, I.base.tups, I.base.frzs, I.base.tbls⟩, ⟨m, hn.sameBut hs (Ne.symm (cne x c hc)), fun j y v' e1 e2 e3 => ?_⟩, fun y c' e => ?_, I.free, I.freeC, fun p hp => ?_, tracked ⟨oc, hoc, I.freeC x c hc⟩ hs, by simpa using I.len⟩ ⟨c, hs, .inr hc⟩
  ·exact (hs.2 b (Nat.ne_of_lt (Nat.lt_of_lt_of_le (Heap.lt_size e) (I.ok.cab x c hfn hc)))).trans (I.base.keep b o e n hb hx)
  ·obtain ⟨sl, e1⟩ := I.base.slot b o e n hb hx
   exact ⟨sl, (hs.2 b (Nat.ne_of_lt (Nat.lt_of_lt_of_le (Heap.lt_size e) (I.ok.cab x c hfn hc)))).trans e1⟩
  ·obtain ⟨o', e1⟩ := I.base.there b o e hx
   exact ⟨o', (hs.2 b (Nat.ne_of_lt (Nat.lt_of_lt_of_le (Heap.lt_size e) (I.ok.cab x c hfn hc)))).trans e1⟩
  ·by_cases hj : j = i
   ·subst hj
    rw [hi] at e1; cases e1
    rw [List.getElem?_set_self hiσ] at e2
    cases e2
    exact ⟨u, r, .inr ⟨.inl hk, c, hc, hc'⟩⟩
   ·rw [List.getElem?_set_ne (Ne.symm hj)] at e2
    obtain ⟨u', r', q⟩ := hl j y v' e1 e2 e3
    refine ⟨u', r', ?_⟩
    rcases q with q | ⟨k, c', e, z'⟩
    ·exact .inl q
    ·refine .inr ⟨k, c', e, z'.sameBut hs ?_⟩
     rintro rfl
     exact hj (nodup_ix hN e1 (I.ok.inj _ _ _ e hc ▸ hi))
  ·by_cases hcc : c' = c
   ·subst hcc; exact ⟨_, hc'⟩
   ·obtain ⟨w2, z2⟩ := I.cell y c' e
    exact ⟨w2, z2.sameBut hs hcc⟩
  ·obtain ⟨e, n, ne, nf, d⟩ := I.pin p hp
   refine ⟨(hs.2 p.1 ?_).trans e, n, ne, nf, d⟩
   intro q
   rw [q, hoc] at e
   have q' : oc = p.2 := Option.some.inj e
   exact d w' (by rw [← q']; exact hocd)
theorem store_ok {M : Model} {A : Around} {E : Value → Shared → Prop} {i : Nat} {x : Str} {v : V} {u : Value} {Q : Unit → Shared → Prop} (I : Inv X pins σ H s) (hN : X.N.Nodup) (hi : X.N[i]? = some x) (hx : Loc X.env.scope x) (r : RelV v u)
  (h : ∀ s', Inv X pins (σ.set i (some v)) H s' → Q () s') (hf : X.fn x = true ∨ X.env.scope.names.lookup x = some .local := by first | exact .inl rfl | exact .inr rfl | assumption) : wpAny M A (storeName X.env x u) Q E s :=
 store_ok2 I hN hi hx r (fun s' I' _ => h s' I') hf
theorem Inv.call' {s' : Shared} {ch : List Addr} (I : Inv X pins σ H s) (ho : s'.os = s.os) (u : Un (frs X.stack) ch H H' s.heap s'.heap) (hok : HOk X.prog X.w H' s'.heap) (hg : AllBare s'.gens)
  (hch : ∀ b ∈ ch, (b ∈ X.ex ∨ X.s₀.heap.objs.size ≤ b) ∧ b ≠ X.env.locals ∧ (∀ x c, X.env.cells.lookup x = some c → c ≠ b) ∧ ∀ p ∈ X.pn ++ pins, p.1 ≠ b) : Inv X pins σ H' s' := by
 obtain ⟨h', g', d', t', o'⟩ := s'
 have e : o' = s.os := ho
 subst e
 exact I.call (g' := g') (t' := t') (d' := d') u hok hg hch
end
abbrev XK := Value → Option Addr → Hp → Prop
abbrev St := List (Option V)
abbrev VK := V → Hp → Prop
abbrev TE := St → Hp → VK → Prop
abbrev TT := St → Hp → (Bool → Hp → Prop) → Prop
abbrev TA := St → Hp → (List V → Hp → Prop) → Prop
structure Ends where
 nx : St → Hp → Prop
 rt : VK
 bk : St → Hp → Prop := fun _ _ => False
 ct : St → Hp → Prop := fun _ _ => False
abbrev TS := Ends → St → Hp → Prop
def EP (X : Cx) (pins : List (Addr × Obj)) (σ : St) (Q : VK) (u : Value) (s' : Shared) : Prop := ∃ v H', Inv X pins σ H' s' ∧ RelV v u ∧ Q v H'
def TP (X : Cx) (pins : List (Addr × Obj)) (σ : St) (Q : Bool → Hp → Prop) (b : Bool) (s' : Shared) : Prop := ∃ H', Inv X pins σ H' s' ∧ Q b H'
def AP (X : Cx) (pins : List (Addr × Obj)) (σ : St) (Q : List V → Hp → Prop) (us : List Value) (s' : Shared) : Prop := ∃ vs H', Inv X pins σ H' s' ∧ Vals vs us ∧ Q vs H'
def SP (X : Cx) (pins : List (Addr × Obj)) (D : Ends) (f : Flow) (s' : Shared) : Prop :=
 match f with
 | .next => ∃ σ' H', Inv X pins σ' H' s' ∧ D.nx σ' H'
 | .brk => ∃ σ' H', Inv X pins σ' H' s' ∧ D.bk σ' H'
 | .cont => ∃ σ' H', Inv X pins σ' H' s' ∧ D.ct σ' H'
 | .ret u => ∃ v σ' H', Inv X pins σ' H' s' ∧ RelV v u ∧ D.rt v H'
def PE (X : Cx) (e : Expr) (t : TE) : Prop :=
 ∀ (pins : List (Addr × Obj)) (s : Shared) (σ : St) (H : Hp) (Q : VK), Inv X pins σ H s → t σ H Q → wpAny (model X.prog X.w) X.A (eval e X.env) (EP X pins σ Q) X.xe s
def PT (X : Cx) (e : Expr) (t : TT) : Prop :=
 ∀ (pins : List (Addr × Obj)) (s : Shared) (σ : St) (H : Hp) (Q : Bool → Hp → Prop), Inv X pins σ H s → t σ H Q → wpAny (model X.prog X.w) X.A (isTrue e X.env (eval e X.env)) (TP X pins σ Q) X.xe s
def PW (X : Cx) (e : Expr) (t : TT) : Prop :=
 ∀ (whole : Sem Value) (pins : List (Addr × Obj)) (s : Shared) (σ : St) (H : Hp) (Q : Bool → Hp → Prop), Inv X pins σ H s → t σ H Q → wpAny (model X.prog X.w) X.A (isTrue e X.env whole) (TP X pins σ Q) X.xe s
theorem PW.pt {X : Cx} {e : Expr} {t : TT} (h : PW X e t) : PT X e t := h _
def PA (X : Cx) (es : List Expr) (t : TA) : Prop :=
 ∀ (pos : Pos) (pins : List (Addr × Obj)) (s : Shared) (σ : St) (H : Hp) (Q : List V → Hp → Prop), Inv X pins σ H s → t σ H Q → wpAny (model X.prog X.w) X.A (spliced (backTo pos (starEach es X.env))) (AP X pins σ Q) X.xe s
def PS (X : Cx) (st : Stmt) (t : TS) : Prop :=
 ∀ (pins : List (Addr × Obj)) (s : Shared) (σ : St) (H : Hp) (D : Ends), Inv X pins σ H s → t D σ H → wpAny (model X.prog X.w) X.A (exec st X.env) (SP X pins D) X.xe s
def PSs (X : Cx) (st : List Stmt) (t : TS) : Prop :=
 ∀ (pins : List (Addr × Obj)) (s : Shared) (σ : St) (H : Hp) (D : Ends), Inv X pins σ H s → t D σ H → wpAny (model X.prog X.w) X.A (execs st X.env) (SP X pins D) X.xe s
theorem thn {α : Type} {t : Sem α} {Q Q' : α → Shared → Prop} {M : Model} {A : Around} {E : Value → Shared → Prop} {s : Shared} (h : wpAny M A t Q E s) (hQ : ∀ a s, Q a s → Q' a s) : wpAny M A t Q' E s := wpAny_mono h hQ fun _ _ x => x
end L2
namespace L2
open PySem PySem.Spec PyProof.Rows
section
variable {X : Cx}
def tVar (i : Nat) : TE := fun σ H Q => ∃ v, σ[i]? = some (some v) ∧ Q v H
def tC (v : V) : TE := fun _ H Q => Q v H
theorem pe_var {i : Nat} {x : Str} {pos : Pos} (hN : X.N[i]? = some x) (hv : Vis X.env.scope x) (hd : (x == ("__debug__" : Str)) = false := by decide) (hcd : (x == ("__classdict__" : Str)) = false := by decide) : PE X (.Name x pos) (tVar i) := by
 intro pins s σ H Q I h
 obtain ⟨v, e, h⟩ := h
 obtain ⟨m, hn, hl⟩ := I.loc
 obtain ⟨u, r, l⟩ := hl i x v hN e hv
 have fin : EP X pins σ Q u s := ⟨v, H, I, r, h⟩
 rcases l with ⟨hk, hm⟩ | ⟨hk, c, hc, hcell⟩
 ·exact wpAny_Name (wpAny_loadName_local I.ok.kind hk hn hm fin) hd
 ·rcases hk with hk | hk
  ·exact wpAny_Name (wpAny_loadName_cell I.ok.kind hk hc hcell fin) hd
  ·exact wpAny_Name (wpAny_loadName_free I.ok.kind hk hc hcell fin hcd) hd
theorem pe_int {i j pos} : PE X (.Constant (.int i) j pos) (tC (.int i)) := fun _ _ _ H _ I h => wpAny_Constant_int ⟨.int i, H, I.tok _, ⟨_, rfl⟩, h⟩
theorem pe_bl {b j pos} : PE X (.Constant (.bool b) j pos) (tC (.bl b)) := fun _ _ _ H _ I h => Constant_bool ⟨.bl b, H, I, rfl, h⟩
theorem pe_str {x j pos} : PE X (.Constant (.str x) j pos) (tC (.str x)) := fun _ _ _ H _ I h => Calls.Constant_str ⟨.str x, H, I.tok _, ⟨_, rfl⟩, h⟩
def Gl (X : Cx) (x : Str) : Prop := X.env.kindOf x = some .globalImplicit
theorem ld_glob {E : Value → Shared → Prop} {pins : List (Addr × Obj)} {s : Shared} {σ : St} {H : Hp} {x : Str} {u : Value} {pos : Pos} {Q : Value → Shared → Prop} (I : Inv X pins σ H s) (hg : Gl X x) (hm : X.mg x = some u) (h : Q u s)
  (hd : (x == ("__debug__" : Str)) = false := by decide) : wpAny (model X.prog X.w) X.A (eval (.Name x pos) X.env) Q E s :=
 Calls.Name_function_global I.ok.kind hg (Calls.loadGlobal_global (by rw [I.ok.glob]; exact I.mod.glob.keeps I.bk) hm h) hd
theorem ld_blt {E : Value → Shared → Prop} {pins : List (Addr × Obj)} {s : Shared} {σ : St} {H : Hp} {x : Str} {u : Value} {pos : Pos} {Q : Value → Shared → Prop} (I : Inv X pins σ H s) (hg : Gl X x) (hm : X.mg x = none) (hv : bootBuiltins x = some u) (h : Q u s)
  (hn : x ≠ "__name__" := by decide) (hd : (x == ("__debug__" : Str)) = false := by decide) : wpAny (model X.prog X.w) X.A (eval (.Name x pos) X.env) Q E s := by
 obtain ⟨mb, h1, h2⟩ := I.mod.blt
 exact Calls.Name_function_global I.ok.kind hg (Calls.loadGlobal_builtin (by rw [I.ok.glob]; exact I.mod.glob.keeps I.bk) hm (by rw [I.ok.blt]; exact h1.keeps I.bk) ((h2 x hn).trans hv) h) hd
theorem pe_glob {x : Str} {v : V} {u : Value} {pos : Pos} (hg : Gl X x) (hm : X.mg x = some u) (r : RelV v u) (hd : (x == ("__debug__" : Str)) = false := by decide) : PE X (.Name x pos) (tC v) :=
 fun _ _ _ H _ I h => ld_glob I hg hm ⟨v, H, I, r, h⟩ hd
theorem pe_bltn {x : Str} {v : V} {u : Value} {pos : Pos} (hg : Gl X x) (hm : X.mg x = none) (hv : bootBuiltins x = some u) (r : RelV v u) (hn : x ≠ "__name__" := by decide) (hd : (x == ("__debug__" : Str)) = false := by decide) : PE X (.Name x pos) (tC v) :=
 fun _ _ _ H _ I h => ld_blt I hg hm hv ⟨v, H, I, r, h⟩ hn hd
variable {a b : Expr} {ta tb : TE} {pos : Pos}
def PC (X : Cx) (op : CmpOp) (a b : Expr) (t : TE) : Prop :=
 ∀ (pins : List (Addr × Obj)) (s : Shared) (σ : St) (H : Hp) (Q : VK), Inv X pins σ H s → t σ H Q →
  wpAny (model X.prog X.w) X.A (eval a X.env) (fun v s₁ => wpAny (model X.prog X.w) X.A (eval b X.env) (fun u s₂ => wpAny (model X.prog X.w) X.A (compareOp op v u) (EP X pins σ Q) X.xe s₂) X.xe s₁) X.xe s
theorem nobehind (b : Expr) {op : CmpOp} (h : op ≠ .In) (h2 : op ≠ .NotIn) : behindInMarks op b = false := by
 have e1 : (op == CmpOp.In) = false := by cases op <;> first | rfl | exact absurd rfl h
 have e2 : (op == CmpOp.NotIn) = false := by cases op <;> first | rfl | exact absurd rfl h2
 cases b <;> simp [behindInMarks, e1, e2]
def tB (t : TE) : TT := fun σ H Q => t σ H fun x H1 => ∃ c, x = .bl c ∧ Q c H1
theorem pt_cmp {op : CmpOp} {t : TE} (h : PC X op a b t) (h1 : behindInMarks op b = false := by first | exact nobehind _ (by decide) (by decide) | rfl) : PT X (.Compare a [op] [b] pos) (tB t) := by
 intro pins s σ H Q I hw
 refine wpAny_isTrue_Compare1 (thn (h pins s σ H _ I hw) fun v s1 h1 => thn h1 fun u s2 h2 => thn h2 fun c s3 ⟨x, H1, I1, r1, q1⟩ => ?_) h1
 obtain ⟨d, rfl, q⟩ := q1
 cases r1
 exact wpAny_truthy_bool ⟨H1, I1, q⟩
theorem pt_val {e : Expr} {t : TE} (h : PE X e t) (he : ∀ whole, isTrue e X.env whole = (do let v ← whole; standAt e.pos; holding [v] (truthy v)) := by intro _; rfl) : PT X e (tB t) := by
 intro pins s σ H Q I hw
 refine isTrue_plain (thn (h pins s σ H _ I hw) fun v s1 ⟨x, H1, I1, r1, q1⟩ => ?_) (he _)
 obtain ⟨d, rfl, q⟩ := q1
 cases r1
 exact wpAny_truthy_bool ⟨H1, I1, q⟩
variable {tA tB' : TT} {rest : List Expr}
def tAnd (t u : TT) : TT := fun σ H Q => t σ H fun c H1 => if c = true then u σ H1 Q else Q false H1
def tOr (t u : TT) : TT := fun σ H Q => t σ H fun c H1 => if c = true then Q true H1 else u σ H1 Q
def tNot (t : TT) : TT := fun σ H Q => t σ H fun c H1 => Q (!c) H1
theorem pw_and1 (ha : PT X a tA) : PW X (.BoolOp .And [a] pos) tA := by
 intro wh pins s σ H Q I h
 refine isTrue_and (thn (ha pins s σ H Q I h) fun c s1 e => ?_)
 cases c with
 | true => exact isTrue_and_nil e
 | false => exact e
theorem pw_or1 (ha : PT X a tA) : PW X (.BoolOp .Or [a] pos) tA := by
 intro wh pins s σ H Q I h
 refine isTrue_or (thn (ha pins s σ H Q I h) fun c s1 e => ?_)
 cases c with
 | false => exact isTrue_or_nil e
 | true => exact e
theorem pw_and (ha : PT X a tA) (hb : PW X (.BoolOp .And (b :: rest) pos) tB') : PW X (.BoolOp .And (a :: b :: rest) pos) (tAnd tA tB') := by
 intro wh pins s σ H Q I h
 refine isTrue_and (thn (ha pins s σ H _ I h) fun c s1 ⟨H1, I1, q1⟩ => ?_)
 cases c with
 | true => exact hb wh pins s1 σ H1 Q I1 q1
 | false => exact ⟨H1, I1, q1⟩
theorem pw_or (ha : PT X a tA) (hb : PW X (.BoolOp .Or (b :: rest) pos) tB') : PW X (.BoolOp .Or (a :: b :: rest) pos) (tOr tA tB') := by
 intro wh pins s σ H Q I h
 refine isTrue_or (thn (ha pins s σ H _ I h) fun c s1 ⟨H1, I1, q1⟩ => ?_)
 cases c with
 | true => exact ⟨H1, I1, q1⟩
 | false => exact hb wh pins s1 σ H1 Q I1 q1
theorem pt_not (ha : PT X a tA) : PT X (.UnaryOp .Not a pos) (tNot tA) := by
 intro pins s σ H Q I h
 exact isTrue_not (ha pins s σ H (fun c H1 => Q (!c) H1) I h)
def tAndV (ta tb : TE) : TE := fun σ H Q => ta σ H fun x H1 => ∃ c, x = .bl c ∧ if c = true then tb σ H1 Q else Q (.bl false) H1
def tOrV (ta tb : TE) : TE := fun σ H Q => ta σ H fun x H1 => ∃ c, x = .bl c ∧ if c = true then Q (.bl true) H1 else tb σ H1 Q
def tNotV (ta : TE) : TE := fun σ H Q => ta σ H fun x H1 => ∃ c, x = .bl c ∧ Q (.bl (!c)) H1
theorem pe_one {op} {t : TE} (h : PE X a t) : PE X (.BoolOp op [a] pos) t := fun pins s σ H Q I hw => BoolOp_one (h pins s σ H Q I hw)
theorem pe_and (ha : PE X a ta) (hb : PE X (.BoolOp .And (b :: rest) pos) tb) : PE X (.BoolOp .And (a :: b :: rest) pos) (tAndV ta tb) := by
 intro pins s σ H Q I h
 refine BoolOp_and (thn (ha pins s σ H _ I h) fun v s1 ⟨x, H1, I1, r1, q1⟩ => ?_)
 obtain ⟨c, rfl, q1⟩ := q1
 cases r1
 refine wpAny_truthy_bool ?_
 cases c with
 | true => exact hb pins s1 σ H1 Q I1 q1
 | false => exact ⟨.bl false, H1, I1, rfl, q1⟩
theorem pe_or (ha : PE X a ta) (hb : PE X (.BoolOp .Or (b :: rest) pos) tb) : PE X (.BoolOp .Or (a :: b :: rest) pos) (tOrV ta tb) := by
 intro pins s σ H Q I h
 refine BoolOp_or (thn (ha pins s σ H _ I h) fun v s1 ⟨x, H1, I1, r1, q1⟩ => ?_)
 obtain ⟨c, rfl, q1⟩ := q1
 cases r1
 refine wpAny_truthy_bool ?_
 cases c with
 | false => exact hb pins s1 σ H1 Q I1 q1
 | true => exact ⟨.bl true, H1, I1, rfl, q1⟩
theorem pe_not (ha : PE X a ta) : PE X (.UnaryOp .Not a pos) (tNotV ta) := by
 intro pins s σ H Q I h
 refine UnaryOp_ (thn (ha pins s σ H _ I h) fun v s1 ⟨x, H1, I1, r1, q1⟩ => ?_)
 obtain ⟨c, rfl, q1⟩ := q1
 cases r1
 exact not_of (wpAny_truthy_bool ⟨.bl (!c), H1, I1, rfl, q1⟩)
def tIf (t : TT) (ta tb : TE) : TE := fun σ H Q => t σ H fun c H1 => if c = true then ta σ H1 Q else tb σ H1 Q
theorem pe_ifExp {c : Expr} (hc : PT X c tA) (ha : PE X a ta) (hb : PE X b tb) : PE X (.IfExp c a b pos) (tIf tA ta tb) := by
 intro pins s σ H Q I h
 refine wpAny_IfExp (thn (hc pins s σ H _ I h) fun d s1 ⟨H1, I1, q1⟩ => ?_)
 cases d with
 | true => exact ha pins s1 σ H1 Q I1 q1
 | false => exact hb pins s1 σ H1 Q I1 q1
end
end L2
namespace L2
open PySem PySem.Spec PyProof.Rows
def SqL (K : PySem.W.Frag) (H : Hp) (a : Addr) (xs : List V) : Prop :=
 Rd H a (.lst xs) ∨
  ∃ (o : Obj) (its : Array Value) (n : Nat), K.lookup a = some o ∧ o.cls = .type "list" ∧ o.dict = none ∧ o.data = .seq its n ∧ its.size ≤ sizeLine ∧ Vals xs its.toList
def SqT (K : PySem.W.Frag) (H : Hp) (a : Addr) (xs : List V) : Prop :=
 Rd H a (.tup xs) ∨
  ∃ (o : Obj) (its : Array Value) (n : Nat), K.lookup a = some o ∧ o.cls = .type "tuple" ∧ o.data = .seq its n ∧ its.size ≤ sizeLine ∧ Vals xs its.toList
noncomputable def absV : Value → Option V
 | .none => some .non
 | .bool b => some (.bl b)
 | .int i _ => some (.int i)
 | .str x _ => some (.str x)
 | .bytes b _ => some (.byt b)
 | .float b _ => some (.flt b)
 | .ref a => some (.ref a)
 | .type n => some (.ty n)
 | _ => none
theorem RelV.abs {x : V} {u : Value} (r : RelV x u) : absV u = some x := by
 cases x with
 | non => cases r; rfl
 | bl _ => cases r; rfl
 | int _ => obtain ⟨t, rfl⟩ := r; rfl
 | str _ => obtain ⟨t, rfl⟩ := r; rfl
 | byt _ => obtain ⟨t, rfl⟩ := r; rfl
 | flt _ => obtain ⟨t, rfl⟩ := r; rfl
 | ref _ => cases r; rfl
 | ty _ => cases r; rfl
theorem RelV.inj {x y : V} {u : Value} (r : RelV x u) (q : RelV y u) : x = y := Option.some.inj (r.abs.symm.trans q.abs)
theorem Vals.inj : ∀ {xs ys : List V} {us : List Value}, Vals xs us → Vals ys us → xs = ys
 | _, _, _, .nil, .nil => rfl
 | _, _, _, .cons r t, .cons r' t' => by rw [r.inj r', Vals.inj t t']
section
variable {X : Cx} {pins : List (Addr × Obj)} {σ : St} {H : Hp} {s : Shared} {a : Addr} {xs ys : List V}
theorem SqL.of {K : PySem.W.Frag} (h : H a = some (.lst xs)) : SqL K H a xs := .inl (.inl h)
theorem SqT.of {K : PySem.W.Frag} (h : H a = some (.tup xs)) : SqT K H a xs := .inl (.inl h)
theorem Inv.list (I : Inv X pins σ H s) (h : SqL X.K H a xs) : ∃ its : List Value, Vals xs its ∧ PlainL s.heap a its.toArray ∧ xs.length ≤ sizeLine := by
 rcases h with h | ⟨o, its, n, hk, hc, hd, hs, hz, r⟩
 ·obtain ⟨z, its, n, r, e⟩ := h.ok I.hok
  exact ⟨its, r, ⟨_, n, e, rfl, rfl, rfl⟩, z⟩
 ·refine ⟨its.toList, r, ⟨o, n, I.kIn a o hk, hc, hd, by simpa using hs⟩, ?_⟩
  have e := r.length
  simp only [Array.length_toList] at e
  omega
theorem Inv.tuple (I : Inv X pins σ H s) (h : SqT X.K H a xs) : ∃ its : List Value, Vals xs its ∧ IsTup s.heap a its.toArray ∧ xs.length ≤ sizeLine := by
 rcases h with h | ⟨o, its, n, hk, hc, hs, hz, r⟩
 ·obtain ⟨z, its, r, p⟩ := h.ok I.hok
  exact ⟨its, r, p.tup, z⟩
 ·refine ⟨its.toList, r, ⟨o, I.kIn a o hk, hc, n, by simpa using hs⟩, ?_⟩
  have e := r.length
  simp only [Array.length_toList] at e
  omega
theorem Inv.list_inj (I : Inv X pins σ H s) (h : SqL X.K H a xs) (h' : SqL X.K H a ys) : xs = ys := by
 obtain ⟨its, r, ⟨o, n, e, _, _, d⟩, _⟩ := I.list h
 obtain ⟨its', r', ⟨o', n', e', _, _, d'⟩, _⟩ := I.list h'
 rw [e] at e'; cases e'
 rw [d] at d'
 injection d' with d1 _
 have : its = its' := by simpa using congrArg Array.toList d1
 subst this
 exact r.inj r'
theorem Inv.tuple_inj (I : Inv X pins σ H s) (h : SqT X.K H a xs) (h' : SqT X.K H a ys) : xs = ys := by
 obtain ⟨its, r, ⟨o, e, _, n, d⟩, _⟩ := I.tuple h
 obtain ⟨its', r', ⟨o', e', _, n', d'⟩, _⟩ := I.tuple h'
 rw [e] at e'; cases e'
 rw [d] at d'
 injection d' with d1 _
 have : its = its' := by simpa using congrArg Array.toList d1
 subst this
 exact r.inj r'
end
noncomputable abbrev Cx.wish (X : Cx) (E : Value → Shared → Prop) : Cx := { X with xe := E }
noncomputable abbrev Cx.nox (X : Cx) : Cx := X.wish fun _ _ => False
theorem Cx.Ok.wish {X : Cx} (ok : X.Ok) (E : Value → Shared → Prop) : (X.wish E).Ok :=
 ⟨ok.mod, ok.kind, ok.glob, ok.blt, ok.above, ok.inj, ok.has, ok.cab, ok.hd, ok.frames, ok.stk, ok.exf, ok.bs, ok.bsz, ok.noex, ok.exfs, ok.funs, ok.frf⟩
theorem Cx.Ok.unwish {X : Cx} {E : Value → Shared → Prop} (ok : (X.wish E).Ok) : X.Ok :=
 ⟨ok.mod, ok.kind, ok.glob, ok.blt, ok.above, ok.inj, ok.has, ok.cab, ok.hd, ok.frames, ok.stk, ok.exf, ok.bs, ok.bsz, ok.noex, ok.exfs, ok.funs, ok.frf⟩
section
variable {X : Cx} {pins : List (Addr × Obj)} {σ : St} {H : Hp} {s : Shared} {E : Value → Shared → Prop}
theorem Inv.wish (I : Inv X pins σ H s) (E : Value → Shared → Prop) : Inv (X.wish E) pins σ H s := ⟨I.ok.wish E, I.os, I.bare, I.base, I.loc, I.cell, I.free, I.freeC, I.pin, I.hok, I.len⟩
theorem Inv.unwish (I : Inv (X.wish E) pins σ H s) : Inv X pins σ H s := ⟨I.ok.unwish, I.os, I.bare, I.base, I.loc, I.cell, I.free, I.freeC, I.pin, I.hok, I.len⟩
theorem SP.unwish {D : Ends} {f : Flow} {s' : Shared} (h : SP (X.wish E) pins D f s') : SP X pins D f s' := by
 cases f with
 | next => obtain ⟨σ', H', I, q⟩ := h; exact ⟨σ', H', I.unwish, q⟩
 | brk => obtain ⟨σ', H', I, q⟩ := h; exact ⟨σ', H', I.unwish, q⟩
 | cont => obtain ⟨σ', H', I, q⟩ := h; exact ⟨σ', H', I.unwish, q⟩
 | ret u => obtain ⟨v, σ', H', I, r, q⟩ := h; exact ⟨v, σ', H', I.unwish, r, q⟩
theorem PE.nox {e : Expr} {t : TE} (h : PE X.nox e t) : PE X e t := fun pins s σ H Q I hw =>
 wpAny_mono (h pins s σ H Q (I.wish _) hw) (fun _ _ ⟨v, H', I', r, q⟩ => ⟨v, H', I'.unwish, r, q⟩) fun _ _ z => False.elim z
theorem PT.nox {e : Expr} {t : TT} (h : PT X.nox e t) : PT X e t := fun pins s σ H Q I hw =>
 wpAny_mono (h pins s σ H Q (I.wish _) hw) (fun _ _ ⟨H', I', q⟩ => ⟨H', I'.unwish, q⟩) fun _ _ z => False.elim z
theorem PSs.nox {st : List Stmt} {t : TS} (h : PSs X.nox st t) : PSs X st t := fun pins s σ H D I hw =>
 wpAny_mono (h pins s σ H D (I.wish _) hw) (fun _ _ q => q.unwish) fun _ _ z => False.elim z
end
section
variable {X : Cx} {st : Stmt} {rest : List Stmt} {t u : TS} {e : Expr} {te : TE} {pos : Pos}
def tNext : TS := fun D σ H => D.nx σ H
def tSeq (t u : TS) : TS := fun D σ H => t { D with nx := u D } σ H
theorem pss_nil : PSs X [] tNext := fun _ _ σ H _ I h => wpAny_execs_nil ⟨σ, H, I, h⟩
theorem pss_cons (h1 : PS X st t) (h2 : PSs X rest u) : PSs X (st :: rest) (tSeq t u) := by
 intro pins s σ H D I h
 refine wpAny_execs_cons (thn (h1 pins s σ H { D with nx := u D } I h) fun f s1 q => ?_)
 cases f with
 | next =>
  obtain ⟨σ', H', I', q⟩ := q
  exact h2 pins s1 σ' H' D I' q
 | ret v => exact q
 | brk => exact q
 | cont => exact q
theorem pss_one (h1 : PS X st t) : PSs X [st] t := by
 intro pins s σ H D I h
 refine wpAny_execs_cons (thn (h1 pins s σ H D I h) fun f s1 q => ?_)
 cases f with
 | next => exact wpAny_execs_nil q
 | ret v => exact q
 | brk => exact q
 | cont => exact q
theorem Inv.quiet {pins : List (Addr × Obj)} {σ : St} {H : Hp} {s : Shared} (I : Inv X pins σ H s) : interactive X.env = false := by simp [interactive, I.ok.kind]
def tDrop (te : TE) : TS := fun D σ H => te σ H fun _ H1 => D.nx σ H1
theorem ps_expr (he : PE X e te) (hs : swapsWith e none pos.line X.env = pure false := by rfl) : PS X (.Expr e pos) (tDrop te) := by
 intro pins s σ H D I h
 exact wpAny_Expr_any (thn (he pins s σ H _ I h) fun v s1 ⟨x, H1, I1, r1, q1⟩ => ⟨σ, H1, I1, q1⟩) I.quiet hs
def tRet (te : TE) : TS := fun D σ H => te σ H D.rt
theorem ps_ret (he : PE X e te) : PS X (.Return (some e) pos) (tRet te) := by
 intro pins s σ H D I h
 exact wpAny_Return_some (thn (he pins s σ H _ I h) fun v s1 ⟨x, H1, I1, r1, q1⟩ => ⟨x, σ, H1, I1, r1, q1⟩)
def tRetN : TS := fun D _ H => D.rt .non H
def tIfS (c : TT) (t u : TS) : TS := fun D σ H => c σ H fun b H1 => if b = true then t D σ H1 else u D σ H1
theorem ps_if {c : Expr} {a b : List Stmt} {tc : TT} (hc : PT X c tc) (ha : PSs X a t) (hb : PSs X b u) : PS X (.If c a b pos) (tIfS tc t u) := by
 intro pins s σ H D I h
 refine wpAny_If (thn (hc pins s σ H _ I h) fun d s1 ⟨H1, I1, q1⟩ => ?_)
 cases d with
 | true => exact ha pins s1 σ H1 D I1 q1
 | false => exact hb pins s1 σ H1 D I1 q1
def tNever : TS := fun _ _ _ => False
theorem ps_never : PS X st tNever := fun _ _ _ _ _ _ h => h.elim
end
abbrev TG := V → St → Hp → (St → Hp → Prop) → Prop
abbrev TGs := List V → St → Hp → (St → Hp → Prop) → Prop
def PG (X : Cx) (target : Expr) (t : TG) : Prop :=
 ∀ (pins : List (Addr × Obj)) (s : Shared) (σ : St) (H : Hp) (v : V) (u : Value) (Q : St → Hp → Prop), Inv X pins σ H s → RelV v u → t v σ H Q →
  wpAny (model X.prog X.w) X.A (assign target X.env u) (fun _ s' => ∃ σ' H', Inv X pins σ' H' s' ∧ Q σ' H') X.xe s
def PGs (X : Cx) (ts : List Expr) (t : TGs) : Prop :=
 ∀ (pins : List (Addr × Obj)) (s : Shared) (σ : St) (H : Hp) (vs : List V) (us : List Value) (Q : St → Hp → Prop), Inv X pins σ H s → Vals vs us → t vs σ H Q →
  wpAny (model X.prog X.w) X.A (assignInOrder ((assignEach ts X.env).map (·.2)) us) (fun _ s' => ∃ σ' H', Inv X pins σ' H' s' ∧ Q σ' H') X.xe s
abbrev TSet := V → V → V → Hp → (Hp → Prop) → Prop
def PSet (X : Cx) (t : TSet) : Prop :=
 ∀ (pins : List (Addr × Obj)) (s : Shared) (σ : St) (H : Hp) (o i v : V) (ov iv u : Value) (Q : Hp → Prop), Inv X pins σ H s → RelV o ov → RelV i iv → RelV v u → t o i v H Q →
  wpAny (model X.prog X.w) X.A (setItem ov iv u) (fun _ s' => ∃ H', Inv X pins σ H' s' ∧ Q H') X.xe s
section
variable {X : Cx} {pos : Pos}
def gName (i : Nat) : TG := fun v σ H Q => Q (σ.set i (some v)) H
theorem pg_name {i : Nat} {x : Str} (hN : X.N.Nodup) (hi : X.N[i]? = some x) (hx : Loc X.env.scope x) (hf : X.fn x = true ∨ X.env.scope.names.lookup x = some .local := by first | exact .inl rfl | exact .inr rfl | assumption) : PG X (.Name x pos) (gName i) := by
 intro pins s σ H v u Q I r h
 exact wpAny_assign_Name (store_ok I hN hi hx r (fun s' I' => ⟨_, H, I', h⟩) hf)
def gNil : TGs := fun vs σ H Q => vs = [] ∧ Q σ H
def gCons (t : TG) (u : TGs) : TGs := fun vs σ H Q => ∃ v r, vs = v :: r ∧ t v σ H fun σ' H' => u r σ' H' Q
theorem pgs_nil : PGs X [] gNil := by
 intro pins s σ H vs us Q I r h
 obtain ⟨e, h⟩ := h
 subst e
 cases r
 exact assignInOrder_nil ⟨σ, H, I, h⟩
theorem pgs_cons {e : Expr} {es : List Expr} {t : TG} {u : TGs} (h1 : PG X e t) (h2 : PGs X es u)
  (hs : (assignEach (e :: es) X.env).map (·.2) = assign e X.env :: (assignEach es X.env).map (·.2) := by rfl) : PGs X (e :: es) (gCons t u) := by
 intro pins s σ H vs us Q I r h
 obtain ⟨v, vr, e1, h⟩ := h
 subst e1
 cases r with
 | cons r rr =>
  rw [hs]
  refine assignInOrder_cons (thn (h1 pins s σ H _ _ _ I r h) fun _ s1 ⟨σ1, H1, I1, q1⟩ => ?_)
  exact h2 pins s1 σ1 H1 _ _ Q I1 rr q1
def gTup (K : PySem.W.Frag) (n : Nat) (t : TGs) : TG := fun v σ H Q => ∃ a xs, v = .ref a ∧ SqT K H a xs ∧ xs.length = n ∧ t xs σ H Q
theorem pg_tup {es : List Expr} {k : Nat} {t : TGs} {n : Nat} (hc : X.calm = true) (h : PGs X es t)
  (hn : (assignEach es X.env).length = n := by rfl) (hst : (assignEach es X.env).findIdx? (·.1) = none := by rfl) : PG X (.Tuple es k pos) (gTup X.K n t) := by
 intro pins s σ H v u Q I r hw
 obtain ⟨a, xs, e1, hq, hl, hw⟩ := hw
 subst e1
 cases r
 obtain ⟨its, rv, ht, hz⟩ := I.tuple hq
 refine assign_Tuple_tuple (I.ok.hd hc) ht (by simp [hn, ← hl, rv.length]) hst fun h' hx => ?_
 have I1 : Inv X pins σ H { s with heap := h' } := I.kept (t' := s.toks) fun b o e => hx b o (Nat.ne_of_lt (Heap.lt_size e)) e
 exact h pins _ σ H xs _ Q I1 (by simpa using rv) hw
def gSub (to ti : TE) (t : TSet) : TG := fun v σ H Q => to σ H fun o H1 => ti σ H1 fun i H2 => t o i v H2 fun H3 => Q σ H3
theorem pg_sub {o i : Expr} {to ti : TE} {t : TSet} (ho : PE X o to) (hi : PE X i ti) (hs : PSet X t)
  (ha : ∀ v, assign (.Subscript o i pos) X.env v = (do
   let ov ← holding [v] (eval o X.env)
   let iv ← holding [v, ov] (eval i X.env)
   standAt pos
   holding [v, ov, iv] (setItem ov iv v)
   release [v, ov, iv] []) := by intro _; rfl) : PG X (.Subscript o i pos) (gSub to ti t) := by
 intro pins s σ H v u Q I r h
 rw [ha]
 refine wpAny_bind (wpAny_holding (thn (ho pins s σ H _ I h) fun ov s1 ⟨x, H1, I1, r1, q1⟩ => ?_))
 refine wpAny_bind (wpAny_holding (thn (hi pins s1 σ H1 _ I1 q1) fun iv s2 ⟨y, H2, I2, r2, q2⟩ => ?_))
 refine wpAny_bind (wpAny_standAt (wpAny_bind (wpAny_holding (thn (hs pins s2 σ H2 x y v ov iv u _ I2 r1 r2 r q2) fun _ s3 ⟨H3, I3, q3⟩ => ?_))))
 exact wpAny_release ⟨σ, H3, I3, q3⟩
def tAsg (te : TE) (g : TG) : TS := fun D σ H => te σ H fun x H1 => g x σ H1 D.nx
theorem ps_asg {tg e : Expr} {te : TE} {g : TG} (he : PE X e te) (hg : PG X tg g) (hs : swapsWithSole [tg] e pos.line X.env = pure false := by rfl) (hw : swappedStores [tg] e X.env = pure none := by rfl)
  (h1 : (assignEach [tg] X.env).map (·.2) = [assign tg X.env] := by rfl) : PS X (.Assign [tg] e pos) (tAsg te g) := by
 intro pins s σ H D I h
 refine wpAny_Assign_stores (thn (he pins s σ H _ I h) fun v s1 ⟨x, H1, I1, r1, q1⟩ => ?_) hs hw
 rw [h1]
 exact thn (hg pins s1 σ H1 x v _ I1 r1 q1) fun _ s2 q => q
theorem ps_set {i : Nat} {x : Str} {e : Expr} {te : TE} {pos' : Pos} (hN : X.N.Nodup) (hi : X.N[i]? = some x) (hx : Loc X.env.scope x) (he : PE X e te) (hs : swapsWith e (some (.Name x pos')) pos.line X.env = pure false := by rfl) (hf : X.fn x = true ∨ X.env.scope.names.lookup x = some .local := by first | exact .inl rfl | exact .inr rfl | assumption) :
  PS X (.Assign [.Name x pos'] e pos) (tAsg te (gName i)) := by
 intro pins s σ H D I h
 refine wpAny_Assign_Name (thn (he pins s σ H _ I h) fun v s1 ⟨y, H1, I1, r1, q1⟩ => ?_) hs
 exact store_ok I1 hN hi hx r1 (fun s2 I2 => ⟨_, H1, I2, q1⟩) hf
end
section
variable {X : Cx} {pos : Pos}
end
structure It where
 go : Nat → Hp → Prop
 yld : Nat → Hp → V → Hp → Prop
 stop : Nat → Hp → Prop
def FpOk (X : Cx) (pins : List (Addr × Obj)) (H : Hp) (b : Addr) : Prop :=
 H b = none ∧ b ≠ X.env.locals ∧ b ∉ X.fs ∧ (b ∈ X.ex ∨ X.s₀.heap.objs.size ≤ b) ∧ (∀ x c, X.env.cells.lookup x = some c → c ≠ b) ∧ ∀ p ∈ X.pn ++ pins, p.1 ≠ b
theorem Inv.fpOk {X : Cx} {pins : List (Addr × Obj)} {σ : St} {H H' : Hp} {s : Shared} {b : Addr} (I : Inv X pins σ H s) (hb : s.heap.objs.size ≤ b) (hn : H' b = none) : FpOk X pins H' b := by
 refine ⟨hn, Nat.ne_of_gt (Nat.lt_of_lt_of_le I.lt hb), I.nofs hb, .inr (Nat.le_trans I.sz hb), fun x c e z => ?_, fun p hp z => ?_⟩
 ·obtain ⟨v, q⟩ := I.cell x c e
  exact absurd (Nat.lt_of_lt_of_le q.lt (by rw [z]; exact hb)) (Nat.lt_irrefl _)
 ·exact absurd (Nat.lt_of_lt_of_le (Heap.lt_size (I.pin p hp).1) (by rw [z]; exact hb)) (Nat.lt_irrefl _)
structure Turn (P : Program) (w : World) (K : PySem.W.Frag) (tg : Expr) (J : It) (fp : List Addr) (it : Addr) (tn : Nat → Heap → Prop) : Prop where
 mem : it ∈ fp
 obj : ∀ i h, tn i h → ∀ b ∈ fp, ∃ o, h.get? b = some o ∧ ∀ v, o.data ≠ .cell v
 keep : ∀ i h h', tn i h → (∀ b ∈ fp, ∀ o, h.get? b = some o → h'.get? b = some o) → tn i h'
 item : ∀ (X : Cx), X.prog = P → X.w = w → X.K = K → X.calm = true → ∀ (i : Nat) (pins : List (Addr × Obj)) (s : Shared) (σ : St) (H : Hp) (E : Value → Shared → Prop), Inv X pins σ H s → (∀ b ∈ fp, FpOk X pins H b) → tn i s.heap → J.go i H →
  wpAny (model P w) X.A (pyNext (.ref it)) (fun r s1 => ∃ u, r = some u ∧
   wpAny (model P w) X.A (letOwnedTupleGo tg (.ref it) u) (fun _ s2 => ∃ x H', Inv X pins σ H' s2 ∧ RelV x u ∧ J.yld i H x H' ∧ tn (i + 1) s2.heap ∧ ∀ b ∈ fp, H' b = none) E s1) E s
 done : ∀ (X : Cx), X.prog = P → X.w = w → X.K = K → X.calm = true → ∀ (i : Nat) (pins : List (Addr × Obj)) (s : Shared) (σ : St) (H : Hp) (E : Value → Shared → Prop), Inv X pins σ H s → (∀ b ∈ fp, FpOk X pins H b) → tn i s.heap → J.stop i H →
  wpAny (model P w) X.A (pyNext (.ref it)) (fun r s1 => r = none ∧ Inv X pins σ H s1) E s
 self : ∀ (A : Around) (i : Nat) (s : Shared) (Q : Value → Shared → Prop) (E : Value → Shared → Prop), tn i s.heap → Q (.ref it) s → wpAny (model P w) A (pyIter (.ref it)) Q E s
abbrev TI := St → Hp → (It → Hp → Prop) → Prop
def PIE (X : Cx) (pins : List (Addr × Obj)) (σ : St) (tg : Expr) (R : It → Hp → Prop) (itv : Value) (s2 : Shared) : Prop :=
 ∃ (it : Addr) (fp : List Addr) (tn : Nat → Heap → Prop) (J : It) (H' : Hp), itv = .ref it ∧ Inv X pins σ H' s2 ∧ Turn X.prog X.w X.K tg J fp it tn ∧ tn 0 s2.heap ∧ (∀ b ∈ fp, FpOk X pins H' b) ∧ R J H'
def PI (X : Cx) (tg iter : Expr) (wi : TI) : Prop :=
 ∀ (pins : List (Addr × Obj)) (s : Shared) (σ : St) (H : Hp) (R : It → Hp → Prop), Inv X pins σ H s → wi σ H R →
  wpAny (model X.prog X.w) X.A (eval iter X.env) (fun v s1 => wpAny (model X.prog X.w) X.A (pyIter v) (PIE X pins σ tg R) X.xe s1) X.xe s
theorem go_of {M : Model} {A : Around} {E : Value → Shared → Prop} {s : Shared} {tg : Expr} {it : Addr} {u : Value} {o : Obj} {n : String} {vs : Array Value} {Q : Unit → Shared → Prop} (ho : s.heap.get? it = some o) (hc : o.cls = .type n) (hd : o.data = .fields vs)
    (hn : ["enumerate", "zip", "dict_itemiterator", "dict_reverseitemiterator", "odict_iterator", "itertools.zip_longest", "itertools.pairwise"].contains n = false) (hQ : Q () s) : wpAny M A (letOwnedTupleGo tg (.ref it) u) Q E s := by
  unfold letOwnedTupleGo
  cases tg <;> first
    | exact wpAny_pure hQ
    | (cases u <;> first
        | exact wpAny_pure hQ
        | (refine wpAny_bind (wpAny_load ho ?_)
           rw [hc, hd]
           show wpAny M A (if (["enumerate", "zip", "dict_itemiterator", "dict_reverseitemiterator", "odict_iterator", "itertools.zip_longest", "itertools.pairwise"].contains n && vs[0]? == some (rawInt _)) = true then _ else _) Q E s
           rw [if_neg (by intro h; rw [hn, Bool.false_and] at h; cases h)]
           exact wpAny_pure hQ))
noncomputable def Itl (K : PySem.W.Frag) (a : Addr) : It :=
 ⟨fun i H => ∃ xs x, SqL K H a xs ∧ xs[i]? = some x, fun i H x H' => H' = H ∧ ∀ xs, SqL K H a xs → xs[i]? = some x, fun i H => ∃ xs, SqL K H a xs ∧ xs.length ≤ i⟩
noncomputable def Itt (K : PySem.W.Frag) (a : Addr) : It :=
 ⟨fun i H => ∃ xs x, SqT K H a xs ∧ xs[i]? = some x, fun i H x H' => H' = H ∧ ∀ xs, SqT K H a xs → xs[i]? = some x, fun i H => ∃ xs, SqT K H a xs ∧ xs.length ≤ i⟩
noncomputable def Itr (lo : Int) (n : Nat) : It := ⟨fun i _ => i < n, fun i H x H' => H' = H ∧ x = .int (lo + i), fun i _ => n ≤ i⟩
theorem turn_list {P : Program} {w : World} {K : PySem.W.Frag} {tg : Expr} (a it : Addr) : Turn P w K tg (Itl K a) [it] it (fun i h => h.IsListIter it a i) where
 mem := by simp
 obj := fun i h st b hb => by
  have e : b = it := by simpa using hb
  subst e
  obtain ⟨o, e, c, d⟩ := st
  exact ⟨o, e, fun v z => by rw [d] at z; cases z⟩
 keep := fun i h h' st k => st.at fun o e => k it (by simp) o e
 item := by
  intro X hP hw hK hc i pins s σ H E I hf st hg
  subst hP hw hK
  obtain ⟨xs, x, hq, hx⟩ := hg
  obtain ⟨its, rv, p, hz⟩ := I.list hq
  obtain ⟨u, hu, ru⟩ := rv.get hx
  obtain ⟨f0, f1, f2, f3, f4, f5⟩ := hf it (by simp)
  refine wpAny_pyNext_list_item st p.isList (x := u) (by simpa using hu) fun h' st' sb => ?_
  have I1 : Inv X pins σ H { s with heap := h' } := I.turned (t' := s.toks) (fun b o hb e => (sb.2 b hb).trans e) f0 f1 f3 f4 f5
  obtain ⟨o, e, c, d⟩ := id st'
  exact ⟨u, rfl, go_of (s := { s with heap := h' }) e c d (by decide) ⟨x, H, I1, ru, ⟨rfl, fun ys hy => by rw [I.list_inj hy hq]; exact hx⟩, st', fun b hb => (hf b hb).1⟩⟩
 done := by
  intro X hP hw hK hc i pins s σ H E I hf st hg
  subst hP hw hK
  obtain ⟨xs, hq, hx⟩ := hg
  obtain ⟨its, rv, p, hz⟩ := I.list hq
  obtain ⟨f0, f1, f2, f3, f4, f5⟩ := hf it (by simp)
  have hl := rv.length
  exact wpAny_pyNext_list_end (I.ok.hd hc) st p.isList (by simp; omega) fun h' eb => ⟨rfl, I.turned (t' := s.toks) (fun b o hb e => eb b o hb e) f0 f1 f3 f4 f5⟩
 self := fun _ _ _ _ _ st h => wpAny_pyIter_listiter st h
theorem turn_tuple {P : Program} {w : World} {K : PySem.W.Frag} {tg : Expr} (a it : Addr) : Turn P w K tg (Itt K a) [it] it (fun i h => h.IsTupleIter it a i) where
 mem := by simp
 obj := fun i h st b hb => by
  have e : b = it := by simpa using hb
  subst e
  obtain ⟨o, e, c, d⟩ := st
  exact ⟨o, e, fun v z => by rw [d] at z; cases z⟩
 keep := fun i h h' st k => st.at fun o e => k it (by simp) o e
 item := by
  intro X hP hw hK hc i pins s σ H E I hf st hg
  subst hP hw hK
  obtain ⟨xs, x, hq, hx⟩ := hg
  obtain ⟨its, rv, p, hz⟩ := I.tuple hq
  obtain ⟨u, hu, ru⟩ := rv.get hx
  obtain ⟨f0, f1, f2, f3, f4, f5⟩ := hf it (by simp)
  refine wpAny_pyNext_tuple_item st (show s.heap.IsTuple a its.toArray from p) (x := u) (by simpa using hu) fun h' st' sb => ?_
  have I1 : Inv X pins σ H { s with heap := h' } := I.turned (t' := s.toks) (fun b o hb e => (sb.2 b hb).trans e) f0 f1 f3 f4 f5
  obtain ⟨o, e, c, d⟩ := id st'
  exact ⟨u, rfl, go_of (s := { s with heap := h' }) e c d (by decide) ⟨x, H, I1, ru, ⟨rfl, fun ys hy => by rw [I.tuple_inj hy hq]; exact hx⟩, st', fun b hb => (hf b hb).1⟩⟩
 done := by
  intro X hP hw hK hc i pins s σ H E I hf st hg
  subst hP hw hK
  obtain ⟨xs, hq, hx⟩ := hg
  obtain ⟨its, rv, p, hz⟩ := I.tuple hq
  obtain ⟨f0, f1, f2, f3, f4, f5⟩ := hf it (by simp)
  have hl := rv.length
  exact wpAny_pyNext_tuple_end (I.ok.hd hc) st (show s.heap.IsTuple a its.toArray from p) (by simp; omega) fun h' eb => ⟨rfl, I.turned (t' := s.toks) (fun b o hb e => eb b o hb e) f0 f1 f3 f4 f5⟩
 self := fun _ _ _ _ _ st h => wpAny_pyIter_tupleiter st h
theorem turn_range {P : Program} {w : World} {K : PySem.W.Frag} {tg : Expr} (it : Addr) (lo : Int) (n : Nat) : Turn P w K tg (Itr lo n) [it] it (fun i h => IsRangeIter h it (lo + (i : Nat) * 1) ((n : Int) - (i : Nat)) 1) where
 mem := by simp
 obj := fun i h st b hb => by
  have e : b = it := by simpa using hb
  subst e
  exact ⟨_, st, fun v z => by
   have z' : Data.fields _ = Data.cell v := z
   cases z'⟩
 keep := fun i h h' st k => k it (by simp) _ st
 item := by
  intro X hP hw hK hc i pins s σ H E I hf st hg
  subst hP hw hK
  obtain ⟨f0, f1, f2, f3, f4, f5⟩ := hf it (by simp)
  have W := Walks.range (prog := X.prog) (w := X.w) (I.ok.hd hc) it lo 1 n
  refine W.item i s _ _ hg st fun v h' tk hv st' kk => ?_
  obtain ⟨t, rfl⟩ := hv
  have I1 : Inv X pins σ H { s with heap := h', toks := tk } := I.turned (fun b o hb e => kk b o (by simpa using hb) e) f0 f1 f3 f4 f5
  refine ⟨_, rfl, go_of (s := { s with heap := h', toks := tk }) (n := "range_iterator") st' rfl rfl (by decide) ⟨.int (lo + i), H, I1, ⟨t, ?_⟩, ⟨rfl, rfl⟩, st', fun b hb => (hf b hb).1⟩⟩
  rw [Int.mul_one]
 done := by
  intro X hP hw hK hc i pins s σ H E I hf st hg
  subst hP hw hK
  obtain ⟨f0, f1, f2, f3, f4, f5⟩ := hf it (by simp)
  exact wpAny_pyNext_range_end (I.ok.hd hc) st (by have : n ≤ i := hg; omega) fun h' eb => ⟨rfl, I.turned (t' := s.toks) (fun b o hb e => eb b o hb e) f0 f1 f3 f4 f5⟩
 self := fun _ _ _ _ _ st h => wpAny_pyIter_rangeiter st h
end L2
namespace L2
open PySem PySem.Spec PyProof.Rows
section
variable {X : Cx} {tg : Expr}
def iList (K : PySem.W.Frag) (tl : TE) : TI := fun σ H R => tl σ H fun x H1 => ∃ a, x = .ref a ∧ (∃ xs, SqL K H1 a xs) ∧ R (Itl K a) H1
def iTup (K : PySem.W.Frag) (tl : TE) : TI := fun σ H R => tl σ H fun x H1 => ∃ a, x = .ref a ∧ (∃ xs, SqT K H1 a xs) ∧ R (Itt K a) H1
theorem pi_list {l : Expr} {tl : TE} (hl : PE X l tl) : PI X tg l (iList X.K tl) := by
 intro pins s σ H R I h
 refine thn (hl pins s σ H _ I h) fun v s1 ⟨x, H1, I1, r1, q1⟩ => ?_
 obtain ⟨a, e, ⟨xs, hq⟩, q⟩ := q1
 subst e
 cases r1
 obtain ⟨its, rv, p, hz⟩ := I1.list hq
 refine wpAny_pyIter_list p.isList ?_
 refine ⟨s1.heap.objs.size, [s1.heap.objs.size], _, _, H1, rfl, I1.kept (t' := s1.toks) fun b o e => Heap.get?_push_of_some _ e, turn_list a _, ⟨_, Heap.get?_push_size _ rfl, rfl, rfl⟩, fun b hb => ?_, q⟩
 have e : b = s1.heap.objs.size := by simpa using hb
 subst e
 exact I1.fpOk (Nat.le_refl _) (I1.hok.fresh (Nat.le_refl _))
theorem pi_tup {l : Expr} {tl : TE} (hl : PE X l tl) : PI X tg l (iTup X.K tl) := by
 intro pins s σ H R I h
 refine thn (hl pins s σ H _ I h) fun v s1 ⟨x, H1, I1, r1, q1⟩ => ?_
 obtain ⟨a, e, ⟨xs, hq⟩, q⟩ := q1
 subst e
 cases r1
 obtain ⟨its, rv, p, hz⟩ := I1.tuple hq
 refine wpAny_pyIter_tuple (show s1.heap.IsTuple a its.toArray from p) ?_
 refine ⟨s1.heap.objs.size, [s1.heap.objs.size], _, _, H1, rfl, I1.kept (t' := s1.toks) fun b o e => Heap.get?_push_of_some _ e, turn_tuple a _, ⟨_, Heap.get?_push_size _ rfl, rfl, rfl⟩, fun b hb => ?_, q⟩
 have e : b = s1.heap.objs.size := by simpa using hb
 subst e
 exact I1.fpOk (Nat.le_refl _) (I1.hok.fresh (Nat.le_refl _))
theorem range_it {pins : List (Addr × Obj)} {σ : St} {H : Hp} {s : Shared} {R : It → Hp → Prop} {E : Value → Shared → Prop} {lo hi : Int} {t u v : Tok} {tk : Nat} (I : Inv X pins σ H s) (h1 : -(2 ^ 62) ≤ lo) (h2 : lo < 2 ^ 62) (h3 : -(2 ^ 62) ≤ hi) (h4 : hi < 2 ^ 62)
  (q : R (Itr lo (hi - lo).toNat) H) : wpAny (model X.prog X.w) X.A (pyIter (.ref s.heap.objs.size)) (PIE X pins σ tg R) E { s with heap := s.heap.push { cls := .type "range", data := .fields #[.int lo t, .int hi u, .int 1 v] }, toks := tk } := by
 refine wpAny_pyIter_range (IsRange.new ..) (small_one h1 h2 h3 h4) ?_
 have I1 : Inv X pins σ H { s with heap := s.heap.push { cls := .type "range", data := .fields #[.int lo t, .int hi u, .int 1 v] }, toks := tk } := I.kept fun b o e => Heap.get?_push_of_some _ e
 refine ⟨(s.heap.push { cls := .type "range", data := .fields #[.int lo t, .int hi u, .int 1 v] }).objs.size, [(s.heap.push { cls := .type "range", data := .fields #[.int lo t, .int hi u, .int 1 v] }).objs.size], _, _, H, rfl,
  I1.kept (t' := tk) fun b o e => Heap.get?_push_of_some _ e, turn_range _ lo (hi - lo).toNat, ?_, fun b hb => ?_, q⟩
 ·have e1 : lo + ((0 : Nat) : Int) * 1 = lo := by simp
  have e2 : (((hi - lo).toNat : Nat) : Int) - ((0 : Nat) : Int) = Builtin.Range.rangeSize lo hi 1 := by rw [rangeSize_one]; split <;> omega
  show IsRangeIter _ _ (lo + ((0 : Nat) : Int) * 1) ((((hi - lo).toNat : Nat) : Int) - ((0 : Nat) : Int)) 1
  rw [e1, e2]
  exact Heap.get?_push_size _ rfl
 ·have e : b = (s.heap.push { cls := .type "range", data := .fields #[.int lo t, .int hi u, .int 1 v] }).objs.size := by simpa using hb
  subst e
  exact I1.fpOk (Nat.le_refl _) (I1.hok.fresh (Nat.le_refl _))
def iRng1 (ta : TA) : TI := fun σ H R => ta σ H fun vs H1 => ∃ j : Int, vs = [.int j] ∧ -(2 ^ 62) ≤ j ∧ j < 2 ^ 62 ∧ R (Itr 0 j.toNat) H1
def iRng2 (ta : TA) : TI := fun σ H R => ta σ H fun vs H1 => ∃ i j : Int, vs = [.int i, .int j] ∧ (-(2 ^ 62) ≤ i ∧ i < 2 ^ 62 ∧ -(2 ^ 62) ≤ j ∧ j < 2 ^ 62) ∧ R (Itr i (j - i).toNat) H1
theorem pi_range1 {a : Expr} {ta : TA} {p pos : Pos} (hg : Gl X "range") (hm : X.mg "range" = none) (ha : PA X [a] ta) (hs : starEach [a] X.env = [(false, eval a X.env)] := by rfl) : PI X tg (.Call (.Name "range" p) [a] [] pos) (iRng1 ta) := by
 intro pins s σ H R I h
 refine Call_ (ld_blt I hg hm boot_range (PyProof.Rows.callWith_type1 (thn (ha pos pins s σ H _ I h) fun us s1 ⟨vs, H1, I1, r1, q1⟩ => ?_) hs rfl))
 obtain ⟨j, e, q1, q2, q⟩ := q1
 subst e
 cases r1 with
 | cons r rr =>
  cases rr
  obtain ⟨t, rfl⟩ := r
  exact call_range_1 (range_it I1 (by omega) (by omega) q1 q2 (by simpa using q))
theorem pi_range2 {a b : Expr} {ta : TA} {p pos : Pos} (hg : Gl X "range") (hm : X.mg "range" = none) (ha : PA X [a, b] ta) (hs : starEach [a, b] X.env = [(false, eval a X.env), (false, eval b X.env)] := by rfl) (hs2 : starEach [b] X.env = [(false, eval b X.env)] := by rfl) :
  PI X tg (.Call (.Name "range" p) [a, b] [] pos) (iRng2 ta) := by
 intro pins s σ H R I h
 refine Call_ (ld_blt I hg hm boot_range (PyProof.Rows.callWith_type1 (thn (ha pos pins s σ H _ I h) fun us s1 ⟨vs, H1, I1, r1, q1⟩ => ?_) (by rw [hs, hs2]) (by rw [hs2]; rfl)))
 obtain ⟨i, j, e, ⟨q1, q2, q3, q4⟩, q⟩ := q1
 subst e
 cases r1 with
 | cons r rr =>
  cases rr with
  | cons r' rr =>
   cases rr
   obtain ⟨t, rfl⟩ := r
   obtain ⟨t', rfl⟩ := r'
   exact call_range_2 (range_it I1 q1 q2 q3 q4 q)
def tFor (wi : TI) (g : TG) (tb : TS) : TS := fun D σ H => wi σ H fun J H1 => ∃ W : Nat → Nat → St → Hp → Prop, (∃ m, W 0 m σ H1) ∧ ∀ i m σ H, W i m σ H →
 (J.stop i H ∧ D.nx σ H) ∨ (J.go i H ∧ ∃ N : St → Hp → Prop, (∀ σ' H', N σ' H' → ∃ m', m' < m ∧ W (i + 1) m' σ' H') ∧ ∀ x H', J.yld i H x H' → g x σ H' fun σ2 H2 => tb { D with nx := N, ct := N, bk := D.nx } σ2 H2)
noncomputable def pinsAt (fp : List Addr) (h : Heap) : List (Addr × Obj) := fp.filterMap fun b => (h.get? b).map fun o => (b, o)
theorem mem_pinsAt {fp : List Addr} {h : Heap} {b : Addr} {o : Obj} (hb : b ∈ fp) (e : h.get? b = some o) : (b, o) ∈ pinsAt fp h := List.mem_filterMap.mpr ⟨b, hb, by rw [e]; rfl⟩
theorem of_pinsAt {fp : List Addr} {h : Heap} {p : Addr × Obj} (hp : p ∈ pinsAt fp h) : p.1 ∈ fp ∧ h.get? p.1 = some p.2 := by
 obtain ⟨b, hb, e⟩ := List.mem_filterMap.mp hp
 cases q : h.get? b with
 | none => rw [q] at e; cases e
 | some o =>
  rw [q] at e
  have e' : (b, o) = p := Option.some.inj e
  subst e'
  exact ⟨hb, q⟩
theorem Inv.pinned {pins : List (Addr × Obj)} {σ : St} {H : Hp} {s : Shared} {fp : List Addr} (I : Inv X pins σ H s) (hf : ∀ b ∈ fp, FpOk X pins H b) (ho : ∀ b ∈ fp, ∃ o, s.heap.get? b = some o ∧ ∀ v, o.data ≠ .cell v) : Inv X (pins ++ pinsAt fp s.heap) σ H s :=
 I.pins_of fun p hp => (List.mem_append.mp hp).elim (fun z => I.pin p (List.mem_append_right _ z)) fun z => by
  obtain ⟨hb, e⟩ := of_pinsAt z
  obtain ⟨f0, f1, f2, _⟩ := hf p.1 hb
  obtain ⟨o, e', d⟩ := ho p.1 hb
  rw [e] at e'; cases e'
  exact ⟨e, f0, f1, f2, d⟩
theorem Inv.unpinned {pins pl : List (Addr × Obj)} {σ : St} {H : Hp} {s : Shared} (I : Inv X (pins ++ pl) σ H s) : Inv X pins σ H s := I.pins_of fun p hp => I.pin p (List.mem_append_right _ (List.mem_append_left _ hp))
theorem ps_for {iter : Expr} {body : List Stmt} {wi : TI} {g : TG} {tb : TS} {pos : Pos} (hp : PassesOwn (model X.prog X.w) X.A X.env X.xe) (hc : X.calm = true) (hi : PI X tg iter wi) (hg : PG X tg g) (hb : PSs X body tb)
  (hs : ∀ x, foldedSetIterable iter X.env x = pure x := by intro _; rfl) : PS X (.For tg iter body [] pos) (tFor wi g tb) := by
 intro pins s σ H D I h
 refine wpAny_For (thn (hi pins s σ H _ I h) fun v s1 h1 => thn h1 fun itv s2 h2 => ?_) hs
 obtain ⟨it, fp, tn, J, H2, e, I2, T, st2, f2, W, ⟨m0, w0⟩, turn⟩ := h2
 subst e
 have stat : ∀ {H' : Hp}, (∀ b ∈ fp, H' b = none) → ∀ b ∈ fp, FpOk X pins H' b := fun hn b hb => ⟨hn b hb, (f2 b hb).2⟩
 refine codeAny_forLoop_any (fun n s' => ∃ i σ' H', Inv X pins σ' H' s' ∧ tn i s'.heap ∧ (∀ b ∈ fp, H' b = none) ∧ W i n σ' H') ?_ m0 ⟨0, σ, H2, I2, st2, fun b hb => (f2 b hb).1, w0⟩
 rintro n s3 ⟨i, σ3, H3, I3, st3, fr3, w3⟩
 rcases turn i n σ3 H3 w3 with ⟨stop, qn⟩ | ⟨go, N, hN, step⟩
 ·refine wpAny_passesOwn hp (thn (T.done X rfl rfl rfl hc i pins s3 σ3 H3 X.xe I3 (stat fr3) st3 stop) fun r s4 ⟨hr, I4⟩ => ?_)
  subst hr
  exact wpAny_execs_nil ⟨σ3, H3, I4, qn⟩
 ·refine wpAny_passesOwn hp (thn (T.item X rfl rfl rfl hc i pins s3 σ3 H3 X.xe I3 (stat fr3) st3 go) fun r s4 ⟨u, hr, h4⟩ => ?_)
  subst hr
  refine wpAny_passesOwn hp (thn h4 fun _ s5 ⟨x, H5, I5, r5, y5, st5, fr5⟩ => ?_)
  have I5' := I5.pinned (stat fr5) (T.obj _ _ st5)
  refine wpAny_passesOwn hp (thn (hg _ s5 σ3 H5 x u _ I5' r5 (step x H5 y5)) fun _ s6 ⟨σ6, H6, I6, q6⟩ => ?_)
  refine wpAny_passesOwn hp (thn (hb _ s6 σ6 H6 _ I6 q6) fun f s7 q7 => ?_)
  have again : ∀ {σ7 : St} {H7 : Hp}, Inv X (pins ++ pinsAt fp s5.heap) σ7 H7 s7 → N σ7 H7 → ∃ m, m < n ∧ ∃ i σ' H', Inv X pins σ' H' s7 ∧ tn i s7.heap ∧ (∀ b ∈ fp, H' b = none) ∧ W i m σ' H' := fun {σ7 H7} I7 n7 => by
   obtain ⟨m', hm, w7⟩ := hN σ7 H7 n7
   refine ⟨m', hm, i + 1, σ7, H7, I7.unpinned, T.keep _ _ _ st5 fun b hb o e => (I7.pin (b, o) (List.mem_append_right _ (List.mem_append_right _ (mem_pinsAt hb e)))).1, fun b hb => ?_, w7⟩
   obtain ⟨o, e, d⟩ := T.obj _ _ st5 b hb
   exact (I7.pin (b, o) (List.mem_append_right _ (List.mem_append_right _ (mem_pinsAt hb e)))).2.1
  cases f with
  | next => obtain ⟨σ7, H7, I7, n7⟩ := q7; exact again I7 n7
  | cont => obtain ⟨σ7, H7, I7, n7⟩ := q7; exact again I7 n7
  | brk => obtain ⟨σ7, H7, I7, q7⟩ := q7; exact ⟨σ7, H7, I7.unpinned, q7⟩
  | ret v => obtain ⟨x7, σ7, H7, I7, r7, q7⟩ := q7; exact ⟨x7, σ7, H7, I7.unpinned, r7, q7⟩
end
theorem for_list {K : PySem.W.Frag} {a : Addr} {xs : List V} {g : TG} {tb : TS} {D : Ends} {σ : St} {H : Hp} (Pv : Nat → St → Hp → Prop) (h0 : Pv 0 σ H) (hl : ∀ i σ H, i ≤ xs.length → Pv i σ H → SqL K H a xs)
  (hs : ∀ i x σ H, xs[i]? = some x → Pv i σ H → g x σ H fun σ2 H2 => tb { D with nx := Pv (i + 1), ct := Pv (i + 1), bk := D.nx } σ2 H2) (hd : ∀ σ H, Pv xs.length σ H → D.nx σ H) :
  ∃ W : Nat → Nat → St → Hp → Prop, (∃ m, W 0 m σ H) ∧ ∀ i m σ H, W i m σ H →
   ((Itl K a).stop i H ∧ D.nx σ H) ∨ ((Itl K a).go i H ∧ ∃ N : St → Hp → Prop, (∀ σ' H', N σ' H' → ∃ m', m' < m ∧ W (i + 1) m' σ' H') ∧ ∀ x H', (Itl K a).yld i H x H' → g x σ H' fun σ2 H2 => tb { D with nx := N, ct := N, bk := D.nx } σ2 H2) := by
 refine ⟨fun i m σ H => m = xs.length - i ∧ i ≤ xs.length ∧ Pv i σ H, ⟨xs.length, by simp, Nat.zero_le _, h0⟩, ?_⟩
 rintro i m σ H ⟨rfl, hi, p⟩
 have q := hl i σ H hi p
 by_cases hlt : i < xs.length
 ·refine .inr ⟨⟨xs, xs[i], q, by simp [hlt]⟩, Pv (i + 1), fun σ' H' p' => ⟨xs.length - (i + 1), by omega, rfl, hlt, p'⟩, fun x H' y => ?_⟩
  obtain ⟨e, y⟩ := y
  subst e
  exact hs i x σ _ (y xs q) p
 ·have e : i = xs.length := by omega
  subst e
  exact .inl ⟨⟨xs, q, Nat.le_refl _⟩, hd σ H p⟩
theorem for_tup {K : PySem.W.Frag} {a : Addr} {xs : List V} {g : TG} {tb : TS} {D : Ends} {σ : St} {H : Hp} (Pv : Nat → St → Hp → Prop) (h0 : Pv 0 σ H) (hl : ∀ i σ H, i ≤ xs.length → Pv i σ H → SqT K H a xs)
  (hs : ∀ i x σ H, xs[i]? = some x → Pv i σ H → g x σ H fun σ2 H2 => tb { D with nx := Pv (i + 1), ct := Pv (i + 1), bk := D.nx } σ2 H2) (hd : ∀ σ H, Pv xs.length σ H → D.nx σ H) :
  ∃ W : Nat → Nat → St → Hp → Prop, (∃ m, W 0 m σ H) ∧ ∀ i m σ H, W i m σ H →
   ((Itt K a).stop i H ∧ D.nx σ H) ∨ ((Itt K a).go i H ∧ ∃ N : St → Hp → Prop, (∀ σ' H', N σ' H' → ∃ m', m' < m ∧ W (i + 1) m' σ' H') ∧ ∀ x H', (Itt K a).yld i H x H' → g x σ H' fun σ2 H2 => tb { D with nx := N, ct := N, bk := D.nx } σ2 H2) := by
 refine ⟨fun i m σ H => m = xs.length - i ∧ i ≤ xs.length ∧ Pv i σ H, ⟨xs.length, by simp, Nat.zero_le _, h0⟩, ?_⟩
 rintro i m σ H ⟨rfl, hi, p⟩
 have q := hl i σ H hi p
 by_cases hlt : i < xs.length
 ·refine .inr ⟨⟨xs, xs[i], q, by simp [hlt]⟩, Pv (i + 1), fun σ' H' p' => ⟨xs.length - (i + 1), by omega, rfl, hlt, p'⟩, fun x H' y => ?_⟩
  obtain ⟨e, y⟩ := y
  subst e
  exact hs i x σ _ (y xs q) p
 ·have e : i = xs.length := by omega
  subst e
  exact .inl ⟨⟨xs, q, Nat.le_refl _⟩, hd σ H p⟩
theorem for_range {lo : Int} {n : Nat} {g : TG} {tb : TS} {D : Ends} {σ : St} {H : Hp} (Pv : Nat → St → Hp → Prop) (h0 : Pv 0 σ H)
  (hs : ∀ i σ H, i < n → Pv i σ H → g (.int (lo + i)) σ H fun σ2 H2 => tb { D with nx := Pv (i + 1), ct := Pv (i + 1), bk := D.nx } σ2 H2) (hd : ∀ σ H, Pv n σ H → D.nx σ H) :
  ∃ W : Nat → Nat → St → Hp → Prop, (∃ m, W 0 m σ H) ∧ ∀ i m σ H, W i m σ H →
   ((Itr lo n).stop i H ∧ D.nx σ H) ∨ ((Itr lo n).go i H ∧ ∃ N : St → Hp → Prop, (∀ σ' H', N σ' H' → ∃ m', m' < m ∧ W (i + 1) m' σ' H') ∧ ∀ x H', (Itr lo n).yld i H x H' → g x σ H' fun σ2 H2 => tb { D with nx := N, ct := N, bk := D.nx } σ2 H2) := by
 refine ⟨fun i m σ H => m = n - i ∧ i ≤ n ∧ Pv i σ H, ⟨n, by simp, Nat.zero_le _, h0⟩, ?_⟩
 rintro i m σ H ⟨rfl, hi, p⟩
 by_cases hlt : i < n
 ·refine .inr ⟨hlt, Pv (i + 1), fun σ' H' p' => ⟨n - (i + 1), by omega, rfl, hlt, p'⟩, fun x H' y => ?_⟩
  obtain ⟨e, y⟩ := y
  subst e y
  exact hs i σ _ hlt p
 ·have e : i = n := by omega
  subst e
  exact .inl ⟨Nat.le_refl _, hd σ H p⟩
end L2
namespace L2
open PySem PySem.Spec PyProof.Rows
abbrev R2 := V → V → Hp → VK → Prop
def OpR (X : Cx) (f : Value → Value → Sem Value) (r : R2) : Prop :=
 ∀ (pins : List (Addr × Obj)) (s : Shared) (σ : St) (H : Hp) (x y : V) (v u : Value) (Q : VK), Inv X pins σ H s → RelV x v → RelV y u → r x y H Q →
  wpAny (model X.prog X.w) X.A (f v u) (EP X pins σ Q) X.xe s
def UnR (X : Cx) (f : Value → Sem Value) (r : V → Hp → VK → Prop) : Prop :=
 ∀ (pins : List (Addr × Obj)) (s : Shared) (σ : St) (H : Hp) (x : V) (v : Value) (Q : VK), Inv X pins σ H s → RelV x v → r x H Q →
  wpAny (model X.prog X.w) X.A (f v) (EP X pins σ Q) X.xe s
def CallR (X : Cx) (f : Value) (r : List V → Hp → VK → Prop) : Prop :=
 ∀ (pins : List (Addr × Obj)) (s : Shared) (σ : St) (H : Hp) (xs : List V) (us : List Value) (Q : VK), Inv X pins σ H s → Vals xs us → r xs H Q →
  wpAny (model X.prog X.w) X.A (call f us) (EP X pins σ Q) X.xe s
def tOp (r : R2) (ta tb : TE) : TE := fun σ H Q => ta σ H fun x H1 => tb σ H1 fun y H2 => r x y H2 Q
def tUn (r : V → Hp → VK → Prop) (ta : TE) : TE := fun σ H Q => ta σ H fun x H1 => r x H1 Q
def rI (C : Int → Int → Prop) (g : Int → Int → V) : R2 := fun x y H Q => ∃ i j, x = .int i ∧ y = .int j ∧ C i j ∧ Q (g i j) H
def rI0 (g : Int → Int → V) : R2 := fun x y H Q => ∃ i j, x = .int i ∧ y = .int j ∧ Q (g i j) H
def rU (g : Int → V) : V → Hp → VK → Prop := fun x H Q => ∃ i, x = .int i ∧ Q (g i) H
section
variable {X : Cx} {a b c : Expr} {ta tb tc : TE} {pos : Pos}
theorem binT (ha : PE X a ta) (hb : PE X b tb) {pins : List (Addr × Obj)} {s : Shared} {σ : St} {H : Hp} {R : V → V → Hp → Prop} (I : Inv X pins σ H s)
  (h : ta σ H fun x H1 => tb σ H1 fun y H2 => R x y H2) {Q : Value → Shared → Prop} {f : Value → Value → Sem Value}
  (hf : ∀ v u s2 x y H2, Inv X pins σ H2 s2 → RelV x v → RelV y u → R x y H2 → wpAny (model X.prog X.w) X.A (f v u) Q X.xe s2) :
  wpAny (model X.prog X.w) X.A (eval a X.env) (fun v s₁ => wpAny (model X.prog X.w) X.A (eval b X.env) (fun u s₂ => wpAny (model X.prog X.w) X.A (f v u) Q X.xe s₂) X.xe s₁) X.xe s := by
 refine thn (ha pins s σ H _ I h) fun v s1 ⟨x, H1, I1, r1, q1⟩ => ?_
 refine thn (hb pins s1 σ H1 _ I1 q1) fun u s2 ⟨y, H2, I2, r2, q2⟩ => ?_
 exact hf v u s2 x y H2 I2 r1 r2 q2
theorem pe_op {op : Operator} {r : R2} (ho : OpR X (binaryOp op) r) (ha : PE X a ta) (hb : PE X b tb) : PE X (.BinOp a op b pos) (tOp r ta tb) := by
 intro pins s σ H Q I h
 exact wpAny_BinOp (binT ha hb I h fun v u s2 x y H2 I2 rx ry q => ho pins s2 σ H2 x y v u Q I2 rx ry q)
theorem pe_un {op : UnaryOp} {r : V → Hp → VK → Prop} (ho : UnR X (unaryOp op) r) (ha : PE X a ta) : PE X (.UnaryOp op a pos) (tUn r ta) := by
 intro pins s σ H Q I h
 exact UnaryOp_ (thn (ha pins s σ H _ I h) fun v s1 ⟨x, H1, I1, r1, q1⟩ => ho pins s1 σ H1 x v Q I1 r1 q1)
theorem opI {f : Value → Value → Sem Value} {C : Int → Int → Prop} {g : Int → Int → Int}
  (rule : ∀ (i j : Int) (t u : Tok) (s : Shared) (Q : Value → Shared → Prop) (E : Value → Shared → Prop), C i j → Q (.int (g i j) s.toks) { s with toks := s.toks + 1 } → wpAny (model X.prog X.w) X.A (f (.int i t) (.int j u)) Q E s) :
  OpR X f (rI C fun i j => .int (g i j)) := by
 intro pins s σ H x y v u Q I rx ry h
 obtain ⟨i, j, rfl, rfl, hc, q⟩ := h
 obtain ⟨t, rfl⟩ := rx
 obtain ⟨t', rfl⟩ := ry
 exact rule i j t t' s _ _ hc ⟨.int (g i j), H, I.tok _, ⟨_, rfl⟩, q⟩
theorem opI0 {f : Value → Value → Sem Value} {g : Int → Int → Int}
  (rule : ∀ (i j : Int) (t u : Tok) (s : Shared) (Q : Value → Shared → Prop) (E : Value → Shared → Prop), Q (.int (g i j) s.toks) { s with toks := s.toks + 1 } → wpAny (model X.prog X.w) X.A (f (.int i t) (.int j u)) Q E s) :
  OpR X f (rI0 fun i j => .int (g i j)) := by
 intro pins s σ H x y v u Q I rx ry h
 obtain ⟨i, j, rfl, rfl, q⟩ := h
 obtain ⟨t, rfl⟩ := rx
 obtain ⟨t', rfl⟩ := ry
 exact rule i j t t' s _ _ ⟨.int (g i j), H, I.tok _, ⟨_, rfl⟩, q⟩
theorem opB0 {f : Value → Value → Sem Value} {g : Int → Int → Bool}
  (rule : ∀ (i j : Int) (t u : Tok) (s : Shared) (Q : Value → Shared → Prop) (E : Value → Shared → Prop), Q (.bool (g i j)) s → wpAny (model X.prog X.w) X.A (f (.int i t) (.int j u)) Q E s) :
  OpR X f (rI0 fun i j => .bl (g i j)) := by
 intro pins s σ H x y v u Q I rx ry h
 obtain ⟨i, j, rfl, rfl, q⟩ := h
 obtain ⟨t, rfl⟩ := rx
 obtain ⟨t', rfl⟩ := ry
 exact rule i j t t' s _ _ ⟨.bl (g i j), H, I, rfl, q⟩
def CDiv (i j : Int) : Prop := 0 < j ∧ j < 1073741824
def CPow (i j : Int) : Prop := 0 ≤ j ∧ j ≤ 1000000 ∧ i.natAbs < 2 ^ 64
def CMul (i j : Int) : Prop := (-(2 ^ 64) < i ∧ i < 2 ^ 64) ∨ (-(2 ^ 64) < j ∧ j < 2 ^ 64)
theorem CMul.ok {i j : Int} (h : CMul i j) : IntMulOk i j := by
 rcases h with ⟨h1, h2⟩ | ⟨h1, h2⟩
 ·exact .of_left (intBits_le_64 h1 h2)
 ·exact .of_right (intBits_le_64 h1 h2)
theorem op_add : OpR X (binaryOp .Add) (rI0 fun i j => .int (i + j)) := opI0 fun _ _ _ _ _ _ _ q => add_int q
theorem op_mul : OpR X (binaryOp .Mult) (rI CMul fun i j => .int (i * j)) := opI fun _ _ _ _ _ _ _ hc q => mul_int q hc.ok
theorem op_fdiv : OpR X (binaryOp .FloorDiv) (rI CDiv fun i j => .int (i / j)) := opI fun i j _ _ _ _ _ hc q => by
 have h1 : (0 : Int) < j := hc.1
 have h2 : j < 1073741824 := hc.2
 exact floordiv_int (by omega) (by rw [Int.fdiv_eq_ediv_of_nonneg i (by omega)]; exact q) (.inl (PyProof.noPylong_small (by omega)))
theorem op_mod : OpR X (binaryOp .Mod) (rI (fun _ j => 0 < j) fun i j => .int (i % j)) := opI fun i j _ _ _ _ _ hc q => by
 have h1 : (0 : Int) < j := hc
 exact mod_int' (by omega) (by rw [Int.fmod_eq_emod_of_nonneg i (by omega)]; exact q)
theorem op_pow : OpR X (binaryOp .Pow) (rI CPow fun i j => .int (i ^ j.toNat)) := opI fun _ _ _ _ _ _ _ hc q => pow_int_small hc.1 hc.2.1 hc.2.2 q
theorem unI {f : Value → Sem Value} {g : Int → Int}
  (rule : ∀ (i : Int) (t : Tok) (s : Shared) (Q : Value → Shared → Prop) (E : Value → Shared → Prop), Q (.int (g i) s.toks) { s with toks := s.toks + 1 } → wpAny (model X.prog X.w) X.A (f (.int i t)) Q E s) :
  UnR X f (rU fun i => .int (g i)) := by
 intro pins s σ H x v Q I rx h
 obtain ⟨i, rfl, q⟩ := h
 obtain ⟨t, rfl⟩ := rx
 exact rule i t s _ _ ⟨.int (g i), H, I.tok _, ⟨_, rfl⟩, q⟩
theorem un_neg : UnR X (unaryOp .USub) (rU fun i => .int (-i)) := unI fun _ _ _ _ _ q => neg_int q
end
noncomputable def scal : V → V → Bool
 | .non, .non => true | .non, .int _ => true | .int _, .non => true | .non, .bl _ => true | .bl _, .non => true | .non, .str _ => true | .str _, .non => true
 | .int _, .int _ => true | .bl _, .bl _ => true | .str _, .str _ => true | .byt _, .byt _ => true
 | .int _, .str _ => true | .str _, .int _ => true | .bl _, .str _ => true | .str _, .bl _ => true
 | _, _ => false
def rEq : R2 := fun x y H Q => scal x y = true ∧ Q (.bl (decide (x = y))) H
def rNe : R2 := fun x y H Q => scal x y = true ∧ Q (.bl (!decide (x = y))) H
theorem dec_int {i j : Int} : decide (V.int i = V.int j) = (i == j) := by
 rw [Bool.eq_iff_iff]
 simp
theorem dec_bl {i j : Bool} : decide (V.bl i = V.bl j) = (i == j) := by
 rw [Bool.eq_iff_iff]
 simp
theorem dec_str {i j : Str} : decide (V.str i = V.str j) = (i == j) := by
 rw [Bool.eq_iff_iff]
 simp
theorem dec_byt {i j : Array UInt8} : decide (V.byt i = V.byt j) = (i.toList == j.toList) := by
 rw [Bool.eq_iff_iff]
 cases i
 cases j
 simp
section
variable {X : Cx} {a b c : Expr} {ta tb tc : TE} {pos : Pos}
theorem fin_bl {pins : List (Addr × Obj)} {σ : St} {H : Hp} {s : Shared} {Q : VK} {k k' : Bool} (I : Inv X pins σ H s) (q : Q (.bl k) H) (e : k = k') : EP X pins σ Q (.bool k') s := by
 subst e
 exact ⟨.bl k, H, I, rfl, q⟩
theorem op_eq : OpR X (compareOp .Eq) rEq := by
 intro pins s σ H x y v u Q I rx ry h
 obtain ⟨hs, q⟩ := h
 cases x with
 | non =>
  cases rx
  cases y with
  | non => cases ry; exact PySem.EqNone.eq_none_none (fin_bl I q (by simp))
  | bl j => cases ry; exact PySem.EqNone.eq_none_bool (fin_bl I q (by simp))
  | int j => obtain ⟨t', rfl⟩ := ry; exact PySem.EqNone.eq_none_int (fin_bl I q (by simp))
  | str j => obtain ⟨t', rfl⟩ := ry; exact PySem.EqNone.eq_none_str (fin_bl I q (by simp))
  | _ => exact absurd (show false = true from hs) Bool.false_ne_true
 | bl i =>
  cases rx
  cases y with
  | non => cases ry; exact PySem.EqNone.eq_bool_none (fin_bl I q (by simp))
  | bl j => cases ry; exact eq_bool (fin_bl I q dec_bl)
  | str j => obtain ⟨t', rfl⟩ := ry; exact PySem.EqMixed.eq_bool_str (fin_bl I q (by simp))
  | _ => exact absurd (show false = true from hs) Bool.false_ne_true
 | int i =>
  obtain ⟨t, rfl⟩ := rx
  cases y with
  | non => cases ry; exact PySem.EqNone.eq_int_none (fin_bl I q (by simp))
  | int j => obtain ⟨t', rfl⟩ := ry; exact eq_int (fin_bl I q dec_int)
  | str j => obtain ⟨t', rfl⟩ := ry; exact PySem.EqMixed.eq_int_str (fin_bl I q (by simp))
  | _ => exact absurd (show false = true from hs) Bool.false_ne_true
 | str i =>
  obtain ⟨t, rfl⟩ := rx
  cases y with
  | non => cases ry; exact PySem.EqNone.eq_str_none (fin_bl I q (by simp))
  | bl j => cases ry; exact PySem.EqMixed.eq_str_bool (fin_bl I q (by simp))
  | int j => obtain ⟨t', rfl⟩ := ry; exact PySem.EqMixed.eq_str_int (fin_bl I q (by simp))
  | str j => obtain ⟨t', rfl⟩ := ry; exact eq_str (fin_bl I q dec_str)
  | _ => exact absurd (show false = true from hs) Bool.false_ne_true
 | byt i =>
  obtain ⟨t, rfl⟩ := rx
  cases y with
  | byt j => obtain ⟨t', rfl⟩ := ry; exact PySem.W.eq_bytes (fin_bl I q dec_byt)
  | _ => exact absurd (show false = true from hs) Bool.false_ne_true
 | _ => cases y <;> exact absurd (show false = true from hs) Bool.false_ne_true
theorem op_ne : OpR X (compareOp .NotEq) rNe := by
 intro pins s σ H x y v u Q I rx ry h
 obtain ⟨hs, q⟩ := h
 cases x with
 | non =>
  cases rx
  cases y with
  | non => cases ry; exact PySem.EqNone.ne_none_none (fin_bl I q (by simp))
  | bl j => cases ry; exact PySem.EqNone.ne_none_bool (fin_bl I q (by simp))
  | int j => obtain ⟨t', rfl⟩ := ry; exact PySem.EqNone.ne_none_int (fin_bl I q (by simp))
  | str j => obtain ⟨t', rfl⟩ := ry; exact PySem.EqNone.ne_none_str (fin_bl I q (by simp))
  | _ => exact absurd (show false = true from hs) Bool.false_ne_true
 | bl i =>
  cases rx
  cases y with
  | non => cases ry; exact PySem.EqNone.ne_bool_none (fin_bl I q (by simp))
  | bl j => cases ry; exact ne_bool (fin_bl I q (congrArg not dec_bl))
  | str j => obtain ⟨t', rfl⟩ := ry; exact PySem.EqMixed.ne_bool_str (fin_bl I q (by simp))
  | _ => exact absurd (show false = true from hs) Bool.false_ne_true
 | int i =>
  obtain ⟨t, rfl⟩ := rx
  cases y with
  | non => cases ry; exact PySem.EqNone.ne_int_none (fin_bl I q (by simp))
  | int j => obtain ⟨t', rfl⟩ := ry; exact ne_int (fin_bl I q (congrArg not dec_int))
  | str j => obtain ⟨t', rfl⟩ := ry; exact PySem.EqMixed.ne_int_str (fin_bl I q (by simp))
  | _ => exact absurd (show false = true from hs) Bool.false_ne_true
 | str i =>
  obtain ⟨t, rfl⟩ := rx
  cases y with
  | non => cases ry; exact PySem.EqNone.ne_str_none (fin_bl I q (by simp))
  | bl j => cases ry; exact PySem.EqMixed.ne_str_bool (fin_bl I q (by simp))
  | int j => obtain ⟨t', rfl⟩ := ry; exact PySem.EqMixed.ne_str_int (fin_bl I q (by simp))
  | str j => obtain ⟨t', rfl⟩ := ry; exact ne_str (fin_bl I q (congrArg not dec_str))
  | _ => exact absurd (show false = true from hs) Bool.false_ne_true
 | byt i =>
  obtain ⟨t, rfl⟩ := rx
  cases y with
  | byt j => obtain ⟨t', rfl⟩ := ry; exact PySem.W.ne_bytes (fin_bl I q (congrArg not dec_byt))
  | _ => exact absurd (show false = true from hs) Bool.false_ne_true
 | _ => cases y <;> exact absurd (show false = true from hs) Bool.false_ne_true
theorem op_lt : OpR X (compareOp .Lt) (rI0 fun i j => .bl (decide (i < j))) := opB0 fun _ _ _ _ _ _ _ q => lt_int q
theorem op_le : OpR X (compareOp .LtE) (rI0 fun i j => .bl (decide (i ≤ j))) := opB0 fun _ _ _ _ _ _ _ q => le_int q
theorem op_gt : OpR X (compareOp .Gt) (rI0 fun i j => .bl (decide (j < i))) := opB0 fun _ _ _ _ _ _ _ q => gt_int q
theorem op_ge : OpR X (compareOp .GtE) (rI0 fun i j => .bl (decide (j ≤ i))) := opB0 fun _ _ _ _ _ _ _ q => ge_int q
theorem op_in_str : OpR X (compareOp .In) (fun x y H Q => ∃ i j, x = .str i ∧ y = .str j ∧ Q (.bl (!(Builtin.Str.occurrences j i 0 j.length 1).isEmpty)) H) := by
 intro pins s σ H x y v u Q I rx ry h
 obtain ⟨i, j, rfl, rfl, q⟩ := h
 obtain ⟨t, rfl⟩ := rx
 obtain ⟨t', rfl⟩ := ry
 exact in_str (fin_bl I q rfl)
theorem OpR.or {f : Value → Value → Sem Value} {r r' : R2} (h : OpR X f r) (h' : OpR X f r') : OpR X f (fun x y H Q => r x y H Q ∨ r' x y H Q) := by
 intro pins s σ H x y v u Q I rx ry q
 rcases q with q | q
 ·exact h pins s σ H x y v u Q I rx ry q
 ·exact h' pins s σ H x y v u Q I rx ry q
theorem nomark (b : Expr) {op : CmpOp} (h : op ≠ .In := by decide) (h2 : op ≠ .NotIn := by decide) : behindInMarks op b = false := by
 have e1 : (op == CmpOp.In) = false := by cases op <;> first | rfl | exact absurd rfl h
 have e2 : (op == CmpOp.NotIn) = false := by cases op <;> first | rfl | exact absurd rfl h2
 cases b <;> simp [behindInMarks, e1, e2]
theorem pe_cmpR {op : CmpOp} {r : R2} (ho : OpR X (compareOp op) r) (ha : PE X a ta) (hb : PE X b tb) (hm : behindInMarks op b = false) : PE X (.Compare a [op] [b] pos) (tOp r ta tb) := by
 intro pins s σ H Q I h
 exact wpAny_Compare1 (binT ha hb I h fun v u s2 x y H2 I2 rx ry q => ho pins s2 σ H2 x y v u Q I2 rx ry q) hm
def tTest (t : TE) : TT := fun σ H Q => t σ H fun x H' => ∃ k, x = .bl k ∧ Q k H'
theorem pt_cmpR {op : CmpOp} {r : R2} (ho : OpR X (compareOp op) r) (ha : PE X a ta) (hb : PE X b tb) (hm : behindInMarks op b = false) : PT X (.Compare a [op] [b] pos) (tTest (tOp r ta tb)) := by
 intro pins s σ H Q I h
 refine wpAny_isTrue_Compare1 (thn (ha pins s σ H _ I h) fun v s1 ⟨x, H1, I1, r1, q1⟩ => thn (hb pins s1 σ H1 _ I1 q1) fun u s2 ⟨y, H2, I2, r2, q2⟩ =>
  thn (ho pins s2 σ H2 x y v u _ I2 r1 r2 q2) fun c s3 ⟨z, H3, I3, r3, k, e, q3⟩ => ?_) hm
 subst e
 cases r3
 exact wpAny_truthy_bool ⟨H3, I3, q3⟩
theorem line63 : (sizeLine : Nat) < 2 ^ 63 := by rw [sizeLine_eq]; decide
theorem op_add_str : OpR X (binaryOp .Add) (fun x y H Q => ∃ i j, x = .str i ∧ y = .str j ∧ i.length + j.length ≤ sizeLine ∧ Q (.str (i ++ j)) H) := by
 intro pins s σ H x y v u Q I rx ry h
 obtain ⟨i, j, rfl, rfl, hz, q⟩ := h
 obtain ⟨t, rfl⟩ := rx
 obtain ⟨t', rfl⟩ := ry
 exact add_str (fun t' tk => ⟨.str (i ++ j), H, I.tok _, ⟨_, rfl⟩, q⟩) hz
theorem vals1 {x : V} {us : List Value} (r : Vals [x] us) : ∃ u, us = [u] ∧ RelV x u := by
 cases r with
 | cons r1 r2 => cases r2; exact ⟨_, rfl, r1⟩
theorem vals2 {x y : V} {us : List Value} (r : Vals [x, y] us) : ∃ u w', us = [u, w'] ∧ RelV x u ∧ RelV y w' := by
 cases r with
 | cons r1 r2 =>
  cases r2 with
  | cons r3 r4 => cases r4; exact ⟨_, _, rfl, r1, r3⟩
end
end L2
namespace L2
open PySem PySem.Spec PyProof.Rows
structure ObjM (h : Heap) (x dx C : Addr) (mA : Str → Option Value) : Prop where
 obj : h.get? x = some (PySem.W.instObj C dx)
 ns : h.Ns1 dx mA
 ne : dx ≠ x
theorem lookIn_ns {h : Heap} {dx : Addr} {mA : Str → Option Value} (n : h.Ns1 dx mA) : ∃ od, h.get? dx = some od ∧ ∀ name, PySem.W.lookIn name od = some (mA name) := by
 obtain ⟨o, es, ep, ho, hd, hk, _, hm⟩ := n
 refine ⟨o, ho, fun name => ?_⟩
 have e := hm name
 unfold nsFind findBy at e
 rw [← Array.find?_toList] at e
 unfold PySem.W.lookIn
 rw [hd]
 dsimp only
 split
 ·rename_i y q
  rw [q] at e
  exact congrArg some e
 ·rename_i q
  rw [q] at e
  have a : es.toList.any (·.refKey) = false := by
   rw [List.any_eq_false]
   intro y hy
   obtain ⟨z, t, hkey⟩ := hk y (Array.mem_toList_iff.mp hy)
   simp [DictEntry.refKey, hkey]
  have a' : ¬ es.toList.any (·.refKey) = true := by rw [a]; exact Bool.false_ne_true
  rw [if_neg a']
  exact congrArg some e
theorem ObjM.look {h : Heap} {x dx C : Addr} {mA : Str → Option Value} (I : ObjM h x dx C mA) : ∃ od, PySem.W.InstAt h x (PySem.W.instObj C dx) C (some od) ∧ ∀ name, PySem.W.lookIn name od = some (mA name) :=
 let ⟨od, ho, hl⟩ := lookIn_ns I.ns
 ⟨od, ⟨I.obj, rfl, rfl, ho⟩, hl⟩
section
variable {prog : Program} {w : World} {A : Around} {E : Value → Shared → Prop} {s : Shared} {K : PySem.W.Frag} {x dx C f : Addr} {mA : Str → Option Value} {name : Str} {v : Value}
end
theorem RelO.some_of {v : V} {o : Option Value} (r : RelO (some v) o) : ∃ u, o = some u ∧ RelV v u := by
 cases o with
 | none => exact (show False from r).elim
 | some u => exact ⟨u, rfl, r⟩
theorem RelO.none_of {o : Option Value} (r : RelO none o) : o = none := by
 cases o with
 | none => rfl
 | some u => exact (show False from r).elim
section
variable {P : Program} {w : World} {H H' : Hp} {h h' : Heap} {a C dx : Addr} {fs fs' : List (Str × V)}
theorem ins_get (hok : HOk P w H h) (e : H a = some (.ins C dx fs)) : ∃ mA, ObjM h a dx C mA ∧ (∀ f, RelO (fs.lookup f) (mA f)) ∧ PySem.Within mA (fs.map (·.1)) ∧ fs.length ≤ 1000 ∧ H dx = some (.own a) := by
 obtain ⟨d, z, ne, ob, mA, n, r, q⟩ := (show ObjOk P w H h a (.ins C dx fs) from hok a _ e)
 exact ⟨mA, ⟨ob, n, ne⟩, r, q, z, d⟩
end
structure Cls (K : PySem.W.Frag) (C : Addr) : Prop where
 pg : PySem.W.plainGet K C Str.empty = true
 hd : PySem.W.hasDictIn K C = true
 po : PySem.W.plainOver K C = true
 sa : PySem.W.findIn K (.ref C) "__setattr__" = some (some (.builtin "object.__setattr__"))
theorem Cls.get {K : PySem.W.Frag} {C : Addr} (c : Cls K C) (f : Str) : PySem.W.plainGet K C f = true := c.pg
section
variable {X : Cx} {pins : List (Addr × Obj)} {σ : St} {H : Hp} {s : Shared} {a C dx : Addr} {fs : List (Str × V)} {f : Str} {v : V} {A : Around} {E : Value → Shared → Prop}
theorem Inv.made (I : Inv X pins σ H s) : Inv X pins σ (upd (upd H s.heap.objs.size (.own (s.heap.objs.size + 1))) (s.heap.objs.size + 1) (.ins C s.heap.objs.size []))
  { s with heap := (s.heap.push PySem.W.emptyDict).push (PySem.W.instObj C s.heap.objs.size) } := by
 have e1 : (s.heap.push PySem.W.emptyDict).get? s.heap.objs.size = some PySem.W.emptyDict := Heap.get?_push_size s.heap rfl
 have e2 : ((s.heap.push PySem.W.emptyDict).push (PySem.W.instObj C s.heap.objs.size)).get? (s.heap.objs.size + 1) = some (PySem.W.instObj C s.heap.objs.size) := by
  have := Heap.get?_push_size (s.heap.push PySem.W.emptyDict) (o := PySem.W.instObj C s.heap.objs.size) rfl
  rwa [Heap.size_push] at this
 have e3 : (s.heap.push PySem.W.emptyDict).Ns s.heap.objs.size (fun _ => none) := ⟨PySem.W.emptyDict, #[], _, e1, rfl, (fun e he => absurd he (by simp)), fun _ => rfl⟩
 have I1 := I.laid (a := s.heap.objs.size) (o := .own (s.heap.objs.size + 1)) (h' := s.heap.push PySem.W.emptyDict) (t' := s.toks) (fun b u q => Heap.get?_push_of_some _ q) (Nat.le_refl _) ⟨_, e1⟩
 refine I1.laid (a := s.heap.objs.size + 1) (o := .ins C s.heap.objs.size []) (t' := s.toks) (fun b u q => Heap.get?_push_of_some _ q) (Nat.le_of_eq (Heap.size_push _ _)) ?_
 have ne : s.heap.objs.size ≠ s.heap.objs.size + 1 := Nat.ne_of_lt (Nat.lt_succ_self _)
 refine ⟨by rw [upd_ne ne, upd_same], Nat.zero_le _, ne, e2, fun _ => none, (Heap.Ns1.of_empty e3).at fun o q => Heap.get?_push_of_some _ q, fun _ => True.intro, fun y hy => absurd rfl hy⟩
end
section
variable {X : Cx} {o e value : Expr} {f : Str} {pos pos' tpos : Pos} {ta tv : TE}
end
section
variable {X : Cx} {pins : List (Addr × Obj)} {σ : St} {H : Hp} {s : Shared} {A : Around} {E : Value → Shared → Prop} {Q : Value → Shared → Prop} {c : Value} {b : Bool}
inductive TyOf (K : PySem.W.Frag) (H : Hp) : V → Value → Prop where
 | non : TyOf K H .non (.type "NoneType")
 | bl (x : Bool) : TyOf K H (.bl x) (.type "bool")
 | int (i : Int) : TyOf K H (.int i) (.type "int")
 | str (x : Str) : TyOf K H (.str x) (.type "str")
 | flt (x : UInt64) : TyOf K H (.flt x) (.type "float")
 | lst {a : Addr} {xs : List V} (e : H a = some (.lst xs)) : TyOf K H (.ref a) (.type "list")
 | frz {a : Addr} {o : Obj} {xs : List V} (e : H a = some (.frz o (.lst xs))) : TyOf K H (.ref a) (.type "list")
 | tup {a : Addr} {xs : List V} (e : H a = some (.tup xs)) : TyOf K H (.ref a) (.type "tuple")
 | dK {a : Addr} {kvs : List (Key × V)} (e : H a = some (.dK kvs)) : TyOf K H (.ref a) (.type "dict")
 | dT {a : Addr} {kvs : List (List Key × V)} (e : H a = some (.dT kvs)) : TyOf K H (.ref a) (.type "dict")
 | ins {a C dx : Addr} {fs : List (Str × V)} (e : H a = some (.ins C dx fs)) (cl : Cls K C) (ha : PySem.W.findIn K (.ref C) "__class__" = some (some (.builtin "object.__class__")))
   (hn : PySem.W.specialIn K (.builtin "object.__class__") "__get__" = some (some (.builtin "getset_descriptor.__get__"))) (htk : PySem.W.takesIn K (.builtin "object.__class__") = some true)
   (hm : PySem.W.mroIn K C (.type "object") = some true) : TyOf K H (.ref a) (.ref C)
theorem isinst_ok {x : V} {u t : Value} (I : Inv X pins σ H s) (rx : RelV x u) (ty : TyOf X.K H x t) (e : PySem.W.kitOne X.K t c = some b) (h : ∀ tk, Q (.bool b) { s with toks := tk }) :
  wpAny (model X.prog X.w) A (call (.builtin "isinstance") [u, c]) Q E s := by
 cases ty with
 | non => cases (show u = Value.none from rx); exact PySem.W.kia_one PySem.W.kitx_none I.kIn True.intro e (fun z => nomatch z) h
 | bl y => cases (show u = Value.bool y from rx); exact PySem.W.kia_one PySem.W.kitx_bool I.kIn True.intro e (fun z => nomatch z) h
 | int i => obtain ⟨t, q⟩ := (show ∃ t, u = Value.int i t from rx); cases q; exact PySem.W.kia_one PySem.W.kitx_int I.kIn True.intro e (fun z => nomatch z) h
 | str y => obtain ⟨t, q⟩ := (show ∃ t, u = Value.str y t from rx); cases q; exact PySem.W.kia_one PySem.W.kitx_str I.kIn True.intro e (fun z => nomatch z) h
 | flt y => obtain ⟨t, q⟩ := (show ∃ t, u = Value.float y t from rx); cases q; exact PySem.W.kia_one PySem.W.kitx_float I.kIn True.intro e (fun z => nomatch z) h
 | @lst a xs ea =>
  cases (show u = Value.ref a from rx)
  obtain ⟨_, _, n, _, h1⟩ := (show ObjOk X.prog X.w H s.heap a (.lst xs) from I.hok a _ ea)
  exact PySem.W.kia_one PySem.W.kitx_list I.kIn ⟨_, h1, rfl⟩ e (fun z => nomatch z) h
 | @frz a ob xs ea =>
  cases (show u = Value.ref a from rx)
  obtain ⟨_, _, _, n, _, h1⟩ := (show ObjOk X.prog X.w H s.heap a (.frz ob (.lst xs)) from I.hok a _ ea)
  exact PySem.W.kia_one PySem.W.kitx_list I.kIn ⟨_, h1, rfl⟩ e (fun z => nomatch z) h
 | @tup a xs ea =>
  cases (show u = Value.ref a from rx)
  obtain ⟨_, _, _, p⟩ := (show ObjOk X.prog X.w H s.heap a (.tup xs) from I.hok a _ ea)
  obtain ⟨o, h1, h2, _⟩ := p
  exact PySem.W.kia_one PySem.W.kitx_tuple I.kIn ⟨o, h1, h2⟩ e (fun z => nomatch z) h
 | @dK a kvs ea =>
  cases (show u = Value.ref a from rx)
  obtain ⟨_, _, vs, _, p⟩ := (show ObjOk X.prog X.w H s.heap a (.dK kvs) from I.hok a _ ea)
  obtain ⟨o, es, ep, h1, h2, _⟩ := p
  exact PySem.W.kia_one PySem.W.kitx_dict I.kIn ⟨o, h1, h2.1⟩ e (fun z => nomatch z) h
 | @dT a kvs ea =>
  cases (show u = Value.ref a from rx)
  obtain ⟨_, _, xs, _, o, es, ep, h1, h2, _⟩ := (show ObjOk X.prog X.w H s.heap a (.dT kvs) from I.hok a _ ea)
  exact PySem.W.kia_one PySem.W.kitx_dict I.kIn ⟨o, h1, h2.1⟩ e (fun z => nomatch z) h
 | @ins a C dx fs ea cl ha hn htk hm =>
  cases (show u = Value.ref a from rx)
  obtain ⟨mA, O, _⟩ := ins_get I.hok ea
  obtain ⟨od, J, _⟩ := O.look
  exact PySem.W.kia_one (PySem.W.kitx_own (cl.get _) cl.hd ha hn htk hm) I.kIn J e (fun z => nomatch z) h
end
end L2
namespace L2
open PySem PySem.Spec PyProof.Rows
structure Room (k : Nat) (A : Around) : Prop where
 hd : A.handled = none
 dp : A.depth + 3 * k + 5 < recursionLimit
 un : A.units + 16 * k + 200 < cLine
theorem Room.mono {j k : Nat} {A : Around} (r : Room k A) (h : j ≤ k) : Room j A := ⟨r.hd, by have := r.dp; omega, by have := r.un; omega⟩
theorem Room.deeper {k : Nat} {A : Around} (r : Room (k + 1) A) (env : Env) : Room k (A.deeper env) :=
 ⟨r.hd, by have := r.dp; show A.depth + 1 + 3 * k + 5 < _; omega, by have := r.un; show A.units + 3 + 16 * k + 200 < _; omega⟩
theorem Room.in1 {k : Nat} {A : Around} (r : Room (k + 1) A) : Room k A.in1 :=
 ⟨r.hd, by have := r.dp; show A.depth + 3 * k + 5 < _; omega, by have := r.un; show A.units + 1 + 16 * k + 200 < _; omega⟩
theorem make_depth {A : Around} {C : Addr} {us : List Value} {kw : List (Str × Value)} : (A.under (.builtin "type.__call__" ⟨.ref C :: us, kw⟩)).depth = A.depth + 1 := by
 first | rfl | simp [Around.under, Code.weight, Code.isCreation, Code.isGuard, Code.isCaller, Code.frames, Code.isFrame, guardIds]
theorem make_units {A : Around} {C : Addr} {us : List Value} {kw : List (Str × Value)} : (A.under (.builtin "type.__call__" ⟨.ref C :: us, kw⟩)).units = A.units + 1 := by
 first | rfl | simp [Around.under, Code.cUnits, Code.frames, Code.isFrame]
theorem Room.make {k : Nat} {A : Around} (r : Room (k + 1) A) (C : Addr) (us : List Value) (kw : List (Str × Value)) : Room k (A.under (.builtin "type.__call__" ⟨.ref C :: us, kw⟩)) :=
 ⟨r.hd, by have := r.dp; rw [make_depth]; omega, by have := r.un; rw [make_units]; omega⟩
theorem Room.depth {k : Nat} {A : Around} (r : Room k A) : A.depth < recursionLimit := by have := r.dp; omega
theorem Room.units {k : Nat} {A : Around} (r : Room k A) : A.units + 64 < cLine := by have := r.un; omega
def tNil : TA := fun _ H Q => Q [] H
def tCons (ta : TE) (tr : TA) : TA := fun σ H Q => ta σ H fun x H1 => tr σ H1 fun xs H2 => Q (x :: xs) H2
section
variable {X : Cx} {e : Expr} {es : List Expr} {te : TE} {t : TA} {pos : Pos}
theorem pa_nil : PA X [] tNil := fun _ _ _ _ H Q I h => Calls.spliced_nil ⟨[], H, I, .nil, h⟩
theorem pa_cons (ha : PE X e te) (hr : PA X es t) (hs : starEach (e :: es) X.env = (false, eval e X.env) :: starEach es X.env := by rfl) : PA X (e :: es) (tCons te t) := by
 intro pos pins s σ H Q I h
 rw [hs]
 show wpAny _ _ (spliced ((false, eval e X.env) :: backTo pos (starEach es X.env))) _ _ s
 refine Calls.spliced_cons (thn (ha pins s σ H _ I h) fun u s1 ⟨x, H1, I1, r1, q1⟩ => ?_)
 exact thn (hr pos pins s1 σ H1 _ I1 q1) fun us s2 ⟨xs, H2, I2, r2, q2⟩ => ⟨x :: xs, H2, I2, .cons r1 r2, q2⟩
def tTup (t : TA) : TE := fun σ H Q => t σ H fun xs H1 => xs.length ≤ sizeLine ∧ ∀ p, H1 p = none → Q (.ref p) (upd H1 p (.tup xs))
def tLst (t : TA) : TE := fun σ H Q => t σ H fun xs H1 => xs.length ≤ sizeLine ∧ ∀ p, H1 p = none → Q (.ref p) (upd H1 p (.lst xs))
theorem pe_tup {x1} (h : PA X es t) : PE X (.Tuple es x1 pos) (tTup t) := by
 intro pins s σ H Q I hq
 refine wpAny_Tuple_spliced (thn (h pos pins s σ H _ I hq) fun us s1 ⟨xs, H1, I1, r, z, q⟩ => ⟨by rw [← r.length]; exact z, ?_⟩)
 have hf : H1 s1.heap.objs.size = none := I1.hok.fresh (Nat.le_refl _)
 refine ⟨.ref s1.heap.objs.size, upd H1 s1.heap.objs.size (.tup xs), I1.laid (t' := s1.toks) (fun b u e => Heap.get?_push_of_some _ e) (Nat.le_refl _) ?_, rfl, q _ hf⟩
 exact ⟨z, us, r, ⟨_, Heap.get?_push_size _ rfl, rfl, _, rfl, rfl⟩⟩
theorem pe_lst (h : PA X es t) : PE X (.List es pos) (tLst t) := by
 intro pins s σ H Q I hq
 refine wpAny_List_spliced (thn (h pos pins s σ H _ I hq) fun us s1 ⟨xs, H1, I1, r, z, q⟩ => ⟨by rw [← r.length]; exact z, ?_⟩)
 have hf : H1 s1.heap.objs.size = none := I1.hok.fresh (Nat.le_refl _)
 refine ⟨.ref s1.heap.objs.size, upd H1 s1.heap.objs.size (.lst xs), I1.laid (t' := s1.toks) (fun b u e => Heap.get?_push_of_some _ e) (Nat.le_refl _) ?_, rfl, q _ hf⟩
 exact ⟨z, us, 0, r, Heap.get?_push_size _ rfl⟩
end
abbrev Sp := List V → Hp → VK → XK → Prop
abbrev CXT := List Env → Hp → Shared → XK → Value → Shared → Prop
structure Env0 (P : Program) (w : World) (K : PySem.W.Frag) (mg : Str → Option Value) (base : Heap) (A : Around) (outer : List Env) (s : Shared) (H : Hp) : Prop where
 frames : A.frames = some outer
 mod : Mod K mg base
 bs : ∀ b o, base.get? b = some o → s.heap.get? b = some o ∧ H b = none
 bsz : base.objs.size ≤ s.heap.objs.size
 funs : s.heap.FunFrames base outer
 frf : ∀ b ∈ frs outer, H b = none
 hok : HOk P w H s.heap
 bare : AllBare s.gens
def CE (outer : List Env) (P : Program) (w : World) (H : Hp) (s : Shared) (Q : VK) (u : Value) (s' : Shared) : Prop :=
 ∃ v H', s'.os = s.os ∧ AllBare s'.gens ∧ Un (frs outer) [] H H' s.heap s'.heap ∧ HOk P w H' s'.heap ∧ RelV v u ∧ Q v H'
def CR (CX : CXT) (outer : List Env) (P : Program) (w : World) (H : Hp) (s : Shared) (Q : VK) (E : XK) (r : Result) (s' : Shared) : Prop :=
 match r with
 | .ok (.ret u) => CE outer P w H s Q u s'
 | .ok _ => False
 | .error e => CX outer H s E e s'
structure FnOk (P : Program) (w : World) (K : PySem.W.Frag) (mg : Str → Option Value) (base : Heap) (CX : CXT) (k : Nat) (f : Addr) (fd : FuncData) (ps : List Str) (sp : Sp) : Prop where
 len : ∀ vs H Q E, sp vs H Q E → vs.length = ps.length
 run : ∀ (A : Around) (outer : List Env) (s : Shared) (H : Hp) (args : Args) (us : List Value) (vs : List V) (Q : VK) (E : XK), Room k A → Env0 P w K mg base A outer s H → BindsTo s fd args (ps.zip us) → Vals vs us → sp vs H Q E →
  codeAny (model P w) A (.call (.ref f) args) (CR CX outer P w H s Q E) s
theorem FnOk.mono {P : Program} {w : World} {K : PySem.W.Frag} {mg : Str → Option Value} {base : Heap} {CX : CXT} {j k : Nat} {f : Addr} {fd : FuncData} {ps : List Str} {sp : Sp} (F : FnOk P w K mg base CX j f fd ps sp) (h : j ≤ k) :
  FnOk P w K mg base CX k f fd ps sp := ⟨F.len, fun A outer s H args us vs Q E hr => F.run A outer s H args us vs Q E (hr.mono h)⟩
theorem FnOk.imp {P : Program} {w : World} {K : PySem.W.Frag} {mg : Str → Option Value} {base : Heap} {CX : CXT} {k : Nat} {f : Addr} {fd : FuncData} {ps : List Str} {sp sp' : Sp} (F : FnOk P w K mg base CX k f fd ps sp)
  (h : ∀ vs H Q E, sp' vs H Q E → sp vs H Q E) : FnOk P w K mg base CX k f fd ps sp' :=
 ⟨fun vs H Q E q => F.len vs H Q E (h _ _ _ _ q), fun A outer s H args us vs Q E hr he hb hv hs => F.run A outer s H args us vs Q E hr he hb hv (h _ _ _ _ hs)⟩
theorem Env0.make {P : Program} {w : World} {K : PySem.W.Frag} {mg : Str → Option Value} {base : Heap} {A : Around} {outer : List Env} {s : Shared} {H : Hp} (e : Env0 P w K mg base A outer s H) (C : Addr) (us : List Value) (kw : List (Str × Value)) :
  Env0 P w K mg base (A.under (.builtin "type.__call__" ⟨.ref C :: us, kw⟩)) outer s H := ⟨by first | exact e.frames | (simpa [Around.under, Code.envs, Code.isFrame, pushEnvs] using e.frames), e.mod, e.bs, e.bsz, e.funs, e.frf, e.hok, e.bare⟩
theorem Env0.in1 {P : Program} {w : World} {K : PySem.W.Frag} {mg : Str → Option Value} {base : Heap} {A : Around} {outer : List Env} {s : Shared} {H : Hp} (e : Env0 P w K mg base A outer s H) :
  Env0 P w K mg base A.in1 outer s H := ⟨e.frames, e.mod, e.bs, e.bsz, e.funs, e.frf, e.hok, e.bare⟩
section
variable {X : Cx} {pins : List (Addr × Obj)} {σ : St} {H : Hp} {s s' : Shared}
theorem Inv.env0 (I : Inv X pins σ H s) : Env0 X.prog X.w X.K X.mg X.base X.A X.stack s H :=
 ⟨I.ok.frames, I.ok.mod, I.bs, Nat.le_trans I.ok.bsz I.sz, I.stack, I.stkFree, I.hok, I.bare⟩
theorem Inv.after {Q : VK} {u : Value} (I : Inv X pins σ H s) (h : CE X.stack X.prog X.w H s Q u s') : EP X pins σ Q u s' := by
 obtain ⟨v, H', os, bare, un, hok, r, q⟩ := h
 obtain ⟨hh, g, d, t, os'⟩ := s'
 obtain rfl : os' = s.os := os
 exact ⟨v, H', I.call (h' := hh) (g' := g) (d' := d) (t' := t) (ch := []) un hok bare (fun b z => absurd z (by simp)), r, q⟩
end
def tCall (sp : Sp) (dvs : List V) (E : XK) (t : TA) : TE := fun σ H Q => t σ H fun vs H1 => sp (vs ++ dvs) H1 Q E
def Binds (K : PySem.W.Frag) (fd : FuncData) (ps : List Str) (ds : List Value) : Prop :=
 ∀ (s : Shared) (us : List Value), K.In s.heap → (us ++ ds).length = ps.length → BindsTo s fd ⟨us, []⟩ (ps.zip (us ++ ds))
theorem Binds.all {K : PySem.W.Frag} {fd : FuncData} {ps : List Str} (h : ∀ us : List Value, us.length = ps.length → bindArgs fd ⟨us, []⟩ = pure (ps.zip us)) : Binds K fd ps [] := fun s us _ hl => by
 rw [List.append_nil] at hl ⊢
 exact .of_eq (h us hl)
def Passes (CX : CXT) (X : Cx) (E : XK) : Prop := ∀ (pins : List (Addr × Obj)) (σ : St) (H : Hp) (s : Shared) (e : Value) (s' : Shared), Inv X pins σ H s → CX X.stack H s E e s' → X.xe e s'
section
variable {X : Cx} {CX : CXT} {k : Nat} {f C : Addr} {fd : FuncData} {ps : List Str} {sp : Sp} {dvs : List V} {ds : List Value} {E : XK} {x m : Str} {p pos apos : Pos} {e o : Expr} {es : List Expr} {ta : TE} {t : TA}
theorem run_fn {pins : List (Addr × Obj)} {σ : St} {H : Hp} {s : Shared} {Q : VK} {us : List Value} {vs : List V} (F : FnOk X.prog X.w X.K X.mg X.base CX k f fd ps sp) (hr : Room k X.A) (hb : Binds X.K fd ps ds) (hd : Vals dvs ds) (hx : Passes CX X E)
  (I : Inv X pins σ H s) (r : Vals vs us) (h : sp (vs ++ dvs) H Q E) : wpAny (model X.prog X.w) X.A (call (.ref f) us) (EP X pins σ Q) X.xe s := by
 have r2 : Vals (vs ++ dvs) (us ++ ds) := r.append hd
 have hl : (us ++ ds).length = ps.length := by rw [← r2.length]; exact F.len _ _ _ _ h
 refine wpAny_call (codeAny_mono (F.run X.A X.stack s H ⟨us, []⟩ (us ++ ds) (vs ++ dvs) Q E hr I.env0 (hb s us I.kIn hl) r2 h) fun r s' hq => ?_)
 cases r with
 | error e => exact hx pins σ H s e s' I hq
 | ok fl =>
  cases fl with
  | ret u => exact I.after hq
  | next => exact False.elim hq
  | brk => exact False.elim hq
  | cont => exact False.elim hq
theorem pe_call (F : FnOk X.prog X.w X.K X.mg X.base CX k f fd ps sp) (hr : Room k X.A) (hg : Gl X x) (hm : X.mg x = some (.ref f)) (hk : PySem.W.keepIn X.K (.ref f) = true) (hb : Binds X.K fd ps ds) (hd : Vals dvs ds) (hx : Passes CX X E)
  (ha : PA X (e :: es) t) (hdb : (x == ("__debug__" : Str)) = false := by decide) (he : starEach (e :: es) X.env = (false, eval e X.env) :: starEach es X.env := by rfl) (hpl : (backTo pos (starEach es X.env)).any (·.1) = false := by rfl) :
  PE X (.Call (.Name x p) (e :: es) [] pos) (tCall sp dvs E t) := by
 intro pins s σ H Q I h
 refine wpAny_Call_Name_kw (ld_glob I hg hm ?_ hdb)
 refine PySem.W.callWith_K (h₀ := X.base) I.ok.mod.kin hk (thn (ha pos pins s σ H _ I h) fun us s1 ⟨vs, H1, I1, r, q⟩ => ⟨I1.kIn, ?_⟩) he hpl
 exact run_fn F hr hb hd hx I1 r q
end
section
variable {X : Cx} {CX : CXT} {k : Nat} {f C : Addr} {fd : FuncData} {ps ks : List Str} {sp : Sp} {E : XK} {x m : Str} {p pos apos kpos : Pos} {e o : Expr} {es : List Expr} {kws : List Keyword} {te ta : TE} {t tk : TA} {nm : Option Str}
variable {g : List Value → List Value → List Value} {gV : List V → List V → List V}
end
structure FnScope (N P : List Str) (sc : Scope) : Prop where
 kind : sc.kind = .function
 co : sc.isCoroutine = false
 gen : sc.isGenerator = false
 nd : N.Nodup
 pre : N.take P.length = P
 par : ∀ x ∈ P, sc.names.lookup x = some .local ∨ sc.names.lookup x = some .cell
 nofree : ∀ y ∈ sc.names, y.2 ≠ .free
theorem bindL_out {kindOf : Str → Option NameKind} {x : Str} : ∀ {binds : List (Str × Value)} {m : Str → Option Value}, (∀ v, (x, v) ∉ binds) → bindL kindOf binds m x = m x
 | [], _, _ => rfl
 | (n, v) :: r, m, h => by
  unfold bindL
  rw [bindL_out fun w hw => h w (List.mem_cons_of_mem _ hw)]
  split
  ·have : x ≠ n := by rintro rfl; exact h v List.mem_cons_self
   simp [this]
  ·rfl
theorem bindC_out {kindOf : Str → Option NameKind} {x : Str} : ∀ {binds : List (Str × Value)} {m : Str → Option Value}, (∀ v, (x, v) ∉ binds) → bindC kindOf binds m x = m x
 | [], _, _ => rfl
 | (n, v) :: r, m, h => by
  unfold bindC
  rw [bindC_out fun w hw => h w (List.mem_cons_of_mem _ hw)]
  split
  ·rfl
  ·have : x ≠ n := by rintro rfl; exact h v List.mem_cons_self
   simp [this]
theorem bindL_get {kindOf : Str → Option NameKind} {x : Str} {v : Value} : ∀ {P : List Str} {vs : List Value} {i : Nat} {m : Str → Option Value}, P.Nodup → P[i]? = some x → vs[i]? = some v → kindOf x = some .local →
  bindL kindOf (P.zip vs) m x = some v
 | [], _, _, _, _, h, _, _ => by simp at h
 | _ :: _, [], _, _, _, _, h, _ => by simp at h
 | p :: P, w :: vs, 0, m, nd, h1, h2, hk => by
  simp at h1 h2; subst h1; subst h2
  show bindL kindOf ((p, w) :: P.zip vs) m p = _
  unfold bindL
  rw [bindL_out fun v hv => (List.nodup_cons.mp nd).1 (List.of_mem_zip hv).1, if_pos hk]
  simp
 | p :: P, w :: vs, i + 1, m, nd, h1, h2, hk => by
  show bindL kindOf ((p, w) :: P.zip vs) m x = _
  unfold bindL
  exact bindL_get (i := i) (List.nodup_cons.mp nd).2 (by simpa using h1) (by simpa using h2) hk
theorem bindC_get {kindOf : Str → Option NameKind} {x : Str} {v : Value} : ∀ {P : List Str} {vs : List Value} {i : Nat} {m : Str → Option Value}, P.Nodup → P[i]? = some x → vs[i]? = some v → kindOf x ≠ some .local →
  bindC kindOf (P.zip vs) m x = some v
 | [], _, _, _, _, h, _, _ => by simp at h
 | _ :: _, [], _, _, _, _, h, _ => by simp at h
 | p :: P, w :: vs, 0, m, nd, h1, h2, hk => by
  simp at h1 h2; subst h1; subst h2
  show bindC kindOf ((p, w) :: P.zip vs) m p = _
  unfold bindC
  rw [bindC_out fun v hv => (List.nodup_cons.mp nd).1 (List.of_mem_zip hv).1, if_neg hk]
  simp
 | p :: P, w :: vs, i + 1, m, nd, h1, h2, hk => by
  show bindC kindOf ((p, w) :: P.zip vs) m x = _
  unfold bindC
  exact bindC_get (i := i) (List.nodup_cons.mp nd).2 (by simpa using h1) (by simpa using h2) hk
noncomputable def start (N : List Str) (vs : List V) : St := vs.map some ++ List.replicate (N.length - vs.length) none
noncomputable def cxOf (CX : CXT) (P : Program) (w : World) (K : PySem.W.Frag) (mg : Str → Option Value) (base : Heap) (N : List Str) (qual : Str) (scope : Scope) (f : Addr) (cd : Value) (A : Around) (outer : List Env) (s : Shared) (H : Hp) (E : XK) : Cx where
 prog := P
 w := w
 K := K
 mg := mg
 base := base
 A := A.deeper (envOfC qual scope s.heap.objs.size f cd)
 N := N
 s₀ := s
 H₀ := H
 env := envOfC qual scope s.heap.objs.size f cd
 outer := outer
 stack := envOfC qual scope s.heap.objs.size f cd :: outer
 ex := []
 calm := true
 fn := fun _ => true
 pn := []
 xe := fun e s' => wpAny (model P w) (A.deeper (envOfC qual scope s.heap.objs.size f cd)) (leaving (envOfC qual scope s.heap.objs.size f cd) e) (fun _ s'' => CX outer H s E e s'') (fun e' s'' => CX outer H s E e' s'') s'
theorem cell_has {sc : Scope} {n : Nat} {x : Str} (h : sc.names.lookup x = some .cell) : ∃ c, (cellsFrom n sc.names []).lookup x = some c := by
 have q := PySem.W.cellsFrom_some sc.names n [] (.inl h)
 exact Option.isSome_iff_exists.mp q
theorem inv_start {CX : CXT} {P : Program} {w : World} {K : PySem.W.Frag} {mg : Str → Option Value} {base : Heap} {N ps : List Str} {qual : Str} {scope : Scope} {f : Addr} {cd : Value} {A : Around} {outer : List Env} {s s1 : Shared} {H : Hp} {E : XK} {us : List Value} {vs : List V}
  (S : FnScope N ps scope) (hd : A.handled = none) (e0 : Env0 P w K mg base A outer s H) (hl : vs.length = ps.length) (r : Vals vs us)
  (x : InCallC s s.heap.objs.size (bindL (envOfC qual scope s.heap.objs.size f cd).kindOf (ps.zip us) fun _ => none) (cellsFrom (s.heap.objs.size + 1) scope.names []) (bindC (envOfC qual scope s.heap.objs.size f cd).kindOf (ps.zip us) fun _ => none) s1) :
  Inv (cxOf CX P w K mg base N qual scope f cd A outer s H E) [] (start N vs) H s1 := by
 have hpl : ps.length ≤ N.length := by have := congrArg List.length S.pre; rw [List.length_take] at this; omega
 obtain ⟨h1, tk, rfl, hk⟩ := x.done
 have noA : ∀ b : Addr, b ∉ (cxOf CX P w K mg base N qual scope f cd A outer s H E).ex := fun b z => absurd (show b ∈ ([] : List Addr) from z) (by simp)
 refine ⟨⟨e0.mod, S.kind, rfl, rfl, Nat.le_refl _, fun y z c h1 h2 => ?_, fun y hy => ?_, fun y c _ h => ?_, fun _ => hd, Around.frames_deeper e0.frames, .inr ⟨rfl, rfl⟩, fun b z => absurd z (noA b), e0.bs, e0.bsz, fun b _ _ => noA b, fun b z => absurd z (noA b), e0.funs, e0.frf⟩,
  rfl, e0.bare, Un.kept hk, ⟨_, x.toInCall.ns, fun i y v h1 h2 h3 => ?_⟩, fun y c h => ⟨_, x.cell y c h⟩, e0.hok.fresh (Nat.le_refl _), fun y c h => ?_, fun p hp => absurd (show p ∈ ([] : List (Addr × Obj)) from hp) (by simp), e0.hok.kept hk, ?_⟩
 ·exact name_of_addr x.apart (PySem.mem_of_lookup h1) (PySem.mem_of_lookup h2)
 ·have hy : scope.names.lookup y = some .cell ∨ scope.names.lookup y = some .free := hy
  rcases hy with hy | hy
  ·exact cell_has hy
  ·exact absurd rfl (S.nofree _ (PySem.mem_of_lookup hy))
 ·exact Nat.le_of_lt (x.above y c (PySem.mem_of_lookup h))
 ·have hi : i < vs.length := by
   unfold start at h2
   by_cases hi : i < vs.length
   ·exact hi
   ·rw [List.getElem?_append_right (by simpa using hi)] at h2
    rw [List.getElem?_replicate] at h2
    split at h2 <;> cases h2
  have ha : vs[i]? = some v := by
   unfold start at h2
   rw [List.getElem?_append_left (by simpa using hi), List.getElem?_map] at h2
   cases e : vs[i]? with
   | none => rw [e] at h2; cases h2
   | some a => rw [e] at h2; cases h2; rfl
  obtain ⟨u, hu, rv⟩ := r.get ha
  have hp : ps[i]? = some y := by
   rw [← S.pre, List.getElem?_take_of_lt (by omega)]; exact h1
  have ndP : ps.Nodup := by rw [← S.pre]; exact S.nd.sublist (List.take_sublist _ _)
  refine ⟨u, rv, ?_⟩
  rcases S.par y (List.mem_of_getElem? hp) with k | k
  ·exact .inl ⟨k, bindL_get ndP hp hu k⟩
  ·obtain ⟨c, e⟩ := cell_has (n := s.heap.objs.size + 1) k
   refine .inr ⟨.inl k, c, e, ?_⟩
   have q := x.cell y c e
   rw [bindC_get ndP hp hu (by show scope.names.lookup y ≠ _; rw [k]; decide)] at q
   exact q
 ·exact e0.hok.fresh (Nat.le_of_lt (x.above y c (PySem.mem_of_lookup h)))
 ·unfold start
  show _ = N.length
  rw [List.length_append, List.length_map, List.length_replicate]
  omega
theorem fn_of {CX : CXT} {P : Program} {w : World} {K : PySem.W.Frag} {mg : Str → Option Value} {base : Heap} {k : Nat} {f : Addr} {name qual : Str} {params : Arguments} {body : List Stmt} {scope : Scope} {dV kV doc pm cdv ct oc : Value} {an od : Option Addr}
  {osl : Array (Option Value)} {N ps : List Str} {sp : Sp} (lk : K.lookup f = some ⟨oc, od, .func (PySem.W.fnOf name qual params body scope dV kV doc pm an cdv ct), osl⟩) (hcd : PySem.W.codeIn K cdv qual = true) (S : FnScope N ps scope)
  (len : ∀ vs H Q E, sp vs H Q E → vs.length = ps.length)
  (hbody : ∀ (A : Around) (outer : List Env) (s : Shared) (H : Hp) (vs : List V) (Q : VK) (E : XK), Room k (A.deeper (envOfC qual scope s.heap.objs.size f cdv)) → sp vs H Q E →
   ∃ t, PSs (cxOf CX P w K mg base N qual scope f cdv A outer s H E) body t ∧ t { nx := fun _ H' => Q .non H', rt := Q } (start N vs) H) :
  FnOk P w K mg base CX (k + 1) f (PySem.W.fnOf name qual params body scope dV kV doc pm an cdv ct) ps sp := by
 refine ⟨len, fun A outer s H args us vs Q E hr e0 hb r hsp => ?_⟩
 have hl := len _ _ _ _ hsp
 have KX : K.In s.heap := e0.mod.kin.keeps fun b o e => (e0.bs b o e).1
 have lim : s.heap.NoLimit := e0.mod.nolimit.keeps fun b o e => (e0.bs b o e).1
 have hkind : ∀ y ∈ ps.zip us, scope.names.lookup y.1 = some .local ∨ (scope.names.lookup y.1 = some .cell ∧ ((cellsFrom (s.heap.objs.size + 1) scope.names []).lookup y.1).isSome = true) := fun ⟨n, v⟩ hy => by
  rcases S.par n (List.of_mem_zip hy).1 with q | q
  ·exact .inl q
  ·exact .inr ⟨q, PySem.W.cellsFrom_some _ _ _ (.inl q)⟩
 refine codeAny_call_function hr.depth (KX _ _ lk) rfl S.co S.gen rfl (PySem.W.codeRec_of KX hcd) (hb _ _ _ _ ?_)
 refine wpAny_newFunctionEnv_cells S.kind hkind fun env he s1 x => ?_
 subst he
 refine ⟨lim.keeps x.toInCall.keep, codeAny_func ?_⟩
 obtain ⟨t, ht, hq⟩ := hbody A outer s H vs Q E (hr.deeper _) hsp
 have I : Inv (cxOf CX P w K mg base N qual scope f cdv A outer s H E) [] (start N vs) H s1 := inv_start S hr.hd e0 hl r x
 refine wpAny_mono (ht [] s1 (start N vs) H _ I hq) (fun fl s' hs => ?_) fun e s' hs => hs
 have fin : ∀ {σ' : St} {H' : Hp} {v : V} {u : Value}, Inv (cxOf CX P w K mg base N qual scope f cdv A outer s H E) [] σ' H' s' → RelV v u → Q v H' → CE outer P w H s Q u s' :=
  fun {σ' H' v u} J rv q => ⟨v, H', J.os, J.bare, J.base, J.hok, rv, q⟩
 cases fl with
 | ret u =>
  obtain ⟨v, σ', H', J, rv, q⟩ := hs
  exact fin J rv q
 | next =>
  obtain ⟨σ', H', J, q⟩ := hs
  exact fin (v := V.non) (u := Value.none) J rfl q
 | brk =>
  obtain ⟨_, _, _, q⟩ := hs
  exact False.elim q
 | cont =>
  obtain ⟨_, _, _, q⟩ := hs
  exact False.elim q
end L2
namespace L2
open PySem PySem.Spec PyProof.Rows
section
variable {X : Cx} {x : Str} {p pos : Pos} {e : Expr} {es : List Expr} {t : TA} {id T : String} {r : List V → Hp → VK → Prop}
def tCB (r : List V → Hp → VK → Prop) (t : TA) : TE := fun σ H Q => t σ H fun vs H1 => r vs H1 Q
theorem pe_callB (hc : CallR X (.builtin id) r) (hg : Gl X x) (hm : X.mg x = none) (hv : bootBuiltins x = some (.builtin id)) (ha : PA X (e :: es) t) (hn : x ≠ "__name__" := by decide) (hdb : (x == ("__debug__" : Str)) = false := by decide)
  (he : starEach (e :: es) X.env = (false, eval e X.env) :: starEach es X.env := by rfl) (hpl : (backTo pos (starEach es X.env)).any (·.1) = false := by rfl) : PE X (.Call (.Name x p) (e :: es) [] pos) (tCB r t) := by
 intro pins s σ H Q I h
 refine wpAny_Call_Name_kw (ld_blt I hg hm hv ?_ hn hdb)
 exact PyProof.Rows.callWith_builtin1 (thn (ha pos pins s σ H _ I h) fun us s1 ⟨vs, H1, I1, r1, q1⟩ => hc pins s1 σ H1 vs us Q I1 r1 q1) he hpl
theorem pe_callTy (hc : CallR X (.type T) r) (hg : Gl X x) (hm : X.mg x = none) (hv : bootBuiltins x = some (.type T)) (ha : PA X (e :: es) t) (hn : x ≠ "__name__" := by decide) (hdb : (x == ("__debug__" : Str)) = false := by decide)
  (he : starEach (e :: es) X.env = (false, eval e X.env) :: starEach es X.env := by rfl) (hpl : (backTo pos (starEach es X.env)).any (·.1) = false := by rfl) : PE X (.Call (.Name x p) (e :: es) [] pos) (tCB r t) := by
 intro pins s σ H Q I h
 refine wpAny_Call_Name_kw (ld_blt I hg hm hv ?_ hn hdb)
 exact PyProof.Rows.callWith_type1 (thn (ha pos pins s σ H _ I h) fun us s1 ⟨vs, H1, I1, r1, q1⟩ => hc pins s1 σ H1 vs us Q I1 r1 q1) he hpl
end
end L2
namespace HT
open PySem PyProof.Rows
section
open PySem.SeqAt
open PySem.AutoSeq1 (wpAny_loadPart')
open PySem.MeetsSeq PySem.MeetsSeq2 PySem.MeetsSeq3
end
section
variable {prog : Program} {w : World} {A : Around} {E : Value → Shared → Prop} {s : Shared}
theorem cat_tup {t b : Addr} {vs ws : List Value} {Q : Value → Shared → Prop} (ht : IsTup s.heap t vs.toArray) (hb : IsTup s.heap b ws.toArray) (hv : vs ≠ [])
  (h1 : ws = [] → Q (.ref t) s) (h2 : ws ≠ [] → Q (.ref s.heap.objs.size) { s with heap := s.heap.push { cls := .type "tuple", data := .seq (vs ++ ws).toArray } })
  (hsz : vs.length + ws.length ≤ sizeLine) : wpAny (model prog w) A (binaryOp .Add (.ref t) (.ref b)) Q E s := by
 obtain ⟨⟨cls, dd, data, sl⟩, ho, hc, n, hd⟩ := id ht
 obtain ⟨⟨cls2, dd2, data2, sl2⟩, ho2, hc2, n2, hd2⟩ := id hb
 simp only at hc hd hc2 hd2
 subst hc hd hc2 hd2
 have e : vs.toArray ++ ws.toArray = (vs ++ ws).toArray := by simp
 by_cases hw : ws = []
 ·exact concat_meets ⟨_, ho, rfl⟩ ⟨_, ho2, rfl⟩ noFill_tuple_add seq_tuple_add PySem.F.slot_tuple_add PySem.F.entry_tuple_add (PySem.F.args_tuple_add_2 _ _)
   (tuple_addW1 t b vs.toArray ws.toArray n n2 dd dd2 sl sl2 (by simpa using hv) (by simp [hw])) ⟨ho, ho2, h1 hw⟩
 ·refine concat_meets ⟨_, ho, rfl⟩ ⟨_, ho2, rfl⟩ noFill_tuple_add seq_tuple_add PySem.F.slot_tuple_add PySem.F.entry_tuple_add (PySem.F.args_tuple_add_2 _ _)
   (tuple_addW2 t b vs.toArray ws.toArray n n2 dd dd2 sl sl2 (by simpa using hv) (by simpa using hw) (by rw [List.size_toArray, List.size_toArray]; exact hsz)) ⟨ho, ho2, ?_⟩
  rw [e]
  exact h2 hw
noncomputable def sIx (n d : Nat) : Option Int → Nat
 | none => d
 | some v => if v < 0 then (v + (n : Int)).toNat else min v.toNat n
theorem sIx_none (n d : Nat) : sIx n d none = d := rfl
theorem sIx_nat (n d k : Nat) : sIx n d (some (k : Int)) = min k n := by
 show (if (k : Int) < 0 then ((k : Int) + (n : Int)).toNat else min (k : Int).toNat n) = min k n
 rw [if_neg (by omega), Int.toNat_natCast]
theorem sIx_le (n d : Nat) (hd : d ≤ n) (o : Option Int) : sIx n d o ≤ n := by
 cases o with
 | none => exact hd
 | some v =>
  show (if v < 0 then (v + (n : Int)).toNat else min v.toNat n) ≤ n
  by_cases hv : v < 0
  ·rw [if_pos hv]; omega
  ·rw [if_neg hv]; exact Nat.min_le_right _ _
theorem clip_eq (v : Int) (n d : Nat) : (if v < 0 then max (v + (n : Int)) 0 else min v (n : Int)) = ((sIx n d (some v) : Nat) : Int) := by
 show (if v < 0 then max (v + (n : Int)) 0 else min v (n : Int)) = (((if v < 0 then (v + (n : Int)).toNat else min v.toNat n) : Nat) : Int)
 by_cases hv : v < 0
 ·simp only [if_pos hv]; omega
 ·simp only [if_neg hv]; omega
theorem adjust_gen (lo hi : Option Int) (n : Nat) : Builtin.Slice.sliceAdjust lo hi 1 (n : Int) = (((sIx n 0 lo : Nat) : Int), ((sIx n n hi : Nat) : Int)) := by
 have h1 : ¬ ((1 : Int) < 0) := by omega
 unfold Builtin.Slice.sliceAdjust
 simp only [h1, if_false]
 refine Prod.ext ?_ ?_
 ·cases lo with
  | none => rfl
  | some v => exact clip_eq v n 0
 ·cases hi with
  | none => rfl
  | some v => exact clip_eq v n n
theorem places_gen (i j : Nat) : Builtin.Slice.slicePlaces (i : Int) (j : Int) 1 = j - i := by
 unfold Builtin.Slice.slicePlaces
 have h1 : (1 : Int) > 0 := by omega
 simp only [h1, if_true, Int.ediv_one]
 split <;> omega
theorem slicePart_ {v : Value} {o : Option Int} {Q : Option Int → Shared → Prop} (p : IsPart v o) (h : Q o s) : wpAny (model prog w) A (Builtin.Slice.slicePartIndex v) Q E s := by
 cases p with
 | none => exact slicePart_none h
 | int i t => exact slicePart_int h
theorem sliceApplied_gen {sl : Addr} {vl vu : Value} {lo hi : Option Int} {n : Nat} {Q : Int × Int × Nat → Shared → Prop} (hs : s.heap.IsSliceOf sl vl vu .none) (pl : IsPart vl lo) (pu : IsPart vu hi)
  (h : Q (((sIx n 0 lo : Nat) : Int), 1, sIx n n hi - sIx n 0 lo) s) : wpAny (model prog w) A (Builtin.Slice.sliceApplied (.ref sl) (pure (n : Int))) Q E s := by
 obtain ⟨os, hos, hcs, hds⟩ := id hs
 unfold Builtin.Slice.sliceApplied Builtin.Slice.sliceFields
 refine wpAny_bind (wpAny_bind (wpAny_field hos hds (x := vl) rfl (wpAny_bind (wpAny_field hos hds (x := vu) rfl (wpAny_bind (wpAny_field hos hds (x := .none) rfl (wpAny_pure ?_)))))))
 refine wpAny_bind (slicePart_none ?_)
 show wpAny _ _ (if ((1 : Int) == 0) = true then _ else _) _ _ s
 rw [if_neg (by decide)]
 refine wpAny_bind (slicePart_ pl (wpAny_bind (slicePart_ pu (wpAny_bind (wpAny_pure ?_)))))
 show wpAny _ _ (match Builtin.Slice.sliceAdjust lo hi 1 (n : Int) with | (lo, hi) => pure (lo, (1 : Int), Builtin.Slice.slicePlaces lo hi 1)) _ _ s
 rw [adjust_gen lo hi n]
 show wpAny _ _ (pure (((sIx n 0 lo : Nat) : Int), (1 : Int), Builtin.Slice.slicePlaces ((sIx n 0 lo : Nat) : Int) ((sIx n n hi : Nat) : Int) 1)) _ _ s
 rw [places_gen]
 exact wpAny_pure h
theorem pick_gen (xs : Array Value) (i k : Nat) : ((List.range k).filterMap fun (m : Nat) => xs[((i : Int) + (m : Int) * 1).toNat]?).toArray = ((xs.toList.drop i).take k).toArray := by
 have e : (fun (m : Nat) => xs[((i : Int) + (m : Int) * 1).toNat]?) = fun m => xs[i + m]? := by
  funext m
  have : ((i : Int) + (m : Int) * 1).toNat = i + m := by omega
  rw [this]
 rw [e]
 have := pick_run xs i k
 rw [List.filterMap_map] at this
 have e2 : ((fun x => xs[x]?) ∘ fun x => i + x) = fun m => xs[i + m]? := rfl
 rw [e2] at this
 rw [this]
theorem getItem_tuple_cut {t sl : Addr} {items : Array Value} {vl vu : Value} {lo hi : Option Int} {Q : Value → Shared → Prop} (ht : IsTup s.heap t items) (hs : s.heap.IsSliceOf sl vl vu .none) (pl : IsPart vl lo) (pu : IsPart vu hi)
  (hw : ¬ (sIx items.size 0 lo = 0 ∧ sIx items.size items.size hi = items.size))
  (h : Q (.ref s.heap.objs.size) { s with heap := s.heap.push { cls := .type "tuple", data := .seq ((items.toList.drop (sIx items.size 0 lo)).take (sIx items.size items.size hi - sIx items.size 0 lo)).toArray } })
  (hsz : items.size ≤ sizeLine) : wpAny (model prog w) A (getItem (.ref t) (.ref sl)) Q E s := by
 have htake : sizeOk (.seq ((items.toList.drop (sIx items.size 0 lo)).take (sIx items.size items.size hi - sIx items.size 0 lo)).toArray) := by
  show ((items.toList.drop (sIx items.size 0 lo)).take (sIx items.size items.size hi - sIx items.size 0 lo)).toArray.size ≤ sizeLine
  rw [List.size_toArray, List.length_take, List.length_drop, Array.length_toList]
  omega
 have hj : sIx items.size items.size hi ≤ items.size := sIx_le _ _ (Nat.le_refl _) hi
 obtain ⟨os, hos, hcs, hds⟩ := id hs
 have hTs : s.TypeIs (.ref sl) "slice" := ⟨os, hos, hcs⟩
 unfold getItem
 try with_reducible refine wpAny_holding ?_
 first | refine wpAny_bind (wpAny_pure ?_) | skip
 refine wpAny_bind (wpAny_sequenceKey ht.typeIs (by decide) ?_)
 refine wpAny_bind (wpAny_callSpecial?_slot (name := Str.ofString "__getitem__") ht.typeIs PyProof.Rows.slot_tuple_getitem
  (wpAny_call_entry PyProof.Rows.slot_tuple_getitem ht.typeIs entry_tuple_getitem ?_ (args_tuple_getitem _ _)))
 show wpAny _ _ (Builtin.Tuple.tupleItemsOf (.ref t) >>= _) _ _ s
 refine wpAny_bind (tupleItemsOf_ ht ?_)
 refine wpAny_bind (wpAny_typeOf hTs ?_)
 rw [if_pos (by decide)]
 refine wpAny_bind (sliceApplied_gen hs pl pu ?_)
 have hno : ¬ ((((sIx items.size 0 lo : Nat) : Int) == 0 && (1 : Int) == 1 && (sIx items.size items.size hi - sIx items.size 0 lo) == items.size) = true) := by
  intro q
  rw [Bool.and_eq_true, Bool.and_eq_true] at q
  have q1 : ((sIx items.size 0 lo : Nat) : Int) = 0 := eq_of_beq q.1.1
  have q2 : sIx items.size items.size hi - sIx items.size 0 lo = items.size := eq_of_beq q.2
  exact hw ⟨by omega, by omega⟩
 show wpAny _ _ (if (((sIx items.size 0 lo : Nat) : Int) == 0 && (1 : Int) == 1 && (sIx items.size items.size hi - sIx items.size 0 lo) == items.size) = true then _ else _) _ _ s
 rw [if_neg hno, pick_gen]
 first
  | exact wpAny_bind (m := Builtin.Tuple.tupleExact _) (wpAny_newObj_type (wpAny_pure ⟨_, rfl, wpAny_pure h⟩) htake)
  | exact wpAny_bind (m := Builtin.Tuple.tupleExact _) (wpAny_newObj_type (wpAny_bind (wpAny_pure (wpAny_pure ⟨_, rfl, wpAny_pure h⟩))) htake)
  | exact wpAny_bind (wpAny_bind (m := Builtin.Tuple.tupleExact _) (wpAny_newObj_type (wpAny_pure (wpAny_pure ⟨_, rfl, wpAny_pure h⟩)) htake))
  | exact wpAny_bind (wpAny_bind (m := Builtin.Tuple.tupleExact _) (wpAny_newObj_type (wpAny_pure ⟨_, rfl, wpAny_pure h⟩) htake))
end
end HT
namespace L2
open PySem PySem.Spec PyProof.Rows
abbrev TO := St → Hp → (Option Int → Hp → Prop) → Prop
def PO (X : Cx) (e : Option Expr) (t : TO) : Prop :=
 ∀ (pins : List (Addr × Obj)) (s : Shared) (σ : St) (H : Hp) (Q : Option Int → Hp → Prop), Inv X pins σ H s → t σ H Q →
  wpAny (model X.prog X.w) X.A (evalPart e X.env) (fun u s' => ∃ o H', Inv X pins σ H' s' ∧ IsPart u o ∧ Q o H') X.xe s
def tNoPart : TO := fun _ H Q => Q none H
def tPart (t : TE) : TO := fun σ H Q => t σ H fun x H1 => ∃ i, x = .int i ∧ Q (some i) H1
theorem intsAre_of {ns : List Int} : ∀ {us : List Value}, Vals (ns.map V.int) us → IntsAre us ns := by
 induction ns with
 | nil => intro us r; rw [List.map_nil] at r; cases r; exact .nil
 | cons n ns ih =>
  intro us r
  rw [List.map_cons] at r
  cases r with
  | cons r1 r2 =>
   obtain ⟨t, e⟩ := r1
   subst e
   exact .cons n t (ih r2)
section
variable {X : Cx} {e : Expr} {te : TE} {lo hi : Option Expr} {tl th : TO} {pos p2 : Pos}
theorem po_none : PO X none tNoPart := by
 intro pins s σ H Q I h
 rw [evalPart_none]
 exact wpAny_pure ⟨none, H, I, .none, h⟩
theorem po_some (h : PE X e te) : PO X (some e) (tPart te) := by
 intro pins s σ H Q I hw
 rw [evalPart_some]
 refine thn (h pins s σ H _ I hw) fun u s1 ⟨x, H1, I1, r1, q1⟩ => ?_
 obtain ⟨i, rfl, q⟩ := q1
 obtain ⟨t, rfl⟩ := r1
 exact ⟨some i, H1, I1, .int i t, q⟩
def SlR (X : Cx) (r : V → Option Int → Option Int → Hp → VK → Prop) : Prop :=
 ∀ (pins : List (Addr × Obj)) (s : Shared) (σ : St) (H : Hp) (x : V) (v vl vu : Value) (lo hi : Option Int) (sl : Addr) (Q : VK), Inv X pins σ H s → RelV x v → s.heap.IsSliceOf sl vl vu .none → IsPart vl lo → IsPart vu hi → r x lo hi H Q →
  ∃ T id, typeLookup (.type T) "__getitem__" = pure (some (.builtin id)) ∧ s.TypeIs v T ∧ wpAny (model X.prog X.w) X.A (getItem v (.ref sl)) (EP X pins σ Q) X.xe s
theorem SlR.or {r r' : V → Option Int → Option Int → Hp → VK → Prop} (h : SlR X r) (h' : SlR X r') : SlR X (fun x lo hi H Q => r x lo hi H Q ∨ r' x lo hi H Q) := by
 intro pins s σ H x v vl vu lo hi sl Q I rx hs pl pu q
 rcases q with q | q
 ·exact h pins s σ H x v vl vu lo hi sl Q I rx hs pl pu q
 ·exact h' pins s σ H x v vl vu lo hi sl Q I rx hs pl pu q
def tSl (r : V → Option Int → Option Int → Hp → VK → Prop) (te : TE) (tl th : TO) : TE := fun σ H Q => te σ H fun x H1 => tl σ H1 fun l H2 => th σ H2 fun u H3 => r x l u H3 Q
theorem pe_slice {r : V → Option Int → Option Int → Hp → VK → Prop} (hr : SlR X r) (he : PE X e te) (hl : PO X lo tl) (hu : PO X hi th) : PE X (.Subscript e (.Slice lo hi none p2) pos) (tSl r te tl th) := by
 intro pins s σ H Q I h
 refine Subscript_ (thn (he pins s σ H _ I h) fun v s1 ⟨x, H1, I1, r1, q1⟩ => ?_)
 refine wpAny_Slice (thn (hl pins s1 σ H1 _ I1 q1) fun vl s2 ⟨l, H2, I2, pl, q2⟩ => thn (hu pins s2 σ H2 _ I2 q2) fun vu s3 ⟨u, H3, I3, pu, q3⟩ => ?_)
 rw [evalPart_none]
 refine wpAny_pure ?_
 have I4 : Inv X pins σ H3 { s3 with heap := s3.heap.push { cls := .type "slice", data := .fields #[vl, vu, .none] } } := I3.kept (t' := s3.toks) fun b ob q => Heap.get?_push_of_some _ q
 obtain ⟨T, id, hT, ht, hg⟩ := hr pins { s3 with heap := s3.heap.push { cls := .type "slice", data := .fields #[vl, vu, .none] } } σ H3 x v vl vu l u s3.heap.objs.size Q I4 r1 (Heap.IsSliceOf.new ..) pl pu q3
 show wpAny (model X.prog X.w) X.A (subscriptTail e (.Slice lo hi none p2) v (.ref s3.heap.objs.size)) (EP X pins σ Q) X.xe { s3 with heap := s3.heap.push { cls := .type "slice", data := .fields #[vl, vu, .none] } }
 exact tail_any (ops := [.ref s3.heap.objs.size, v]) ht hT hg (by with_unfolding_all rfl)
noncomputable def cutV (xs : List V) (lo hi : Option Int) : List V := (xs.drop (HT.sIx xs.length 0 lo)).take (HT.sIx xs.length xs.length hi - HT.sIx xs.length 0 lo)
theorem cutV_length (xs : List V) (lo hi : Option Int) : (cutV xs lo hi).length ≤ xs.length := by
 unfold cutV
 rw [List.length_take, List.length_drop]
 omega
def rSlT (K : PySem.W.Frag) : V → Option Int → Option Int → Hp → VK → Prop := fun x lo hi H Q => ∃ a xs, x = .ref a ∧ SqT K H a xs ∧
 ¬ (HT.sIx xs.length 0 lo = 0 ∧ HT.sIx xs.length xs.length hi = xs.length) ∧ ∀ p, H p = none → Q (.ref p) (upd H p (.tup (cutV xs lo hi)))
theorem sl_tup : SlR X (rSlT X.K) := by
 intro pins s σ H x v vl vu lo hi sl Q I rx hs pl pu h
 obtain ⟨a, xs, rfl, hx, hw, q⟩ := h
 cases rx
 obtain ⟨its, r, ht, hz⟩ := I.tuple hx
 have hlen : its.toArray.size = xs.length := by rw [List.size_toArray]; exact r.length.symm
 refine ⟨"tuple", _, PyProof.Rows.slot_tuple_getitem.lookup, ht.typeIs, ?_⟩
 refine HT.getItem_tuple_cut ht hs pl pu (by rw [hlen]; exact hw) ?_ (by rw [hlen]; exact hz)
 rw [hlen]
 refine ⟨.ref s.heap.objs.size, _, I.laid (t' := s.toks) (o := .tup (cutV xs lo hi)) (fun b ob q => Heap.get?_push_of_some _ q) (Nat.le_refl _) ?_, rfl, q _ (I.hok.fresh (Nat.le_refl _))⟩
 exact ⟨Nat.le_trans (cutV_length xs lo hi) hz, _, (r.drop (HT.sIx xs.length 0 lo)).take (HT.sIx xs.length xs.length hi - HT.sIx xs.length 0 lo), ⟨_, Heap.get?_push_size _ rfl, rfl, _, rfl, rfl⟩⟩
def rCatT (K : PySem.W.Frag) : R2 := fun x y H Q => ∃ a b xs ys, x = .ref a ∧ y = .ref b ∧ SqT K H a xs ∧ SqT K H b ys ∧ xs ≠ [] ∧ xs.length + ys.length ≤ sizeLine ∧
 (ys = [] → Q (.ref a) H) ∧ (ys ≠ [] → ∀ p, H p = none → Q (.ref p) (upd H p (.tup (xs ++ ys))))
theorem Vals.nil_iff {xs : List V} {us : List Value} (r : Vals xs us) : us = [] ↔ xs = [] := by
 cases r with
 | nil => simp
 | cons _ _ => simp
theorem op_catT : OpR X (binaryOp .Add) (rCatT X.K) := by
 intro pins s σ H x y v u Q I rx ry h
 obtain ⟨a, b, xs, ys, rfl, rfl, ha, hb, hx, hz, q1, q2⟩ := h
 cases rx
 cases ry
 obtain ⟨its, r1, p1, _⟩ := I.tuple ha
 obtain ⟨its2, r2, p2, _⟩ := I.tuple hb
 refine HT.cat_tup p1 p2 (fun z => hx (r1.nil_iff.mp z)) (fun z => ⟨.ref a, H, I, rfl, q1 (r2.nil_iff.mp z)⟩) (fun z => ?_) (by rw [← r1.length, ← r2.length]; exact hz)
 refine ⟨.ref s.heap.objs.size, _, I.laid (t' := s.toks) (o := .tup (xs ++ ys)) (fun b ob q => Heap.get?_push_of_some _ q) (Nat.le_refl _) ?_, rfl, q2 (fun w => z (r2.nil_iff.mpr w)) _ (I.hok.fresh (Nat.le_refl _))⟩
 exact ⟨by rw [List.length_append]; exact hz, _, r1.append r2, ⟨_, Heap.get?_push_size _ rfl, rfl, _, rfl, rfl⟩⟩
end
end L2
namespace L2
open PySem PySem.Spec PyProof.Rows
noncomputable def ixN (n : Nat) (i : Int) : Option Nat := if 0 ≤ i then (if i < n then some i.toNat else none) else if -(n : Int) ≤ i then some (i + n).toNat else none
noncomputable def atI {α : Type} (xs : List α) (i : Int) : Option α := (ixN xs.length i).bind fun j => xs[j]?
theorem ixN_seq {n : Nat} {i : Int} {j : Nat} (h : ixN n i = some j) : seqIndex? i n = some j ∧ j < n ∧ -(n : Int) ≤ i ∧ i < n := by
 unfold ixN at h
 by_cases h0 : 0 ≤ i
 ·rw [if_pos h0] at h
  by_cases h1 : i < n
  ·rw [if_pos h1] at h
   have e : i.toNat = j := Option.some.inj h
   exact ⟨by rw [seqIndex_of h0 h1, e], by omega, by omega, h1⟩
  ·rw [if_neg h1] at h; cases h
 ·rw [if_neg h0] at h
  by_cases h1 : -(n : Int) ≤ i
  ·rw [if_pos h1] at h
   have e : (i + n).toNat = j := Option.some.inj h
   exact ⟨by rw [seqIndex_neg (by omega) h1, e], by omega, h1, by omega⟩
  ·rw [if_neg h1] at h; cases h
theorem atI_get {α : Type} {xs : List α} {i : Int} {v : α} (h : atI xs i = some v) : ∃ j, seqIndex? i xs.length = some j ∧ xs[j]? = some v ∧ j < xs.length ∧ -(xs.length : Int) ≤ i ∧ i < xs.length := by
 unfold atI at h
 cases e : ixN xs.length i with
 | none => rw [e] at h; cases h
 | some j =>
  rw [e] at h
  obtain ⟨h1, h2, h3, h4⟩ := ixN_seq e
  exact ⟨j, h1, h, h2, h3, h4⟩
theorem atI_nat {α : Type} {xs : List α} {j : Nat} {v : α} (h : xs[j]? = some v) : atI xs (j : Int) = some v := by
 have hj : j < xs.length := (List.getElem?_eq_some_iff.mp h).1
 have e : ixN xs.length (j : Int) = some j := by
  unfold ixN
  rw [if_pos (by omega), if_pos (by omega)]; simp
 unfold atI; rw [e]; exact h
def PlainIx (b : Expr) : Prop := ∀ o i, subscripted b false o i = operate [o, i] (getItem o i)
def IxR (X : Cx) (r : R2) : Prop :=
 ∀ (value slice : Expr) (pins : List (Addr × Obj)) (s : Shared) (σ : St) (H : Hp) (x y : V) (v u : Value) (Q : VK), Inv X pins σ H s → RelV x v → RelV y u → r x y H Q →
  subscripted slice false v u = operate [v, u] (getItem v u) → wpAny (model X.prog X.w) X.A (subscriptTail value slice v u) (EP X pins σ Q) X.xe s
def MtR (X : Cx) (id : String) (r : V → List V → Hp → VK → Prop) : Prop :=
 ∀ (pins : List (Addr × Obj)) (s : Shared) (σ : St) (H : Hp) (x : V) (xs : List V) (v : Value) (us : List Value) (Q : VK), Inv X pins σ H s → RelV x v → Vals xs us → r x xs H Q →
  wpAny (model X.prog X.w) X.A (call (.builtin id) (v :: us)) (EP X pins σ Q) X.xe s
section
variable {X : Cx} {a b : Expr} {ta tb : TE} {pos : Pos}
theorem IxR.or {r r' : R2} (h : IxR X r) (h' : IxR X r') : IxR X (fun x y H Q => r x y H Q ∨ r' x y H Q) := by
 intro value slice pins s σ H x y v u Q I rx ry q hs
 rcases q with q | q
 ·exact h value slice pins s σ H x y v u Q I rx ry q hs
 ·exact h' value slice pins s σ H x y v u Q I rx ry q hs
theorem MtR.or {id : String} {r r' : V → List V → Hp → VK → Prop} (h : MtR X id r) (h' : MtR X id r') : MtR X id (fun x xs H Q => r x xs H Q ∨ r' x xs H Q) := by
 intro pins s σ H x xs v us Q I rx rs q
 rcases q with q | q
 ·exact h pins s σ H x xs v us Q I rx rs q
 ·exact h' pins s σ H x xs v us Q I rx rs q
theorem pe_ix {r : R2} (hr : IxR X r) (ha : PE X a ta) (hb : PE X b tb) (hs : PlainIx b) : PE X (.Subscript a b pos) (tOp r ta tb) := by
 intro pins s σ H Q I h
 exact Subscript_ (binT ha hb I h fun v u s2 x y H2 I2 rx ry q => hr a b pins s2 σ H2 x y v u Q I2 rx ry q (hs _ _))
def rIxL (K : PySem.W.Frag) : R2 := fun x y H Q => ∃ p xs i v, x = .ref p ∧ y = .int i ∧ SqL K H p xs ∧ atI xs i = some v ∧ Q v H
def rIxT (K : PySem.W.Frag) : R2 := fun x y H Q => ∃ p xs i v, x = .ref p ∧ y = .int i ∧ SqT K H p xs ∧ atI xs i = some v ∧ Q v H
def rIxS : R2 := fun x y H Q => ∃ z i c, x = .str z ∧ y = .int i ∧ z.length ≤ sizeLine ∧ atI z.cps.toList i = some c ∧ Q (.str ⟨#[c]⟩) H
theorem ix_list : IxR X (rIxL X.K) := by
 intro value slice pins s σ H x y v u Q I rx ry h hs
 obtain ⟨p, xs, i, z, rfl, rfl, hq, he, q⟩ := h
 cases rx
 obtain ⟨t, rfl⟩ := ry
 obtain ⟨its, r, pl, hz⟩ := I.list hq
 obtain ⟨j, h1, h2, h3, h4, h5⟩ := atI_get he
 obtain ⟨w, ew, rw'⟩ := r.get h2
 have hl := r.length
 have hn := line63
 have fin : EP X pins σ Q w s := ⟨z, H, I, rw', q⟩
 by_cases h0 : 0 ≤ i
 ·have hj : i.toNat = j := by
   rw [seqIndex_of h0 h5] at h1
   exact Option.some.inj h1
  exact item_listR pl.isList h0 (by omega) (by rw [hj]; simpa using ew) fin hs
 ·have hj : (i + (its.toArray.size : Int)).toNat = j := by
   rw [seqIndex_neg (by omega) h4] at h1
   rw [List.size_toArray, ← hl]
   exact Option.some.inj h1
  exact subscriptTail_builtinR (x := w) pl.isList.typeIs slot_list_getitem.lookup
   (wpAny_getItem_list_neg (Q := fun r s' => r = w ∧ EP X pins σ Q r s') pl.isList (by omega) (by rw [List.size_toArray] <;> omega) (by omega) (by rw [hj]; simpa using ew) ⟨rfl, fin⟩) hs
theorem ix_tup : IxR X (rIxT X.K) := by
 intro value slice pins s σ H x y v u Q I rx ry h hs
 obtain ⟨p, xs, i, z, rfl, rfl, hq, he, q⟩ := h
 cases rx
 obtain ⟨t, rfl⟩ := ry
 obtain ⟨its, r, pl, hz⟩ := I.tuple hq
 obtain ⟨j, h1, h2, h3, h4, h5⟩ := atI_get he
 obtain ⟨w, ew, rw'⟩ := r.get h2
 have hl := r.length
 have hn := line63
 have fin : EP X pins σ Q w s := ⟨z, H, I, rw', q⟩
 exact subscriptTail_builtinR (x := w) pl.typeIs slot_tuple_getitem.lookup
  (getItem_tuple (j := j) (Q := fun r s' => r = w ∧ EP X pins σ Q r s') pl (by omega) (by omega) (by rw [List.size_toArray, ← hl]; exact h1) (by simpa using ew) ⟨rfl, fin⟩) hs
theorem ix_str : IxR X rIxS := by
 intro value slice pins s σ H x y v u Q I rx ry h hs
 obtain ⟨z, i, c, rfl, rfl, hz, he, q⟩ := h
 obtain ⟨t, rfl⟩ := rx
 obtain ⟨t', rfl⟩ := ry
 obtain ⟨j, h1, h2, h3, h4, h5⟩ := atI_get he
 have hl : z.cps.toList.length = z.length := by simp [Str.length]
 rw [hl] at h1 h4 h5
 have hn := line63
 exact tail_any (typeIs_str s z t) slot_str_getitem.lookup (getItem_str (c := c) (by
  have e1 : decide (i < -(2 ^ 63 : Int)) = false := decide_eq_false (by omega)
  have e2 : decide (i ≥ 2 ^ 63) = false := decide_eq_false (by omega)
  rw [e1, e2, Bool.or_false]) (by rw [h1]; simpa using h2) ⟨.str ⟨#[c]⟩, H, I.tok _, ⟨_, rfl⟩, q⟩) hs
theorem mapSeq_set (its : List Value) (n j : Nat) (u : Value) : Obj.mapSeq (·.setIfInBounds j u) { cls := .type "list", data := .seq its.toArray n } = { cls := .type "list", data := .seq (its.set j u).toArray n } := by
 simp [Obj.mapSeq]
theorem Inv.lst {pins : List (Addr × Obj)} {σ : St} {H : Hp} {s : Shared} {p : Addr} {xs : List V} (I : Inv X pins σ H s) (h : H p = some (.lst xs)) :
  ∃ (its : List Value) (n : Nat), Vals xs its ∧ s.heap.get? p = some { cls := .type "list", data := .seq its.toArray n } ∧ xs.length ≤ sizeLine := by
 obtain ⟨z, its, n, r, e⟩ := I.hok p _ h
 exact ⟨its, n, r, e, z⟩
theorem Inv.lstUpd {pins : List (Addr × Obj)} {σ : St} {H : Hp} {s : Shared} {p : Addr} {xs ys : List V} {its its' : List Value} {n n' : Nat} {f : Obj → Obj} (I : Inv X pins σ H s) (h : H p = some (.lst xs))
  (ho : s.heap.get? p = some { cls := .type "list", data := .seq its.toArray n }) (hf : f { cls := .type "list", data := .seq its.toArray n } = { cls := .type "list", data := .seq its'.toArray n' }) (r : Vals ys its') (hz : ys.length ≤ sizeLine) (t : Nat) :
  Inv X pins σ (upd H p (.lst ys)) { s with heap := s.heap.update p f, toks := t } := by
 have e : (s.heap.update p f).get? p = some { cls := .type "list", data := .seq its'.toArray n' } := by
  rw [Heap.get?_update_self f ho (by rw [hf] <;> rfl), hf]
 refine I.write (x := p) (e := p) (by rw [h]; trivial) (.inl rfl) (fun b u hb q => (Heap.get?_update_other _ _ (Ne.symm hb)).trans q) ⟨_, e⟩ ?_
 exact ⟨hz, its', n', r, e⟩
def rSetL : V → V → V → Hp → (Hp → Prop) → Prop := fun o i v H Q => ∃ p xs k j, o = .ref p ∧ i = .int k ∧ H p = some (.lst xs) ∧ ixN xs.length k = some j ∧ Q (upd H p (.lst (xs.set j v)))
theorem set_list : PSet X rSetL := by
 intro pins s σ H o i v ov iv u Q I ro ri rv h
 obtain ⟨p, xs, k, j, rfl, rfl, hp, hj, q⟩ := h
 cases ro
 obtain ⟨t, rfl⟩ := ri
 obtain ⟨its, n, r, ho, hz⟩ := I.lst hp
 obtain ⟨h1, h2, h3, h4⟩ := ixN_seq hj
 have hl := r.length
 have hn := line63
 have I' : Inv X pins σ (upd H p (.lst (xs.set j v))) { s with heap := s.heap.update p (Obj.mapSeq (·.setIfInBounds j u)) } :=
  I.lstUpd hp ho (mapSeq_set its n j u) (r.set rv j) (by rw [List.length_set]; exact hz) s.toks
 by_cases h0 : 0 ≤ k
 ·have hk : k.toNat = j := by
   rw [seqIndex_of h0 h4] at h1
   exact Option.some.inj h1
  exact PySem.W.ki_setAt ho h0 (by omega) (by rw [List.size_toArray, ← hl]; exact h4) (by rw [hk]; exact ⟨_, I', q⟩)
 ·have hk : (k + (its.toArray.size : Int)).toNat = j := by
   rw [seqIndex_neg (by omega) h3] at h1
   rw [List.size_toArray, ← hl]
   exact Option.some.inj h1
  exact PySem.W.ki_setBack ho (by omega) (by rw [List.size_toArray, ← hl]; exact h3) (by omega) (by rw [hk]; exact ⟨_, I', q⟩)
theorem slice_bounds (lo hi : Option Int) (n : Nat) : (sliceBounds lo hi none n).1 = ((HT.sIx n 0 lo : Nat) : Int) ∧ (sliceBounds lo hi none n).2.1 = ((HT.sIx n n hi : Nat) : Int) ∧ (sliceBounds lo hi none n).2.2 = 1 := by
 refine ⟨?_, ?_, rfl⟩
 ·cases lo with
  | none => simp [sliceBounds, HT.sIx]
  | some i =>
   simp only [sliceBounds, HT.sIx, Option.getD_none, show (1 : Int) > 0 by decide, if_true]
   by_cases h : i < 0
   ·simp only [h, if_true] <;> omega
   ·simp only [h, if_false] <;> omega
 ·cases hi with
  | none => simp [sliceBounds, HT.sIx]
  | some i =>
   simp only [sliceBounds, HT.sIx, Option.getD_none, show (1 : Int) > 0 by decide, if_true]
   by_cases h : i < 0
   ·simp only [h, if_true] <;> omega
   ·simp only [h, if_false] <;> omega
theorem slicePick_cut (its : List Value) (lo hi : Option Int) : slicePick its.toArray lo hi none = ((its.drop (HT.sIx its.length 0 lo)).take (HT.sIx its.length its.length hi - HT.sIx its.length 0 lo)).toArray := by
 obtain ⟨h1, h2, h3⟩ := slice_bounds lo hi its.toArray.size
 unfold slicePick
 rw [h1, h2, h3]
 simp only [sliceRange_one, pick_run, List.size_toArray] <;> rfl
def rSlL (K : PySem.W.Frag) : V → Option Int → Option Int → Hp → VK → Prop := fun x lo hi H Q => ∃ a xs, x = .ref a ∧ SqL K H a xs ∧ ∀ p, H p = none → Q (.ref p) (upd H p (.lst (cutV xs lo hi)))
theorem sl_list : SlR X (rSlL X.K) := by
 intro pins s σ H x v vl vu lo hi sl Q I rx hs pl pu h
 obtain ⟨a, xs, rfl, hx, q⟩ := h
 cases rx
 obtain ⟨its, r, ht, hz⟩ := I.list hx
 have hlen := r.length
 refine ⟨"list", _, slot_list_getitem.lookup, ht.isList.typeIs, ?_⟩
 refine wpAny_getItem_list_slice ht.isList hs pl pu .none (by simp) ?_ (by rw [List.size_toArray] <;> omega)
 rw [slicePick_cut, ← hlen]
 refine ⟨.ref s.heap.objs.size, _, I.laid (t' := s.toks) (o := .lst (cutV xs lo hi)) (fun b ob q => Heap.get?_push_of_some _ q) (Nat.le_refl _) ?_, rfl, q _ (I.hok.fresh (Nat.le_refl _))⟩
 exact ⟨Nat.le_trans (cutV_length xs lo hi) hz, _, 0, (r.drop (HT.sIx xs.length 0 lo)).take (HT.sIx xs.length xs.length hi - HT.sIx xs.length 0 lo), Heap.get?_push_size _ rfl⟩
noncomputable def flatV : V → Bool
 | .non => true
 | .bl _ => true
 | .int _ => true
 | .str _ => true
 | _ => false
noncomputable def eqV : V → V → Bool
 | .non, .non => true
 | .bl a, .bl b => a == b
 | .bl a, .int b => (if a then 1 else 0) == b
 | .int a, .bl b => a == (if b then 1 else 0)
 | .int a, .int b => a == b
 | .str a, .str b => a == b
 | _, _ => false
theorem eqAt_V {A : Around} {s : Shared} {y x : V} {u v : Value} (ry : RelV y u) (rx : RelV x v) (fy : flatV y = true) (fx : flatV x = true) : SeqAt.EqAt A s u v (eqV y x) := by
 cases y with
 | non =>
  cases ry
  cases x with
  | non => cases rx; exact SeqAt.EqAt.same _
  | bl b => cases rx; exact SeqAt.EqAt.none_bool b
  | int b => obtain ⟨t, rfl⟩ := rx; exact SeqAt.EqAt.none_int b t
  | str b => obtain ⟨t, rfl⟩ := rx; exact SeqAt.EqAt.none_str b t
  | _ => exact absurd (show false = true from fx) Bool.false_ne_true
 | bl a =>
  cases ry
  cases x with
  | non => cases rx; exact SeqAt.EqAt.bool_none a
  | bl b => cases rx; exact SeqAt.EqAt.bool_bool a b
  | int b => obtain ⟨t, rfl⟩ := rx; exact SeqAt.EqAt.bool_int a b t
  | str b => obtain ⟨t, rfl⟩ := rx; exact SeqAt.EqAt.bool_str a b t
  | _ => exact absurd (show false = true from fx) Bool.false_ne_true
 | int a =>
  obtain ⟨t', rfl⟩ := ry
  cases x with
  | non => cases rx; exact SeqAt.EqAt.int_none a t'
  | bl b => cases rx; exact SeqAt.EqAt.int_bool a t' b
  | int b => obtain ⟨t, rfl⟩ := rx; exact SeqAt.EqAt.int_int a t' b t
  | str b => obtain ⟨t, rfl⟩ := rx; exact SeqAt.EqAt.int_str a t' b t
  | _ => exact absurd (show false = true from fx) Bool.false_ne_true
 | str a =>
  obtain ⟨t', rfl⟩ := ry
  cases x with
  | non => cases rx; exact SeqAt.EqAt.str_none a t'
  | bl b => cases rx; exact SeqAt.EqAt.str_bool a t' b
  | int b => obtain ⟨t, rfl⟩ := rx; exact SeqAt.EqAt.str_int a t' b t
  | str b => obtain ⟨t, rfl⟩ := rx; exact SeqAt.EqAt.str_str a t' b t
  | _ => exact absurd (show false = true from fx) Bool.false_ne_true
 | _ => exact absurd (show false = true from fy) Bool.false_ne_true
noncomputable def eqU (x : V) (u : Value) : Bool := match u with
 | .none => eqV .non x
 | .bool b => eqV (.bl b) x
 | .int i _ => eqV (.int i) x
 | .str z _ => eqV (.str z) x
 | _ => false
theorem eqU_of {x y : V} {u : Value} (r : RelV y u) (f : flatV y = true) : eqU x u = eqV y x := by
 cases y with
 | non => cases r; rfl
 | bl b => cases r; rfl
 | int i => obtain ⟨t, rfl⟩ := r; rfl
 | str z => obtain ⟨t, rfl⟩ := r; rfl
 | _ => exact absurd (show false = true from f) Bool.false_ne_true
theorem any_eqU {x : V} : ∀ {xs : List V} {us : List Value}, Vals xs us → xs.all flatV = true → us.any (eqU x) = xs.any fun y => eqV y x
 | _, _, .nil, _ => rfl
 | y :: xs, u :: us, .cons r t, f => by
  rw [List.all_cons, Bool.and_eq_true] at f
  rw [List.any_cons, List.any_cons, eqU_of r f.1, any_eqU t f.2]
theorem mem_eqAt {A : Around} {s : Shared} {x : V} {v : Value} (rx : RelV x v) (fx : flatV x = true) : ∀ {xs : List V} {us : List Value}, Vals xs us → xs.all flatV = true → ∀ u ∈ us, SeqAt.EqAt A s u v (eqU x u)
 | _, _, .nil, _ => fun u hu => by cases hu
 | y :: xs, u :: us, .cons r t, f => fun u' hu => by
  rw [List.all_cons, Bool.and_eq_true] at f
  rcases List.mem_cons.mp hu with rfl | hu
  ·rw [eqU_of r f.1]; exact eqAt_V r rx f.1 fx
  ·exact mem_eqAt rx fx t f.2 u' hu
noncomputable def inV (x : V) (xs : List V) : Bool := xs.any fun y => eqV y x
def rIn (K : PySem.W.Frag) (neg : Bool) : R2 := fun x y H Q => ∃ p xs, y = .ref p ∧ (SqL K H p xs ∨ SqT K H p xs) ∧ flatV x = true ∧ xs.all flatV = true ∧ Q (.bl (if neg then !inV x xs else inV x xs)) H
theorem op_in_seq : OpR X (compareOp .In) (rIn X.K false) := by
 intro pins s σ H x y v u Q I rx ry h
 obtain ⟨p, xs, rfl, hq, fx, fs, q⟩ := h
 cases ry
 rcases hq with hq | hq
 ·obtain ⟨its, r, pl, hz⟩ := I.list hq
  refine SeqAt.in_listAt (eqU x) pl.isList (fun w hw => mem_eqAt rx fx r fs w (by simpa using hw)) ⟨.bl _, H, I, rfl, ?_⟩
  rw [show its.toArray.any (eqU x) = its.any (eqU x) by simp, any_eqU r fs]
  exact q
 ·obtain ⟨its, r, pl, hz⟩ := I.tuple hq
  refine SeqAt.in_tupleAt (eqU x) pl (fun w hw => mem_eqAt rx fx r fs w (by simpa using hw)) ⟨.bl _, H, I, rfl, ?_⟩
  rw [show its.toArray.any (eqU x) = its.any (eqU x) by simp, any_eqU r fs]
  exact q
theorem op_notIn_seq : OpR X (compareOp .NotIn) (rIn X.K true) := by
 intro pins s σ H x y v u Q I rx ry h
 obtain ⟨p, xs, rfl, hq, fx, fs, q⟩ := h
 cases ry
 rcases hq with hq | hq
 ·obtain ⟨its, r, pl, hz⟩ := I.list hq
  refine SeqAt.notIn_listAt (eqU x) pl.isList (fun w hw => mem_eqAt rx fx r fs w (by simpa using hw)) ⟨.bl _, H, I, rfl, ?_⟩
  rw [show its.toArray.any (eqU x) = its.any (eqU x) by simp, any_eqU r fs]
  exact q
 ·obtain ⟨its, r, pl, hz⟩ := I.tuple hq
  refine SeqAt.notIn_tupleAt (eqU x) pl (fun w hw => mem_eqAt rx fx r fs w (by simpa using hw)) ⟨.bl _, H, I, rfl, ?_⟩
  rw [show its.toArray.any (eqU x) = its.any (eqU x) by simp, any_eqU r fs]
  exact q
theorem call_len_seq : CallR X (.builtin "len") (fun xs H Q => ∃ p ys, xs = [.ref p] ∧ (SqL X.K H p ys ∨ SqT X.K H p ys) ∧ Q (.int ys.length) H) := by
 intro pins s σ H xs us Q I r h
 obtain ⟨p, ys, rfl, hq, q⟩ := h
 obtain ⟨u, rfl, rx⟩ := vals1 r
 cases rx
 have hn := line63
 rcases hq with hq | hq
 ·obtain ⟨its, r', pl, hz⟩ := I.list hq
  have hlen := r'.length
  exact Calls.call_len_list pl.isList (by simp only [List.size_toArray] <;> omega) ⟨.int ys.length, H, I.tok _, ⟨s.toks + 1, by rw [List.size_toArray, hlen]⟩, q⟩
 ·obtain ⟨its, r', pl, hz⟩ := I.tuple hq
  have hlen := r'.length
  exact len_tuple pl (by simp only [List.size_toArray] <;> omega) ⟨.int ys.length, H, I.tok _, ⟨s.toks + 1, by rw [List.size_toArray, hlen]⟩, q⟩
theorem call_len_str : CallR X (.builtin "len") (fun xs H Q => ∃ z, xs = [.str z] ∧ z.length ≤ sizeLine ∧ Q (.int z.length) H) := by
 intro pins s σ H xs us Q I r h
 obtain ⟨z, rfl, hz, q⟩ := h
 obtain ⟨u, rfl, t, rfl⟩ := vals1 r
 have hn := line63
 exact len_str (by omega) ⟨.int z.length, H, I.tok _, ⟨_, rfl⟩, q⟩
theorem CallR.or {f : Value} {r r' : List V → Hp → VK → Prop} (h : CallR X f r) (h' : CallR X f r') : CallR X f (fun xs H Q => r xs H Q ∨ r' xs H Q) := by
 intro pins s σ H xs us Q I rs q
 rcases q with q | q
 ·exact h pins s σ H xs us Q I rs q
 ·exact h' pins s σ H xs us Q I rs q
theorem call_tuple_of : CallR X (.type "tuple") (fun xs H Q => ∃ p ys, xs = [.ref p] ∧ ((SqL X.K H p ys ∧ ∀ l, H l = none → Q (.ref l) (upd H l (.tup ys))) ∨ (SqT X.K H p ys ∧ Q (.ref p) H))) := by
 intro pins s σ H xs us Q I r h
 obtain ⟨p, ys, rfl, h⟩ := h
 obtain ⟨u, rfl, rx⟩ := vals1 r
 cases rx
 rcases h with ⟨hq, q⟩ | ⟨hq, q⟩
 ·obtain ⟨its, r', pl, hz⟩ := I.list hq
  have hlen := r'.length
  refine call_tuple_list pl.isList (fun h' kp => ?_) (by simp only [List.size_toArray] <;> omega)
  have I1 : Inv X pins σ H { s with heap := h' } := I.kept (t' := s.toks) kp
  have I2 : Inv X pins σ (upd H h'.objs.size (.tup ys)) { s with heap := h'.push { cls := .type "tuple", data := .seq its.toArray } } :=
   I1.laid (t' := s.toks) (fun b o e => Heap.get?_push_of_some _ e) (Nat.le_refl _) (show ObjOk X.prog X.w _ _ _ (.tup ys) from ⟨hz, its, r', ⟨_, Heap.get?_push_size _ rfl, rfl, _, rfl, rfl⟩⟩)
  exact ⟨.ref h'.objs.size, _, I2, rfl, q _ (I1.hok.fresh (Nat.le_refl _))⟩
 ·obtain ⟨its, r', pl, hz⟩ := I.tuple hq
  exact call_tuple_same pl ⟨.ref p, H, I, rfl, q⟩
def tyV (K : PySem.W.Frag) (T : String) (x : V) (H : Hp) : Prop := match x with
 | .str _ => T = "str"
 | .int _ => T = "int"
 | .ref p => (T = "list" ∧ ∃ xs, SqL K H p xs) ∨ (T = "tuple" ∧ ((∃ o, K.lookup p = some o ∧ o.cls = .type "tuple" ∧ o.dict = none) ∨ ∃ xs, H p = some (.tup xs))) ∨
   (T = "dict" ∧ ((∃ kvs, H p = some (.dK kvs)) ∨ ∃ kvs, H p = some (.dT kvs))) ∨ (T = "set" ∧ ∃ S n, H p = some (.set S n))
 | _ => False
theorem tyV_is {pins : List (Addr × Obj)} {σ : St} {H : Hp} {s : Shared} {T : String} {x : V} {v : Value} (I : Inv X pins σ H s) (r : RelV x v) (ty : tyV X.K T x H) :
  s.TypeIs v T ∧ ∀ a, v = .ref a → ∃ ob, s.heap.get? a = some ob ∧ ob.dict = none := by
 cases x with
 | str z =>
  obtain ⟨t, rfl⟩ := r
  cases (show T = "str" from ty)
  exact ⟨typeIs_str s z t, fun _ e => nomatch e⟩
 | int i =>
  obtain ⟨t, rfl⟩ := r
  cases (show T = "int" from ty)
  exact ⟨typeIs_int s i t, fun _ e => nomatch e⟩
 | ref p =>
  cases r
  rcases ty with ⟨rfl, xs, hq⟩ | ⟨rfl, ⟨o, hk, hc, hd⟩ | ⟨xs, hx⟩⟩ | ⟨rfl, hk⟩ | ⟨rfl, S, n, hk⟩
  ·obtain ⟨its, _, pl, _⟩ := I.list hq
   refine ⟨pl.isList.typeIs, fun a e => ?_⟩
   cases e
   obtain ⟨o, n, e, c, hd, _⟩ := pl
   exact ⟨o, e, hd⟩
  ·refine ⟨⟨o, I.kIn p o hk, hc⟩, fun a e => ?_⟩
   cases e
   exact ⟨o, I.kIn _ o hk, hd⟩
  ·obtain ⟨_, its, _, o, h1, h2, n, _, h3⟩ := I.hok p _ hx
   refine ⟨⟨o, h1, h2⟩, fun a e => ?_⟩
   cases e
   exact ⟨o, h1, h3⟩
  ·have z : ∃ o, s.heap.get? p = some o ∧ o.ExactDict := by
    rcases hk with ⟨kvs, hk⟩ | ⟨kvs, hk⟩
    ·obtain ⟨_, _, _, _, o, _, _, e, ex, _⟩ := I.hok p _ hk
     exact ⟨o, e, ex⟩
    ·obtain ⟨_, _, _, _, o, _, _, e, ex, _⟩ := I.hok p _ hk
     exact ⟨o, e, ex⟩
   obtain ⟨o, e, ex⟩ := z
   refine ⟨⟨o, e, ex.1⟩, fun a e2 => ?_⟩
   cases e2
   exact ⟨o, e, ex.2.1⟩
  ·obtain ⟨o, _, _, _, e, ex, _⟩ := I.hok p _ hk
   refine ⟨⟨o, e, ex.1⟩, fun a e2 => ?_⟩
   cases e2
   exact ⟨o, e, ex.2.1⟩
 | _ => exact False.elim ty
def tBM0 (K : PySem.W.Frag) (T : String) (r : V → List V → Hp → VK → Prop) (to : TE) : TE := fun σ H Q => to σ H fun x H1 => tyV K T x H1 ∧ r x [] H1 Q
def tBM (K : PySem.W.Frag) (T : String) (r : V → List V → Hp → VK → Prop) (to : TE) (t : TA) : TE := fun σ H Q => to σ H fun x H1 => tyV K T x H1 ∧ t σ H1 fun xs H2 => r x xs H2 Q
variable {o e : Expr} {es : List Expr} {to : TE} {t : TA} {name : Str} {apos cpos : Pos} {T id : String} {r : V → List V → Hp → VK → Prop}
theorem pe_bm (pa : PlainAttrs T) (slot : Slot T name id) (hty : typeOf (.builtin id) = pure (.type "method_descriptor")) (hm : MtR X id r) (ho : PE X o to) (ha : PA X (e :: es) t)
  (hbase : attributeBase o name X.env (eval o X.env) = eval o X.env := by rfl)
  (hfew : ((backTo cpos (starEach (e :: es) X.env)).all (fun x => !x.1) && (backToKw cpos (keywordEach [] X.env)).all (fun x => x.1.isSome)
   && decide ((e :: es).length + ([] : List Keyword).length + (if ([] : List Keyword).isEmpty then 0 else 1) < 30)) = true := by rfl)
  (hline : (apos.endLine == cpos.line) = true := by rfl) (hs : starEach (e :: es) X.env = (false, eval e X.env) :: starEach es X.env := by rfl) (hplain : (backTo cpos (starEach es X.env)).any (·.1) = false := by rfl) :
  PE X (.Call (.Attribute o name apos) (e :: es) [] cpos) (tBM X.K T r to t) := by
 intro pins s σ H Q I h
 refine wpAny_Call_method_late hbase hfew hline rfl (thn (ho pins s σ H _ I h) fun v s1 ⟨x, H1, I1, r1, ty, q1⟩ => ?_)
 obtain ⟨h1, h2⟩ := tyV_is I1 r1 ty
 refine ⟨T, id, pa, slot, hty, h1, h2, ?_⟩
 have hA := ha cpos pins s1 σ H1 _ I1 q1
 rw [hs] at hA ⊢
 refine Calls.callWith_builtin (by show (false || (backTo cpos (starEach es X.env)).any (·.1)) = false; rw [hplain] <;> rfl) (Calls.evalArgs_plain ?_)
 exact thn hA fun us s2 ⟨vs, H2, I2, r2, q2⟩ => hm pins s2 σ H2 x vs v us Q I2 r1 r2 q2
end
end L2
namespace L2
open PySem PySem.Spec PyProof.Rows
def MtM (X : Cx) (id : String) (r : V → List V → Hp → VK → Prop) : Prop :=
 ∀ (pins : List (Addr × Obj)) (s : Shared) (σ : St) (H : Hp) (x : V) (xs : List V) (v : Value) (us : List Value) (Q : VK), Inv X pins σ H s → RelV x v → Vals xs us → r x xs H Q →
  wpAny (model X.prog X.w) X.A (call (.builtin id) (v :: us)) (EP X pins σ Q) X.xe s
theorem Vals.one : ∀ {x : V} {us : List Value}, Vals [x] us → ∃ u, us = [u] ∧ RelV x u
 | _, _, .cons r .nil => ⟨_, rfl, r⟩
theorem Vals.two : ∀ {x y : V} {us : List Value}, Vals [x, y] us → ∃ u v, us = [u, v] ∧ RelV x u ∧ RelV y v
 | _, _, _, .cons r (.cons q .nil) => ⟨_, _, rfl, r, q⟩
theorem Vals.zero : ∀ {us : List Value}, Vals [] us → us = []
 | _, .nil => rfl
theorem Vals.reverse {xs : List V} {us : List Value} (h : Vals xs us) : Vals xs.reverse us.reverse := by
 induction h with
 | nil => exact .nil
 | cons r t ih => rw [List.reverse_cons, List.reverse_cons]; exact Vals.append ih (.cons r .nil)
section
variable {X : Cx} {pins : List (Addr × Obj)} {σ : St} {H : Hp} {s : Shared} {l b : Addr} {xs ys zs : List V}
theorem Inv.lset {its its' : List Value} {n : Nat} {f : Array Value → Array Value} {t' : Nat} (I : Inv X pins σ H s) (hH : H l = some (.lst xs))
  (e : s.heap.get? l = some { cls := .type "list", data := .seq its.toArray n }) (hf : f its.toArray = its'.toArray) (hv : Vals ys its') (hz : ys.length ≤ sizeLine) :
  Inv X pins σ (upd H l (.lst ys)) { s with heap := s.heap.update l (Obj.mapSeq f), toks := t' } := by
 have q := PySem.IsL.update e f
 rw [hf] at q
 refine I.write (x := l) (e := l) (by rw [hH]; exact trivial) (.inl rfl) (fun b' u hb hu => (Heap.get?_update_other s.heap (Obj.mapSeq f) (Ne.symm hb)).trans hu) ⟨_, q⟩ ?_
 exact ⟨hz, its', _, hv, q⟩
theorem Inv.lnew {its : List Value} {t' : Nat} (I : Inv X pins σ H s) (hv : Vals ys its) (hz : ys.length ≤ sizeLine) :
  Inv X pins σ (upd H s.heap.objs.size (.lst ys)) { s with heap := s.heap.push { cls := .type "list", data := .seq its.toArray }, toks := t' } :=
 I.laid (fun _ _ q => Heap.get?_push_of_some _ q) (Nat.le_refl _) ⟨hz, its, 0, hv, Heap.get?_push_size _ rfl⟩
theorem Inv.fresh (I : Inv X pins σ H s) : H s.heap.objs.size = none := I.hok.fresh (Nat.le_refl _)
theorem Inv.lstM (I : Inv X pins σ H s) (hH : H l = some (.lst xs)) : xs.length ≤ sizeLine ∧ ∃ (its : List Value) (n : Nat), Vals xs its ∧ xs.length = its.length ∧ s.heap.get? l = some { cls := .type "list", data := .seq its.toArray n } := by
 obtain ⟨z, its, n, r, e⟩ := I.hok l _ hH
 exact ⟨z, its, n, r, r.length, e⟩
theorem notLongL {n : Nat} (h : n ≤ sizeLine) : Builtin.List.listTooLong n = false := by
 unfold Builtin.List.listTooLong
 exact decide_eq_false (by omega)
end
section
variable {X : Cx}
def rAppend : V → List V → Hp → VK → Prop := fun x vs H Q => ∃ l xs y, x = .ref l ∧ vs = [y] ∧ H l = some (.lst xs) ∧ xs.length < sizeLine ∧ Q .non (upd H l (.lst (xs ++ [y])))
theorem mt_append : MtM X "list.append" rAppend := by
 intro pins s σ H x vs v us Q I rx rv h
 obtain ⟨l, xs, y, rfl, rfl, hH, hz, q⟩ := h
 cases rx
 obtain ⟨u, rfl, ru⟩ := rv.one
 obtain ⟨z, its, n, r, hl, e⟩ := I.lstM hH
 refine call_meets F.slot_list_append ⟨_, e, rfl⟩ F.entry_list_append (F.args_list_append_2 _ _) (PySem.list_append l its.toArray n u (by rw [List.size_toArray]; omega)) ⟨e, ?_⟩
 refine ⟨.non, _, I.lset (its' := its ++ [u]) hH e (by simp) (r.append (.cons ru .nil)) ?_, rfl, q⟩
 rw [List.length_append, List.length_singleton]
 omega
def rExtend : V → List V → Hp → VK → Prop := fun x vs H Q => ∃ l b xs zs, x = .ref l ∧ vs = [.ref b] ∧ H l = some (.lst xs) ∧ H b = some (.lst zs) ∧ xs.length + zs.length ≤ sizeLine ∧ Q .non (upd H l (.lst (xs ++ zs)))
theorem mt_extend : MtM X "list.extend" rExtend := by
 intro pins s σ H x vs v us Q I rx rv h
 obtain ⟨l, b, xs, zs, rfl, rfl, hH, hB, hz, q⟩ := h
 cases rx
 obtain ⟨u, rfl, ru⟩ := rv.one
 cases ru
 obtain ⟨z, its, n, r, hl, e⟩ := I.lstM hH
 obtain ⟨z2, its2, n2, r2, hl2, e2⟩ := I.lstM hB
 have hsz : its.toArray.size + its2.toArray.size ≤ sizeLine := by rw [List.size_toArray, List.size_toArray]; omega
 have hlong : ¬ (!its.toArray.isEmpty && Builtin.List.listTooLong (its.toArray.size + its2.toArray.size)) = true := by
  rw [notLongL hsz, Bool.and_false]
  exact Bool.false_ne_true
 refine call_meets F.slot_list_extend ⟨_, e, rfl⟩ F.entry_list_extend (F.args_list_extend_2 _ _)
  (AutoSeq1.list_extend_list_list_0 l its.toArray n b its2.toArray n2 hlong (by rw [List.size_toArray]; omega) (by omega)) ⟨e, e2, ?_⟩
 refine ⟨.non, _, I.lset (its' := its ++ its2) hH e (by simp) (r.append r2) ?_, rfl, q⟩
 rw [List.length_append]
 omega
def rCat : R2 := fun x y H Q => ∃ l b xs zs, x = .ref l ∧ y = .ref b ∧ H l = some (.lst xs) ∧ H b = some (.lst zs) ∧ xs.length + zs.length ≤ sizeLine ∧ ∀ p, H p = none → Q (.ref p) (upd H p (.lst (xs ++ zs)))
theorem op_cat : OpR X (binaryOp .Add) rCat := by
 intro pins s σ H x y v u Q I rx ry h
 obtain ⟨l, b, xs, zs, rfl, rfl, hH, hB, hz, q⟩ := h
 cases rx
 cases ry
 obtain ⟨z, its, n, r, hl, e⟩ := I.lstM hH
 obtain ⟨z2, its2, n2, r2, hl2, e2⟩ := I.lstM hB
 refine PySem.P.add_list e e2 ?_ (by rw [List.size_toArray, List.size_toArray]; omega)
 have ea : its.toArray ++ its2.toArray = (its ++ its2).toArray := by simp
 rw [ea]
 exact ⟨.ref _, _, I.lnew (t' := s.toks) (r.append r2) (by rw [List.length_append]; omega), rfl, q _ I.fresh⟩
end
section
variable {prog : Program} {w : World} {A : Around} {E : Value → Shared → Prop} {s : Shared}
set_option maxRecDepth 100000 in
end
section
variable {X : Cx}
end
end L2
namespace Att
open PySem PySem.W PySem.Calls PyProof.Rows
theorem ints_of_wellAll {P : Params} {h : Heap} : ∀ (ns : List Int) (vs : List Value), WellAll P h vs (ns.map WData.int) → IntsAre vs ns := by
 intro ns
 induction ns with
 | nil =>
  intro vs w
  rw [List.map_nil] at w
  cases w
  exact .nil
 | cons n ns ih =>
  intro vs w
  rw [List.map_cons] at w
  cases w with
  | cons a b =>
   cases a
   exact .cons _ _ (ih _ b)
theorem script_of {l : OpenLaw} {n : Nat} (hn : l.most = some n) {P : Params} {h : Heap} {args : List WData} {vals : List Value}
  (hpre : l.row.toRowW.claim.pre args = true) (hwl : WellAll P h vals args) :
  ∃ a vs ns, vals = [Value.ref a] ∧ args = [WData.list (ns.map WData.int)] ∧ h.get? a = some { cls := .type "list", data := .seq vs.toArray } ∧ IntsAre vs ns ∧ ns.length ≤ n := by
 have hsh : WShape.hasAll [] args [.list .int] = true := (pre_splitW hpre).1
 have hc : l.pre.holds [] { args := args } = true := (pre_splitW hpre).2
 obtain ⟨d, r, rfl, h1, h2⟩ := hasAllW_cons hsh
 obtain rfl := hasAllW_nil h2
 obtain ⟨xs, rfl, h3⟩ := hasW_list h1
 obtain ⟨ns, rfl⟩ := items_int h3
 have hlen : ns.length ≤ n := by
  unfold OpenLaw.pre at hc
  have h4 : (WTm.not (.lt (.lit (.int (n : Int))) (.len (.arg 0)))).holds [] { args := [.list (ns.map .int)] } = true := by
   have h4 := (holds_andW hc).1
   rw [hn] at h4
   exact h4
  have h5 := condW_of h4 (w_not (w_lt w_lit (w_len_list (w_arg rfl))))
  rw [List.length_map] at h5
  refine Nat.le_of_not_lt fun q => ?_
  have q' : (n : Int) < ((ns.length : Nat) : Int) := by omega
  first
   | (rw [decide_eq_true q'] at h5; exact absurd h5 (by decide))
   | (simp at h5; omega)
 cases hwl with
 | cons w1 w2 =>
  cases w2
  cases w1 with
  | list ho hall => exact ⟨_, _, ns, rfl, rfl, ho, ints_of_wellAll ns _ hall, hlen⟩
theorem post_true (l : OpenLaw) (args : List WData) : l.row.toRowW.claim.post args (.bool true) args = true :=
 postW_of (r := l.row.toRowW) (X := (true == true))
  (show WShape.has [] (.bool true) .bool = true by first | rfl | decide | simp [WShape.has, WShape.arms, WShape.armsAll])
  (show (WTm.eq .res (.lit (.bool true))).value [] { args := args, res := some (.bool true), after := args } = some (.bool (true == true)) from w_eq_bool (w_res rfl) w_lit) rfl
theorem attach_call {l : OpenLaw} {n : Nat} {q : Program} {loose : List Str} {XP : (Str → Option Value) → Heap → Prop} {YP : World → Heap → Prop} {d : DefRec}
  (hn : l.most = some n) (hdf : d.params.defaults = [])
  (call : ∀ (w : World) (s₀ s₁ : Shared) (mg mb : Str → Option Value) (fa : Addr) (o : Obj) (pm cd doc : Value) (a : Addr) (vs : List Value) (ns : List Int),
   Ground q loose [] XP w s₀ mg mb s₁.heap → YP w s₁.heap →
   s₁.heap.get? fa = some o → o.data = .func (docDef d.name d.params d.body d.scope pm cd doc) → s₁.heap.CodeRec cd d.name → mg d.name = some (.ref fa) →
   s₁.heap.get? a = some { cls := .type "list", data := .seq vs.toArray } → IntsAre vs ns → ns.length ≤ n → s₁.gens = #[] →
   codeAny (model l.prog w) callerA (.call (.ref fa) ⟨[.ref a], []⟩) (fun r s' => r = .ok (.ret (.bool true)) ∧ OldK s₁.heap s'.heap ∧ s'.os = s₁.os ∧ AllBare s'.gens) s₁) :
  WalkO q loose XP YP l.row.toRowW d [] (fun f vs => PySem.call f vs) := by
 intro w s₀ s₁ mg mb G Y fa o pm cd doc dV kV ho hd hcd hD hmg hg args vals as hpre hlay hrd hwl hlo
 obtain rfl : dV = .none := Dflts.none hD hdf
 obtain rfl : kV = .none := Dflts.noKw hD
 obtain ⟨a, vs, ns, rfl, rfl, hobj, hints, hlen⟩ := script_of hn hpre hwl
 refine enter_call (codeAny_mono (call w s₀ s₁ mg mb fa o pm cd doc a vs ns G Y ho (fd_plain hd) hcd hmg hobj hints hlen hg) fun r s' hq => ?_)
 obtain ⟨rfl, h2, h3, h4⟩ := hq
 exact ⟨.inl ⟨.bool true, .bool true, [], rfl, fun _ => rfl, .bool true, post_true l _, fun _ => ⟨List.Pairwise.nil, fun _ hm => (nomatch hm)⟩⟩, h2, h3, h4⟩
section
variable {prog : Program} {w : World} {A : Around} {E : Value → Shared → Prop} {s : Shared} {K : Frag}
noncomputable def ledger (h : Heap) (L d : Addr) : List (Addr × Obj) := (List.range h.objs.size).filterMap fun a => if a = L ∨ a = d then none else (h.get? a).map fun o => (a, o)
end
end Att
namespace L2
open PySem PySem.Spec PyProof.Rows
theorem vals_ints : ∀ {vs : List Value} {ns : List Int}, IntsAre vs ns → Vals (ns.map V.int) vs
 | _, _, .nil => .nil
 | _, _, .cons n t h => .cons ⟨t, rfl⟩ (vals_ints h)
def Only (H : Hp) : Prop := ∀ b, H b = none ∨ ∃ o xs, H b = some (.frz o (.lst xs))
theorem law_call {P : Program} {w : World} {K : PySem.W.Frag} {mg mb : Str → Option Value} {CX : CXT} {k : Nat} {fa a : Addr} {fd : FuncData} {x : Str} {sp : Sp} {s₁ : Shared} {vs : List Value} {ns : List Int}
  (KX : K.In s₁.heap) (hns : s₁.heap.Ns mainGlobals mg) (hb : s₁.heap.Ns builtinsNs mb) (hbb : ∀ x : Str, x ≠ "__name__" → mb x = bootBuiltins x) (hlim : s₁.heap.NoLimit) (hg : s₁.gens = #[])
  (ha : s₁.heap.get? a = some { cls := .type "list", data := .seq vs.toArray }) (hi : IntsAre vs ns) (hl : ns.length ≤ sizeLine) (hr : Room k callerA)
  (F : ∀ base : Heap, K.In base → base.Ns mainGlobals mg → FnOk P w K mg base CX k fa fd [x] sp) (hbind : ∀ (s : Shared) (u : Value), BindsTo s fd ⟨[u], []⟩ [(x, u)])
  (hsp : ∀ H : Hp, Only H → SqL K H a (ns.map V.int) → sp [.ref a] H (fun v _ => v = .bl true) fun _ _ _ => False)
  (hCX : ∀ H e s', CX [] H s₁ (fun _ _ _ => False) e s' → False) :
  codeAny (model P w) callerA (.call (.ref fa) ⟨[.ref a], []⟩) (fun r s' => r = .ok (.ret (.bool true)) ∧ OldK s₁.heap s'.heap ∧ s'.os = s₁.os ∧ AllBare s'.gens) s₁ := by
 have rv := vals_ints hi
 have lenV := hi.length
 have core : ∀ H : Hp, Only H → SqL K H a (ns.map V.int) → HOk P w H s₁.heap → (∀ b, H b ≠ none → b = a) → (H a ≠ none → K.lookup a = none) →
   codeAny (model P w) callerA (.call (.ref fa) ⟨[.ref a], []⟩) (fun r s' => r = .ok (.ret (.bool true)) ∧ OldK s₁.heap s'.heap ∧ s'.os = s₁.os ∧ AllBare s'.gens) s₁ := by
  intro H hO hS hok hA hK
  have base_of : ∀ {b : Addr} {o : Obj}, s₁.heap.get? b = some o → H b = none → (hidT s₁.heap H).get? b = some o := fun e n => hidT_get e n
  have noA : ∀ {b : Addr} {o : Obj} {es : Array DictEntry} {ep : Nat}, s₁.heap.get? b = some o → o.data = .dict es ep → H b = none := fun {b o es ep} e d => by
   cases q : H b with
   | none => rfl
   | some u =>
    have e' : b = a := hA b (by rw [q]; simp)
    subst e'
    rw [ha] at e; cases e
    have d' : Data.seq vs.toArray _ = Data.dict es ep := d
    cases d'
  have nsK : ∀ {b : Addr} {m : Str → Option Value}, s₁.heap.Ns b m → (hidT s₁.heap H).Ns b m := fun {b m} ⟨o, es, ep, e, d, r⟩ => ⟨o, es, ep, base_of e (noA e d), d, r⟩
  have hKb : K.In (hidT s₁.heap H) := fun b o e => base_of (KX b o e) (by
   cases q : H b with
   | none => rfl
   | some u =>
    have e' : b = a := hA b (by rw [q]; simp)
    subst e'
    rw [hK (by rw [q]; simp)] at e; cases e)
  have hM : Mod K mg (hidT s₁.heap H) := ⟨hKb, nsK hns, ⟨mb, nsK hb, hbb⟩, let ⟨mc, h1, h2⟩ := hlim; ⟨mc, nsK h1, h2⟩⟩
  have e0 : Env0 P w K mg (hidT s₁.heap H) callerA [] s₁ H := ⟨rfl, hM, fun b o e => of_hidT e, Nat.le_of_eq (hidT_size _ _), trivial, fun b hb => absurd (show b ∈ ([] : List Addr) from hb) (by simp), hok, .of_eq hg⟩
  refine codeAny_mono ((F _ hKb (nsK hns)).run callerA [] s₁ H ⟨[.ref a], []⟩ [.ref a] [.ref a] _ _ hr e0 (hbind s₁ (.ref a)) (.cons rfl .nil) (hsp H hO hS)) fun r s' h => ?_
  cases r with
  | error e => exact (hCX H e s' h).elim
  | ok fl =>
   cases fl with
   | next => exact False.elim h
   | brk => exact False.elim h
   | cont => exact False.elim h
   | ret u =>
    obtain ⟨v, H', os, bare, un, hok', r', q⟩ := h
    have q' : v = .bl true := q
    subst q'
    obtain rfl : u = Value.bool true := r'
    refine ⟨rfl, OldK.of_keep fun b o e => ?_, os, bare⟩
    cases q : H b with
    | none => exact un.keep b o e q (by intro z; exact absurd (show b ∈ ([] : List Addr) from z) (by simp)) (by simp)
    | some u =>
     rcases hO b with z | ⟨ob, xs, z⟩
     ·rw [q] at z; cases z
     ·have z2 := un.frzs b ob _ z
      obtain ⟨e1, _⟩ := hok b _ z
      obtain ⟨e2, _⟩ := hok' b _ z2
      rw [e] at e1; cases e1
      exact e2
 cases hk : K.lookup a with
 | some o =>
  have e := KX a o hk
  rw [ha] at e
  cases e
  refine core (fun _ => none) (fun _ => .inl rfl) (.inr ⟨_, vs.toArray, _, hk, rfl, rfl, rfl, by rw [List.size_toArray, lenV]; exact hl, by simpa using rv⟩) (fun b u z => by have z' : (none : Option HO) = some u := z; cases z') (fun b z => absurd rfl z) fun z => absurd rfl z
 | none =>
  refine core (fun b => if b = a then some (.frz { cls := .type "list", data := .seq vs.toArray } (.lst (ns.map V.int))) else none) (fun b => ?_) (.inl (.inr ⟨{ cls := .type "list", data := .seq vs.toArray }, if_pos rfl⟩)) (fun b u z => ?_) (fun b z => ?_) fun _ => hk
  ·by_cases hb : b = a
   ·exact .inr ⟨_, _, if_pos hb⟩
   ·exact .inl (if_neg hb)
  ·by_cases hb : b = a
   ·have z' := (if_pos hb).symm.trans z
    cases z'
    subst hb
    exact ⟨ha, by rw [List.length_map]; exact hl, vs, _, rv, ha⟩
   ·have z' := (if_neg hb).symm.trans z
    cases z'
  ·by_cases hb : b = a
   ·exact hb
   ·exact absurd (if_neg hb) z
end L2
namespace L2
open PySem PySem.Spec PyProof.Rows
noncomputable abbrev KOf {K : PySem.W.Frag} {h : Heap} (_ : K.In h) : PySem.W.Frag := K
theorem walk_of {l : PySem.W.OpenLaw} {n k : Nat} {q : Program} {loose : List Str} {XP : (Str → Option Value) → Heap → Prop} {YP : World → Heap → Prop} {d : DefRec} {K : Params → PySem.W.Frag} {CX : World → CXT} {sp : World → Sp} {x : Str}
  (hn : l.most = some n) (hn2 : n ≤ sizeLine) (hdf : d.params.defaults = []) (hr : Room k callerA)
  (hY : ∀ (w : World) (h : Heap), YP w h → (K w.params).In h)
  (F : ∀ (w : World) (mg : Str → Option Value) (fa : Addr) (h : Heap), (K w.params).In h → h.Ns mainGlobals mg → mg d.name = some (.ref fa) →
   ∃ fd : FuncData, (∀ (s : Shared) (u : Value), BindsTo s fd ⟨[u], []⟩ [(x, u)]) ∧
    ∀ base : Heap, (K w.params).In base → base.Ns mainGlobals mg → FnOk l.prog w (K w.params) mg base (CX w) k fa fd [x] (sp w))
  (hsp : ∀ (w : World) (H : Hp) (a : Addr) (ns : List Int), ns.length ≤ n → Only H → SqL (K w.params) H a (ns.map V.int) → sp w [.ref a] H (fun v _ => v = .bl true) fun _ _ _ => False)
  (hCX : ∀ (w : World) (H : Hp) (s : Shared) (e : Value) (s' : Shared), CX w [] H s (fun _ _ _ => False) e s' → False) :
  PySem.W.WalkO q loose XP YP l.row.toRowW d [] (fun f vs => PySem.call f vs) := by
 refine Att.attach_call hn hdf fun w s₀ s₁ mg mb fa o pm cd doc a vs ns G Y ho hd hcd hmg hobj hints hlen hg => ?_
 have KX := hY w _ Y
 obtain ⟨fd, hb, hF⟩ := F w mg fa _ KX G.T.g hmg
 exact law_call KX G.T.g G.T.b G.T.builtins G.T.nolimit hg hobj hints (Nat.le_trans hlen hn2) hr hF hb (fun H hO hS => hsp w H a ns hlen hO hS) fun H e s' => hCX w H s₁ e s'
end L2
namespace L2
open PySem PySem.Spec PyProof.Rows
noncomputable def defArgs (s : Stmt) : Arguments := match s with
 | .FunctionDef _ a _ _ _ _ _ _ _ _ => a
 | _ => { posonlyargs := [], args := [], vararg := none, kwonlyargs := [], kw_defaults := [], kwarg := none, defaults := [] }
noncomputable def defBody (s : Stmt) : List Stmt := match s with
 | .FunctionDef _ _ b _ _ _ _ _ _ _ => b
 | _ => []
noncomputable def defScope (s : Stmt) : Scope := match s with
 | .FunctionDef _ _ _ _ _ _ sc _ _ _ => sc
 | _ => { kind := .function, names := [], isGenerator := false, isCoroutine := false }
noncomputable abbrev CX0 : CXT := fun _ _ _ _ _ _ => False
abbrev E0 : XK := fun _ _ _ => False
theorem pass0 {X : Cx} : Passes CX0 X E0 := fun _ _ _ _ _ _ _ h => h.elim
structure Fun (K : PySem.W.Frag) (x qual : Str) (st : Stmt) (f : Addr) (fd : FuncData) : Prop where
 ex : ∃ (oc : Value) (od : Option Addr) (kV doc pm : Value) (an : Option Addr) (cdv ct : Value) (osl : Array (Option Value)),
  fd = PySem.W.fnOf x qual (defArgs st) (defBody st) (defScope st) .none kV doc pm an cdv ct ∧ K.lookup f = some ⟨oc, od, .func fd, osl⟩ ∧ PySem.W.codeIn K cdv qual = true
 kp : PySem.W.keepIn K (.ref f) = true
section
variable {P : Program} {w : World} {K : PySem.W.Frag} {mg : Str → Option Value} {base : Heap}
theorem Fun.ok {x qual : Str} {st : Stmt} {f : Addr} {fd : FuncData} {N ps : List Str} {k : Nat} {sp : Sp} (F : Fun K x qual st f fd) (S : FnScope N ps (defScope st)) (len : ∀ vs H Q E, sp vs H Q E → vs.length = ps.length)
  (hbody : ∀ (cdv : Value) (A : Around) (outer : List Env) (s : Shared) (H : Hp) (vs : List V) (Q : VK) (E : XK), Room k (A.deeper (envOfC qual (defScope st) s.heap.objs.size f cdv)) → sp vs H Q E →
   ∃ t, PSs (cxOf CX0 P w K mg base N qual (defScope st) f cdv A outer s H E).nox (defBody st) t ∧ t { nx := fun _ H' => Q .non H', rt := Q } (start N vs) H) : FnOk P w K mg base CX0 (k + 1) f fd ps sp := by
 obtain ⟨oc, od, kV, doc, pm, an, cdv, ct, osl, rfl, lk, hcd⟩ := F.ex
 refine fn_of lk hcd S len fun A outer s H vs Q E hr hsp => ?_
 obtain ⟨t, h, q⟩ := hbody cdv A outer s H vs Q E hr hsp
 exact ⟨t, h.nox, q⟩
theorem Fun.binds {x qual : Str} {st : Stmt} {f : Addr} {fd : FuncData} {ps : List Str} (F : Fun K x qual st f fd)
  (h : ∀ (kV doc pm : Value) (an : Option Addr) (cdv ct : Value) (us : List Value), us.length = ps.length → bindArgs (PySem.W.fnOf x qual (defArgs st) (defBody st) (defScope st) .none kV doc pm an cdv ct) ⟨us, []⟩ = pure (ps.zip us)) : Binds K fd ps [] := by
 obtain ⟨oc, od, kV, doc, pm, an, cdv, ct, osl, rfl, lk, hcd⟩ := F.ex
 exact .all (h kV doc pm an cdv ct)
theorem fun_mk {x qual : Str} {st : Stmt} {f : Addr} {oc : Value} {od an : Option Addr} {osl : Array (Option Value)} {kV doc pm cdv ct : Value} (l : K.lookup f = some ⟨oc, od, .func (PySem.W.fnOf x qual (defArgs st) (defBody st) (defScope st) .none kV doc pm an cdv ct), osl⟩)
  (c : PySem.W.codeIn K cdv qual = true) (k : PySem.W.keepIn K (.ref f) = true) : Fun K x qual st f (PySem.W.fnOf x qual (defArgs st) (defBody st) (defScope st) .none kV doc pm an cdv ct) := ⟨⟨oc, od, kV, doc, pm, an, cdv, ct, osl, rfl, l, c⟩, k⟩
end
theorem hu_of {A : Around} {k : Nat} (hr : Room k A) : A.units + 1 < cLine := Nat.lt_of_le_of_lt (Nat.add_le_add_left (by decide : 1 ≤ 64) _) hr.units
section
variable {X : Cx}
theorem pv (i : Nat) {x : Str} {pos : Pos} (hN : X.N[i]? = some x := by rfl) (hv : Vis X.env.scope x := by first | exact Or.inl rfl | exact Or.inr (Or.inl rfl) | exact Or.inr (Or.inr rfl)) (hd : (x == ("__debug__" : Str)) = false := by decide)
  (hcd : (x == ("__classdict__" : Str)) = false := by decide) : PE X (.Name x pos) (tVar i) := pe_var hN hv hd hcd
end
theorem iteF {A B : Prop} (h : B) : if false = true then A else B := by
 rw [if_neg Bool.false_ne_true]
 exact h
theorem iteT {A B : Prop} (h : A) : if true = true then A else B := by
 rw [if_pos rfl]
 exact h
theorem ite2 {c A B : Prop} [Decidable c] (h1 : c → A) (h2 : ¬ c → B) : if c then A else B := by
 by_cases h : c
 ·rw [if_pos h]
  exact h1 h
 ·rw [if_neg h]
  exact h2 h
def Same (H H' : Hp) : Prop := ∀ b o, H b = some o → H' b = some o
theorem Same.refl (H : Hp) : Same H H := fun _ _ h => h
theorem Same.trans {H H1 H2 : Hp} (a : Same H H1) (b : Same H1 H2) : Same H H2 := fun c o h => b c o (a c o h)
theorem Same.free {H H' : Hp} (e : Same H H') {l : Addr} (h : H' l = Option.none) : H l = Option.none := by
 cases q : H l with
 | none => rfl
 | some o =>
  rw [e l o q] at h
  cases h
theorem Same.seq {K : PySem.W.Frag} {H H' : Hp} {a : Addr} {xs : List V} (e : Same H H') (h : SqL K H a xs) : SqL K H' a xs := by
 rcases h with (h | ⟨o, h⟩) | h
 ·exact .inl (.inl (e _ _ h))
 ·exact .inl (.inr ⟨o, e _ _ h⟩)
 ·exact .inr h
end L2
namespace L2
open PySem PySem.Spec PyProof.Rows
section
variable {κ : Type} [DecidableEq κ]
noncomputable def valV (kvs : List (κ × V)) (k : κ) : Option V := (kvs.find? fun kv => decide (kv.1 = k)).map (·.2)
noncomputable def putK (kvs : List (κ × V)) (k : κ) (v : V) : List (κ × V) :=
 if (kvs.any fun kv => decide (kv.1 = k)) = true then kvs.map (fun kv => if kv.1 = k then (kv.1, v) else kv) else kvs ++ [(k, v)]
noncomputable def dropK (kvs : List (κ × V)) (k : κ) : List (κ × V) := kvs.filter fun kv => decide (kv.1 ≠ k)
theorem valV_pos {p : κ × V} {r : List (κ × V)} {k : κ} (e : p.1 = k) : valV (p :: r) k = some p.2 := by simp [valV, List.find?_cons, e]
theorem valV_neg {p : κ × V} {r : List (κ × V)} {k : κ} (e : ¬ p.1 = k) : valV (p :: r) k = valV r k := by simp [valV, List.find?_cons, e]
theorem valV_any (k : κ) : ∀ kvs : List (κ × V), (kvs.any fun kv => decide (kv.1 = k)) = (valV kvs k).isSome
 | [] => rfl
 | p :: r => by
  rw [List.any_cons]
  by_cases e : p.1 = k
  ·simp only [valV_pos e, decide_eq_true e, Bool.true_or, Option.isSome_some]
  ·rw [valV_neg e, decide_eq_false e, Bool.false_or]; exact valV_any k r
theorem valV_map (k j : κ) (y : V) : ∀ kvs : List (κ × V), valV (kvs.map fun kv => if kv.1 = k then (kv.1, y) else kv) j = (valV kvs j).map fun x => if j = k then y else x
 | [] => rfl
 | p :: r => by
  have ih := valV_map k j y r
  rw [List.map_cons]
  by_cases h : p.1 = k
  ·rw [if_pos h]
   by_cases e : p.1 = j
   ·rw [valV_pos (p := (p.1, y)) e, valV_pos e, Option.map_some, if_pos (e.symm.trans h)]
   ·rw [valV_neg (p := (p.1, y)) e, valV_neg e, ih]
  ·rw [if_neg h]
   by_cases e : p.1 = j
   ·rw [valV_pos (p := p) e, valV_pos e, Option.map_some, if_neg (fun z => h (e.trans z))]
   ·rw [valV_neg (p := p) e, valV_neg e, ih]
theorem valV_snoc (k j : κ) (y : V) : ∀ kvs : List (κ × V), valV kvs k = none → valV (kvs ++ [(k, y)]) j = if j = k then some y else valV kvs j
 | [], _ => by
  by_cases e : k = j
  ·rw [if_pos e.symm]; exact valV_pos (p := (k, y)) e
  ·rw [if_neg (fun z => e z.symm)]; exact valV_neg (p := (k, y)) e
 | p :: r, hn => by
  rw [List.cons_append]
  have hk : ¬ p.1 = k := fun z => by rw [valV_pos z] at hn; cases hn
  rw [valV_neg hk] at hn
  have ih := valV_snoc k j y r hn
  by_cases e : p.1 = j
  ·rw [valV_pos e, valV_pos e, if_neg (fun z => hk (e.trans z))]
  ·rw [valV_neg e, valV_neg e, ih]
theorem valV_put (kvs : List (κ × V)) (k j : κ) (y : V) : valV (putK kvs k y) j = if j = k then some y else valV kvs j := by
 unfold putK
 by_cases a : (kvs.any fun kv => decide (kv.1 = k)) = true
 ·rw [if_pos a, valV_map]
  rw [valV_any] at a
  by_cases e : j = k
  ·obtain ⟨x, hx⟩ := Option.isSome_iff_exists.mp a
   rw [if_pos e, e, hx, Option.map_some, if_pos rfl]
  ·rw [if_neg e]
   cases valV kvs j with
   | none => rfl
   | some x => rw [Option.map_some, if_neg e]
 ·rw [if_neg a]
  refine valV_snoc k j y kvs ?_
  rw [valV_any] at a
  cases q : valV kvs k with
  | none => rfl
  | some x => rw [q] at a; exact (a rfl).elim
theorem length_putK (kvs : List (κ × V)) (k : κ) (v : V) : (putK kvs k v).length ≤ kvs.length + 1 := by
 unfold putK
 split
 ·rw [List.length_map]; omega
 ·rw [List.length_append, List.length_cons, List.length_nil]; omega
theorem RelO.isSome_eq {o : Option V} {u : Option Value} (r : RelO o u) : o.isSome = u.isSome := by
 cases o with
 | none => cases u with
  | none => rfl
  | some _ => exact (show False from r).elim
 | some _ => cases u with
  | none => exact (show False from r).elim
  | some _ => rfl
theorem RelO.getD {o : Option V} {u : Option Value} {d : V} {d' : Value} (r : RelO o u) (rd : RelV d d') : RelV (o.getD d) (u.getD d') := by
 cases o with
 | none => cases u with
  | none => exact rd
  | some _ => exact (show False from r).elim
 | some _ => cases u with
  | none => exact (show False from r).elim
  | some _ => exact r
theorem KV.val {kvs : List (κ × V)} {vs : List (κ × Value)} (r : KV kvs vs) (k : κ) : RelO (valV kvs k) (valueAt vs k) := by
 unfold KV at r
 induction r with
 | nil => exact True.intro
 | @cons p q ps qs h t ih =>
  obtain ⟨h1, h2⟩ := h
  by_cases e : p.1 = k
  ·have e' : q.1 = k := h1.symm.trans e
   have b : valueAt (q :: qs) k = some q.2 := by simp [valueAt, List.find?_cons, e']
   rw [valV_pos e, b]; exact h2
  ·have e' : ¬ q.1 = k := fun z => e (h1.trans z)
   have b : valueAt (q :: qs) k = valueAt qs k := by simp [valueAt, List.find?_cons, e']
   rw [valV_neg e, b]; exact ih
theorem KV.any {kvs : List (κ × V)} {vs : List (κ × Value)} (r : KV kvs vs) (k : κ) : (kvs.any fun kv => decide (kv.1 = k)) = vs.any fun kv => decide (kv.1 = k) := by
 unfold KV at r
 induction r with
 | nil => rfl
 | cons h t ih => rw [List.any_cons, List.any_cons, ih, h.1]
theorem KV.repl {kvs : List (κ × V)} {vs : List (κ × Value)} (r : KV kvs vs) (k : κ) {y : V} {u : Value} (ry : RelV y u) :
  KV (kvs.map fun kv => if kv.1 = k then (kv.1, y) else kv) (vs.map fun kv => if kv.1 = k then (kv.1, u) else kv) := by
 unfold KV at r ⊢
 induction r with
 | nil => exact .nil
 | @cons p q ps qs h t ih =>
  rw [List.map_cons, List.map_cons]
  refine .cons ?_ ih
  obtain ⟨h1, h2⟩ := h
  by_cases e : p.1 = k
  ·rw [if_pos e, if_pos (h1.symm.trans e)]; exact ⟨h1, ry⟩
  ·rw [if_neg e, if_neg (fun z => e (h1.trans z))]; exact ⟨h1, h2⟩
theorem KV.put {kvs : List (κ × V)} {vs : List (κ × Value)} (r : KV kvs vs) (k : κ) {y : V} {u : Value} (ry : RelV y u) : KV (putK kvs k y) (stored vs k u) := by
 unfold putK stored
 rw [r.any k]
 by_cases e : (vs.any fun kv => decide (kv.1 = k)) = true
 ·rw [if_pos e, if_pos e]; exact r.repl k ry
 ·rw [if_neg e, if_neg e]; exact Paired.snoc r ⟨rfl, ry⟩
theorem KV.drop {kvs : List (κ × V)} {vs : List (κ × Value)} (r : KV kvs vs) (k : κ) : KV (dropK kvs k) (without vs k) := by
 unfold KV at r ⊢
 unfold dropK without
 induction r with
 | nil => exact .nil
 | @cons p q ps qs h t ih =>
  obtain ⟨h1, h2⟩ := h
  rw [List.filter_cons, List.filter_cons]
  by_cases e : p.1 = k
  ·have a : ¬ decide (p.1 ≠ k) = true := by simp [e]
   have b : ¬ decide (q.1 ≠ k) = true := by simp [h1.symm.trans e]
   rw [if_neg a, if_neg b]; exact ih
  ·have e' : ¬ q.1 = k := fun z => e (h1.trans z)
   have a : decide (p.1 ≠ k) = true := by simp [e]
   have b : decide (q.1 ≠ k) = true := by simp [e']
   rw [if_pos a, if_pos b]; exact .cons ⟨h1, h2⟩ ih
theorem KV.keys {kvs : List (κ × V)} {vs : List (κ × Value)} (r : KV kvs vs) : kvs.map (·.1) = vs.map (·.1) := by
 unfold KV at r
 induction r with
 | nil => rfl
 | cons h t ih => rw [List.map_cons, List.map_cons, ih, h.1]
theorem KV.length {kvs : List (κ × V)} {vs : List (κ × Value)} (r : KV kvs vs) : kvs.length = vs.length := Paired.length r
theorem dropK_le (kvs : List (κ × V)) (k : κ) : (dropK kvs k).length ≤ kvs.length := List.length_filter_le _ _
end
theorem kV_is {P : Program} {w : World} {k : Key} {u : Value} (r : RelV (kV k) u) : (mixKind P w).is k u = true := by
 cases k with
 | inl i => obtain ⟨t, e⟩ := (show ∃ t, u = Value.int i t from r); subst e; exact mixKind_int P w i t
 | inr x => obtain ⟨t, e⟩ := (show ∃ t, u = Value.str x t from r); subst e; exact mixKind_str P w x t
theorem items_are {P : Program} {w : World} : ∀ {ks : List Key} {us : List Value}, Vals (ks.map kV) us → ItemsAre (mixKind P w) ks us
 | [], _, r => by rw [List.map_nil] at r; cases r; exact .nil
 | k :: ks, _, r => by
  rw [List.map_cons] at r
  cases r with
  | cons h t => exact .cons (kV_is h) (items_are t)
abbrev KT (H : Hp) : List (List Key × V) → List (List Key × Addr × Value) → Prop := Paired fun p q => p.1 = q.1 ∧ H q.2.1 = some (.tup (p.1.map kV)) ∧ RelV p.2 q.2.2
theorem KT.val {H : Hp} {kvs : List (List Key × V)} {xs : List (List Key × Addr × Value)} (r : KT H kvs xs) (k : List Key) : RelO (valV kvs k) ((atKey xs k).map (·.2)) := by
 induction r with
 | nil => exact True.intro
 | @cons p q ps qs h t ih =>
  obtain ⟨h1, _, h2⟩ := h
  by_cases e : p.1 = k
  ·have e' : q.1 = k := h1.symm.trans e
   have b : atKey (q :: qs) k = some q.2 := by simp [atKey, List.find?_cons, e']
   rw [valV_pos e, b]; exact h2
  ·have e' : ¬ q.1 = k := fun z => e (h1.trans z)
   have b : atKey (q :: qs) k = atKey qs k := by simp [atKey, List.find?_cons, e']
   rw [valV_neg e, b]; exact ih
theorem KT.repl {H : Hp} {kvs : List (List Key × V)} {xs : List (List Key × Addr × Value)} (r : KT H kvs xs) (k : List Key) {y : V} {u : Value} (ry : RelV y u) :
  KT H (kvs.map fun kv => if kv.1 = k then (kv.1, y) else kv) (xs.map (putAt k u)) := by
 induction r with
 | nil => exact .nil
 | @cons p q ps qs h t ih =>
  rw [List.map_cons, List.map_cons]
  refine .cons ?_ ih
  obtain ⟨h1, h2, h3⟩ := h
  unfold putAt
  by_cases e : p.1 = k
  ·rw [if_pos e, if_pos (h1.symm.trans e)]; exact ⟨h1, h2, ry⟩
  ·rw [if_neg e, if_neg (fun z => e (h1.trans z))]; exact ⟨h1, h2, h3⟩
theorem KT.put {H : Hp} {kvs : List (List Key × V)} {xs : List (List Key × Addr × Value)} (r : KT H kvs xs) (k : List Key) {b : Addr} {y : V} {u : Value} (hb : H b = some (.tup (k.map kV))) (ry : RelV y u) :
  KT H (putK kvs k y) (storedH xs k b u) := by
 have e : (kvs.any fun kv => decide (kv.1 = k)) = (atKey xs k).isSome := by
  rw [valV_any, (r.val k).isSome_eq, Option.isSome_map]
 unfold putK storedH
 rw [e]
 by_cases q : (atKey xs k).isSome = true
 ·rw [if_pos q, if_pos q]; exact r.repl k ry
 ·rw [if_neg q, if_neg q]; exact Paired.snoc r ⟨rfl, hb, ry⟩
theorem KT.keeps {H H' : Hp} {kvs : List (List Key × V)} {xs : List (List Key × Addr × Value)} (r : KT H kvs xs) (ht : ∀ b ys, H b = some (.tup ys) → H' b = some (.tup ys)) : KT H' kvs xs :=
 Paired.mapP r fun _ _ z => ⟨z.1, ht _ _ z.2.1, z.2.2⟩
section
variable {P : Program} {w : World} {H : Hp} {h : Heap} {a : Addr}
theorem rd_of {u : HO} (ok : HOk P w H h) (e : Rd H a u) : ObjOk P w H h a u := e.ok ok
theorem dk_rd {kvs : List (Key × V)} (ok : HOk P w H h) (e : Rd H a (.dK kvs)) : kvs.length ≤ sizeLine ∧ (a == sysModules) = false ∧ ∃ vs, KV kvs vs ∧ h.DictOf (mixKind P w) a vs :=
 show ObjOk P w H h a (.dK kvs) from rd_of ok e
theorem dk_of {kvs : List (Key × V)} (ok : HOk P w H h) (e : H a = some (.dK kvs)) : kvs.length ≤ sizeLine ∧ (a == sysModules) = false ∧ ∃ vs, KV kvs vs ∧ h.DictOf (mixKind P w) a vs := dk_rd ok (.inl e)
theorem key_of {ks : List Key} (ok : HOk P w H h) (e : H a = some (.tup (ks.map kV))) : (tupleKind (mixKind P w)).is h ks a := by
 obtain ⟨_, its, r, o, h1, h2, n, h3, _⟩ := (show ObjOk P w H h a (.tup (ks.map kV)) from ok a _ e)
 exact ⟨o, its.toArray, n, h1, h2, h3, by simpa using items_are r⟩
theorem dt_rd {kvs : List (List Key × V)} (ok : HOk P w H h) (e : Rd H a (.dT kvs)) : kvs.length ≤ sizeLine ∧ (a == sysModules) = false ∧
  ∃ xs, KT H kvs xs ∧ h.DictOfH (tupleKind (mixKind P w)) a xs := by
 obtain ⟨z, y, xs, r, o, es, ep, h1, h2, h3, h4, h5⟩ := (show ObjOk P w H h a (.dT kvs) from rd_of ok e)
 refine ⟨z, y, xs, r, o, es, ep, h1, h2, h3, h4, fun x hx => ?_, h5⟩
 have all : ∀ {l : List (List Key × V)} {m : List (List Key × Addr × Value)}, KT H l m → ∀ x ∈ m, (tupleKind (mixKind P w)).is h x.1 x.2.1 := by
  intro l m q
  induction q with
  | nil => intro x hx; exact nomatch hx
  | @cons p q ps qs hq t ih =>
   intro x hx
   rcases List.mem_cons.mp hx with e | hx
   ·subst e
    exact key_of ok (by rw [← hq.1]; exact hq.2.1)
   ·exact ih x hx
 exact all r x hx
theorem dt_of {kvs : List (List Key × V)} (ok : HOk P w H h) (e : H a = some (.dT kvs)) : kvs.length ≤ sizeLine ∧ (a == sysModules) = false ∧
  ∃ xs, KT H kvs xs ∧ h.DictOfH (tupleKind (mixKind P w)) a xs := dt_rd ok (.inl e)
end
def DGet (H : Hp) (a : Addr) (y : V) (r : Option V) : Prop :=
 (∃ kvs k, Rd H a (.dK kvs) ∧ y = kV k ∧ r = valV kvs k) ∨ ∃ kvs k b, Rd H a (.dT kvs) ∧ y = .ref b ∧ H b = some (.tup (k.map kV)) ∧ r = valV kvs k
def DPut (H : Hp) (a : Addr) (y v : V) (H' : Hp) : Prop :=
 (∃ kvs k, H a = some (.dK kvs) ∧ y = kV k ∧ kvs.length < sizeLine ∧ H' = upd H a (.dK (putK kvs k v))) ∨
 ∃ kvs k b, H a = some (.dT kvs) ∧ y = .ref b ∧ H b = some (.tup (k.map kV)) ∧ kvs.length < sizeLine ∧ H' = upd H a (.dT (putK kvs k v))
theorem DGet.k {H : Hp} {a : Addr} {kvs : List (Key × V)} {k : Key} (e : H a = some (.dK kvs)) : DGet H a (kV k) (valV kvs k) := .inl ⟨kvs, k, .inl e, rfl, rfl⟩
theorem DGet.t {H : Hp} {a b : Addr} {kvs : List (List Key × V)} {k : List Key} (e : H a = some (.dT kvs)) (eb : H b = some (.tup (k.map kV))) : DGet H a (.ref b) (valV kvs k) := .inr ⟨kvs, k, b, .inl e, rfl, eb, rfl⟩
theorem DPut.k {H : Hp} {a : Addr} {kvs : List (Key × V)} {k : Key} {v : V} (e : H a = some (.dK kvs)) (hl : kvs.length < sizeLine) : DPut H a (kV k) v (upd H a (.dK (putK kvs k v))) := .inl ⟨kvs, k, e, rfl, hl, rfl⟩
theorem DPut.t {H : Hp} {a b : Addr} {kvs : List (List Key × V)} {k : List Key} {v : V} (e : H a = some (.dT kvs)) (eb : H b = some (.tup (k.map kV))) (hl : kvs.length < sizeLine) :
  DPut H a (.ref b) v (upd H a (.dT (putK kvs k v))) := .inr ⟨kvs, k, b, e, rfl, eb, hl, rfl⟩
section
variable {X : Cx} {pins : List (Addr × Obj)} {σ : St} {H : Hp} {s : Shared} {a : Addr} {y v : V} {u r : Value} {o : Option V} {A : Around} {E : Value → Shared → Prop}
theorem Inv.big (I : Inv X pins σ H s) : sysModules < s.heap.objs.size := by
 have h : mainGlobals < s.heap.objs.size := (I.mod.glob.keeps I.bk).lt
 exact Nat.lt_trans (by decide) h
theorem d_getItem {Q : Value → Shared → Prop} (hu : A.units + 1 < cLine) (I : Inv X pins σ H s) (g : DGet H a y (some v)) (ry : RelV y u) (h : ∀ w' s', Inv X pins σ H s' → RelV v w' → Q w' s') :
  wpAny (model X.prog X.w) A (getItem (.ref a) u) Q E s := by
 rcases g with ⟨kvs, k, e, ey, l⟩ | ⟨kvs, k, b, e, ey, eb, l⟩
 ·subst ey
  obtain ⟨z, hd, vs, rel, dd⟩ := dk_rd I.hok e
  obtain ⟨w', hw, rw'⟩ := RelO.some_of (v := v) (o := valueAt vs k) (by rw [l]; exact rel.val k)
  exact wpAny_getItem_of (kV_is ry) dd.mapOf hw (h w' _ (I.tok _) rw')
 ·subst ey
  cases (show u = Value.ref b from ry)
  obtain ⟨z, hd, xs, rel, dd⟩ := dt_rd I.hok e
  obtain ⟨w', hw, rw'⟩ := RelO.some_of (v := v) (o := (atKey xs k).map (·.2)) (by rw [l]; exact rel.val k)
  obtain ⟨p, hp, hp2⟩ := Option.map_eq_some_iff.mp hw
  refine wpAny_getItem_heap (tupleKind_room_in1 hu) (key_of I.hok eb) dd hp ?_
  rw [hp2]
  exact h w' _ (I.tok _) rw'
theorem d_notIn {Q : Value → Shared → Prop} (hu : A.units + 1 < cLine) (I : Inv X pins σ H s) (g : DGet H a y o) (ry : RelV y u) (h : ∀ s', Inv X pins σ H s' → Q (.bool (!o.isSome)) s') :
  wpAny (model X.prog X.w) A (compareOp .NotIn u (.ref a)) Q E s := by
 rcases g with ⟨kvs, k, e, ey, l⟩ | ⟨kvs, k, b, e, ey, eb, l⟩
 ·subst ey
  obtain ⟨z, hd, vs, rel, dd⟩ := dk_rd I.hok e
  refine wpAny_notIn_of (kV_is ry) hd dd.mapOf ?_
  rw [← (rel.val k).isSome_eq, ← l]
  exact h _ (I.tok _)
 ·subst ey
  cases (show u = Value.ref b from ry)
  obtain ⟨z, hd, xs, rel, dd⟩ := dt_rd I.hok e
  refine wpAny_notIn_heap (tupleKind_room_in1 hu) (key_of I.hok eb) hd dd ?_
  have q := (rel.val k).isSome_eq
  rw [Option.isSome_map] at q
  rw [← q, ← l]
  exact h _ (I.tok _)
theorem d_write {h' : Heap} {t' : Nat} {ob : HO} (I : Inv X pins σ H s) (mu : Mut (H a)) (hs : Heap.SameBut a s.heap h') (he : ∃ q, h'.get? a = some q) (new : ObjOk X.prog X.w (upd H a ob) h' a ob) :
  Inv X pins σ (upd H a ob) { s with heap := h', toks := t' } :=
 I.write (x := a) (e := a) mu (.inl rfl) (fun b q hb z => (hs.2 b hb).trans z) he new
theorem dk_new {P : Program} {w : World} {H' : Hp} {h' : Heap} {kvs : List (Key × V)} {vs : List (Key × Value)} (z : kvs.length ≤ sizeLine) (hd : (a == sysModules) = false) (rel : KV kvs vs) (dd : h'.DictOf (mixKind P w) a vs) :
  ObjOk P w H' h' a (.dK kvs) := ⟨z, hd, vs, rel, dd⟩
theorem d_setItem {H' : Hp} {Q : Unit → Shared → Prop} (hu : A.units + 1 < cLine) (I : Inv X pins σ H s) (g : DPut H a y v H') (ry : RelV y u) (rv : RelV v r) (h : ∀ s', Inv X pins σ H' s' → Q () s') :
  wpAny (model X.prog X.w) A (setItem (.ref a) u r) Q E s := by
 rcases g with ⟨kvs, k, e, ey, l, eH⟩ | ⟨kvs, k, b, e, ey, eb, l, eH⟩
 ·subst ey eH
  obtain ⟨z, hd, vs, rel, dd⟩ := dk_of I.hok e
  have hz : vs.length ≤ sizeLine := by rw [← rel.length]; exact z
  have hl : (putK kvs k v).length ≤ sizeLine := by have := length_putK kvs k v; omega
  refine wpAny_setItem_pairs (hsz := hz) (kV_is ry) dd fun h' dd' hs => h _ ?_
  have he : ∃ q, h'.get? a = some q := let ⟨q, _, _, hq, _⟩ := dd'; ⟨q, hq⟩
  exact d_write I (by rw [e]; exact True.intro) hs he (dk_new hl hd (rel.put k rv) dd')
 ·subst ey eH
  cases (show u = Value.ref b from ry)
  obtain ⟨z, hd, xs, rel, dd⟩ := dt_of I.hok e
  have hz : xs.length ≤ sizeLine := by rw [← Paired.length rel]; exact z
  have hl : (putK kvs k v).length ≤ sizeLine := by have := length_putK kvs k v; omega
  refine wpAny_setItem_heap (hsz := hz) (tupleKind_room_in1 hu) (key_of I.hok eb) dd fun h' dd' hs => h _ ?_
  obtain ⟨q, es, ep, hq, h2, h3, h4, _, h5⟩ := dd'
  refine d_write I (by rw [e]; exact True.intro) hs ⟨q, hq⟩ ⟨hl, hd, _, (rel.put k eb rv).keeps fun c ys ec => ?_, q, es, ep, hq, h2, h3, h4, h5⟩
  rw [upd_ne (ne_of ec e (fun z => nomatch z))]
  exact ec
end
section
variable {X : Cx} {pins : List (Addr × Obj)} {σ : St} {H : Hp} {s : Shared} {a : Addr} {kvs : List (Key × V)} {k : Key} {u : Value} {A : Around} {E : Value → Shared → Prop}
theorem d_pop {v : V} {more : List Value} {Q : Value → Shared → Prop} (I : Inv X pins σ H s) (e : H a = some (.dK kvs)) (ry : RelV (kV k) u) (l : valV kvs k = some v) (hm : more = [] ∨ ∃ x, more = [x])
  (h : ∀ w' s', Inv X pins σ (upd H a (.dK (dropK kvs k))) s' → RelV v w' → Q w' s') : wpAny (model X.prog X.w) A (call (.builtin "dict.pop") (.ref a :: u :: more)) Q E s := by
 obtain ⟨z, hd, vs, rel, dd⟩ := dk_of I.hok e
 obtain ⟨w', hw, rw'⟩ := RelO.some_of (v := v) (o := valueAt vs k) (by rw [← l]; exact rel.val k)
 have hp : (keyPart u).isSome = true := by
  cases k with
  | inl i => obtain ⟨t, q⟩ := (show ∃ t, u = Value.int i t from ry); subst q; rfl
  | inr x => obtain ⟨t, q⟩ := (show ∃ t, u = Value.str x t from ry); subst q; rfl
 have ha : argsOk "dict.pop" ⟨.ref a :: u :: more, []⟩ := by
  rcases hm with q | ⟨x, q⟩
  ·subst q; exact PySem.F.args_dict_pop_2 _ _
  ·subst q; exact PySem.F.args_dict_pop_3 _ _ _
 refine call_meetsIn PySem.F.slot_dict_pop dd.typeIs PySem.F.entry_dict_pop ha (meets_dict_pop_there (mixKind X.prog X.w) a (kV_is ry) more hm hp)
  ⟨vs, w', dd, by rw [← rel.length]; exact z, hw, fun h' dd' hs => h w' _ ?_ rw'⟩
 have he : ∃ q, h'.get? a = some q := let ⟨q, _, _, hq, _⟩ := dd'; ⟨q, hq⟩
 exact d_write I (by rw [e]; exact True.intro) hs he (dk_new (Nat.le_trans (dropK_le kvs k) z) hd (rel.drop k) dd')
theorem d_popD {r : Value} {Q : Value → Shared → Prop} (I : Inv X pins σ H s) (e : H a = some (.dK kvs)) (ry : RelV (kV k) u) (l : valV kvs k = none) (h : ∀ s', Inv X pins σ H s' → Q r s') :
  wpAny (model X.prog X.w) A (call (.builtin "dict.pop") [.ref a, u, r]) Q E s := by
 obtain ⟨z, hd, vs, rel, dd⟩ := dk_of I.hok e
 have hn : valueAt vs k = none := RelO.none_of (by rw [← l]; exact rel.val k)
 have hp : (keyPart u).isSome = true := by
  cases k with
  | inl i => obtain ⟨t, q⟩ := (show ∃ t, u = Value.int i t from ry); subst q; rfl
  | inr x => obtain ⟨t, q⟩ := (show ∃ t, u = Value.str x t from ry); subst q; rfl
 exact call_meetsIn PySem.F.slot_dict_pop dd.typeIs PySem.F.entry_dict_pop (PySem.F.args_dict_pop_3 _ _ _) (meets_dict_pop_default (mixKind X.prog X.w) a (kV_is ry) hd hp r) ⟨vs, dd, hn, h _ (I.tok _)⟩
end
def NoSl (i : Expr) : Prop := ∀ ov iv, subscripted i false ov iv = operate [ov, iv] (getItem ov iv)
theorem subD_of {prog : Program} {w : World} {A : Around} {E : Value → Shared → Prop} {s : Shared} {env : Env} {value slice : Expr} {pos : Pos} {T id : String} {Q : Value → Shared → Prop}
  (hl : typeLookup (.type T) "__getitem__" = pure (some (.builtin id))) (hs : NoSl slice)
  (h : wpAny (model prog w) A (eval value env) (fun o s₁ => wpAny (model prog w) A (eval slice env) (fun i s₂ => s₂.TypeIs o T ∧ wpAny (model prog w) A (getItem o i) Q E s₂) E s₁) E s) :
  wpAny (model prog w) A (eval (.Subscript value slice pos) env) Q E s := by
 refine Subscript_ (wpAny_mono h (fun o s₁ h₁ => wpAny_mono h₁ (fun i s₂ h₂ => ?_) fun _ _ x => x) fun _ _ x => x)
 obtain ⟨hT, h₂⟩ := h₂
 unfold subscriptTail
 refine wpAny_bind ?_
 rw [getitemInPython_of_ne hT.not_modules]
 refine wpAny_bind (wpAny_specialOf hT hl ?_)
 have fin : wpAny (model prog w) A (subscripted slice false o i) (fun r s₃ => wpAny (model prog w) A (letTemporaryGo value o r >>= fun _ => pure r) Q E s₃) E s₂ := by
  rw [hs o i]
  exact wpAny_operating (wpAny_mono h₂ (fun r s₃ h₃ => wpAny_bind (wpAny_letTemporaryGo (wpAny_pure h₃))) fun _ _ x => x)
 first
  | exact wpAny_pure (wpAny_bind fin)
  | exact wpAny_bind (wpAny_pure (wpAny_bind fin))
  | exact wpAny_bind fin
theorem dict_typeIs {X : Cx} {pins : List (Addr × Obj)} {σ : St} {H : Hp} {s : Shared} {a : Addr} {y : V} {o : Option V} (I : Inv X pins σ H s) (g : DGet H a y o) : s.TypeIs (.ref a) "dict" := by
 rcases g with ⟨kvs, k, e, _, _⟩ | ⟨kvs, k, b, e, _, _, _⟩
 ·obtain ⟨_, _, vs, _, dd⟩ := dk_rd I.hok e
  exact dd.typeIs
 ·obtain ⟨_, _, xs, _, dd⟩ := dt_rd I.hok e
  exact dd.typeIs
def tDGet (td ty : TE) : TE := fun σ H Q => td σ H fun x H1 => ty σ H1 fun y H2 => ∃ a v, x = .ref a ∧ DGet H2 a y (some v) ∧ Q v H2
def tDIn (ty td : TE) : TE := fun σ H Q => ty σ H fun y H1 => td σ H1 fun x H2 => ∃ a o, x = .ref a ∧ DGet H2 a y o ∧ Q (.bl o.isSome) H2
def tDNotIn (ty td : TE) : TE := fun σ H Q => ty σ H fun y H1 => td σ H1 fun x H2 => ∃ a o, x = .ref a ∧ DGet H2 a y o ∧ Q (.bl (!o.isSome)) H2
def sDPut (td ty tv : TE) : TS := fun D σ H => tv σ H fun v H1 => td σ H1 fun x H2 => ty σ H2 fun y H3 => ∃ a H4, x = .ref a ∧ DPut H3 a y v H4 ∧ D.nx σ H4
section
variable {X : Cx} {o i e value : Expr} {pos pos' tpos : Pos} {td ty tv : TE}
theorem pe_dget (hu : X.A.units + 1 < cLine) (ho : PE X o td) (hi : PE X i ty) (hs : NoSl i) : PE X (.Subscript o i pos) (tDGet td ty) := by
 intro pins s σ H Q I h
 refine subD_of PySem.F.slot_dict_getitem.lookup hs (thn (ho pins s σ H _ I h) fun u s1 ⟨x, H1, I1, rx, q1⟩ => thn (hi pins s1 σ H1 _ I1 q1) fun iv s2 ⟨y, H2, I2, ry, a, v, ex, g, q2⟩ => ?_)
 subst ex
 obtain rfl : u = Value.ref a := rx
 exact ⟨dict_typeIs I2 g, d_getItem hu I2 g ry fun w' s3 I3 rw' => ⟨v, H2, I3, rw', q2⟩⟩
theorem pc_dnotin (hu : X.A.units + 1 < cLine) (hi : PE X i ty) (ho : PE X o td) : PC X .NotIn i o (tDNotIn ty td) := by
 intro pins s σ H Q I h
 refine thn (hi pins s σ H _ I h) fun iv s1 ⟨y, H1, I1, ry, q1⟩ => thn (ho pins s1 σ H1 _ I1 q1) fun u s2 ⟨x, H2, I2, rx, a, ov, ex, g, q2⟩ => ?_
 subst ex
 obtain rfl : u = Value.ref a := rx
 exact d_notIn hu I2 g ry fun s3 I3 => ⟨.bl (!ov.isSome), H2, I3, rfl, q2⟩
theorem ps_dput (hu : X.A.units + 1 < cLine) (ho : PE X o td) (hi : PE X i ty) (hv : PE X value tv) (hs : swapsWith value (some (.Subscript o i pos')) pos.line X.env = pure false) :
  PS X (.Assign [.Subscript o i pos'] value pos) (sDPut td ty tv) := by
 intro pins s σ H D I h
 refine wpAny_Assign_Subscript (thn (hv pins s σ H _ I h) fun r s1 ⟨v, H1, I1, rv, q1⟩ => thn (ho pins s1 σ H1 _ I1 q1) fun u s2 ⟨x, H2, I2, rx, q2⟩ => thn (hi pins s2 σ H2 _ I2 q2) fun iv s3 ⟨y, H3, I3, ry, a, H4, ex, g, q3⟩ => ?_) hs
 subst ex
 obtain rfl : u = Value.ref a := rx
 exact d_setItem hu I3 g ry rv fun s4 I4 => ⟨σ, H4, I4, q3⟩
end
theorem dk_empty {P : Program} {w : World} {H : Hp} (h : Heap) (hb : sysModules < h.objs.size) : ObjOk P w H (h.push { cls := .type "dict", data := .dict #[] }) h.objs.size (.dK []) :=
 ⟨Nat.zero_le _, beq_eq_false_iff_ne.mpr (Ne.symm (Nat.ne_of_lt hb)), [], .nil, Heap.DictOf.new h⟩
def tDNewK : TE := fun _ H Q => ∀ p, H p = none → Q (.ref p) (upd H p (.dK []))
section
variable {X : Cx} {pos : Pos}
theorem pe_dnewK : PE X (.Dict [] [] pos) tDNewK := fun pins s σ H Q I h =>
 wpAny_Dict_empty ⟨.ref s.heap.objs.size, _, I.laid (a := s.heap.objs.size) (o := .dK []) (t' := s.toks) (fun _ _ q => Heap.get?_push_of_some _ q) (Nat.le_refl _) (dk_empty s.heap I.big), rfl, h _ (I.hok.fresh (Nat.le_refl _))⟩
end
def tPairs : List (TE × TE) → St → Hp → (List (V × V) → Hp → Prop) → Prop
 | [], _, H, Q => Q [] H
 | (tk, tv) :: r, σ, H, Q => tk σ H fun x H1 => tv σ H1 fun y H2 => tPairs r σ H2 fun ps H3 => Q ((x, y) :: ps) H3
abbrev VV : List (V × V) → List (Value × Value) → Prop := Paired fun p q => RelV p.1 q.1 ∧ RelV p.2 q.2
def PPs (X : Cx) (pos : Pos) (keys : List (Option Expr)) (values : List Expr) (trs : List (TE × TE)) : Prop :=
 ∀ (pins : List (Addr × Obj)) (s : Shared) (σ : St) (H : Hp) (Q : List (V × V) → Hp → Prop), Inv X pins σ H s → tPairs trs σ H Q →
  wpAny (model X.prog X.w) X.A (evalPairs (pairTrees keys values X.env pos)) (fun vs s' => ∃ ps H', Inv X pins σ H' s' ∧ VV ps vs ∧ Q ps H') X.xe s
theorem pps_nil {X : Cx} {pos : Pos} : PPs X pos [] [] [] := fun pins s σ H Q I h => pairTrees_nil_walk ⟨[], H, I, .nil, h⟩
theorem pps_cons {X : Cx} {pos : Pos} {k v : Expr} {ks : List (Option Expr)} {vs : List Expr} {tk tv : TE} {trs : List (TE × TE)} (hk : PE X k tk) (hv : PE X v tv) (hr : PPs X pos ks vs trs) :
  PPs X pos (some k :: ks) (v :: vs) ((tk, tv) :: trs) := fun pins s σ H Q I h =>
 pairTrees_cons_walk (thn (hk pins s σ H _ I h) fun u s1 ⟨x, H1, I1, rx, q1⟩ => thn (hv pins s1 σ H1 _ I1 q1) fun w2 s2 ⟨y, H2, I2, ry, q2⟩ =>
  thn (hr pins s2 σ H2 _ I2 q2) fun ws s3 ⟨ps, H3, I3, rel, q3⟩ => ⟨(x, y) :: ps, H3, I3, .cons ⟨rx, ry⟩ rel, q3⟩)
noncomputable def mergeK (kvs more : List (Key × V)) : List (Key × V) := more.foldl (fun acc kv => putK acc kv.1 kv.2) kvs
theorem KV.merge : ∀ {more : List (Key × V)} {rs : List (Key × Value)} {kvs : List (Key × V)} {vs : List (Key × Value)}, KV more rs → KV kvs vs → KV (mergeK kvs more) (merged vs rs) := by
 intro more rs kvs vs r
 unfold KV at r
 induction r generalizing kvs vs with
 | nil => intro q; exact q
 | @cons p q ps qs h t ih =>
  intro r0
  have e : KV (putK kvs p.1 p.2) (stored vs q.1 q.2) := by
   have := r0.put p.1 h.2
   rw [← h.1]; exact this
  exact ih e
theorem length_mergeK : ∀ (more kvs : List (Key × V)), (mergeK kvs more).length ≤ kvs.length + more.length
 | [], kvs => by show kvs.length ≤ kvs.length + 0; omega
 | p :: r, kvs => by
  have h1 := length_mergeK r (putK kvs p.1 p.2)
  have h2 := length_putK kvs p.1 p.2
  show (mergeK (putK kvs p.1 p.2) r).length ≤ _
  rw [List.length_cons]; omega
theorem carries_of {P : Program} {w : World} : ∀ {kvs : List (Key × V)} {ws : List (Value × Value)}, VV (kvs.map fun kv => (kV kv.1, kv.2)) ws → ∃ rs, Carries (mixKind P w) ws rs ∧ KV kvs rs
 | [], _, r => by rw [List.map_nil] at r; cases r; exact ⟨[], True.intro, .nil⟩
 | p :: kvs, _, r => by
  rw [List.map_cons] at r
  cases r with
  | @cons a b as bs h t =>
   obtain ⟨rs, c, q⟩ := carries_of (P := P) (w := w) t
   obtain ⟨b1, b2⟩ := b
   exact ⟨(p.1, b2) :: rs, ⟨kV_is h.1, rfl, c⟩, .cons ⟨rfl, h.2⟩ q⟩
def tDisp (trs : List (TE × TE)) : TE := fun σ H Q => ∀ p, H p = none → tPairs trs σ (upd H p (.dK [])) fun ps H2 => H2 p = some (.dK []) ∧ ∃ kvs : List (Key × V), ps = kvs.map (fun kv => (kV kv.1, kv.2)) ∧ kvs.length ≤ 15 ∧ Q (.ref p) (upd H2 p (.dK (mergeK [] kvs)))
theorem pe_disp {X : Cx} {pos : Pos} {keys : List (Option Expr)} {values : List Expr} {trs : List (TE × TE)} (h : PPs X pos keys values trs) (hall : keys.all (·.isSome) = true) (hl : keys.length = values.length) (h0 : keys ≠ [])
  (h15 : keys.length ≤ 15) : PE X (.Dict keys values pos) (tDisp trs) := by
 intro pins s σ H Q I q
 have hn := I.hok.fresh (Nat.le_refl s.heap.objs.size)
 have I1 := I.laid (a := s.heap.objs.size) (o := .dK []) (h' := s.heap.push { cls := .type "dict", data := .dict #[] }) (t' := s.toks) (fun _ _ q => Heap.get?_push_of_some _ q) (Nat.le_refl _) (dk_empty s.heap I.big)
 refine wpAny_Dict_walk (knd := mixKind X.prog X.w) hall hl h0 h15 (thn (h pins _ σ _ _ I1 (q _ hn)) fun ws s2 ⟨ps, H2, I2, rel, e, kvs, ep, lk, q2⟩ => ?_)
 subst ep
 obtain ⟨rs, c, rk⟩ := carries_of (P := X.prog) (w := X.w) rel
 obtain ⟨z, hd, vs0, r0, dd⟩ := dk_of I2.hok e
 cases r0
 refine ⟨rs, c, dd, fun h' dd' hs => ⟨.ref s.heap.objs.size, _, ?_, rfl, q2⟩⟩
 have hz : (mergeK [] kvs).length ≤ sizeLine := by
  have h1 := length_mergeK kvs []
  rw [List.length_nil] at h1
  rw [sizeLine_eq]; omega
 have he : ∃ q, h'.get? s.heap.objs.size = some q := let ⟨q, _, _, hq, _⟩ := dd'; ⟨q, hq⟩
 exact d_write I2 (by rw [e]; exact True.intro) hs he (dk_new hz hd (rk.merge .nil) dd')
structure M1 (X : Cx) (o : Expr) (m : Str) (apos : Pos) (e : Expr) (cpos : Pos) : Prop where
 base : attributeBase o m X.env (eval o X.env) = eval o X.env
 few : ((backTo cpos (starEach [e] X.env)).all (fun x => !x.1) && (backToKw cpos (keywordEach [] X.env)).all (fun x => x.1.isSome)
  && decide (([e] : List Expr).length + ([] : List Keyword).length + (if ([] : List Keyword).isEmpty then 0 else 1) < 30)) = true
 line : (apos.endLine == cpos.line) = true
 trees : backTo cpos (starEach [e] X.env) = [(false, eval e X.env)]
structure M2 (X : Cx) (o : Expr) (m : Str) (apos : Pos) (e f : Expr) (cpos : Pos) : Prop where
 base : attributeBase o m X.env (eval o X.env) = eval o X.env
 few : ((backTo cpos (starEach [e, f] X.env)).all (fun x => !x.1) && (backToKw cpos (keywordEach [] X.env)).all (fun x => x.1.isSome)
  && decide (([e, f] : List Expr).length + ([] : List Keyword).length + (if ([] : List Keyword).isEmpty then 0 else 1) < 30)) = true
 line : (apos.endLine == cpos.line) = true
 trees : backTo cpos (starEach [e, f] X.env) = [(false, eval e X.env), (false, eval f X.env)]
def IsD (H : Hp) (a : Addr) : Prop := (∃ kvs, Rd H a (.dK kvs)) ∨ ∃ kvs, Rd H a (.dT kvs)
theorem isD_at {X : Cx} {pins : List (Addr × Obj)} {σ : St} {H : Hp} {s : Shared} {a : Addr} (I : Inv X pins σ H s) (d : IsD H a) :
  s.TypeIs (.ref a) "dict" ∧ (∀ b, Value.ref a = .ref b → ∃ ob, s.heap.get? b = some ob ∧ ob.dict = none) ∧ (a == sysModules) = false := by
 rcases d with ⟨kvs, e⟩ | ⟨kvs, e⟩
 ·obtain ⟨_, hd, vs, _, dd⟩ := dk_rd I.hok e
  refine ⟨dd.typeIs, fun b q => ?_, hd⟩
  cases q
  obtain ⟨ob, _, _, h1, h2, _⟩ := dd
  exact ⟨ob, h1, h2.2.1⟩
 ·obtain ⟨_, hd, xs, _, dd⟩ := dt_rd I.hok e
  refine ⟨dd.typeIs, fun b q => ?_, hd⟩
  cases q
  obtain ⟨ob, _, _, h1, h2, _⟩ := dd
  exact ⟨ob, h1, h2.2.1⟩
section
variable {X : Cx} {pins : List (Addr × Obj)} {σ : St} {H : Hp} {s : Shared} {a : Addr} {y d : V} {u r : Value} {o : Option V} {A : Around} {E : Value → Shared → Prop}
end
def tDPop2 (td ty tx : TE) : TE := fun σ H Q => td σ H fun x H1 => ∃ a, x = .ref a ∧ IsD H1 a ∧ ty σ H1 fun y H2 => tx σ H2 fun z H3 => ∃ kvs k, H3 a = some (.dK kvs) ∧ y = kV k ∧
 (∀ v, valV kvs k = some v → Q v (upd H3 a (.dK (dropK kvs k)))) ∧ (valV kvs k = none → Q z H3)
section
variable {X : Cx} {o e f : Expr} {apos cpos : Pos} {td ty tx : TE}
theorem pe_dpop2 (ho : PE X o td) (he : PE X e ty) (hf : PE X f tx) (m : M2 X o "pop" apos e f cpos) : PE X (.Call (.Attribute o "pop" apos) [e, f] [] cpos) (tDPop2 td ty tx) := by
 intro pins s σ H Q I h
 refine wpAny_Call_method m.base m.few m.line PySem.F.plainAttrs_dict PySem.F.slot_dict_pop PySem.F.type_dict_pop (thn (ho pins s σ H _ I h) fun u s1 ⟨x, H1, I1, rx, a, ex, d, q1⟩ => ?_)
 subst ex
 obtain rfl : u = Value.ref a := rx
 obtain ⟨t1, t2, _⟩ := isD_at I1 d
 refine ⟨t1, t2, ?_⟩
 rw [m.trees]
 refine Calls.callWith_builtin rfl (Calls.evalArgs_plain (Calls.spliced_cons (thn (he pins s1 σ H1 _ I1 q1) fun iv s2 ⟨y, H2, I2, ry, q2⟩ =>
  Calls.spliced_cons (thn (hf pins s2 σ H2 _ I2 q2) fun fv s3 ⟨z, H3, I3, rz, kvs, k, ea, ey, q3, q4⟩ => Calls.spliced_nil ?_))))
 subst ey
 cases l : valV kvs k with
 | some v => exact d_pop I3 ea ry l (.inr ⟨fv, rfl⟩) fun w' s4 I4 rw' => ⟨v, _, I4, rw', q3 v l⟩
 | none => exact d_popD I3 ea ry l fun s4 I4 => ⟨z, H3, I4, rz, q4 l⟩
end
section
variable {X : Cx} {pins : List (Addr × Obj)} {σ : St} {H : Hp} {s : Shared} {a : Addr} {kvs : List (Key × V)} {A : Around} {E : Value → Shared → Prop}
end
section
variable {X : Cx} {pins : List (Addr × Obj)} {σ : St} {H : Hp} {s : Shared} {a : Addr} {y : V} {u : Value} {A : Around} {E : Value → Shared → Prop}
end
end L2
namespace L2
open PySem PySem.Spec PyProof.Rows
section
variable {X : Cx}
end
section
variable {κ : Type} [DecidableEq κ]
end
end L2
namespace L2
open PySem PySem.Spec PyProof.Rows
def tVarD (i : Nat) : TE := fun σ H Q => match σ[i]? with | some (some v) => Q v H | _ => False
theorem pvD {X : Cx} (i : Nat) {x : Str} {pos : Pos} (hN : X.N[i]? = some x) (hv : Vis X.env.scope x) (hd : (x == ("__debug__" : Str)) = false) (hcd : (x == ("__classdict__" : Str)) = false) : PE X (.Name x pos) (tVarD i) := fun pins s σ H Q I h => pv i hN hv hd hcd pins s σ H Q I (by
 unfold tVarD at h
 split at h
 ·exact ⟨_, ‹_›, h⟩
 ·exact h.elim)
theorem pl {X : Cx} (i : Nat) {x : Str} {pos : Pos} (hN : X.N[i]? = some x) (hv : X.env.scope.names.lookup x = some .local) (hd : (x == ("__debug__" : Str) || x == ("__classdict__" : Str)) = false) : PE X (.Name x pos) (tVarD i) := pvD i hN (.inl hv) (Bool.or_eq_false_iff.mp hd).1 (Bool.or_eq_false_iff.mp hd).2
theorem cons_same {α : Type} {a : α} {x y : List α} : (a :: x = a :: y) = (x = y) := propext ⟨fun h => (List.cons.inj h).2, fun h => by rw [h]⟩
theorem l1_same {α : Type} {a b : α} : ([a] = [b]) = (a = b) := propext ⟨fun h => (List.cons.inj h).1, fun h => by rw [h]⟩
theorem l2_same {α : Type} {a b c d : α} : ([a, c] = [b, d]) = (a = b ∧ c = d) := propext ⟨fun h => ⟨(List.cons.inj h).1, (List.cons.inj (List.cons.inj h).2).1⟩, fun ⟨h, k⟩ => by rw [h, k]⟩
theorem l3_same {α : Type} {a b c d e f : α} : ([a, c, e] = [b, d, f]) = (a = b ∧ c = d ∧ e = f) := propext ⟨fun h => ⟨(List.cons.inj h).1, (List.cons.inj (List.cons.inj h).2).1, (List.cons.inj (List.cons.inj (List.cons.inj h).2).2).1⟩, fun ⟨h, k, l⟩ => by rw [h, k, l]⟩
theorem int_ex {a : Int} {p : Int → Prop} : (∃ x, V.int a = V.int x ∧ p x) = p a := propext ⟨fun ⟨x, e, h⟩ => by cases e; exact h, fun h => ⟨a, rfl, h⟩⟩
theorem ref_ex {a : Addr} {p : Addr → Prop} : (∃ x, V.ref a = V.ref x ∧ p x) = p a := propext ⟨fun ⟨x, e, h⟩ => by cases e; exact h, fun h => ⟨a, rfl, h⟩⟩
theorem bl_ex {a : Bool} {p : Bool → Prop} : (∃ x, V.bl a = V.bl x ∧ p x) = p a := propext ⟨fun ⟨x, e, h⟩ => by cases e; exact h, fun h => ⟨a, rfl, h⟩⟩
theorem int_ex2 {a b : Int} {p : Int → Int → Prop} : (∃ x y, V.int a = V.int x ∧ V.int b = V.int y ∧ p x y) = p a b := propext ⟨fun ⟨x, y, e, e2, h⟩ => by cases e; cases e2; exact h, fun h => ⟨a, b, rfl, rfl, h⟩⟩
theorem ifY {c : Prop} [Decidable c] {A B : Prop} (hc : c) (h : A) : if c then A else B := by rw [if_pos hc]; exact h
theorem ifN {c : Prop} [Decidable c] {A B : Prop} (hc : ¬ c) (h : B) : if c then A else B := by rw [if_neg hc]; exact h
theorem us0 {α : Type} {P : List α → Prop} {us : List α} (hl : us.length = 0) (h : P []) : P us := by
 rw [List.length_eq_zero_iff.mp hl]
 exact h
theorem usS {α : Type} {P : List α → Prop} {us : List α} {n : Nat} (hl : us.length = n + 1) (h : ∀ a us, us.length = n → P (a :: us)) : P us := by
 cases us with
 | nil => exact absurd hl.symm (Nat.succ_ne_zero n)
 | cons a l => exact h a l (Nat.succ.inj hl)
theorem us1 {α : Type} {P : List α → Prop} {us : List α} (hl : us.length = 1) (h : ∀ a, P [a]) : P us := usS hl fun a us hl => us0 (P := fun us => P (a :: us)) hl (h a)
theorem us2 {α : Type} {P : List α → Prop} {us : List α} (hl : us.length = 2) (h : ∀ a b, P [a, b]) : P us := usS hl fun a us hl => us1 (P := fun us => P (a :: us)) hl (h a)
def rI0D (g : Int → Int → V) : R2 := fun x y H Q => match x, y with | .int i, .int j => Q (g i j) H | _, _ => False
def rID (C : Int → Int → Prop) (g : Int → Int → V) : R2 := fun x y H Q => match x, y with | .int i, .int j => C i j ∧ Q (g i j) H | _, _ => False
def rUD (g : Int → V) : V → Hp → VK → Prop := fun x H Q => match x with | .int i => Q (g i) H | _ => False
def tBD (t : TE) : TT := fun σ H Q => t σ H fun x H1 => match x with | .bl c => Q c H1 | _ => False
def tPartD (t : TE) : TO := fun σ H Q => t σ H fun x H1 => match x with | .int i => Q (some i) H1 | _ => False
theorem rI0D_eq : @rI0D = @rI0 := by
 funext g x y H Q
 refine propext ⟨fun h => ?_, fun ⟨i, j, e, f, h⟩ => by subst e; subst f; exact h⟩
 unfold rI0D at h
 split at h
 ·exact ⟨_, _, rfl, rfl, h⟩
 ·exact h.elim
theorem rID_eq : @rID = @rI := by
 funext C g x y H Q
 refine propext ⟨fun h => ?_, fun ⟨i, j, e, f, h⟩ => by subst e; subst f; exact h⟩
 unfold rID at h
 split at h
 ·exact ⟨_, _, rfl, rfl, h⟩
 ·exact h.elim
theorem rUD_eq : @rUD = @rU := by
 funext g x H Q
 refine propext ⟨fun h => ?_, fun ⟨i, e, h⟩ => by subst e; exact h⟩
 unfold rUD at h
 split at h
 ·exact ⟨_, rfl, h⟩
 ·exact h.elim
theorem blD {x : V} {Q : Bool → Prop} : (match x with | .bl c => Q c | _ => False) = ∃ c, x = .bl c ∧ Q c := by
 refine propext ⟨fun h => ?_, fun ⟨i, e, h⟩ => by subst e; exact h⟩
 split at h
 ·exact ⟨_, rfl, h⟩
 ·exact h.elim
theorem tBD_eq : @tBD = @tB := by
 funext t σ H Q
 exact congrArg (t σ H) (funext fun x => funext fun H1 => blD)
theorem tPartD_eq : @tPartD = @tPart := by
 funext t σ H Q
 refine congrArg (t σ H) (funext fun x => funext fun H1 => propext ⟨fun h => ?_, fun ⟨i, e, h⟩ => by subst e; exact h⟩)
 split at h
 ·exact ⟨_, rfl, h⟩
 ·exact h.elim
variable {X : Cx}
theorem op_addD : OpR X (binaryOp .Add) (rI0D fun i j => .int (i + j)) := rI0D_eq ▸ op_add
theorem op_ltD : OpR X (compareOp .Lt) (rI0D fun i j => .bl (decide (i < j))) := rI0D_eq ▸ op_lt
theorem op_leD : OpR X (compareOp .LtE) (rI0D fun i j => .bl (decide (i ≤ j))) := rI0D_eq ▸ op_le
theorem op_gtD : OpR X (compareOp .Gt) (rI0D fun i j => .bl (decide (j < i))) := rI0D_eq ▸ op_gt
theorem op_geD : OpR X (compareOp .GtE) (rI0D fun i j => .bl (decide (j ≤ i))) := rI0D_eq ▸ op_ge
theorem op_mulD : OpR X (binaryOp .Mult) (rID CMul fun i j => .int (i * j)) := rID_eq ▸ op_mul
theorem op_fdivD : OpR X (binaryOp .FloorDiv) (rID CDiv fun i j => .int (i / j)) := rID_eq ▸ op_fdiv
theorem op_modD : OpR X (binaryOp .Mod) (rID (fun _ j => 0 < j) fun i j => .int (i % j)) := rID_eq ▸ op_mod
theorem op_powD : OpR X (binaryOp .Pow) (rID CPow fun i j => .int (i ^ j.toNat)) := rID_eq ▸ op_pow
theorem un_negD : UnR X (unaryOp .USub) (rUD fun i => .int (-i)) := rUD_eq ▸ un_neg
theorem pt_valD {e : Expr} {t : TE} (h : PE X e t) (he : ∀ whole, isTrue e X.env whole = (do let v ← whole; standAt e.pos; holding [v] (truthy v))) : PT X e (tBD t) := tBD_eq ▸ pt_val h he
theorem pt_cmpD {a b : Expr} {pos : Pos} {op : CmpOp} {t : TE} (h : PC X op a b t) (h1 : behindInMarks op b = false) : PT X (.Compare a [op] [b] pos) (tBD t) := tBD_eq ▸ pt_cmp h h1
theorem pt_cmpRD {a b : Expr} {ta tb : TE} {pos : Pos} {op : CmpOp} {r : R2} (ho : OpR X (compareOp op) r) (ha : PE X a ta) (hb : PE X b tb) (hm : behindInMarks op b = false) : PT X (.Compare a [op] [b] pos) (tBD (tOp r ta tb)) := tBD_eq ▸ pt_cmpR ho ha hb hm
theorem po_someD {e : Expr} {te : TE} (h : PE X e te) : PO X (some e) (tPartD te) := tPartD_eq ▸ po_some h
def rLenD (K : PySem.W.Frag) : List V → Hp → VK → Prop := fun xs H Q => match xs with | [.ref p] => ∃ ys, (SqL K H p ys ∨ SqT K H p ys) ∧ Q (.int ys.length) H | _ => False
def rTupD (K : PySem.W.Frag) : List V → Hp → VK → Prop := fun xs H Q => match xs with | [.ref p] => ∃ ys, (SqL K H p ys ∧ ∀ l, H l = none → Q (.ref l) (upd H l (.tup ys))) ∨ (SqT K H p ys ∧ Q (.ref p) H) | _ => False
def rIntD : List V → Hp → VK → Prop := fun xs H Q => match xs with | [.int i] => Q (.int i) H | [.bl k] => Q (.int (if k then 1 else 0)) H | _ => False
theorem call_len_seqD : CallR X (.builtin "len") (rLenD X.K) := by
 refine Eq.mp (congrArg _ ?_) call_len_seq
 funext xs H Q
 refine propext ⟨fun ⟨p, ys, e, h⟩ => by subst e; exact ⟨ys, h⟩, fun h => ?_⟩
 unfold rLenD at h
 split at h
 ·exact h.elim fun ys h => ⟨_, ys, rfl, h⟩
 ·exact h.elim
theorem call_tuple_ofD : CallR X (.type "tuple") (rTupD X.K) := by
 refine Eq.mp (congrArg _ ?_) call_tuple_of
 funext xs H Q
 refine propext ⟨fun ⟨p, ys, e, h⟩ => by subst e; exact ⟨ys, h⟩, fun h => ?_⟩
 unfold rTupD at h
 split at h
 ·exact h.elim fun ys h => ⟨_, ys, rfl, h⟩
 ·exact h.elim
end L2
namespace L2
open PySem PySem.Spec PyProof.Rows
theorem lookup_mem {α : Type} {x : Str} {c : α} : ∀ {l : List (Str × α)}, l.lookup x = some c → (x, c) ∈ l
 | [], h => by cases h
 | (y, d) :: r, h => by
  rw [List.lookup_cons] at h
  cases e : x == y with
  | true =>
   rw [e] at h
   have e' : x = y := eq_of_beq e
   cases h
   subst e'
   exact List.mem_cons_self
  | false =>
   rw [e] at h
   exact List.mem_cons_of_mem _ (lookup_mem h)
noncomputable def frOf (ix : List Nat) (σ : St) : St := ix.map fun j => (σ[j]?).getD none
def SubP (cs : List (Str × Addr)) : List (Str × Addr) → Prop
 | [] => True
 | p :: r => cs.lookup p.1 = some p.2 ∧ SubP cs r
theorem SubP.of {cs : List (Str × Addr)} : ∀ {cl : List (Str × Addr)}, SubP cs cl → ∀ p ∈ cl, cs.lookup p.1 = some p.2
 | [], _, _, h => by cases h
 | p :: r, ⟨h1, h2⟩, q, hq => by
  rcases List.mem_cons.mp hq with e | e
  ·rw [e]; exact h1
  ·exact SubP.of h2 q e
def OutP (X : Cx) (scope : Scope) : List Str → List Nat → Prop
 | [], [] => True
 | x :: fr, j :: ix => (X.N[j]? = some x ∧ X.env.kindOf x = some .cell ∧ (relabel scope X.env).names.lookup x = some .cell) ∧ OutP X scope fr ix
 | _, _ => False
theorem OutP.len {X : Cx} {scope : Scope} : ∀ {fr : List Str} {ix : List Nat}, OutP X scope fr ix → fr.length = ix.length
 | [], [], _ => rfl
 | x :: fr, j :: ix, h => by rw [List.length_cons, List.length_cons, OutP.len h.2]
 | [], _ :: _, h => h.elim
 | _ :: _, [], h => h.elim
theorem OutP.get {X : Cx} {scope : Scope} : ∀ {fr : List Str} {ix : List Nat}, OutP X scope fr ix → ∀ (k j : Nat), ix[k]? = some j → ∃ x, fr[k]? = some x ∧ X.N[j]? = some x ∧ X.env.kindOf x = some .cell ∧ (relabel scope X.env).names.lookup x = some .cell
 | [], [], _, k, j, e => by simp at e
 | x :: fr, i :: ix, h, 0, j, e => by
  have e' : i = j := by simpa using e
  subst e'
  exact ⟨x, rfl, h.1⟩
 | x :: fr, i :: ix, h, k + 1, j, e => by
  obtain ⟨y, hy, r⟩ := OutP.get h.2 k j (by simpa using e)
  exact ⟨y, by simpa using hy, r⟩
 | [], _ :: _, h, _, _, _ => h.elim
 | _ :: _, [], h, _, _, _ => h.elim
structure ClOk (X : Cx) (scope : Scope) (own fr : List Str) (ix : List Nat) (cl : List (Str × Addr)) : Prop where
 clos : closureFor scope X.env = pure cl
 kind : scope.kind = .function
 nocell : (scope.names.all fun y => decide (y.2 ≠ .cell)) = true
 names : (scope.names.all fun y => decide (y.2 ≠ .local) || decide (scope.names.lookup y.1 = some .local)) = true
 sub : SubP X.env.cells cl
 has : ((relabel scope X.env).names.all fun y => !(decide (y.2 = .cell) || decide (y.2 = .free)) || (cl.lookup y.1).isSome) = true
 out' : OutP X scope fr ix
section
variable {X : Cx} {scope : Scope} {own fr : List Str} {ix : List Nat} {cl : List (Str × Addr)}
theorem ClOk.len (C : ClOk X scope own fr ix cl) : fr.length = ix.length := C.out'.len
theorem ClOk.out (C : ClOk X scope own fr ix cl) : ∀ (k j : Nat), ix[k]? = some j → ∃ x, fr[k]? = some x ∧ X.N[j]? = some x ∧ Vis X.env.scope x ∧ X.env.kindOf x ≠ some .local ∧ (relabel scope X.env).names.lookup x ≠ some .local := fun k j e => by
 obtain ⟨x, h1, h2, h3, h4⟩ := C.out'.get k j e
 exact ⟨x, h1, h2, .inr (.inl h3), (by rw [h3]; intro z; cases z), (by rw [h4]; intro z; cases z)⟩
theorem ClOk.nocell' (C : ClOk X scope own fr ix cl) : ∀ x ∈ scope.names, x.2 ≠ .cell := fun x hx => of_decide_eq_true (List.all_eq_true.mp C.nocell x hx)
theorem ClOk.names' (C : ClOk X scope own fr ix cl) : ∀ x ∈ scope.names, x.2 = .local → scope.names.lookup x.1 = some .local := fun x hx e => by
 have h := List.all_eq_true.mp C.names x hx
 rw [Bool.or_eq_true] at h
 rcases h with h | h
 ·exact absurd e (of_decide_eq_true h)
 ·exact of_decide_eq_true h
theorem ClOk.sub' (C : ClOk X scope own fr ix cl) : ∀ x c, cl.lookup x = some c → X.env.cells.lookup x = some c := fun x c h => C.sub.of _ (lookup_mem h)
theorem ClOk.has' (C : ClOk X scope own fr ix cl) : ∀ x, ((relabel scope X.env).names.lookup x = some .cell ∨ (relabel scope X.env).names.lookup x = some .free) → ∃ c, cl.lookup x = some c := fun x hx => by
 have key : ∀ k, (relabel scope X.env).names.lookup x = some k → (k = .cell ∨ k = .free) → ∃ c, cl.lookup x = some c := fun k e hk => by
  have h := List.all_eq_true.mp C.has (x, k) (lookup_mem e)
  rw [Bool.or_eq_true] at h
  rcases h with h | h
  ·rcases hk with rfl | rfl
   ·simp at h
   ·simp at h
  ·exact Option.isSome_iff_exists.mp h
 rcases hx with h | h
 ·exact key _ h (.inl rfl)
 ·exact key _ h (.inr rfl)
end
noncomputable def cxC (X : Cx) (scope : Scope) (cl : List (Str × Addr)) (ns : List Str) (fp : List Addr) (s : Shared) (H : Hp) : Cx where
 prog := X.prog
 w := X.w
 K := X.K
 mg := X.mg
 base := X.base
 A := X.A
 N := ns
 s₀ := s
 H₀ := H
 env := compEnvC scope cl s.heap.objs.size X.env
 outer := X.stack
 stack := X.stack
 ex := fp
 fn := fun _ => false
 calm := X.calm
 pn := []
 xe := fun _ _ => False
section
variable {X : Cx} {scope : Scope} {own fr : List Str} {ix : List Nat} {cl : List (Str × Addr)} {pins : List (Addr × Obj)} {σ : St} {H : Hp} {s : Shared} {fp : List Addr}
theorem cxC_ok (C : ClOk X scope own fr ix cl) (I : Inv X pins σ H s) (f : ∀ b ∈ fp, FpOk X pins H b) (lt : ∀ b ∈ fp, b < s.heap.objs.size) : (cxC X scope cl (own ++ fr) fp s H).Ok where
 mod := I.ok.mod
 kind := C.kind
 glob := I.ok.glob
 blt := I.ok.blt
 above := Nat.le_refl _
 inj := fun x y c h1 h2 => I.ok.inj x y c (C.sub' x c h1) (C.sub' y c h2)
 has := fun x hx => C.has' x hx
 cab := fun x c h _ => Bool.noConfusion h
 hd := I.ok.hd
 frames := I.ok.frames
 stk := .inl rfl
 exf := fun b hb => ⟨Nat.ne_of_lt (lt b hb), fun x c e => (f b hb).2.2.2.2.1 x c (C.sub' x c e)⟩
 bs := fun b o e => I.bs b o e
 bsz := Nat.le_trans I.ok.bsz I.sz
 noex := fun b o e hb => by
  rcases (f b hb).2.2.2.1 with z | z
  ·exact I.ok.noex b o e z
  ·exact absurd (Nat.lt_of_lt_of_le (Heap.lt_size e) (Nat.le_trans I.ok.bsz z)) (Nat.lt_irrefl _)
 exfs := fun b hb z => by
  rcases List.mem_cons.mp (I.stkSub b z) with q | q
  ·exact (f b hb).2.1 q
  ·exact (f b hb).2.2.1 q
 funs := I.stack
 frf := I.stkFree
theorem inv_comp (C : ClOk X scope own fr ix cl) (I : Inv X pins σ H s) (f : ∀ b ∈ fp, FpOk X pins H b) (lt : ∀ b ∈ fp, b < s.heap.objs.size) {h₁ : Heap} {t : Nat} {m : Str → Option Value}
  (hns : h₁.Ns s.heap.objs.size m) (k : ∀ b o, s.heap.get? b = some o → h₁.get? b = some o) :
  Inv (cxC X scope cl (own ++ fr) fp s H) [] (List.replicate own.length none ++ frOf ix σ) H { s with heap := h₁, toks := t } where
 ok := cxC_ok C I f lt
 os := rfl
 bare := I.bare
 base := Un.kept k
 loc := ⟨m, hns, fun i x v e1 e2 e3 => by
  have e1 : (own ++ fr)[i]? = some x := e1
  by_cases hi : i < own.length
  ·rw [List.getElem?_append_left (by simpa using hi), List.getElem?_replicate] at e2
   rw [if_pos hi] at e2
   cases e2
  ·have hi' : own.length ≤ i := Nat.le_of_not_lt hi
   rw [List.getElem?_append_right (by simpa using hi')] at e2
   rw [List.getElem?_append_right hi'] at e1
   rw [List.length_replicate] at e2
   unfold frOf at e2
   rw [List.getElem?_map] at e2
   cases q : ix[i - own.length]? with
   | none => rw [q] at e2; cases e2
   | some j =>
    rw [q] at e2
    have e2' : (σ[j]?).getD none = some v := Option.some.inj e2
    obtain ⟨x', hx', hN, hv, hk, hl'⟩ := C.out _ j q
    rw [e1] at hx'
    cases hx'
    have e4 : σ[j]? = some (some v) := by
     cases z : σ[j]? with
     | none => rw [z] at e2'; cases e2'
     | some w => rw [z] at e2'; exact congrArg some e2'
    obtain ⟨mX, hnX, hl⟩ := I.loc
    obtain ⟨u, r, l⟩ := hl j x v hN e4 hv
    rcases l with ⟨kl, _⟩ | ⟨kk, c, ec, z⟩
    ·exact absurd kl hk
    ·have kY : (relabel scope X.env).names.lookup x = some .cell ∨ (relabel scope X.env).names.lookup x = some .free := by
      rcases e3 with e3 | e3 | e3
      ·exact absurd e3 hl'
      ·exact .inl e3
      ·exact .inr e3
     obtain ⟨c', hc'⟩ := C.has' x kY
     have hcc := C.sub' x c' hc'
     rw [ec] at hcc
     cases hcc
     obtain ⟨o, ho, hd⟩ := z
     exact ⟨u, r, .inr ⟨kY, c, hc', ⟨o, k c o ho, hd⟩⟩⟩⟩
 cell := fun x c e => by
  obtain ⟨v, o, ho, hd⟩ := I.cell x c (C.sub' x c e)
  exact ⟨v, o, k c o ho, hd⟩
 free := I.hok.fresh (Nat.le_refl _)
 freeC := fun x c e => I.freeC x c (C.sub' x c e)
 pin := fun p hp => by cases hp
 hok := I.hok.kept k
 len := by
  show (List.replicate own.length none ++ frOf ix σ).length = (own ++ fr).length
  rw [List.length_append, List.length_append, List.length_replicate, C.len]
  unfold frOf
  rw [List.length_map]
theorem inv_back (I : Inv X pins σ H s) (f : ∀ b ∈ fp, FpOk X pins H b) {ns : List Str} {τ : St} {H' : Hp} {s' : Shared} {pins' : List (Addr × Obj)} (J : Inv (cxC X scope cl ns fp s H) pins' τ H' s') : Inv X pins σ H' s' :=
 I.call' (ch := fp) J.os J.base J.hok J.bare fun b hb => ⟨(f b hb).2.2.2.1, (f b hb).2.1, (f b hb).2.2.2.2.1, (f b hb).2.2.2.2.2⟩
theorem inv_gone {σ' : St} (I : Inv X pins σ H s) {H' : Hp} {s' : Shared} {h' : Heap} (J : Inv X pins σ' H' s') (free : H' s.heap.objs.size = none) (sb : Heap.SameBut s.heap.objs.size s'.heap h') : Inv X pins σ' H' { s' with heap := h' } :=
 J.turned (it := s.heap.objs.size) (t' := s'.toks) (fun b o hb e => (sb.2 b hb).trans e) free (Nat.ne_of_gt I.lt) (.inr I.sz)
  (fun x c e z => by
   obtain ⟨v, q⟩ := I.cell x c e
   exact absurd (z ▸ q.lt) (Nat.lt_irrefl _))
  (fun p hp z => absurd (z ▸ Heap.lt_size (I.pin p hp).1) (Nat.lt_irrefl _))
end
section
variable {prog : Program} {w : World} {A : Around} {R : Result → Shared → Prop} {s : Shared}
theorem compLoop_any {elt target iter : Expr} {ifs : List Expr} {scope : Scope} {pos : Pos} {it acc : Value} {env : Env} (I : Nat → Shared → Prop)
  (turn : ∀ n s, I n s → wpAny (model prog w) A (pyNext it) (fun r s₁ => match r with
   | none => R (.ok .next) s₁
   | some v => wpAny (model prog w) A (letOwnedTupleGo target it v) (fun _ s₁' => wpAny (model prog w) A (assign target env v) (fun _ s₂ =>
     wpAny (model prog w) A (forIn ifs true fun c r => if r = true then do let ok ← isTrue c env (eval c env); pure (ForInStep.yield ok) else pure (ForInStep.yield r)) (fun ok s₃ =>
      if ok = true then wpAny (model prog w) A (eval elt env) (fun x s₄ =>
       wpAny (model prog w) A (call (.builtin "list.append") [acc, x]) (fun _ s₅ => ∃ m, m < n ∧ I m s₅) (notedBy (model prog w) A env fun e s' => R (.error e) s') s₄) (notedBy (model prog w) A env fun e s' => R (.error e) s') s₃
      else ∃ m, m < n ∧ I m s₃) (notedBy (model prog w) A env fun e s' => R (.error e) s') s₂) (notedBy (model prog w) A env fun e s' => R (.error e) s') s₁') (notedBy (model prog w) A env fun e s' => R (.error e) s') s₁)
    (notedBy (model prog w) A env fun e s' => R (.error e) s') s)
  (n : Nat) (h : I n s) :
  codeAny (model prog w) A (.compLoop (.ListComp elt [⟨target, iter, ifs, 0⟩] scope pos) 0 it acc env) R s := by
 refine codeAny_loop rfl I (fun n s hI => ?_) n h
 show wpAny _ A ((compTurn (.ListComp elt [⟨target, iter, ifs, 0⟩] scope pos) 0 it acc env).onRaise (fun x => do noteFrame x env; theTreesLotGoes x)) _ _ s
 refine wpAny_noted ?_
 rw [compTurn_list]
 refine wpAny_bind (wpAny_standAt (wpAny_bind (wpAny_mono (turn n s hI) (fun r s₁ h₁ => ?_) fun _ _ h' => h')))
 cases r with
 | none => exact wpAny_pure h₁
 | some v =>
  refine wpAny_bind (wpAny_mono h₁ (fun _ s₁' h₁' => ?_) fun _ _ h' => h')
  refine wpAny_bind (wpAny_mono h₁' (fun _ s₂ h₂ => wpAny_bind (wpAny_mono h₂ (fun ok s₃ h₃ => ?_) fun _ _ h' => h')) fun _ _ h' => h')
  cases ok with
  | false => exact wpAny_pure ⟨rfl, h₃⟩
  | true =>
   exact wpAny_bind (wpAny_bind (wpAny_mono h₃ (fun x s₄ h₄ => wpAny_bind (wpAny_mono h₄ (fun _ s₅ h₅ => wpAny_pure (wpAny_pure ⟨rfl, h₅⟩)) fun _ _ h' => h')) fun _ _ h' => h'))
end
def PIfs (X : Cx) (ifs : List Expr) (t : TT) : Prop :=
 ∀ (pins : List (Addr × Obj)) (s : Shared) (σ : St) (H : Hp) (Q : Bool → Hp → Prop), Inv X pins σ H s → t σ H Q →
  wpAny (model X.prog X.w) X.A (forIn ifs true fun c r => if r = true then do let ok ← isTrue c X.env (eval c X.env); pure (ForInStep.yield ok) else pure (ForInStep.yield r)) (TP X pins σ Q) X.xe s
def tNoIf : TT := fun _ H Q => Q true H
theorem pif0 {X : Cx} : PIfs X [] tNoIf := fun pins s σ H Q I h => wpAny_tests_nil ⟨H, I, h⟩
theorem pif1 {X : Cx} {c : Expr} {t : TT} (h : PT X c t) : PIfs X [c] t := fun pins s σ H Q I q => wpAny_tests_one (h pins s σ H Q I q)
def LC (n : Nat) (fr : St) (g : TG) (tc : TT) (te : TE) (J : It) (D : Addr) (H1 : Hp) (Q : Hp → Prop) : Prop :=
 ∃ W : Nat → Nat → Hp → Prop, (∃ m, W 0 m (upd H1 D (.lst []))) ∧ ∀ i m H, W i m H →
  (J.stop i H ∧ Q H) ∨ (J.go i H ∧ ∀ (τ : St) x H', τ.length = n → J.yld i H x H' → g x (τ ++ fr) H' fun σ2 H2 => (∃ τ' : St, τ'.length = n ∧ σ2 = τ' ++ fr) ∧ tc σ2 H2 fun b H3 =>
   if b = true then te σ2 H3 fun y H4 => ∃ ys, H4 D = some (.lst ys) ∧ ys.length < sizeLine ∧ ∃ m', m' < m ∧ W (i + 1) m' (upd H4 D (.lst (ys ++ [y]))) else ∃ m', m' < m ∧ W (i + 1) m' H3)
def tLC (n : Nat) (ix : List Nat) (wi : TI) (g : TG) (tc : TT) (te : TE) : TE := fun σ H Q => wi σ H fun J H1 => ∀ D, H1 D = none → LC n (frOf ix σ) g tc te J D H1 fun H' => Q (.ref D) H'
section
variable {X : Cx} {scope : Scope} {own fr : List Str} {ix : List Nat} {cl : List (Str × Addr)} {elt iter tg : Expr} {ifs : List Expr} {pos : Pos} {wi : TI} {g : TG} {tc : TT} {te : TE}
theorem comp_block {E : Value → Shared → Prop} {RR : Value → Addr → Result → Shared → Prop} (C : ClOk X scope own fr ix cl) (hc : X.calm = true)
  (hg : ∀ fp s H, PG (cxC X scope cl (own ++ fr) fp s H) tg g) (ht : ∀ fp s H, PIfs (cxC X scope cl (own ++ fr) fp s H) ifs tc) (he : ∀ fp s H, PE (cxC X scope cl (own ++ fr) fp s H) elt te)
  {pins : List (Addr × Obj)} {σ : St} {H2 : Hp} {s2 : Shared} {it : Addr} {fp : List Addr} {tn : Nat → Heap → Prop} {J : It} {Q : Hp → Prop} (I2 : Inv X pins σ H2 s2) (T : Turn X.prog X.w X.K tg J fp it tn) (st2 : tn 0 s2.heap) (f2 : ∀ b ∈ fp, FpOk X pins H2 b)
  (q : LC own.length (frOf ix σ) g tc te J s2.heap.objs.size H2 Q)
  (hRR : ∀ (s3 s' : Shared) (H3 H' : Hp) (τ : St), Inv X pins σ H3 s3 → Inv X pins σ H' s' → H' s3.heap.objs.size = none → (∃ m, s'.heap.Ns s3.heap.objs.size m) → Q H' → RR (.ref s2.heap.objs.size) s3.heap.objs.size (.ok .next) s') :
  wpAny (model X.prog X.w) X.A (newList []) (fun acc s₃ => wpAny (model X.prog X.w) X.A (newFunctionEnv scope X.env.globals cl [] X.env.qual none .none (some X.env)) (fun cenv s₄ =>
   codeAny (model X.prog X.w) X.A (.compStart (.ListComp elt [⟨tg, iter, ifs, 0⟩] scope pos) 0 (.ref it) acc { cenv with scope := relabel scope X.env }) (RR acc cenv.locals) s₄) E s₃) E s2 := by
 refine wpAny_newObj_type ?_
 have I3 : Inv X pins σ (upd H2 s2.heap.objs.size (.lst [])) { s2 with heap := s2.heap.push { cls := .type "list", dict := none, data := .seq ([] : List Value).toArray } } := I2.lnew (t' := s2.toks) (its := []) .nil (Nat.zero_le _)
 have lt2 : ∀ b ∈ fp, b < s2.heap.objs.size := fun b hb => by
  obtain ⟨o, e, _⟩ := T.obj 0 _ st2 b hb
  exact Heap.lt_size e
 have fneD : ∀ b ∈ fp, b ≠ s2.heap.objs.size := fun b hb => Nat.ne_of_lt (lt2 b hb)
 generalize hs3 : ({ s2 with heap := s2.heap.push { cls := .type "list", dict := none, data := .seq ([] : List Value).toArray } } : Shared) = s3 at I3 ⊢
 have hsz : s3.heap.objs.size = s2.heap.objs.size + 1 := by rw [← hs3]; exact Heap.size_push ..
 have kp23 : ∀ b o, s2.heap.get? b = some o → s3.heap.get? b = some o := fun b o e => by rw [← hs3]; exact Heap.get?_push_of_some _ e
 have f3 : ∀ b ∈ fp, FpOk X pins (upd H2 s2.heap.objs.size (.lst [])) b := fun b hb => by
  obtain ⟨f0, fr⟩ := f2 b hb
  exact ⟨by rw [upd_ne (fneD b hb)]; exact f0, fr⟩
 have lt3 : ∀ b ∈ fp, b < s3.heap.objs.size := fun b hb => by rw [hsz]; exact Nat.lt_succ_of_lt (lt2 b hb)
 refine wpAny_newFunctionEnv C.nocell' (by intro y hy; simp at hy) (fun h₁ hns₁ hsb₁ => ?_) C.kind
 have k34 : ∀ b o, s3.heap.get? b = some o → h₁.get? b = some o := fun b o e =>
  (hsb₁.2 b (Nat.ne_of_lt (Heap.lt_size e))).trans (Heap.get?_push_of_some _ e)
 have I4 := inv_comp C I3 f3 lt3 (t := s3.toks + ([] : List (Str × Value)).length) hns₁ k34
 have st4 : tn 0 h₁ := T.keep 0 _ _ st2 fun b _ o e => k34 b o (kp23 b o e)
 obtain ⟨W, ⟨m0, w0⟩, turn⟩ := q
 have loop : ∀ s4 : Shared, s4 = { s3 with heap := h₁, toks := s3.toks + ([] : List (Str × Value)).length } →
   codeAny (model X.prog X.w) X.A (.compLoop (.ListComp elt [⟨tg, iter, ifs, 0⟩] scope pos) 0 (.ref it) (.ref s2.heap.objs.size) (compEnvC scope cl s3.heap.objs.size X.env)) (RR (.ref s2.heap.objs.size) s3.heap.objs.size) s4 := by
  rintro s4 rfl
  have stat : ∀ {H' : Hp}, (∀ b ∈ fp, H' b = none) → ∀ b ∈ fp, FpOk (cxC X scope cl (own ++ fr) fp s3 (upd H2 s2.heap.objs.size (.lst []))) [] H' b := fun {H'} hn b hb =>
   ⟨hn b hb, Nat.ne_of_lt (lt3 b hb), I4.ok.exfs b hb, .inl hb, (I4.ok.exf b hb).2, fun p hp => by cases hp⟩
  refine compLoop_any (fun n s' => ∃ i τ H', τ.length = own.length ∧ Inv (cxC X scope cl (own ++ fr) fp s3 (upd H2 s2.heap.objs.size (.lst []))) [] (τ ++ frOf ix σ) H' s' ∧ tn i s'.heap ∧ (∀ b ∈ fp, H' b = none) ∧ W i n H') ?_ m0
   ⟨0, List.replicate own.length none, _, List.length_replicate, I4, st4, fun b hb => (f3 b hb).1, w0⟩
  rintro n s5 ⟨i, τ, H5, hτ, I5, st5, fr5, w5⟩
  rcases turn i n H5 w5 with ⟨stop, qn⟩ | ⟨go, step⟩
  ·refine wpAny_mono (T.done (cxC X scope cl (own ++ fr) fp s3 (upd H2 s2.heap.objs.size (.lst []))) rfl rfl rfl hc i [] s5 _ H5 (fun _ _ => False) I5 (stat fr5) st5 stop) (fun r s6 ⟨hr, I6⟩ => ?_) fun _ _ z => z.elim
   subst hr
   obtain ⟨mm, hmm, _⟩ := I6.loc
   exact hRR s3 s6 _ H5 τ I3 (inv_back I3 f3 I6) I6.free ⟨mm, hmm⟩ qn
  ·refine wpAny_mono (T.item (cxC X scope cl (own ++ fr) fp s3 (upd H2 s2.heap.objs.size (.lst []))) rfl rfl rfl hc i [] s5 _ H5 (fun _ _ => False) I5 (stat fr5) st5 go) (fun r s6 ⟨u, hr, h6⟩ => ?_) fun _ _ z => z.elim
   subst hr
   refine wpAny_mono h6 (fun _ s7 ⟨x, H7, I7, r7, y7, st7, fr7⟩ => ?_) fun _ _ z => z.elim
   have I7' := I7.pinned (stat fr7) (T.obj _ _ st7)
   refine wpAny_mono (hg fp s3 _ _ s7 _ H7 x u _ I7' r7 (step τ x H7 hτ y7)) (fun _ s8 ⟨σ8, H8, I8, ⟨τ', hτ', e8⟩, q8⟩ => ?_) fun _ _ z => z.elim
   have fin : ∀ {H9 : Hp} {s9 : Shared}, Inv (cxC X scope cl (own ++ fr) fp s3 (upd H2 s2.heap.objs.size (.lst []))) ([] ++ pinsAt fp s7.heap) σ8 H9 s9 → (∃ m', m' < n ∧ W (i + 1) m' H9) →
     ∃ m, m < n ∧ ∃ i τ H', τ.length = own.length ∧ Inv (cxC X scope cl (own ++ fr) fp s3 (upd H2 s2.heap.objs.size (.lst []))) [] (τ ++ frOf ix σ) H' s9 ∧ tn i s9.heap ∧ (∀ b ∈ fp, H' b = none) ∧ W i m H' := fun {H9 s9} I9 hw => by
    obtain ⟨m', hm, w9⟩ := hw
    refine ⟨m', hm, i + 1, τ', H9, hτ', e8 ▸ I9.unpinned, T.keep _ _ _ st7 fun b hb o e => (I9.pin (b, o) (List.mem_append_right _ (List.mem_append_right _ (mem_pinsAt hb e)))).1, fun b hb => ?_, w9⟩
    obtain ⟨o, e, d⟩ := T.obj _ _ st7 b hb
    exact (I9.pin (b, o) (List.mem_append_right _ (List.mem_append_right _ (mem_pinsAt hb e)))).2.1
   refine wpAny_mono (ht fp s3 _ _ s8 σ8 H8 _ I8 q8) (fun ok s9 ⟨H9, I9, q9⟩ => ?_) fun _ _ z => z.elim
   cases ok with
   | false => exact fin I9 q9
   | true =>
    refine wpAny_mono (he fp s3 _ _ s9 σ8 H9 _ I9 q9) (fun y s10 ⟨v10, H10, I10, r10, ys, hD, hz, q10⟩ => ?_) fun _ _ z => z.elim
    refine wpAny_mono (mt_append (X := cxC X scope cl (own ++ fr) fp s3 (upd H2 s2.heap.objs.size (.lst []))) _ s10 σ8 H10 (.ref s2.heap.objs.size) [v10] _ [y] (fun _ H' => ∃ m', m' < n ∧ W (i + 1) m' H') I10 rfl (.cons r10 .nil) ⟨_, ys, v10, rfl, rfl, hD, hz, q10⟩) (fun _ s11 ⟨_, H11, I11, _, q11⟩ => ?_) fun _ _ z => z.elim
    exact fin I11 q11
 exact codeAny_compStart_list (loop _ rfl) (T.self _ 0 _ _ _ st4 (loop _ rfl))
theorem pe_lc (C : ClOk X scope own fr ix cl) (hc : X.calm = true) (hi : PI X tg iter wi) (hg : ∀ fp s H, PG (cxC X scope cl (own ++ fr) fp s H) tg g)
  (ht : ∀ fp s H, PIfs (cxC X scope cl (own ++ fr) fp s H) ifs tc) (he : ∀ fp s H, PE (cxC X scope cl (own ++ fr) fp s H) elt te)
  (hs : ∀ x, foldedSetIterable iter X.env x = pure x := by intro _; rfl) : PE X (.ListComp elt [⟨tg, iter, ifs, 0⟩] scope pos) (tLC own.length ix wi g tc te) := by
 intro pins s σ H Q I h
 rw [eval_ListComp]
 refine wpAny_comprehension_free (use := none) rfl hs C.clos C.kind C.names' (thn (hi pins s σ H _ I h) fun v s1 h1 => thn h1 fun itv s2 h2 => ?_)
 obtain ⟨it, fp, tn, J, H2, e, I2, T, st2, f2, q⟩ := h2
 subst e
 refine comp_block (RR := fun acc D => compPost (model X.prog X.w) X.A X.xe none (EP X pins σ Q) acc D) C hc hg ht he I2 T st2 f2 (q _ (I2.hok.fresh (Nat.le_refl _))) fun s3 s' H3 H' τ I3 I' hn hm q' => ?_
 obtain ⟨m, hm⟩ := hm
 exact ⟨m, hm, fun h' sb => ⟨.ref s2.heap.objs.size, H', inv_gone I3 I' hn sb, rfl, q'⟩⟩
def tSetLC (i n : Nat) (ix : List Nat) (wi : TI) (g : TG) (tc : TT) (te : TE) : TS := fun D σ H => wi σ H fun J H1 => ∀ l, H1 l = none → LC n (frOf ix σ) g tc te J l H1 fun H' => D.nx (σ.set i (some (.ref l))) H'
theorem ps_setlc {i : Nat} {x : Str} {px spos : Pos} (hN : X.N.Nodup) (hx : X.N[i]? = some x) (hl : Loc X.env.scope x) (C : ClOk X scope own fr ix cl) (hc : X.calm = true) (hi : PI X tg iter wi)
  (hg : ∀ fp s H, PG (cxC X scope cl (own ++ fr) fp s H) tg g) (ht : ∀ fp s H, PIfs (cxC X scope cl (own ++ fr) fp s H) ifs tc) (he : ∀ fp s H, PE (cxC X scope cl (own ++ fr) fp s H) elt te)
  (hsw : swapsWith (.ListComp elt [⟨tg, iter, ifs, 0⟩] scope pos) (some (.Name x px)) spos.line X.env = pure true := by rfl)
  (hs : ∀ x, foldedSetIterable iter X.env x = pure x := by intro _; rfl) (hf : X.fn x = true ∨ X.env.scope.names.lookup x = some .local := by first | exact .inl rfl | exact .inr rfl | assumption) :
  PS X (.Assign [.Name x px] (.ListComp elt [⟨tg, iter, ifs, 0⟩] scope pos) spos) (tSetLC i own.length ix wi g tc te) := by
 intro pins s σ H D I h
 rw [exec_Assign_Name_used _ _ _ _ hsw]
 refine wpAny_bind (wpAny_standAt (wpAny_bind ?_))
 show wpAny _ X.A (do let _ ← comprehension (.ListComp elt [⟨tg, iter, ifs, 0⟩] scope pos) scope X.env _ (newList []) false (eval iter X.env) (some (assign (.Name x px) X.env))) _ _ s
 refine wpAny_bind (wpAny_mono (wpAny_comprehension_free (use := some (assign (.Name x px) X.env)) (Q := fun _ s' => SP X pins D .next s') rfl hs C.clos C.kind C.names'
  (thn (hi pins s σ H _ I h) fun v s1 h1 => thn h1 fun itv s2 h2 => ?_)) (fun _ s' hq => wpAny_pure (wpAny_pure hq)) fun _ _ e => e)
 obtain ⟨it, fp, tn, J, H2, e, I2, T, st2, f2, q⟩ := h2
 subst e
 refine comp_block (RR := fun acc C => compPost (model X.prog X.w) X.A X.xe (some (assign (.Name x px) X.env)) (fun _ s' => SP X pins D .next s') acc C) C hc hg ht he I2 T st2 f2 (q _ (I2.hok.fresh (Nat.le_refl _))) fun s3 s' H3 H' τ I3 I' hn hm q' => ?_
 obtain ⟨m, hm⟩ := hm
 show wpAny _ X.A (assign (.Name x px) X.env (.ref s2.heap.objs.size)) _ _ _
 refine wpAny_assign_Name (store_ok2 I' hN hx hl (v := .ref s2.heap.objs.size) rfl (fun s'' I'' hsb => ?_) hf)
 obtain ⟨a, sba, ha⟩ := hsb
 have hne : s3.heap.objs.size ≠ a := by
  rcases ha with rfl | ha
  ·exact Nat.ne_of_gt I3.lt
  ·obtain ⟨v, qv⟩ := I3.cell x a ha
   exact Nat.ne_of_gt qv.lt
 exact ⟨m, hm.sameBut sba hne, fun h' sb => ⟨_, H', inv_gone I3 I'' hn sb, q'⟩⟩
end
end L2
namespace L2
open PySem PySem.Spec PyProof.Rows
noncomputable def Its (z : Str) : It := ⟨fun i _ => i < z.cps.size, fun i H x H' => H' = H ∧ ∃ c, z.cps[i]? = some c ∧ x = .str ⟨#[c]⟩, fun i _ => i = z.cps.size⟩
theorem turn_str {P : Program} {w : World} {K : PySem.W.Frag} {tg : Expr} (it : Addr) (z : Str) (t : Tok) (ty : String)
  (hn : ["enumerate", "zip", "dict_itemiterator", "dict_reverseitemiterator", "odict_iterator", "itertools.zip_longest", "itertools.pairwise"].contains ty = false)
  (W : ∀ A' : Around, A'.handled = none → Walks P w A' it [it] [it] z.cps.size (SignAt z) (fun i h => h.IsStrIter it ty z t i))
  (self : ∀ (A : Around) (i : Nat) (s : Shared) (Q : Value → Shared → Prop) (E : Value → Shared → Prop), s.heap.IsStrIter it ty z t i → Q (.ref it) s → wpAny (model P w) A (pyIter (.ref it)) Q E s) :
  Turn P w K tg (Its z) [it] it (fun i h => h.IsStrIter it ty z t i) where
 mem := by simp
 obj := fun i h st b hb => by
  have e : b = it := by simpa using hb
  subst e
  obtain ⟨o, e, c, d⟩ := st
  exact ⟨o, e, fun v z => by rw [d] at z; cases z⟩
 keep := fun i h h' st k => by
  obtain ⟨o, ho, r⟩ := st
  exact ⟨o, k it (by simp) o ho, r⟩
 item := by
  intro X hP hw hK hc i pins s σ H E I hf st hg
  subst hP hw hK
  obtain ⟨f0, f1, f2, f3, f4, f5⟩ := hf it (by simp)
  refine (W X.A (I.ok.hd hc)).item i s _ _ hg st fun v h' tk hv st' kk => ?_
  obtain ⟨c, u, hcc, rfl⟩ := hv
  have I1 : Inv X pins σ H { s with heap := h', toks := tk } := I.turned (fun b o hb e => kk b o (by simpa using hb) e) f0 f1 f3 f4 f5
  obtain ⟨o, e, c', d⟩ := id st'
  exact ⟨_, rfl, go_of (s := { s with heap := h', toks := tk }) (n := ty) e c' d hn ⟨.str ⟨#[c]⟩, H, I1, ⟨u, rfl⟩, ⟨rfl, c, hcc, rfl⟩, st', fun b hb => (hf b hb).1⟩⟩
 done := by
  intro X hP hw hK hc i pins s σ H E I hf st hg
  subst hP hw hK
  obtain ⟨f0, f1, f2, f3, f4, f5⟩ := hf it (by simp)
  have hg : i = z.cps.size := hg
  subst hg
  exact (W X.A (I.ok.hd hc)).done s _ _ st fun h' tk kk => ⟨rfl, I.turned (fun b o hb e => kk b o (by simpa using hb) e) f0 f1 f3 f4 f5⟩
 self := fun A i s Q E st h => self A i s Q E st h
def iStr (tl : TE) : TI := fun σ H R => tl σ H fun x H1 => ∃ z, x = .str z ∧ R (Its z) H1
section
variable {X : Cx} {tg : Expr}
theorem pi_str {l : Expr} {tl : TE} (hl : PE X l tl) : PI X tg l (iStr tl) := by
 intro pins s σ H R I h
 refine thn (hl pins s σ H _ I h) fun v s1 ⟨x, H1, I1, r1, q1⟩ => ?_
 obtain ⟨z, e, q⟩ := q1
 subst e
 obtain ⟨t, rfl⟩ := r1
 cases ha : z.cps.all (· < 128)
 ·refine wpAny_pyIter_wide ha ?_
  refine ⟨s1.heap.objs.size, [s1.heap.objs.size], _, _, H1, rfl, I1.kept (t' := s1.toks) fun b o e => Heap.get?_push_of_some _ e,
   turn_str s1.heap.objs.size z t "str_iterator" (by decide) (fun A' hA => Walks.strWide hA _ z t) (fun _ _ _ _ _ st h => wpAny_pyIter_striter_wide st h), ⟨_, Heap.get?_push_size _ rfl, rfl, rfl⟩, fun b hb => ?_, q⟩
  have e : b = s1.heap.objs.size := by simpa using hb
  subst e
  exact I1.fpOk (Nat.le_refl _) (I1.hok.fresh (Nat.le_refl _))
 ·refine wpAny_pyIter_ascii ha ?_
  refine ⟨s1.heap.objs.size, [s1.heap.objs.size], _, _, H1, rfl, I1.kept (t' := s1.toks) fun b o e => Heap.get?_push_of_some _ e,
   turn_str s1.heap.objs.size z t "str_ascii_iterator" (by decide) (fun A' hA => Walks.strAscii hA _ z t) (fun _ _ _ _ _ st h => wpAny_pyIter_striter_ascii st h), ⟨_, Heap.get?_push_size _ rfl, rfl, rfl⟩, fun b hb => ?_, q⟩
  have e : b = s1.heap.objs.size := by simpa using hb
  subst e
  exact I1.fpOk (Nat.le_refl _) (I1.hok.fresh (Nat.le_refl _))
end
theorem range_all (bs : List Bool) (tr : Nat → Bool) (h : ∀ (i : Nat) b, bs[i]? = some b → tr i = b) : (List.range bs.length).all tr = bs.all id := by
 apply Bool.eq_iff_iff.mpr
 constructor
 ·intro h1
  refine List.all_eq_true.mpr fun b hb => ?_
  obtain ⟨i, hi⟩ := List.getElem?_of_mem hb
  have hl : i < bs.length := (List.getElem?_eq_some_iff.mp hi).1
  have := List.all_eq_true.mp h1 i (List.mem_range.mpr hl)
  rw [h i b hi] at this
  exact this
 ·intro h1
  refine List.all_eq_true.mpr fun i hi => ?_
  have hl : i < bs.length := List.mem_range.mp hi
  have hg : bs[i]? = some bs[i] := List.getElem?_eq_getElem hl
  rw [h i _ hg]
  exact List.all_eq_true.mp h1 _ (List.getElem_mem hl)
section
variable {X : Cx}
theorem call_all_list (hc : X.calm = true) : CallR X (.builtin "all") (fun xs H Q => ∃ p bs, xs = [.ref p] ∧ SqL X.K H p (List.map V.bl bs) ∧ Q (.bl (bs.all id)) H) := by
 intro pins s σ H xs us Q I r h
 obtain ⟨p, bs, rfl, hq, q⟩ := h
 obtain ⟨u, rfl, rx⟩ := vals1 r
 cases rx
 obtain ⟨its, rv, pl, hz⟩ := I.list hq
 have hlen : bs.length = its.length := by rw [← rv.length, List.length_map]
 refine call_all_walk (wpAny_pyIter_list pl.isList ?_)
 have hne : p ≠ s.heap.objs.size := by
  obtain ⟨o, n, e, _⟩ := pl
  exact Nat.ne_of_lt (Heap.lt_size e)
 have I1 : Inv X pins σ H { s with heap := s.heap.push { cls := .type "list_iterator", data := .fields #[.ref p, .int 0 0] } } := I.kept (t' := s.toks) fun b o e => Heap.get?_push_of_some _ e
 have fp := I.fpOk (H' := H) (Nat.le_refl s.heap.objs.size) (I.hok.fresh (Nat.le_refl _))
 obtain ⟨f0, f1, f2, f3, f4, f5⟩ := fp
 refine ⟨s.heap.objs.size, _, _, its.toArray.size, _, _, fun i => (bs[i]?).getD false, rfl, Walks.list (A := X.A.in1) (by show X.A.handled = none; exact I.ok.hd hc) s.heap.objs.size p hne its.toArray, ⟨⟨_, Heap.get?_push_size _ rfl, rfl, rfl⟩, ?_⟩, ?_, fun h' tk kk => ?_⟩
 ·obtain ⟨o, ho, r⟩ := pl.isList
  exact ⟨o, Heap.get?_push_of_some _ ho, r⟩
 ·intro i v s' Q' E' hv hQ
  have hv' : its[i]? = some v := by simpa using hv
  have hi : i < bs.length := by rw [hlen]; exact (List.getElem?_eq_some_iff.mp hv').1
  have hb : (bs.map V.bl)[i]? = some (V.bl bs[i]) := by rw [List.getElem?_map, List.getElem?_eq_getElem hi]; rfl
  obtain ⟨u', hu', ru'⟩ := rv.get hb
  rw [hv'] at hu'
  cases hu'
  cases ru'
  dsimp only at hQ
  rw [List.getElem?_eq_getElem hi] at hQ
  exact wpAny_truthy_bool hQ
 ·rw [List.size_toArray, ← hlen, range_all bs _ (fun i b e => by rw [e]; rfl)]
  exact ⟨.bl _, H, I1.turned (it := s.heap.objs.size) (fun b o hb e => kk b o (by simpa using hb) e) f0 f1 f3 f4 f5, rfl, q⟩
end
noncomputable def cutS (z : Str) (lo hi : Option Int) : Str := ⟨((z.cps.toList.drop (HT.sIx z.length 0 lo)).take (HT.sIx z.length z.length hi - HT.sIx z.length 0 lo)).toArray⟩
theorem cutS_le (z : Str) (lo hi : Option Int) : (cutS z lo hi).length ≤ z.length := by
 show ((z.cps.toList.drop _).take _).toArray.size ≤ z.cps.size
 rw [List.size_toArray, List.length_take, List.length_drop, Array.length_toList]
 omega
theorem clip_lo (n : Nat) (lo : Option Int) : (match lo with | none => (0 : Int) | some i => max 0 (min (if i < 0 then i + (n : Int) else i) n)) = ((HT.sIx n 0 lo : Nat) : Int) := by
 cases lo with
 | none => rfl
 | some i =>
  show max 0 (min (if i < 0 then i + (n : Int) else i) n) = ((HT.sIx n 0 (some i) : Nat) : Int)
  unfold HT.sIx
  by_cases h : i < 0
  ·simp only [h, if_true] <;> omega
  ·simp only [h, if_false] <;> omega
theorem clip_hi (n : Nat) (hi : Option Int) : (match hi with | none => (n : Int) | some i => max 0 (min (if i < 0 then i + (n : Int) else i) n)) = ((HT.sIx n n hi : Nat) : Int) := by
 cases hi with
 | none => rfl
 | some i =>
  show max 0 (min (if i < 0 then i + (n : Int) else i) n) = ((HT.sIx n n (some i) : Nat) : Int)
  unfold HT.sIx
  by_cases h : i < 0
  ·simp only [h, if_true] <;> omega
  ·simp only [h, if_false] <;> omega
theorem strSlice_run (lo hi : Option Int) (n : Nat) : Builtin.Str.strSliceIndices lo hi 1 n = (List.range (HT.sIx n n hi - HT.sIx n 0 lo)).map (HT.sIx n 0 lo + ·) := by
 have e : Builtin.Str.strSliceIndices lo hi 1 n = sliceRange (match lo with | none => (0 : Int) | some i => max 0 (min (if i < 0 then i + (n : Int) else i) n)) (match hi with | none => (n : Int) | some i => max 0 (min (if i < 0 then i + (n : Int) else i) n)) 1 := by
  cases lo <;> cases hi <;> rfl
 rw [e, clip_lo n lo, clip_hi n hi, sliceRange_one]
theorem cutS_made (z : Str) (lo hi : Option Int) : (⟨((Builtin.Str.strSliceIndices lo hi 1 z.length).filterMap (z.cps[·]?)).toArray⟩ : Str) = cutS z lo hi := by
 rw [strSlice_run, pick_run]
 rfl
theorem cutS_whole (z : Str) (lo hi : Option Int) (h : (Builtin.Str.strSliceIndices lo hi 1 z.length).length = z.length) : cutS z lo hi = z := by
 rw [strSlice_run, List.length_map, List.length_range] at h
 have h1 : HT.sIx z.length 0 lo ≤ z.length := HT.sIx_le _ _ (Nat.zero_le _) lo
 have h2 : HT.sIx z.length z.length hi ≤ z.length := HT.sIx_le _ _ (Nat.le_refl _) hi
 unfold cutS
 by_cases h0 : z.length = 0
 ·have e0 : z.cps.toList = [] := by
   apply List.eq_nil_of_length_eq_zero
   rw [Array.length_toList]
   exact h0
  rw [e0]
  have e1 : z.cps = #[] := by
   apply Array.eq_empty_of_size_eq_zero
   exact h0
  cases z with
  | mk c => cases e1; simp
 ·have a : HT.sIx z.length 0 lo = 0 := by omega
  have b : HT.sIx z.length z.length hi = z.length := by omega
  rw [a, b, List.drop_zero, Nat.sub_zero]
  have e : z.cps.toList.take z.length = z.cps.toList := by
   apply List.take_of_length_le
   rw [Array.length_toList]
   exact Nat.le_refl _
  rw [e]
section
variable {X : Cx}
def rSlS : V → Option Int → Option Int → Hp → VK → Prop := fun x lo hi H Q => ∃ z, x = .str z ∧ z.length ≤ sizeLine ∧ Q (.str (cutS z lo hi)) H
theorem part_of {v : Value} {o : Option Int} (p : IsPart v o) : ∃ l : Option (Int × Tok), partValue l = v ∧ l.map (·.1) = o := by
 cases p with
 | none => exact ⟨none, rfl, rfl⟩
 | int i t => exact ⟨some (i, t), rfl, rfl⟩
theorem sl_str : SlR X rSlS := by
 intro pins s σ H x v vl vu lo hi sl Q I rx hs pl pu h
 obtain ⟨z, rfl, hz, q⟩ := h
 obtain ⟨t, rfl⟩ := rx
 obtain ⟨l, el, e1⟩ := part_of pl
 obtain ⟨u, eu, e2⟩ := part_of pu
 subst el eu e1 e2
 refine ⟨"str", _, F.slot_str_getitem.lookup, typeIs_str s z t, wpAny_getItem_str_slice (l := l) (u := u) (st := none) hs rfl ?_⟩
 unfold sliceMade slicePicked
 by_cases c : (((none : Option (Int × Tok)).map (·.1)).getD 1 == 1 && (Builtin.Str.strSliceIndices (l.map (·.1)) (u.map (·.1)) (((none : Option (Int × Tok)).map (·.1)).getD 1) z.length).length == z.length) = true
 ·rw [if_pos c]
  rw [Bool.and_eq_true] at c
  have c2 : (Builtin.Str.strSliceIndices (l.map (·.1)) (u.map (·.1)) 1 z.length).length = z.length := eq_of_beq c.2
  have e := cutS_whole z _ _ c2
  rw [e] at q
  exact ⟨.str z, H, I, ⟨t, rfl⟩, q⟩
 ·rw [if_neg c]
  have e := cutS_made z (l.map (·.1)) (u.map (·.1))
  show ((⟨((Builtin.Str.strSliceIndices (l.map (·.1)) (u.map (·.1)) 1 z.length).filterMap (z.cps[·]?)).toArray⟩ : Str).length ≤ sizeLine ∧ EP X pins σ Q (.str ⟨((Builtin.Str.strSliceIndices (l.map (·.1)) (u.map (·.1)) 1 z.length).filterMap (z.cps[·]?)).toArray⟩ s.toks) { s with toks := s.toks + 1 })
  rw [e]
  exact ⟨Nat.le_trans (cutS_le z _ _) hz, ⟨.str _, H, I.tok _, ⟨_, rfl⟩, q⟩⟩
theorem strsAre_of : ∀ {ys : List Str} {us : List Value}, Vals (ys.map V.str) us → StrsAre us ys
 | [], _, .nil => .nil
 | y :: ys, u :: us, .cons r t => by
  obtain ⟨t', rfl⟩ := r
  exact .cons _ _ (strsAre_of t)
theorem mt_join : MtR X "str.join" (fun x xs H Q => ∃ sep p ys, x = .str sep ∧ xs = [.ref p] ∧ SqL X.K H p (List.map V.str ys) ∧ (ys.map (·.length)).sum + ys.length * sep.length ≤ 1000000 ∧ Q (.str (Txt.join sep ys)) H) := by
 intro pins s σ H x xs v us Q I rx rv h
 obtain ⟨sep, p, ys, rfl, rfl, hq, hb, q⟩ := h
 obtain ⟨t, rfl⟩ := rx
 obtain ⟨u, rfl, ru⟩ := rv.one
 cases ru
 obtain ⟨its, r, pl, hz⟩ := I.list hq
 exact join_list pl.isList (by simpa using strsAre_of r) (by omega) fun t' k => ⟨.str _, H, I.tok _, ⟨_, rfl⟩, q⟩
theorem mt_startswith : MtR X "str.startswith" (fun x xs H Q => ∃ z y, x = .str z ∧ xs = [.str y] ∧ Q (.bl (Txt.startswith z y)) H) := by
 intro pins s σ H x xs v us Q I rx rv h
 obtain ⟨z, y, rfl, rfl, q⟩ := h
 obtain ⟨t, rfl⟩ := rx
 obtain ⟨u, rfl, ru⟩ := rv.one
 obtain ⟨t', rfl⟩ := ru
 exact SC.startswith ⟨.bl _, H, I, rfl, q⟩
theorem call_isinst : CallR X (.builtin "isinstance") (fun xs H Q => ∃ x n t b, xs = [x, .ty n] ∧ TyOf X.K H x t ∧ PySem.W.kitOne X.K t (.type n) = some b ∧ Q (.bl b) H) := by
 intro pins s σ H xs us Q I r h
 obtain ⟨x, n, t, b, rfl, ty, e, q⟩ := h
 obtain ⟨u, u2, rfl, r1, r2⟩ := vals2 r
 cases (show u2 = Value.type n from r2)
 exact isinst_ok I r1 ty e fun tk => ⟨.bl b, H, I.tok tk, rfl, q⟩
end
end L2
namespace L2
open PySem PySem.Spec PyProof.Rows
theorem same_new {H : Hp} {p : Addr} (h : H p = none) (o : HO) : Same H (upd H p o) := fun b u q => by rw [upd_ne (ne_of_none q h)]; exact q
theorem Same.upd {H H' : Hp} {p : Addr} (e : Same H H') (h : H p = none) (o : HO) : Same H (L2.upd H' p o) := fun b u q => by rw [upd_ne (ne_of_none q h)]; exact e b u q
theorem Same.tup {K : PySem.W.Frag} {H H' : Hp} {a : Addr} {xs : List V} (e : Same H H') (h : SqT K H a xs) : SqT K H' a xs := by
 rcases h with (h | ⟨o, h⟩) | h
 ·exact .inl (.inl (e _ _ h))
 ·exact .inl (.inr ⟨o, e _ _ h⟩)
 ·exact .inr h
def Has (P : Program) (w : World) (K : PySem.W.Frag) (mg : Str → Option Value) (base : Heap) (k : Nat) (x : Str) (ps : List Str) (sp : Sp) : Prop :=
 ∃ (f : Addr) (fd : FuncData), FnOk P w K mg base CX0 k f fd ps sp ∧ Binds K fd ps [] ∧ PySem.W.keepIn K (.ref f) = true ∧ mg x = some (.ref f)
theorem Has.up {P : Program} {w : World} {K : PySem.W.Frag} {mg : Str → Option Value} {base : Heap} {j k : Nat} {x : Str} {ps : List Str} {sp : Sp} (h : Has P w K mg base j x ps sp) (l : j ≤ k) : Has P w K mg base k x ps sp := by
 obtain ⟨f, fd, F, r⟩ := h
 exact ⟨f, fd, F.mono l, r⟩
def Def (K : PySem.W.Frag) (mg : Str → Option Value) (x : Str) (st : Stmt) (ps : List Str) : Prop :=
 ∃ (f : Addr) (fd : FuncData), Fun K x x st f fd ∧ Binds K fd ps [] ∧ mg x = some (.ref f)
theorem Def.has {P : Program} {w : World} {K : PySem.W.Frag} {mg : Str → Option Value} {base : Heap} {k : Nat} {x : Str} {st : Stmt} {N ps : List Str} {sp : Sp} (D : Def K mg x st ps) (S : FnScope N ps (defScope st)) (len : ∀ vs H Q E, sp vs H Q E → vs.length = ps.length)
  (hbody : ∀ (f : Addr) (cdv : Value) (A : Around) (outer : List Env) (s : Shared) (H : Hp) (vs : List V) (Q : VK) (E : XK), Room k (A.deeper (envOfC x (defScope st) s.heap.objs.size f cdv)) → sp vs H Q E →
   ∃ t, PSs (cxOf CX0 P w K mg base N x (defScope st) f cdv A outer s H E).nox (defBody st) t ∧ t { nx := fun _ H' => Q .non H', rt := Q } (start N vs) H) : Has P w K mg base (k + 1) x ps sp := by
 obtain ⟨f, fd, F, b, m⟩ := D
 exact ⟨f, fd, F.ok S len fun cdv A outer s H vs Q E hr h => hbody f cdv A outer s H vs Q E hr h, b, F.kp, m⟩
section
variable {X : Cx} {k : Nat} {ps : List Str} {sp : Sp} {x : Str} {p pos : Pos} {e : Expr} {es : List Expr} {t : TA}
theorem pe_has (h : Has X.prog X.w X.K X.mg X.base k x ps sp) (hr : Room k X.A) (ha : PA X (e :: es) t) (hg : Gl X x := by rfl) (hdb : (x == ("__debug__" : Str)) = false := by decide +kernel)
  (he : starEach (e :: es) X.env = (false, eval e X.env) :: starEach es X.env := by rfl) (hpl : (backTo pos (starEach es X.env)).any (·.1) = false := by rfl) :
  PE X (.Call (.Name x p) (e :: es) [] pos) (tCall sp [] E0 t) := by
 obtain ⟨f, fd, F, b, kp, m⟩ := h
 exact pe_call F hr hg m kp b .nil pass0 ha hdb he hpl
end
theorem lc_gen {J : It} {fr : St} {tc : TT} {te : TE} {D : Addr} {H1 : Hp} {Q : Hp → Prop} (n : Nat) (item : Nat → V) (P : Nat → List V → Prop) (hn : n < sizeLine) (hD : H1 D = none)
  (hgo : ∀ i H, i < n → Same H1 H → J.go i H) (hyld : ∀ i H x H', i < n → Same H1 H → J.yld i H x H' → H' = H ∧ x = item i) (hstop : ∀ H, Same H1 H → J.stop n H)
  (h0 : P 0 [])
  (step : ∀ i ys H (G : Hp → Prop) (K' : V → Hp → Prop), i < n → P i ys → ys.length ≤ i → Same H1 H → (∀ H3, Same H H3 → P (i + 1) ys → G H3) → (∀ y H4, Same H H4 → P (i + 1) (ys ++ [y]) → K' y H4) → tc ([some (item i)] ++ fr) H fun b H3 => if b = true then te ([some (item i)] ++ fr) H3 K' else G H3)
  (done : ∀ ys H, P n ys → ys.length ≤ n → Same H1 H → H D = some (.lst ys) → Q H) : LC 1 fr (gName 0) tc te J D H1 Q := by
 refine ⟨fun i m H => m = n - i ∧ i ≤ n ∧ ∃ ys, H D = some (.lst ys) ∧ P i ys ∧ ys.length ≤ i ∧ Same H1 H, ⟨n, by simp, Nat.zero_le _, [], upd_same, h0, Nat.le_refl _, same_new hD _⟩, ?_⟩
 rintro i m H ⟨rfl, hi, ys, hys, hP, hl, hS⟩
 by_cases hlt : i < n
 ·refine .inr ⟨hgo i H hlt hS, fun τ x H' hτ hy => ?_⟩
  obtain ⟨e1, e2⟩ := hyld i H x H' hlt hS hy
  subst e1 e2
  obtain ⟨a, rfl⟩ : ∃ a, τ = [a] := List.length_eq_one_iff.mp hτ
  refine ⟨⟨[some (item i)], rfl, rfl⟩, step i ys H' (fun H3 => ∃ m', m' < n - i ∧ m' = n - (i + 1) ∧ i + 1 ≤ n ∧ ∃ ys, H3 D = some (.lst ys) ∧ P (i + 1) ys ∧ ys.length ≤ i + 1 ∧ Same H1 H3)
   (fun y H4 => ∃ zs, H4 D = some (.lst zs) ∧ zs.length < sizeLine ∧ ∃ m', m' < n - i ∧ m' = n - (i + 1) ∧ i + 1 ≤ n ∧ ∃ ys, upd H4 D (.lst (zs ++ [y])) D = some (.lst ys) ∧ P (i + 1) ys ∧ ys.length ≤ i + 1 ∧ Same H1 (upd H4 D (.lst (zs ++ [y])))) hlt hP hl hS (fun H3 q1 q2 => ?_) (fun y H4 q1 q2 => ?_)⟩
  ·exact ⟨n - (i + 1), by omega, rfl, hlt, ys, q1 _ _ hys, q2, Nat.le_succ_of_le hl, hS.trans q1⟩
  ·refine ⟨ys, q1 _ _ hys, by omega, n - (i + 1), by omega, rfl, hlt, ys ++ [y], upd_same, q2, ?_, (hS.trans q1).upd hD _⟩
   rw [List.length_append, List.length_singleton]
   omega
 ·have e : i = n := by omega
  subst e
  exact .inl ⟨hstop H hS, done ys H hP hl hS hys⟩
theorem lc_list {K : PySem.W.Frag} {a : Addr} {xs : List V} {fr : St} {tc : TT} {te : TE} {D : Addr} {H1 : Hp} {Q : Hp → Prop} (P : Nat → List V → Prop) (hS : SqL K H1 a xs) (hn : xs.length < sizeLine) (hD : H1 D = none) (h0 : P 0 [])
  (step : ∀ i x ys H (G : Hp → Prop) (K' : V → Hp → Prop), xs[i]? = some x → P i ys → ys.length ≤ i → Same H1 H → (∀ H3, Same H H3 → P (i + 1) ys → G H3) → (∀ y H4, Same H H4 → P (i + 1) (ys ++ [y]) → K' y H4) → tc ([some x] ++ fr) H fun b H3 => if b = true then te ([some x] ++ fr) H3 K' else G H3)
  (done : ∀ ys H, P xs.length ys → ys.length ≤ xs.length → Same H1 H → H D = some (.lst ys) → Q H) : LC 1 fr (gName 0) tc te (Itl K a) D H1 Q := by
 have at' : ∀ i, i < xs.length → xs[i]? = some (xs.getD i .non) := fun i hi => by
  rw [List.getD_eq_getElem?_getD, List.getElem?_eq_getElem hi]
  rfl
 exact lc_gen xs.length (fun i => xs.getD i .non) P hn hD (fun i H hi hs => ⟨xs, _, hs.seq hS, at' i hi⟩)
  (fun i H x H' hi hs hy => ⟨hy.1, Option.some.inj ((hy.2 xs (hs.seq hS)).symm.trans (at' i hi))⟩) (fun H hs => ⟨xs, hs.seq hS, Nat.le_refl _⟩) h0
  (fun i ys H G K' hi hp hl hs hG hK => step i _ ys H G K' (at' i hi) hp hl hs hG hK) done
theorem lc_tup {K : PySem.W.Frag} {a : Addr} {xs : List V} {fr : St} {tc : TT} {te : TE} {D : Addr} {H1 : Hp} {Q : Hp → Prop} (P : Nat → List V → Prop) (hS : SqT K H1 a xs) (hn : xs.length < sizeLine) (hD : H1 D = none) (h0 : P 0 [])
  (step : ∀ i x ys H (G : Hp → Prop) (K' : V → Hp → Prop), xs[i]? = some x → P i ys → ys.length ≤ i → Same H1 H → (∀ H3, Same H H3 → P (i + 1) ys → G H3) → (∀ y H4, Same H H4 → P (i + 1) (ys ++ [y]) → K' y H4) → tc ([some x] ++ fr) H fun b H3 => if b = true then te ([some x] ++ fr) H3 K' else G H3)
  (done : ∀ ys H, P xs.length ys → ys.length ≤ xs.length → Same H1 H → H D = some (.lst ys) → Q H) : LC 1 fr (gName 0) tc te (Itt K a) D H1 Q := by
 have at' : ∀ i, i < xs.length → xs[i]? = some (xs.getD i .non) := fun i hi => by
  rw [List.getD_eq_getElem?_getD, List.getElem?_eq_getElem hi]
  rfl
 exact lc_gen xs.length (fun i => xs.getD i .non) P hn hD (fun i H hi hs => ⟨xs, _, hs.tup hS, at' i hi⟩)
  (fun i H x H' hi hs hy => ⟨hy.1, Option.some.inj ((hy.2 xs (hs.tup hS)).symm.trans (at' i hi))⟩) (fun H hs => ⟨xs, hs.tup hS, Nat.le_refl _⟩) h0
  (fun i ys H G K' hi hp hl hs hG hK => step i _ ys H G K' (at' i hi) hp hl hs hG hK) done
theorem lc_str {z : Str} {fr : St} {tc : TT} {te : TE} {D : Addr} {H1 : Hp} {Q : Hp → Prop} (P : Nat → List V → Prop) (hn : z.length < sizeLine) (hD : H1 D = none) (h0 : P 0 [])
  (step : ∀ i c ys H (G : Hp → Prop) (K' : V → Hp → Prop), z.cps.toList[i]? = some c → P i ys → ys.length ≤ i → Same H1 H → (∀ H3, Same H H3 → P (i + 1) ys → G H3) → (∀ y H4, Same H H4 → P (i + 1) (ys ++ [y]) → K' y H4) → tc ([some (.str ⟨#[c]⟩)] ++ fr) H fun b H3 => if b = true then te ([some (.str ⟨#[c]⟩)] ++ fr) H3 K' else G H3)
  (done : ∀ ys H, P z.length ys → ys.length ≤ z.length → Same H1 H → H D = some (.lst ys) → Q H) : LC 1 fr (gName 0) tc te (Its z) D H1 Q := by
 have at' : ∀ i, i < z.length → z.cps[i]? = some (z.cps.getD i 0) := fun i hi => by
  have hi' : i < z.cps.size := hi
  rw [Array.getElem?_eq_getElem hi', Array.getD_eq_getD_getElem?, Array.getElem?_eq_getElem hi']
  rfl
 refine lc_gen z.length (fun i => .str ⟨#[z.cps.getD i 0]⟩) P hn hD (fun i H hi _ => hi) (fun i H x H' hi hs hy => ?_) (fun H hs => rfl) h0
  (fun i ys H G K' hi hp hl hs hG hK => step i _ ys H G K' (by rw [Array.getElem?_toList]; exact at' i hi) hp hl hs hG hK) done
 obtain ⟨e, c, hc, rfl⟩ := hy
 rw [at' i hi] at hc
 cases hc
 exact ⟨e, rfl⟩
theorem lc_range {lo : Int} {n : Nat} {fr : St} {tc : TT} {te : TE} {D : Addr} {H1 : Hp} {Q : Hp → Prop} (P : Nat → List V → Prop) (hn : n < sizeLine) (hD : H1 D = none) (h0 : P 0 [])
  (step : ∀ (i : Nat) ys H (G : Hp → Prop) (K' : V → Hp → Prop), i < n → P i ys → ys.length ≤ i → Same H1 H → (∀ H3, Same H H3 → P (i + 1) ys → G H3) → (∀ y H4, Same H H4 → P (i + 1) (ys ++ [y]) → K' y H4) → tc ([some (.int (lo + i))] ++ fr) H fun b H3 => if b = true then te ([some (.int (lo + i))] ++ fr) H3 K' else G H3)
  (done : ∀ ys H, P n ys → ys.length ≤ n → Same H1 H → H D = some (.lst ys) → Q H) : LC 1 fr (gName 0) tc te (Itr lo n) D H1 Q :=
 lc_gen n (fun i => .int (lo + i)) P hn hD (fun i H hi _ => hi) (fun i H x H' hi hs hy => hy) (fun H hs => Nat.le_refl _) h0 step done
end L2
namespace L2
open PySem PySem.Spec PyProof.Rows
section
variable {X : Cx} {x : Str} {pos : Pos}
theorem pe_gstr {z : Str} {t : Tok} (hm : X.mg x = some (.str z t)) (hg : Gl X x := by rfl) (hd : (x == ("__debug__" : Str)) = false := by decide +kernel) : PE X (.Name x pos) (tC (.str z)) := pe_glob hg hm ⟨t, rfl⟩ hd
theorem pe_gint {z : Int} {t : Tok} (hm : X.mg x = some (.int z t)) (hg : Gl X x := by rfl) (hd : (x == ("__debug__" : Str)) = false := by decide +kernel) : PE X (.Name x pos) (tC (.int z)) := pe_glob hg hm ⟨t, rfl⟩ hd
theorem pe_gref {a : Addr} (hm : X.mg x = some (.ref a)) (hg : Gl X x := by rfl) (hd : (x == ("__debug__" : Str)) = false := by decide +kernel) : PE X (.Name x pos) (tC (.ref a)) := pe_glob hg hm rfl hd
theorem pe_gty {T : String} (hm : X.mg x = none) (hv : bootBuiltins x = some (.type T)) (hg : Gl X x := by rfl) (hn : x ≠ "__name__" := by decide +kernel) (hd : (x == ("__debug__" : Str)) = false := by decide +kernel) : PE X (.Name x pos) (tC (.ty T)) := pe_bltn hg hm hv rfl hn hd
end
theorem b_len : bootBuiltins "len" = some (.builtin "len") := by decide +kernel
theorem b_all : bootBuiltins "all" = some (.builtin "all") := by decide +kernel
theorem b_sum : bootBuiltins "sum" = some (.builtin "sum") := by decide +kernel
theorem b_isinstance : bootBuiltins "isinstance" = some (.builtin "isinstance") := by decide +kernel
theorem b_bool : bootBuiltins "bool" = some (.type "bool") := by decide +kernel
theorem b_int : bootBuiltins "int" = some (.type "int") := by decide +kernel
theorem b_str : bootBuiltins "str" = some (.type "str") := by decide +kernel
theorem b_tuple : bootBuiltins "tuple" = some (.type "tuple") := by decide +kernel
end L2
namespace L2
open PySem PySem.Spec PyProof.Rows
theorem minusS : ("-" : Str) = ⟨#[45]⟩ := by decide +kernel
theorem nullS : ("0" : Str) = ⟨#[48]⟩ := by decide +kernel
theorem str_eq {a b : Str} : a = b ↔ a.cps.toList = b.cps.toList := by
 constructor
 ·intro e; rw [e]
 ·intro e
  cases a; cases b
  exact congrArg Str.mk (Array.toList_inj.mp e)
theorem len_list (z : Str) : z.length = z.cps.toList.length := by
 show z.cps.size = _
 rw [Array.length_toList]
theorem starts1 (z : Str) : Txt.startswith z ("-" : Str) = decide (z.cps.toList.head? = some 45) := by
 rw [minusS]
 unfold Txt.startswith
 rw [Bool.eq_iff_iff, Bool.and_eq_true, decide_eq_true_eq, decide_eq_true_eq, StrLaws.subAt_one z 45 0, List.head?_eq_getElem?]
theorem cut1 (z : Str) : (cutS z (some 1) none).cps.toList = z.cps.toList.tail := by
 unfold cutS
 show ((z.cps.toList.drop (HT.sIx z.length 0 (some 1))).take (z.length - HT.sIx z.length 0 (some 1))) = z.cps.toList.tail
 have e : HT.sIx z.length 0 (some 1) = min 1 z.length := by
  show (if (1 : Int) < 0 then ((1 : Int) + (z.length : Int)).toNat else min (1 : Int).toNat z.length) = _
  rw [if_neg (by decide)]
  rfl
 rw [e]
 have hl := len_list z
 cases h : z.cps.toList with
 | nil => rw [h] at hl; simp
 | cons c r =>
  rw [h] at hl
  have h1 : min 1 z.length = 1 := by rw [hl, List.length_cons]; omega
  rw [h1, List.drop_one, List.tail_cons, hl, List.length_cons, Nat.add_sub_cancel, List.take_length]
theorem mem_cut {z : Str} {lo hi : Option Int} {c : Nat} (h : c ∈ (cutS z lo hi).cps.toList) : c ∈ z.cps.toList := by
 unfold cutS at h
 exact List.mem_of_mem_drop (List.mem_of_mem_take (by simpa using h))
theorem cxOf_K {CX : CXT} {P : Program} {w : World} {K : PySem.W.Frag} {mg : Str → Option Value} {base : Heap} {N : List Str} {qual : Str} {scope : Scope} {f : Addr} {cd : Value} {A : Around} {outer : List Env} {s : Shared} {H : Hp} {E : XK} : (cxOf CX P w K mg base N qual scope f cd A outer s H E).K = K := rfl
theorem nox_K {X : Cx} : X.nox.K = X.K := rfl
end L2
namespace L2
open PySem PySem.Spec PyProof.Rows
theorem slen (z : Str) : z.length = z.cps.toList.length := len_list z
inductive CsOk : List Expr → List V → Prop where
 | nil : CsOk [] []
 | str {x : Str} {j : Nat} {pos : Pos} {es : List Expr} {vs : List V} (h : CsOk es vs) : CsOk (.Constant (.str x) j pos :: es) (.str x :: vs)
 | int {i : Int} {j : Nat} {pos : Pos} {es : List Expr} {vs : List V} (h : CsOk es vs) : CsOk (.Constant (.int i) j pos :: es) (.int i :: vs)
def tVals (vs : List V) : TA := fun _ H Q => Q vs H
theorem pa_const {X : Cx} {es : List Expr} {vs : List V} (h : CsOk es vs) : PA X es (tVals vs) := by
 induction h with
 | nil => exact pa_nil
 | str _ ih => exact pa_cons pe_str ih
 | int _ ih => exact pa_cons pe_int ih
end L2
namespace L2
open PySem PySem.Spec PyProof.Rows
def ForW (g : TG) (tb : TS) (D : Ends) (J : It) (σ : St) (H1 : Hp) : Prop := ∃ W : Nat → Nat → St → Hp → Prop, (∃ m, W 0 m σ H1) ∧ ∀ i m σ H, W i m σ H →
 (J.stop i H ∧ D.nx σ H) ∨ (J.go i H ∧ ∃ N : St → Hp → Prop, (∀ σ' H', N σ' H' → ∃ m', m' < m ∧ W (i + 1) m' σ' H') ∧ ∀ x H', J.yld i H x H' → g x σ H' fun σ2 H2 => tb { D with nx := N, ct := N, bk := D.nx } σ2 H2)
theorem tFor_eq (wi : TI) (g : TG) (tb : TS) (D : Ends) (σ : St) (H : Hp) : tFor wi g tb D σ H = wi σ H fun J H1 => ForW g tb D J σ H1 := rfl
section
variable {K : PySem.W.Frag} {a : Addr} {xs : List V} {g : TG} {tb : TS} {D : Ends} {σ : St} {H : Hp}
theorem forW_list (Pv : Nat → St → Hp → Prop) (h0 : Pv 0 σ H) (hl : ∀ i σ H, i ≤ xs.length → Pv i σ H → SqL K H a xs)
  (hs : ∀ i x σ H, xs[i]? = some x → Pv i σ H → g x σ H fun σ2 H2 => tb { D with nx := Pv (i + 1), ct := Pv (i + 1), bk := D.nx } σ2 H2) (hd : ∀ σ H, Pv xs.length σ H → D.nx σ H) : ForW g tb D (Itl K a) σ H := for_list Pv h0 hl hs hd
theorem forW_tup (Pv : Nat → St → Hp → Prop) (h0 : Pv 0 σ H) (hl : ∀ i σ H, i ≤ xs.length → Pv i σ H → SqT K H a xs)
  (hs : ∀ i x σ H, xs[i]? = some x → Pv i σ H → g x σ H fun σ2 H2 => tb { D with nx := Pv (i + 1), ct := Pv (i + 1), bk := D.nx } σ2 H2) (hd : ∀ σ H, Pv xs.length σ H → D.nx σ H) : ForW g tb D (Itt K a) σ H := for_tup Pv h0 hl hs hd
theorem forW_range {lo : Int} {n : Nat} (Pv : Nat → St → Hp → Prop) (h0 : Pv 0 σ H)
  (hs : ∀ i σ H, i < n → Pv i σ H → g (.int (lo + i)) σ H fun σ2 H2 => tb { D with nx := Pv (i + 1), ct := Pv (i + 1), bk := D.nx } σ2 H2) (hd : ∀ σ H, Pv n σ H → D.nx σ H) : ForW g tb D (Itr lo n) σ H := for_range Pv h0 hs hd
end
end L2
namespace Pc
open PySem PySem.Spec L2 PyProof.Rows
noncomputable abbrev letS : Str := "abcdefghijklmnopqrstuvwxyz"
noncomputable abbrev figS : Str := "0123456789"
noncomputable def keptV : List V := [.str "add", .str "sub", .str "mul", .str "neg", .str "any", .str "var", .str "put", .str "load", .str "out"]
noncomputable def madeB (z y : Str) : Bool := z.cps.toList.all fun c => decide (c ∈ y.cps.toList)
noncomputable def nameB (z : Str) : Bool := decide (1 ≤ z.length) && (decide (z.length ≤ 8) && (madeB z letS && !inV (.str z) keptV))
noncomputable def figL (l : List Nat) : List Nat := if l.head? = some 45 then l.tail else l
noncomputable def numB (z : Str) : Bool := decide (1 ≤ (figL z.cps.toList).length) && (decide ((figL z.cps.toList).length ≤ 60) && (((figL z.cps.toList).all fun c => decide (c ∈ figS.cps.toList)) && (decide (z.cps.toList = [48]) || decide ((figL z.cps.toList).head? ≠ some 48))))
def spMade : Sp := fun vs H Q _ => ∃ z y, vs = [.str z, .str y] ∧ z.length ≤ 1000 ∧ ∀ H', Same H H' → Q (.bl (madeB z y)) H'
def spName : Sp := fun vs H Q _ => ∃ z, vs = [.str z] ∧ z.length ≤ 1000 ∧ ∀ H', Same H H' → Q (.bl (nameB z)) H'
def spNum : Sp := fun vs H Q _ => ∃ z, vs = [.str z] ∧ z.length ≤ 1000 ∧ ∀ H', Same H H' → Q (.bl (numB z)) H'
theorem big {n : Nat} (h : n ≤ 1000) : n ≤ sizeLine := Nat.le_trans h (by decide)
theorem at0 (l : List Nat) (h : l ≠ []) : ∃ c, atI l 0 = some c ∧ l.head? = some c := by
 cases l with
 | nil => exact absurd rfl h
 | cons a r => exact ⟨a, atI_nat (xs := a :: r) (j := 0) rfl, rfl⟩
theorem one_null (c : Nat) : ((⟨#[c]⟩ : Str) = ("0" : Str)) ↔ c = 48 := by
 rw [nullS, str_eq]
 show [c] = [48] ↔ c = 48
 simp
theorem fig_len (z f : Str) (hf : f.cps.toList = figL z.cps.toList) : f.length = (figL z.cps.toList).length := by rw [slen, hf]
theorem atI_in {α : Type} (l : List α) (k : Int) (h0 : 0 ≤ k) (h1 : k < (l.length : Int)) : ∃ c, atI l k = some c ∧ c ∈ l := by
 have hk : k.toNat < l.length := by omega
 have e : k = ((k.toNat : Nat) : Int) := by omega
 have q : atI l ((k.toNat : Nat) : Int) = some l[k.toNat] := atI_nat (List.getElem?_eq_getElem hk)
 rw [← e] at q
 exact ⟨_, q, List.getElem_mem hk⟩
theorem join_le (sep : Str) (ys : List Str) : (Txt.join sep ys).length ≤ (ys.map (·.length)).sum + ys.length * sep.length := by
 show (Builtin.Str.glued sep ys).length ≤ _
 rw [StrLaws.glued_eq_join]
 exact StrLaws.join_length_le sep ys
theorem sum_ones : ∀ (ys : List Str), (∀ z ∈ ys, z.length = 1) → (ys.map (·.length)).sum = ys.length
 | [], _ => rfl
 | y :: r, h => by
  rw [List.map_cons, List.sum_cons, h y List.mem_cons_self, sum_ones r fun z hz => h z (List.mem_cons_of_mem _ hz), List.length_cons]
  omega
def Ones (i : Nat) (ys : List V) : Prop := ∃ zs : List Str, ys = zs.map V.str ∧ zs.length = i ∧ ∀ z ∈ zs, z.length = 1
theorem Ones.zero : Ones 0 [] := ⟨[], rfl, rfl, fun _ h => nomatch h⟩
theorem Ones.more {i : Nat} {ys : List V} (h : Ones i ys) (c : Nat) : Ones (i + 1) (ys ++ [.str ⟨#[c]⟩]) := by
 obtain ⟨zs, rfl, rfl, h1⟩ := h
 refine ⟨zs ++ [⟨#[c]⟩], by rw [List.map_append]; rfl, by rw [List.length_append, List.length_singleton], fun z hz => ?_⟩
 rcases List.mem_append.mp hz with h | h
 ·exact h1 z h
 ·rw [List.mem_singleton.mp h]; rfl
theorem cut_sum (z : Str) (a : Int) : (cutS z none (some a)).length + (cutS z (some a) none).length ≤ z.length := by
 show ((z.cps.toList.drop 0).take (HT.sIx z.length z.length (some a) - 0)).toArray.size + ((z.cps.toList.drop (HT.sIx z.length 0 (some a))).take (z.length - HT.sIx z.length 0 (some a))).toArray.size ≤ z.length
 have e : HT.sIx z.length z.length (some a) = HT.sIx z.length 0 (some a) := rfl
 rw [e]
 generalize HT.sIx z.length 0 (some a) = k
 have hl := slen z
 simp only [List.size_toArray, List.length_take, List.length_drop]
 omega
def Txts (xs : List V) : Prop := ∀ v ∈ xs, ∃ z : Str, v = .str z ∧ z.length ≤ 1000
theorem Txts.app {xs ys : List V} (h : Txts xs) (g : Txts ys) : Txts (xs ++ ys) := fun v hv => (List.mem_append.mp hv).elim (h v) (g v)
theorem Txts.snoc {xs : List V} {z : Str} (h : Txts xs) (g : z.length ≤ 1000) : Txts (xs ++ [.str z]) := h.app fun v hv => ⟨z, List.mem_singleton.mp hv, g⟩
theorem one_len (x : Nat) : (⟨#[x]⟩ : Str).length = 1 := rfl
theorem num_fin (z f : Str) (hf : f.cps.toList = figL z.cps.toList) (hfl : f.length ≤ 1000) {Q : VK} {H : Hp} (q : ∀ H', Same H H' → Q (.bl (numB z)) H') :
  f.length ≤ sizeLine ∧ if (f.length : Int) < 1 then Q (.bl false) H else f.length ≤ sizeLine ∧ if 60 < (f.length : Int) then Q (.bl false) H else f.length ≤ 1000 ∧ ∀ H', Same H H' →
   if (!madeB f figS) = true then Q (.bl false) H' else if z = ("0" : Str) then Q (.bl true) H' else f.length ≤ sizeLine ∧ ∃ x, atI f.cps.toList 0 = some x ∧ Q (.bl !decide ((⟨#[x]⟩ : Str) = ("0" : Str))) H' := by
 have el := fig_len z f hf
 refine ⟨big hfl, ite2 (fun c => ?_) fun c => ⟨big hfl, ite2 (fun c2 => ?_) fun c2 => ⟨hfl, fun H' hS => ite2 (fun c3 => ?_) fun c3 => ite2 (fun c4 => ?_) fun c4 => ⟨big hfl, ?_⟩⟩⟩⟩
 ·have e : numB z = false := by unfold numB; rw [decide_eq_false (by omega)]; rfl
  exact e ▸ q H (Same.refl H)
 ·have e : numB z = false := by unfold numB; rw [decide_eq_false (show ¬ (figL z.cps.toList).length ≤ 60 by omega)]; simp
  exact e ▸ q H (Same.refl H)
 ·have e : numB z = false := by
   unfold madeB at c3
   unfold numB
   rw [← hf]
   rw [Bool.not_eq_true'] at c3
   rw [c3]
   simp
  exact e ▸ q H' hS
 all_goals
  have c3' : ((figL z.cps.toList).all fun c => decide (c ∈ figS.cps.toList)) = true := by
   unfold madeB at c3
   rw [hf] at c3
   simpa using c3
 ·have e : numB z = true := by
   unfold numB
   rw [c3', decide_eq_true (show 1 ≤ (figL z.cps.toList).length by omega), decide_eq_true (show (figL z.cps.toList).length ≤ 60 by omega), decide_eq_true (show z.cps.toList = [48] by rw [c4, nullS])]
   rfl
  exact e ▸ q H' hS
 ·obtain ⟨x, h1, h2⟩ := at0 f.cps.toList (by intro h; rw [hf] at h; rw [el, h] at c; simp at c)
  refine ⟨x, h1, ?_⟩
  have e : numB z = !decide ((⟨#[x]⟩ : Str) = ("0" : Str)) := by
   unfold numB
   have n1 : ¬ z.cps.toList = [48] := fun h => c4 (str_eq.mpr (by rw [h, nullS]))
   rw [c3', decide_eq_true (show 1 ≤ (figL z.cps.toList).length by omega), decide_eq_true (show (figL z.cps.toList).length ≤ 60 by omega), decide_eq_false n1, ← hf, h2]
   simp only [Bool.true_and, Bool.false_or]
   rw [← decide_not]
   apply decide_eq_decide.mpr
   rw [one_null]
   simp
  exact e ▸ q H' hS
end Pc
namespace L2
open PySem PySem.Spec PyProof.Rows Builtin Builtin.Str
def ModD (w : World) (K : PySem.W.Frag) (a : Addr) (kvs : List (Key × V)) : Prop :=
 (a == sysModules) = false ∧ ∀ (P : Program) (h : Heap), K.In h → ∃ vs, KV kvs vs ∧ h.DictOf (mixKind P w) a vs
abbrev SIRow := Int × Str × Tok × Int × Tok
noncomputable def siE (e : SIRow) : DictEntry := ⟨e.1, .str e.2.1 e.2.2.1, .int e.2.2.2.1 e.2.2.2.2⟩
theorem si_pairs (P : Program) (w : World) : ∀ es : List SIRow, Pairs (mixKind P w) (es.map siE) (es.map fun e => ((Sum.inr e.2.1 : Key), Value.int e.2.2.2.1 e.2.2.2.2))
 | [] => .nil
 | e :: r => .cons (mixKind_str P w e.2.1 e.2.2.1) rfl (si_pairs P w r)
theorem si_kv : ∀ es : List SIRow, KV (es.map fun e => ((Sum.inr e.2.1 : Key), V.int e.2.2.2.1)) (es.map fun e => ((Sum.inr e.2.1 : Key), Value.int e.2.2.2.1 e.2.2.2.2))
 | [] => .nil
 | e :: r => .cons ⟨rfl, ⟨_, rfl⟩⟩ (si_kv r)
theorem modD_mk {w : World} {K : PySem.W.Frag} {a : Addr} {ep : Nat} (es : List SIRow) (hl : K.lookup a = some ⟨.type "dict", none, .dict (es.map siE).toArray ep, #[]⟩) (ha : (a == sysModules) = false)
  (hh : ∀ e ∈ es, e.1 = hashStr w e.2.1) (nd : (es.map fun e => (Sum.inr e.2.1 : Key)).Nodup) : ModD w K a (es.map fun e => (Sum.inr e.2.1, V.int e.2.2.2.1)) := by
 refine ⟨ha, fun P h hk => ⟨_, si_kv es, _, _, ep, hk a _ hl, ⟨rfl, rfl, rfl⟩, rfl, fun e he => ?_, by simpa using si_pairs P w es, ?_⟩⟩
 ·have he' : e ∈ es.map siE := List.mem_toArray.mp he
  obtain ⟨r, hr, rfl⟩ := List.mem_map.mp he'
  exact ⟨Sum.inr r.2.1, mixKind_str P w r.2.1 r.2.2.1, hh r hr⟩
 ·rw [List.map_map]
  exact nd
section
variable {X : Cx} {a : Addr} {kvs : List (Key × V)}
theorem op_in_mod (md : ModD X.w X.K a kvs) : OpR X (compareOp .In) (fun x y H Q => ∃ k, x = kV k ∧ y = .ref a ∧ Q (.bl (valV kvs k).isSome) H) := by
 intro pins s σ H x y v u Q I rx ry h
 obtain ⟨k, rfl, rfl, q⟩ := h
 cases (show u = Value.ref a from ry)
 obtain ⟨vs, rel, dd⟩ := md.2 X.prog _ I.kIn
 refine wpAny_in_of (kV_is rx) md.1 dd.mapOf ?_
 rw [← (rel.val k).isSome_eq]
 exact ⟨.bl _, H, I.tok _, rfl, q⟩
def tMGet2 (kvs : List (Key × V)) (ty tx : TE) : TE := fun σ H Q => ty σ H fun y H2 => tx σ H2 fun z H3 => ∃ k, y = kV k ∧ Q ((valV kvs k).getD z) H3
theorem pe_mget2 {o e f : Expr} {apos cpos : Pos} {ty tx : TE} (ho : PE X o (tC (.ref a))) (md : ModD X.w X.K a kvs) (he : PE X e ty) (hf : PE X f tx) (m : M2 X o "get" apos e f cpos) : PE X (.Call (.Attribute o "get" apos) [e, f] [] cpos) (tMGet2 kvs ty tx) := by
 intro pins s σ H Q I h
 refine wpAny_Call_method m.base m.few m.line PySem.F.plainAttrs_dict PySem.F.slot_dict_get PySem.F.type_dict_get (thn (ho pins s σ H (fun x H1 => x = .ref a ∧ H1 = H) I ⟨rfl, rfl⟩) fun u s1 ⟨x, H1, I1, rx, ex, eH⟩ => ?_)
 subst ex eH
 obtain rfl : u = Value.ref a := rx
 obtain ⟨vs, rel, dd⟩ := md.2 X.prog _ I1.kIn
 refine ⟨dd.typeIs, fun b q => ?_, ?_⟩
 ·cases q
  obtain ⟨ob, _, _, h1, h2, _⟩ := dd
  exact ⟨ob, h1, h2.2.1⟩
 rw [m.trees]
 refine Calls.callWith_builtin rfl (Calls.evalArgs_plain (Calls.spliced_cons (thn (he pins s1 σ H1 _ I1 h) fun iv s2 ⟨y, H2, I2, ry, q2⟩ =>
  Calls.spliced_cons (thn (hf pins s2 σ H2 _ I2 q2) fun fv s3 ⟨z, H3, I3, rz, k, ek, q3⟩ => Calls.spliced_nil ?_))))
 subst ek
 obtain ⟨vs', rel', dd'⟩ := md.2 X.prog _ I3.kIn
 refine call_meetsIn PySem.F.slot_dict_get dd'.typeIs PySem.F.entry_dict_get (PySem.F.args_dict_get_3 _ _ _) (meets_dict_get_default (mixKind X.prog X.w) a (kV_is ry) md.1 fv) ⟨_, dd'.mapOf, ⟨_, H3, I3.tok _, ?_, q3⟩⟩
 exact (rel'.val k).getD rz
theorem call_sum_list (hc : X.calm = true) : CallR X (.builtin "sum") (fun xs H Q => ∃ p ns, xs = [.ref p] ∧ SqL X.K H p (List.map V.int ns) ∧ Q (.int ns.sum) H) := by
 intro pins s σ H xs us Q I r h
 obtain ⟨p, ns, rfl, hq, q⟩ := h
 obtain ⟨u, rfl, rx⟩ := vals1 r
 cases rx
 obtain ⟨its, rv, pl, hz⟩ := I.list hq
 have hi : IntsAre its ns := L2.intsAre_of rv
 obtain ⟨ys, hy⟩ := hi.allInts.items
 refine sum_intListG (I.ok.hd hc) (by rw [← hy]; exact pl.isList) fun h' tk t' hk => ⟨.int ns.sum, H, I.kept hk, ⟨t', ?_⟩, q⟩
 have e : ys.toList.map (·.1) = ns := by
  rw [← nums_intItems, ← hy]
  exact hi.numsOf
 rw [preSum_eq, List.take_of_length_le (by simp), e]
noncomputable def textV : V → Str
 | .str z => z
 | .int i => (toString i : String)
 | _ => Str.empty
def wordV : V → Prop
 | .str _ => True
 | .int i => i.natAbs.log2 < 1920
 | _ => False
theorem call_str_any : CallR X (.type "str") (fun xs H Q => ∃ x, xs = [x] ∧ wordV x ∧ Q (.str (textV x)) H) := by
 intro pins s σ H xs us Q I r h
 obtain ⟨x, rfl, hw, q⟩ := h
 obtain ⟨u, rfl, rx⟩ := vals1 r
 cases x with
 | str z => obtain ⟨t, rfl⟩ := rx; exact PySem.P.str_of_str ⟨.str z, H, I, ⟨t, rfl⟩, q⟩
 | int i => obtain ⟨t, rfl⟩ := rx; exact PySem.P.str_of_int hw ⟨.str _, H, I.tok _, ⟨_, rfl⟩, q⟩
 | _ => exact hw.elim
theorem call_int_str : CallR X (.type "int") (fun xs H Q => ∃ z n, xs = [.str z] ∧ PySem.intText? z = some n ∧ z.length ≤ 640 ∧ Q (.int n) H) := by
 intro pins s σ H xs us Q I r h
 obtain ⟨z, n, rfl, hn, hl, q⟩ := h
 obtain ⟨u, rfl, rx⟩ := vals1 r
 obtain ⟨t, rfl⟩ := rx
 exact PySem.W.KIN.call_text hn hl ⟨.int n, H, I.tok _, ⟨_, rfl⟩, q⟩
theorem split_at {prog : Program} {w : World} {A : Around} {E : Value → Shared → Prop} {s : Shared} {x y : Str} {t u : Tok} {Q : Value → Shared → Prop} (hy : (y.length == 0) = false) (hx : x.length ≤ 1000000)
  (hq : ∀ (l : List (Str × Tok)) (k : Nat), l.map (·.1) = Txt.split x y → Q (.ref s.heap.objs.size) { s with heap := s.heap.push { cls := .type "list", data := .seq (strValues l).toArray }, toks := k }) :
  wpAny (model prog w) A (call (.builtin "str.split") [.str x t, .str y u]) Q E s := by
 have hz := sizeLine_eq
 cases h1 : (decide (x.length < y.length) || decide (Builtin.Str.strKind x < Builtin.Str.strKind y))
 ·cases hf : (occurrences x y 0 x.length (x.length + 1)).isEmpty
  ·refine call_meets F.slot_str_split (typeIs_str _ _ _) F.entry_str_split (F.args_str_split_2 _ _) (meets_str_split_sep x y t u h1 hy hf (by omega) ?_) ?_
   ·rw [length_partsBetween]
    have := StrLaws.occ_length_le x y 0 x.length (x.length + 1)
    omega
   show wants Q E _ { s with toks := _, heap := s.heap.push { cls := .type "list", data := .seq (strsFrom s.toks (partsBetween x (occurrences x y 0 x.length (x.length + 1)) y.length)).toArray } }
   rw [strsFrom_eq]
   exact hq (numbered s.toks _) _ ((numbered_texts _ _).trans ((if_neg (ne_true_of_eq_false h1)).trans (if_neg (ne_true_of_eq_false hf))).symm)
  ·exact call_meets F.slot_str_split (typeIs_str _ _ _) F.entry_str_split (F.args_str_split_2 _ _) (meets_str_split_not_found x y t u h1 hy hf)
    (hq [(x, t)] _ ((if_neg (ne_true_of_eq_false h1)).trans (if_pos hf)).symm)
 ·exact call_meets F.slot_str_split (typeIs_str _ _ _) F.entry_str_split (F.args_str_split_2 _ _) (meets_str_split_cannot_occur x y t u h1)
   (hq [(x, t)] _ (if_pos h1).symm)
theorem vals_strs : ∀ l : List (Str × Tok), Vals ((l.map (·.1)).map V.str) (strValues l)
 | [] => .nil
 | (x, t) :: r => .cons ⟨t, rfl⟩ (vals_strs r)
theorem split_len (x y : Str) : (Txt.split x y).length ≤ x.length + 2 := by
 unfold Txt.split
 split
 ·show 1 ≤ _; omega
 ·split
  ·show 1 ≤ _; omega
  ·rw [length_partsBetween]
   have := StrLaws.occ_length_le x y 0 x.length (x.length + 1)
   omega
theorem mt_split : MtR X "str.split" (fun x xs H Q => ∃ z y, x = .str z ∧ xs = [.str y] ∧ (y.length == 0) = false ∧ z.length ≤ 1000000 ∧ ∀ p, H p = none → Q (.ref p) (upd H p (.lst ((Txt.split z y).map V.str)))) := by
 intro pins s σ H x xs v us Q I rx rv h
 obtain ⟨z, y, rfl, rfl, hy, hz, q⟩ := h
 obtain ⟨t, rfl⟩ := rx
 obtain ⟨u, rfl, ru⟩ := rv.one
 obtain ⟨t', rfl⟩ := ru
 refine split_at hy hz fun l k hl => ?_
 have hs := sizeLine_eq
 have hn := split_len z y
 refine ⟨.ref s.heap.objs.size, _, I.lnew (t' := k) (ys := (Txt.split z y).map V.str) (by rw [← hl]; exact vals_strs l) (by rw [List.length_map]; omega), rfl, q _ I.fresh⟩
end
end L2
namespace L2
open PySem PySem.Spec PyProof.Rows
section
variable {X : Cx} (K : PySem.W.Frag) (hK : X.K = K)
include hK
theorem ix_listK : IxR X (rIxL K) := by subst hK; exact ix_list
theorem ix_tupK : IxR X (rIxT K) := by subst hK; exact ix_tup
end
end L2
namespace L2
open PySem PySem.Spec PyProof.Rows
def tMid (t u : TS) : TS := fun D σ H => ∃ M : St → Hp → Prop, t { D with nx := M } σ H ∧ ∀ σ' H', M σ' H' → u D σ' H'
theorem tMid_of {t u : TS} {D : Ends} {σ : St} {H : Hp} (M : St → Hp → Prop) (h1 : t { D with nx := M } σ H) (h2 : ∀ σ' H', M σ' H' → u D σ' H') : tMid t u D σ H := ⟨M, h1, h2⟩
section
variable {X : Cx} {st : Stmt} {rest : List Stmt} {t u : TS}
theorem pss_mid (h1 : PS X st t) (h2 : PSs X rest u) : PSs X (st :: rest) (tMid t u) := by
 intro pins s σ H D I h
 obtain ⟨M, h, hM⟩ := h
 refine wpAny_execs_cons (thn (h1 pins s σ H { D with nx := M } I h) fun f s1 q => ?_)
 cases f with
 | next =>
  obtain ⟨σ', H', I', q⟩ := q
  exact h2 pins s1 σ' H' D I' (hM σ' H' q)
 | ret v => exact q
 | brk => exact q
 | cont => exact q
end
theorem tyV_str {K : PySem.W.Frag} {z : Str} {H : Hp} : tyV K "str" (.str z) H = True := eq_true rfl
theorem tyV_list {K : PySem.W.Frag} {a : Addr} {xs : List V} {H : Hp} (h : H a = some (.lst xs)) : tyV K "list" (.ref a) H := .inl ⟨rfl, xs, SqL.of h⟩
theorem tyV_dict {K : PySem.W.Frag} {a : Addr} {kvs : List (Key × V)} {H : Hp} (h : H a = some (.dK kvs)) : tyV K "dict" (.ref a) H := .inr (.inr (.inl ⟨rfl, .inl ⟨kvs, h⟩⟩))
theorem rIxT_ok {K : PySem.W.Frag} {H : Hp} {t : Addr} {xs : List V} {i : Int} {v : V} {Q : VK} (h : H t = some (.tup xs)) (hv : atI xs i = some v) (q : Q v H) : rIxT K (.ref t) (.int i) H Q := ⟨t, xs, i, v, rfl, rfl, SqT.of h, hv, q⟩
theorem rIxL_ok {K : PySem.W.Frag} {H : Hp} {t : Addr} {xs : List V} {i : Int} {v : V} {Q : VK} (h : H t = some (.lst xs)) (hv : atI xs i = some v) (q : Q v H) : rIxL K (.ref t) (.int i) H Q := ⟨t, xs, i, v, rfl, rfl, SqL.of h, hv, q⟩
theorem rCat_ok {H : Hp} {a b : Addr} {xs ys : List V} {Q : VK} (h1 : H a = some (.lst xs)) (h2 : H b = some (.lst ys)) (hz : xs.length + ys.length ≤ sizeLine) (q : ∀ p, H p = none → Q (.ref p) (upd H p (.lst (xs ++ ys)))) : rCat (.ref a) (.ref b) H Q := ⟨a, b, xs, ys, rfl, rfl, h1, h2, hz, q⟩
theorem append_ok {K : PySem.W.Frag} {H : Hp} {l : Addr} {xs : List V} {y : V} {Q : VK} (h : H l = some (.lst xs)) (hz : xs.length < sizeLine) (q : Q .non (upd H l (.lst (xs ++ [y])))) : tyV K "list" (.ref l) H ∧ rAppend (.ref l) [y] H Q :=
 ⟨tyV_list h, l, xs, y, rfl, rfl, h, hz, q⟩
end L2
namespace Pc
noncomputable def pend : Nat → List Nat → Option Nat
 | l, [] => some l
 | 0, _ :: _ => none
 | l + 1, a :: r => pend (l + a) r
end Pc
namespace Pc
noncomputable def joinL (c : Nat) : List (List Nat) → List Nat
 | [] => []
 | [x] => x
 | x :: y :: r => x ++ c :: joinL c (y :: r)
theorem cut_eq {c : Nat} : ∀ {x x' r r' : List Nat}, c ∉ x → c ∉ x' → x ++ c :: r = x' ++ c :: r' → x = x' ∧ r = r'
 | [], [], r, r', _, _, h => ⟨rfl, by simpa using h⟩
 | [], a :: x', r, r', _, h2, h => by
  have : c = a := by simpa using congrArg List.head? h
  exact absurd (by rw [this]; exact List.mem_cons_self) h2
 | a :: x, [], r, r', h1, _, h => by
  have : a = c := by simpa using congrArg List.head? h
  exact absurd (by rw [this]; exact List.mem_cons_self) h1
 | a :: x, b :: x', r, r', h1, h2, h => by
  have e : a = b ∧ x ++ c :: r = x' ++ c :: r' := by simpa using h
  obtain ⟨e1, e2⟩ := cut_eq (fun m => h1 (List.mem_cons_of_mem _ m)) (fun m => h2 (List.mem_cons_of_mem _ m)) e.2
  exact ⟨by rw [e.1, e1], e2⟩
theorem joinL_inj {c : Nat} : ∀ {xs ys : List (List Nat)}, xs ≠ [] → ys ≠ [] → (∀ x ∈ xs, c ∉ x) → (∀ y ∈ ys, c ∉ y) → joinL c xs = joinL c ys → xs = ys
 | [], _, h, _, _, _, _ => absurd rfl h
 | _ :: _, [], _, h, _, _, _ => absurd rfl h
 | [x], [y], _, _, _, _, h => by rw [show x = y from h]
 | [x], y :: z :: r, _, _, h1, _, h => by
  have h : x = y ++ c :: joinL c (z :: r) := h
  exact absurd (by rw [h]; simp) (h1 x List.mem_cons_self)
 | x :: z :: r, [y], _, _, _, h2, h => by
  have h : x ++ c :: joinL c (z :: r) = y := h
  exact absurd (by rw [← h]; simp) (h2 y List.mem_cons_self)
 | x :: z :: r, y :: z' :: r', _, _, h1, h2, h => by
  obtain ⟨e1, e2⟩ := cut_eq (h1 x List.mem_cons_self) (h2 y List.mem_cons_self) h
  have e3 := joinL_inj (xs := z :: r) (ys := z' :: r') (by simp) (by simp) (fun x hx => h1 x (List.mem_cons_of_mem _ hx)) (fun x hx => h2 x (List.mem_cons_of_mem _ hx)) e2
  rw [e1, e3]
end Pc
namespace Pc
open PySem PySem.Spec L2 PyProof.Rows
noncomputable abbrev parts : List (Key × V) := [(Sum.inr "add", .int 2), (Sum.inr "sub", .int 2), (Sum.inr "mul", .int 2), (Sum.inr "neg", .int 1)]
noncomputable def arS (z : Str) : Nat := if z = "add" then 2 else if z = "sub" then 2 else if z = "mul" then 2 else if z = "neg" then 1 else 0
noncomputable def arV : V → Nat
 | .str z => arS z
 | _ => 0
def isW (v : V) : Prop := ∃ k : Key, v = kV k
theorem isW.str (z : Str) : isW (.str z) := ⟨Sum.inr z, rfl⟩
theorem isW.int (i : Int) : isW (.int i) := ⟨Sum.inl i, rfl⟩
theorem val_parts (k : Key) : (valV parts k).getD (.int 0) = .int (arV (kV k)) := by
 cases k with
 | inl i => rfl
 | inr z =>
  show (valV parts (Sum.inr z)).getD (.int 0) = .int (arS z)
  unfold arS
  by_cases h1 : z = "add"
  ·subst h1; rw [valV_pos rfl, if_pos rfl]; rfl
  rw [valV_neg (fun e => h1 (Sum.inr.inj e).symm), if_neg h1]
  by_cases h2 : z = "sub"
  ·subst h2; rw [valV_pos rfl, if_pos rfl]; rfl
  rw [valV_neg (fun e => h2 (Sum.inr.inj e).symm), if_neg h2]
  by_cases h3 : z = "mul"
  ·subst h3; rw [valV_pos rfl, if_pos rfl]; rfl
  rw [valV_neg (fun e => h3 (Sum.inr.inj e).symm), if_neg h3]
  by_cases h4 : z = "neg"
  ·subst h4; rw [valV_pos rfl, if_pos rfl]; rfl
  rw [valV_neg (fun e => h4 (Sum.inr.inj e).symm), if_neg h4]
  rfl
theorem in_parts (z : Str) : (valV parts (Sum.inr z)).isSome = decide (0 < arS z) := by
 unfold arS
 by_cases h1 : z = "add"
 ·subst h1; rw [valV_pos rfl, if_pos rfl]; rfl
 rw [valV_neg (fun e => h1 (Sum.inr.inj e).symm), if_neg h1]
 by_cases h2 : z = "sub"
 ·subst h2; rw [valV_pos rfl, if_pos rfl]; rfl
 rw [valV_neg (fun e => h2 (Sum.inr.inj e).symm), if_neg h2]
 by_cases h3 : z = "mul"
 ·subst h3; rw [valV_pos rfl, if_pos rfl]; rfl
 rw [valV_neg (fun e => h3 (Sum.inr.inj e).symm), if_neg h3]
 by_cases h4 : z = "neg"
 ·subst h4; rw [valV_pos rfl, if_pos rfl]; rfl
 rw [valV_neg (fun e => h4 (Sum.inr.inj e).symm), if_neg h4]
 rfl
theorem arS_cases {z : Str} (h : 0 < arS z) : z = "add" ∨ z = "sub" ∨ z = "mul" ∨ z = "neg" := by
 unfold arS at h
 by_cases h1 : z = "add"
 ·exact .inl h1
 by_cases h2 : z = "sub"
 ·exact .inr (.inl h2)
 by_cases h3 : z = "mul"
 ·exact .inr (.inr (.inl h3))
 by_cases h4 : z = "neg"
 ·exact .inr (.inr (.inr h4))
 rw [if_neg h1, if_neg h2, if_neg h3, if_neg h4] at h
 exact absurd h (by decide)
theorem toDigits_len : ∀ (n m : Nat), m < 10 ^ (n + 1) → (Nat.toDigits 10 m).length ≤ n + 1
 | 0, m, h => by rw [Nat.toDigits_of_lt_base (by simpa using h)]; exact Nat.le_refl _
 | n + 1, m, h => by
  by_cases hm : m < 10
  ·rw [Nat.toDigits_of_lt_base hm]
   show 1 ≤ _
   omega
  have hr : m % 10 < 10 := Nat.mod_lt m (by decide)
  have t : Nat.toDigits 10 (m / 10) ++ Nat.toDigits 10 (m % 10) = Nat.toDigits 10 (10 * (m / 10) + m % 10) := Nat.toDigits_append_toDigits (by decide) (by omega) hr
  rw [Nat.div_add_mod] at t
  have ih := toDigits_len n (m / 10) (by rw [Nat.pow_succ] at h; omega)
  rw [← t, List.length_append, Nat.toDigits_of_lt_base hr]
  show _ + 1 ≤ _
  omega
theorem digitChar_ne : ∀ d : Nat, 0 < d → d < 10 → (Nat.digitChar d).toNat ≠ 48 := by
 intro d h1 h2
 have : d = 1 ∨ d = 2 ∨ d = 3 ∨ d = 4 ∨ d = 5 ∨ d = 6 ∨ d = 7 ∨ d = 8 ∨ d = 9 := by omega
 rcases this with rfl | rfl | rfl | rfl | rfl | rfl | rfl | rfl | rfl <;> decide
theorem toDigits_head (m : Nat) : 0 < m → ∃ c r, (Nat.toDigits 10 m).map Char.toNat = c :: r ∧ c ≠ 48 := by
 induction m using Nat.strongRecOn with
 | _ m ih =>
  intro h0
  by_cases h : m < 10
  ·rw [Nat.toDigits_of_lt_base h]
   exact ⟨_, _, rfl, digitChar_ne m h0 h⟩
  ·have hm : m % 10 < 10 := Nat.mod_lt m (by decide)
   have t : Nat.toDigits 10 (m / 10) ++ Nat.toDigits 10 (m % 10) = Nat.toDigits 10 (10 * (m / 10) + m % 10) := Nat.toDigits_append_toDigits (by decide) (by omega) hm
   rw [Nat.div_add_mod] at t
   obtain ⟨c, r, e, hc⟩ := ih (m / 10) (by omega) (by omega)
   rw [← t, List.map_append, e]
   exact ⟨c, _, rfl, hc⟩
noncomputable def digs (m : Nat) : List Nat := (Nat.toDigits 10 m).map Char.toNat
theorem digs_digit (m : Nat) : NumText.AllDigits (digs m) := by
 intro c hc
 obtain ⟨ch, hch, e⟩ := List.mem_map.mp hc
 have r := PyProof.Rows.digit_range (Nat.isDigit_of_mem_toDigits (by decide) (by decide) hch)
 rw [← e]
 exact r
theorem digs_ne (m : Nat) : digs m ≠ [] := by
 unfold digs
 intro e
 have h := PySem.toDigits_len_ge 10 m
 rw [List.map_eq_nil_iff.mp e] at h
 exact absurd h (by decide)
theorem digs_len {m : Nat} (h : m < 10 ^ 60) : (digs m).length ≤ 60 := by
 unfold digs
 rw [List.length_map]
 exact toDigits_len 59 m h
theorem digs_head (m : Nat) : digs m = [48] ∨ ∃ c r, digs m = c :: r ∧ c ≠ 48 := by
 cases m with
 | zero => exact .inl rfl
 | succ m => exact .inr (toDigits_head (m + 1) (Nat.succ_pos m))
theorem text_nat (m : Nat) : (textV (.int (m : Int))).cps.toList = digs m := PySem.W.KIN.signs_num m
theorem text_neg (m : Nat) : (textV (.int (Int.negSucc m))).cps.toList = 45 :: digs (m + 1) := by
 show (Str.ofString (toString (Int.negSucc m))).cps.toList = _
 rw [PyProof.Rows.signs_ofString]
 show ("-" ++ Nat.repr (m + 1)).toList.map Char.toNat = _
 rw [String.toList_append, List.map_append, Nat.toList_repr]
 rfl
theorem mem_fig (c : Nat) : c ∈ figS.cps.toList ↔ (48 ≤ c ∧ c ≤ 57) := by
 have e : figS.cps.toList = [48, 49, 50, 51, 52, 53, 54, 55, 56, 57] := by decide +kernel
 rw [e]
 simp only [List.mem_cons, List.not_mem_nil, or_false]
 omega
theorem mem_let (c : Nat) : c ∈ letS.cps.toList ↔ (97 ≤ c ∧ c ≤ 122) := by
 have e : letS.cps.toList = List.range' 97 26 := by decide +kernel
 rw [e, List.mem_range']
 constructor
 ·rintro ⟨i, h1, h2⟩; omega
 ·intro h; exact ⟨c - 97, by omega, by omega⟩
theorem digs_all (m : Nat) : ((digs m).all fun c => decide (c ∈ figS.cps.toList)) = true := by
 rw [List.all_eq_true]
 intro c hc
 exact decide_eq_true ((mem_fig c).mpr (digs_digit m c hc))
theorem digs_no45 (m : Nat) : (digs m).head? ≠ some 45 := by
 rcases digs_head m with h | ⟨c, r, h, _⟩
 ·rw [h]; decide
 ·rw [h]
  intro e
  have := digs_digit m c (by rw [h]; exact List.mem_cons_self)
  have e' : c = 45 := by simpa using e
  omega
theorem read_nat {m : Nat} (h : m < 10 ^ 60) : numB (textV (.int (m : Int))) = true ∧ PySem.intText? (textV (.int (m : Int))) = some (m : Int) ∧ (textV (.int (m : Int))).length ≤ 61 := by
 have e := text_nat m
 have hl := digs_len h
 have hn := digs_ne m
 refine ⟨?_, ?_, by rw [slen, e]; omega⟩
 ·unfold numB
  rw [e]
  have f : figL (digs m) = digs m := by unfold figL; rw [if_neg (digs_no45 m)]
  rw [f, digs_all, decide_eq_true (show 1 ≤ (digs m).length from List.length_pos_iff.mpr hn), decide_eq_true hl]
  rcases digs_head m with h | ⟨c, r, h, hc⟩
  ·rw [h]; rfl
  ·have : (digs m).head? ≠ some 48 := by rw [h]; intro q; exact hc (by simpa using q)
   rw [decide_eq_true this]
   simp
 ·have q := PySem.intText_digits (x := textV (.int (m : Int))) (by rw [e]; exact digs_digit m) (by rw [e]; exact hn) (by rw [slen, e]; omega)
  rw [e] at q
  rw [q]
  unfold digs
  rw [PySem.W.KIN.val_back]
theorem read_negS {m : Nat} (h : m + 1 < 10 ^ 60) : numB (textV (.int (Int.negSucc m))) = true ∧ PySem.intText? (textV (.int (Int.negSucc m))) = some (Int.negSucc m) ∧ (textV (.int (Int.negSucc m))).length ≤ 61 := by
 have e := text_neg m
 have hl := digs_len h
 have hn := digs_ne (m + 1)
 refine ⟨?_, ?_, by rw [slen, e, List.length_cons]; omega⟩
 ·unfold numB
  rw [e]
  have f : figL (45 :: digs (m + 1)) = digs (m + 1) := by unfold figL; simp
  rw [f, digs_all, decide_eq_true (show 1 ≤ (digs (m + 1)).length from List.length_pos_iff.mpr hn), decide_eq_true hl]
  rcases toDigits_head (m + 1) (Nat.succ_pos m) with ⟨c, r, h, hc⟩
  have : (digs (m + 1)).head? ≠ some 48 := by
   show ((Nat.toDigits 10 (m + 1)).map Char.toNat).head? ≠ some 48
   rw [h]; intro q; exact hc (by simpa using q)
  rw [decide_eq_true this]
  simp
 ·have q := PySem.intText_neg (x := textV (.int (Int.negSucc m))) e (digs_digit _) hn (by rw [slen, e, List.length_cons]; omega)
  rw [q]
  unfold digs
  rw [PySem.W.KIN.val_back]
  rfl
def okW : V → Prop
 | .int i => i.natAbs < 10 ^ 60
 | .str z => nameB z = true ∨ 0 < arS z
 | _ => False
theorem read_int {i : Int} (h : i.natAbs < 10 ^ 60) : numB (textV (.int i)) = true ∧ PySem.intText? (textV (.int i)) = some i ∧ (textV (.int i)).length ≤ 61 := by
 cases i with
 | ofNat m => exact read_nat h
 | negSucc m => exact read_negS h
theorem okW.isW {v : V} (h : okW v) : isW v := by
 cases v with
 | int i => exact isW.int i
 | str z => exact isW.str z
 | _ => exact h.elim
theorem log_small {m : Nat} (h : m < 10 ^ 60) : m.log2 < 1920 := by
 by_cases h0 : m = 0
 ·subst h0; decide
 ·exact (Nat.log2_lt h0).mpr (Nat.lt_of_lt_of_le h (by decide))
theorem okW.word {v : V} (h : okW v) : wordV v := by
 cases v with
 | int i => exact log_small h
 | str z => exact True.intro
 | _ => exact h.elim
theorem name_codes {z : Str} (h : nameB z = true) : z.cps.toList ≠ [] ∧ z.length ≤ 8 ∧ ∀ c ∈ z.cps.toList, 97 ≤ c ∧ c ≤ 122 := by
 unfold nameB madeB at h
 simp only [Bool.and_eq_true, decide_eq_true_eq, List.all_eq_true] at h
 obtain ⟨h1, h2, h3, _⟩ := h
 exact ⟨fun e => by rw [slen, e] at h1; exact absurd h1 (by decide), h2, fun c hc => (mem_let c).mp (h3 c hc)⟩
theorem op_codes {z : Str} (h : 0 < arS z) : z.cps.toList ≠ [] ∧ z.length ≤ 8 ∧ ∀ c ∈ z.cps.toList, 97 ≤ c ∧ c ≤ 122 := by
 rcases arS_cases h with rfl | rfl | rfl | rfl <;> refine ⟨by decide +kernel, by decide +kernel, ?_⟩ <;> decide +kernel
theorem str_codes {z : Str} (h : okW (.str z)) : z.cps.toList ≠ [] ∧ z.length ≤ 8 ∧ ∀ c ∈ z.cps.toList, 97 ≤ c ∧ c ≤ 122 := h.elim name_codes op_codes
theorem str_noNum {z : Str} (h : okW (.str z)) : numB z = false := by
 obtain ⟨h1, h2, h3⟩ := str_codes h
 unfold numB
 have f : figL z.cps.toList = z.cps.toList := by
  unfold figL
  rw [if_neg]
  intro e
  have := h3 45 (by rw [List.head?_eq_some_iff] at e; obtain ⟨r, e⟩ := e; rw [e]; exact List.mem_cons_self)
  omega
 rw [f]
 have : (z.cps.toList.all fun c => decide (c ∈ figS.cps.toList)) = false := by
  rw [Bool.eq_false_iff]
  intro q
  rw [List.all_eq_true] at q
  obtain ⟨c, r, e⟩ := List.exists_cons_of_ne_nil h1
  have hc : c ∈ z.cps.toList := by rw [e]; exact List.mem_cons_self
  have := (mem_fig c).mp (of_decide_eq_true (q c hc))
  have := h3 c hc
  omega
 rw [this]
 simp
theorem okW.text {v : V} (h : okW v) : (textV v).length ≤ 61 ∧ 32 ∉ (textV v).cps.toList := by
 cases v with
 | int i =>
  refine ⟨(read_int h).2.2, ?_⟩
  cases i with
  | ofNat m =>
   show 32 ∉ (textV (.int (m : Int))).cps.toList
   rw [text_nat]
   intro hc
   have := digs_digit m 32 hc
   omega
  | negSucc m =>
   rw [text_neg]
   intro hc
   rcases List.mem_cons.mp hc with e | hc
   ·exact absurd e (by decide)
   ·have := digs_digit (m + 1) 32 hc
    omega
 | str z =>
  obtain ⟨h1, h2, h3⟩ := str_codes h
  refine ⟨by show z.length ≤ 61; omega, fun hc => ?_⟩
  have := h3 32 hc
  omega
 | _ => exact h.elim
def isTerm (ws : List V) : Prop := pend 1 (ws.map arV) = some 0
theorem blankS : (" " : Str) = ⟨#[32]⟩ := by decide +kernel
theorem join_codes : ∀ xs : List Str, (Str.join (⟨#[32]⟩ : Str) xs).cps.toList = joinL 32 (xs.map (·.cps.toList))
 | [] => rfl
 | [x] => rfl
 | x :: y :: r => by
  show (x ++ (⟨#[32]⟩ : Str) ++ Str.join ⟨#[32]⟩ (y :: r)).cps.toList = x.cps.toList ++ 32 :: joinL 32 ((y :: r).map (·.cps.toList))
  rw [← join_codes (y :: r), Str.cps_append, Str.cps_append]
  simp
theorem split_ne (x y : Str) : Txt.split x y ≠ [] := by
 unfold Txt.split
 split
 ·simp
 ·split
  ·simp
  ·intro e
   have := PySem.length_partsBetween x (Builtin.Str.occurrences x y 0 x.length (x.length + 1)) y.length
   rw [e] at this
   simp at this
theorem split_joined (xs : List Str) (h : xs ≠ []) (hf : ∀ x ∈ xs, 32 ∉ x.cps.toList) : Txt.split (Txt.join " " xs) " " = xs := by
 have e1 : Txt.join " " xs = Str.join ⟨#[32]⟩ xs := by
  rw [blankS]
  exact StrLaws.glued_eq_join _ xs
 rw [e1, blankS]
 have hj := StrLaws.join_split (Str.join ⟨#[32]⟩ xs) ⟨#[32]⟩
 have hfr := StrLaws.split_free (Str.join ⟨#[32]⟩ xs) 32
 have hne := split_ne (Str.join ⟨#[32]⟩ xs) ⟨#[32]⟩
 generalize Txt.split (Str.join ⟨#[32]⟩ xs) ⟨#[32]⟩ = ys at hj hfr hne
 have hc : joinL 32 (ys.map (·.cps.toList)) = joinL 32 (xs.map (·.cps.toList)) := by rw [← join_codes, ← join_codes, hj]
 have := joinL_inj (by simpa using hne) (by simpa using h) (fun x hx => by obtain ⟨z, hz, rfl⟩ := List.mem_map.mp hx; exact hfr z hz) (fun x hx => by obtain ⟨z, hz, rfl⟩ := List.mem_map.mp hx; exact hf z hz) hc
 have inj : ∀ a b : List Str, a.map (·.cps.toList) = b.map (·.cps.toList) → a = b := by
  intro a
  induction a with
  | nil => intro b e; cases b with
   | nil => rfl
   | cons _ _ => cases e
  | cons x r ih => intro b e; cases b with
   | nil => cases e
   | cons y q =>
    simp only [List.map_cons, List.cons.injEq] at e
    rw [str_eq.mpr e.1, ih q e.2]
 exact inj _ _ this
theorem isTerm.ne {ws : List V} (h : isTerm ws) : ws ≠ [] := by
 intro e
 rw [e] at h
 cases h
def spHow : Sp := fun vs H Q _ => ∃ v, vs = [v] ∧ isW v ∧ Q (.int (arV v)) H
end Pc
namespace Pc
open PySem PySem.Spec L2 PyProof.Rows
def Deck (H : Hp) (d b : Addr) (ns : List Int) (n : Nat) : Prop := H d = some (.lst [.ref b, .int (n : Int)]) ∧ H b = some (.lst (List.map V.int ns))
def SameB (d : Addr) (H H' : Hp) : Prop := ∀ b o, b ≠ d → H b = some o → H' b = some o
theorem SameB.refl (d : Addr) (H : Hp) : SameB d H H := fun _ _ _ h => h
theorem SameB.trans {d : Addr} {H H1 H2 : Hp} (a : SameB d H H1) (b : SameB d H1 H2) : SameB d H H2 := fun c o n h => b c o n (a c o n h)
theorem SameB.of {d : Addr} {H H' : Hp} (a : Same H H') : SameB d H H' := fun b o _ h => a b o h
theorem SameB.upd {d p : Addr} {H H' : Hp} (a : SameB d H H') (hp : H p = none) (o : HO) : SameB d H (L2.upd H' p o) := fun b u n h => by rw [upd_ne (ne_of_none h hp)]; exact a b u n h
theorem Deck.ne {H : Hp} {d b : Addr} {ns : List Int} {n : Nat} (h : Deck H d b ns n) : b ≠ d := ne_of h.2 h.1 (by intro e; cases ns <;> simp at e)
theorem Deck.next {H H' : Hp} {d b : Addr} {ns : List Int} {n k : Nat} (h : Deck H d b ns n) (s : SameB d H H') (e : H' d = some (.lst [.ref b, .int (k : Int)])) : Deck H' d b ns k := ⟨e, s b _ h.ne h.2⟩
theorem Deck.same {H H' : Hp} {d b : Addr} {ns : List Int} {n : Nat} (h : Deck H d b ns n) (s : Same H H') : Deck H' d b ns n := ⟨s _ _ h.1, s _ _ h.2⟩
def Names (H : Hp) (l : Addr) (k : Nat) : Prop := ∃ zs : List Str, H l = some (.lst (List.map V.str zs)) ∧ zs.length = k ∧ ∀ z ∈ zs, nameB z = true
def TermAt (H : Hp) (t : Addr) (m : Nat) : Prop := ∃ ws : List V, H t = some (.tup ws) ∧ (∀ v ∈ ws, okW v) ∧ isTerm ws ∧ ws.length ≤ m
theorem inV_str {z : Str} : ∀ {xs : List V}, inV (.str z) xs = true → .str z ∈ xs := by
 intro xs h
 unfold inV at h
 obtain ⟨y, hy, e⟩ := List.any_eq_true.mp h
 cases y with
 | str x =>
  have e' : x = z := by simpa [eqV] using e
  exact e' ▸ hy
 | _ => simp [eqV] at e
theorem nameB_mk {z : Str} (h1 : 1 ≤ z.length) (h8 : z.length ≤ 8) (hc : ∀ c ∈ z.cps.toList, 97 ≤ c ∧ c ≤ 122) (hk : inV (.str z) keptV = false) : nameB z = true := by
 unfold nameB madeB
 rw [decide_eq_true h1, decide_eq_true h8, hk]
 have : (z.cps.toList.all fun c => decide (c ∈ letS.cps.toList)) = true := List.all_eq_true.mpr fun c h => decide_eq_true ((mem_let c).mpr (hc c h))
 rw [this]
 rfl
theorem let_at (k : Int) : ∃ c : Nat, atI letS.cps.toList (k % 26) = some (97 + c) ∧ c < 26 := by
 obtain ⟨c, h1, h2⟩ := atI_in letS.cps.toList (k % 26) (Int.emod_nonneg _ (by decide)) (by rw [show letS.cps.toList.length = 26 by decide +kernel]; omega)
 have h := (mem_let c).mp h2
 exact ⟨c - 97, by rw [show 97 + (c - 97) = c by omega]; exact h1, by omega⟩
noncomputable def keptS : List Str := ["add", "sub", "mul", "neg", "any", "var", "put", "load", "out"]
theorem name_ar {z : Str} (h : nameB z = true) : arS z = 0 := by
 cases e : arS z with
 | zero => rfl
 | succ n =>
  have hk : inV (.str z) keptV = true := by
   rcases arS_cases (z := z) (by omega) with rfl | rfl | rfl | rfl <;> decide +kernel
  unfold nameB at h
  rw [hk] at h
  simp at h
theorem SameB.free {d t : Addr} {H H' : Hp} {o : HO} (s : SameB d H H') (hd : H' d = some o) (ht : H' t = none) : H t = none := by
 cases e : H t with
 | none => rfl
 | some u =>
  by_cases h : t = d
  ·subst h; rw [hd] at ht; cases ht
  ·rw [s t u h e] at ht; cases ht
theorem strs_at {zs : List Str} {k : Int} {n : Nat} (hn : zs.length = n) (h0 : 0 ≤ k) (h1 : k < (n : Int)) : ∃ z, atI (zs.map V.str) k = some (.str z) ∧ z ∈ zs := by
 obtain ⟨x, h1, h2⟩ := atI_in (zs.map V.str) k h0 (by rw [List.length_map, hn]; exact h1)
 obtain ⟨z, hz, rfl⟩ := List.mem_map.mp h2
 exact ⟨z, h1, hz⟩
theorem Names.same {H H' : Hp} {l : Addr} {k : Nat} (h : Names H l k) (s : Same H H') : Names H' l k := by
 obtain ⟨zs, h1, h2⟩ := h
 exact ⟨zs, s _ _ h1, h2⟩
theorem Names.ne {H : Hp} {d b l : Addr} {ns : List Int} {n k : Nat} (h : Names H l k) (hD : Deck H d b ns n) : l ≠ d := by
 obtain ⟨zs, h1, h2⟩ := h
 exact ne_of h1 hD.1 (by intro e; cases zs <;> simp at e)
theorem TermAt.same {H H' : Hp} {t : Addr} {m : Nat} (h : TermAt H t m) (s : Same H H') : TermAt H' t m := by
 obtain ⟨ws, h1, h2⟩ := h
 exact ⟨ws, s _ _ h1, h2⟩
theorem cut_ints (ns : List Int) (lo hi : Option Int) : ∃ ms : List Int, cutV (ns.map V.int) lo hi = ms.map V.int ∧ ms.length ≤ ns.length := by
 refine ⟨_, by unfold cutV; rw [← List.map_drop, ← List.map_take], ?_⟩
 rw [List.length_take, List.length_drop]
 omega
end Pc
namespace HT
open PySem PySem.Spec PyProof.Rows L2
section
variable {prog : Program} {w : World} {A : Around} {E : Value → Shared → Prop} {s : Shared}
theorem cat_tup0 {t b : Addr} {vs ws : List Value} {Q : Value → Shared → Prop} (ht : IsTup s.heap t vs.toArray) (hb : IsTup s.heap b ws.toArray) (hv : vs = []) (h1 : Q (.ref b) s) : wpAny (model prog w) A (binaryOp .Add (.ref t) (.ref b)) Q E s := by
 obtain ⟨⟨cls, dd, data, sl⟩, ho, hc, n, hd⟩ := id ht
 obtain ⟨⟨cls2, dd2, data2, sl2⟩, ho2, hc2, n2, hd2⟩ := id hb
 simp only at hc hd hc2 hd2
 subst hc hd hc2 hd2
 exact concat_meets ⟨_, ho, rfl⟩ ⟨_, ho2, rfl⟩ noFill_tuple_add seq_tuple_add PySem.F.slot_tuple_add PySem.F.entry_tuple_add (PySem.F.args_tuple_add_2 _ _)
  (tuple_addW0 t b vs.toArray ws.toArray n n2 dd dd2 sl sl2 (by simp [hv])) ⟨ho, ho2, h1⟩
theorem getItem_tuple_whole {t sl : Addr} {items : Array Value} {vl vu : Value} {lo hi : Option Int} {Q : Value → Shared → Prop} (ht : IsTup s.heap t items) (hs : s.heap.IsSliceOf sl vl vu .none) (pl : IsPart vl lo) (pu : IsPart vu hi)
  (hw : sIx items.size 0 lo = 0 ∧ sIx items.size items.size hi = items.size) (h : Q (.ref t) s) (hsz : items.size ≤ sizeLine) : wpAny (model prog w) A (getItem (.ref t) (.ref sl)) Q E s := by
 obtain ⟨os, hos, hcs, hds⟩ := id hs
 have hTs : s.TypeIs (.ref sl) "slice" := ⟨os, hos, hcs⟩
 unfold getItem
 try with_reducible refine wpAny_holding ?_
 first | refine wpAny_bind (wpAny_pure ?_) | skip
 refine wpAny_bind (wpAny_sequenceKey ht.typeIs (by decide) ?_)
 refine wpAny_bind (wpAny_callSpecial?_slot (name := Str.ofString "__getitem__") ht.typeIs PyProof.Rows.slot_tuple_getitem
  (wpAny_call_entry PyProof.Rows.slot_tuple_getitem ht.typeIs entry_tuple_getitem ?_ (args_tuple_getitem _ _)))
 show wpAny _ _ (Builtin.Tuple.tupleItemsOf (.ref t) >>= _) _ _ s
 refine wpAny_bind (tupleItemsOf_ ht ?_)
 refine wpAny_bind (wpAny_typeOf hTs ?_)
 rw [if_pos (by decide)]
 refine wpAny_bind (sliceApplied_gen hs pl pu ?_)
 have hyes : ((((sIx items.size 0 lo : Nat) : Int) == 0 && (1 : Int) == 1 && (sIx items.size items.size hi - sIx items.size 0 lo) == items.size) = true) := by
  rw [hw.1, hw.2]
  simp
 show wpAny _ _ (if (((sIx items.size 0 lo : Nat) : Int) == 0 && (1 : Int) == 1 && (sIx items.size items.size hi - sIx items.size 0 lo) == items.size) = true then _ else _) _ _ s
 rw [if_pos hyes]
 refine wpAny_bind ?_
 show wpAny _ _ (typeOf (.ref t) >>= fun v => pure (v == .type "tuple")) _ _ s
 refine wpAny_bind (wpAny_typeOf ht.typeIs (wpAny_pure ?_))
 rw [if_pos (by decide)]
 refine wpAny_bind (wpAny_rule ?_)
 first
  | exact wpAny_bind (wpAny_pure (wpAny_pure ⟨_, rfl, wpAny_pure h⟩))
  | exact wpAny_pure ⟨_, rfl, wpAny_pure h⟩
  | exact wpAny_bind (wpAny_pure ⟨_, rfl, wpAny_pure h⟩)
end
end HT
namespace L2
open PySem PySem.Spec PyProof.Rows
section
variable {X : Cx}
def rCatU : R2 := fun x y H Q => ∃ a b xs ys, x = .ref a ∧ y = .ref b ∧ H a = some (.tup xs) ∧ H b = some (.tup ys) ∧ xs.length + ys.length ≤ sizeLine ∧ ∀ p H', Same H H' → H' p = some (.tup (xs ++ ys)) → Q (.ref p) H'
theorem op_catU : OpR X (binaryOp .Add) rCatU := by
 intro pins s σ H x y v u Q I rx ry h
 obtain ⟨a, b, xs, ys, rfl, rfl, ha, hb, hz, q⟩ := h
 by_cases hx : xs = []
 ·subst hx
  cases rx
  cases ry
  obtain ⟨its, r1, p1, _⟩ := I.tuple (SqT.of ha)
  obtain ⟨its2, r2, p2, _⟩ := I.tuple (SqT.of hb)
  exact HT.cat_tup0 p1 p2 (r1.nil_iff.mpr rfl) ⟨.ref b, H, I, rfl, q b H (Same.refl H) hb⟩
 ·refine op_catT pins s σ H _ _ v u Q I rx ry ⟨a, b, xs, ys, rfl, rfl, SqT.of ha, SqT.of hb, hx, hz, fun e => ?_, fun _ p hp => q p _ (fun c o h => by rw [upd_ne (ne_of_none h hp)]; exact h) upd_same⟩
  subst e
  exact q a H (Same.refl H) (by rw [List.append_nil]; exact ha)
theorem rCatU_ok {H : Hp} {a b : Addr} {xs ys : List V} {Q : VK} (ha : H a = some (.tup xs)) (hb : H b = some (.tup ys)) (hz : xs.length + ys.length ≤ sizeLine) (q : ∀ p H', Same H H' → H' p = some (.tup (xs ++ ys)) → Q (.ref p) H') : rCatU (.ref a) (.ref b) H Q := ⟨a, b, xs, ys, rfl, rfl, ha, hb, hz, q⟩
def rSlU : V → Option Int → Option Int → Hp → VK → Prop := fun x lo hi H Q => ∃ a xs, x = .ref a ∧ H a = some (.tup xs) ∧ ∀ p H', Same H H' → H' p = some (.tup (cutV xs lo hi)) → Q (.ref p) H'
theorem cutV_all {xs : List V} {lo hi : Option Int} (h : HT.sIx xs.length 0 lo = 0 ∧ HT.sIx xs.length xs.length hi = xs.length) : cutV xs lo hi = xs := by
 unfold cutV
 rw [h.1, h.2, List.drop_zero, Nat.sub_zero, List.take_length]
theorem sl_tupU : SlR X rSlU := by
 intro pins s σ H x v vl vu lo hi sl Q I rx hs pl pu h
 obtain ⟨a, xs, rfl, ha, q⟩ := h
 by_cases hw : HT.sIx xs.length 0 lo = 0 ∧ HT.sIx xs.length xs.length hi = xs.length
 ·cases rx
  obtain ⟨its, r, ht, hz⟩ := I.tuple (SqT.of ha)
  have hlen : its.toArray.size = xs.length := by rw [List.size_toArray]; exact r.length.symm
  exact ⟨"tuple", _, PyProof.Rows.slot_tuple_getitem.lookup, ht.typeIs, HT.getItem_tuple_whole ht hs pl pu (by rw [hlen]; exact hw) ⟨.ref a, H, I, rfl, q a H (Same.refl H) (by rw [cutV_all hw]; exact ha)⟩ (by rw [hlen]; exact hz)⟩
 ·exact sl_tup pins s σ H _ v vl vu lo hi sl Q I rx hs pl pu ⟨a, xs, rfl, SqT.of ha, hw, fun p hp => q p _ (fun c o h => by rw [upd_ne (ne_of_none h hp)]; exact h) upd_same⟩
theorem rSlU_ok {H : Hp} {a : Addr} {xs : List V} {lo hi : Option Int} {Q : VK} (ha : H a = some (.tup xs)) (q : ∀ p H', Same H H' → H' p = some (.tup (cutV xs lo hi)) → Q (.ref p) H') : rSlU (.ref a) lo hi H Q := ⟨a, xs, rfl, ha, q⟩
end
section
variable {X : Cx} {k : Nat} {ps : List Str} {sp : Sp} {x : Str} {p pos : Pos} {e : Expr} {es : List Expr} {t : TA}
def FnV (P : Program) (w : World) (K : PySem.W.Frag) (mg : Str → Option Value) (base : Heap) (k : Nat) (ps : List Str) (sp : Sp) (v : V) : Prop :=
 ∃ (f : Addr) (fd : FuncData), v = .ref f ∧ FnOk P w K mg base CX0 k f fd ps sp ∧ Binds K fd ps [] ∧ PySem.W.keepIn K (.ref f) = true
theorem Has.val {P : Program} {w : World} {K : PySem.W.Frag} {mg : Str → Option Value} {base : Heap} (h : Has P w K mg base k x ps sp) : ∃ a, mg x = some (.ref a) ∧ FnV P w K mg base k ps sp (.ref a) := by
 obtain ⟨f, fd, F, b, kp, m⟩ := h
 exact ⟨f, m, f, fd, rfl, F, b, kp⟩
def tCallV (P : Program) (w : World) (K : PySem.W.Frag) (mg : Str → Option Value) (base : Heap) (k : Nat) (ps : List Str) (i : Nat) (t : TA) : TE := fun σ H Q => ∃ v sp, σ[i]? = some (some v) ∧ FnV P w K mg base k ps sp v ∧ t σ H fun vs H1 => sp vs H1 Q E0
end
end L2
namespace L2
open PySem PySem.Spec PyProof.Rows
noncomputable def Itv (K : PySem.W.Frag) (a : Addr) (n : Nat) : It :=
 ⟨fun i H => i < n ∧ ∃ xs, SqL K H a xs ∧ xs.length = n, fun i H x H' => H' = H ∧ ∀ xs, SqL K H a xs → xs[n - 1 - i]? = some x, fun i H => i = n⟩
def iRev (K : PySem.W.Frag) (ta : TA) : TI := fun σ H R => ta σ H fun vs H1 => ∃ a xs, vs = [.ref a] ∧ SqL K H1 a xs ∧ R (Itv K a xs.length) H1
section
variable {X : Cx} {tg : Expr}
end
end L2
namespace L2
open PySem PySem.Spec PyProof.Rows
section
variable {CX : CXT} {P : Program} {w : World} {K : PySem.W.Frag} {mg : Str → Option Value} {base : Heap} {N : List Str} {qual : Str} {scope : Scope} {f : Addr} {cd : Value} {A : Around} {outer : List Env} {s : Shared} {H : Hp} {E : XK}
theorem cxOf_P : (cxOf CX P w K mg base N qual scope f cd A outer s H E).prog = P := rfl
theorem cxOf_w : (cxOf CX P w K mg base N qual scope f cd A outer s H E).w = w := rfl
theorem cxOf_mg : (cxOf CX P w K mg base N qual scope f cd A outer s H E).mg = mg := rfl
theorem cxOf_b : (cxOf CX P w K mg base N qual scope f cd A outer s H E).base = base := rfl
end
end L2
namespace L2.Srt
open PySem PySem.W PyProof.Rows
section
variable {cmp : Nat → Nat → (Bool → Shared → Prop) → Shared → Prop} {N : Nat} {r : Nat → Int} {s : Shared}
def PermR (N : Nat) (p : Array Nat) : Prop := p.toList.Perm (List.range N)
theorem PermR.size {p : Array Nat} (h : PermR N p) : p.size = N := by
 have := h.length_eq
 rw [Array.length_toList, List.length_range] at this
 exact this
theorem PermR.lt {p : Array Nat} (h : PermR N p) {k : Nat} (hk : k < N) : p.getD k 0 < N := by
 have hs := h.size
 have e : p.getD k 0 = p[k]'(by omega) := by simp [Array.getD, hs, hk]
 rw [e]
 have : p[k]'(by omega) ∈ p.toList := by simp
 exact List.mem_range.mp (h.mem_iff.mp this)
theorem PermR.of {p q : Array Nat} (h : PermR N p) (e : q.Perm p) : PermR N q := (Array.perm_iff_toList_perm.mp e).trans h
noncomputable def R (r : Nat → Int) (p : Array Nat) (i : Nat) : Int := r (p.getD i 0)
def Inc (r : Nat → Int) (p : Array Nat) (k : Nat) : Prop := ∀ i j, i ≤ j → j < k → R r p i ≤ R r p j
def Dec (r : Nat → Int) (p : Array Nat) (k : Nat) : Prop := ∀ i j, i ≤ j → j < k → R r p j ≤ R r p i
theorem Inc.more {p : Array Nat} {k : Nat} (h : Inc r p k) (hk : 1 ≤ k) (e : R r p (k - 1) ≤ R r p k) : Inc r p (k + 1) := by
 intro i j hij hj
 by_cases h1 : j < k
 ·exact h i j hij h1
 ·have : j = k := by omega
  subst this
  by_cases h2 : i = j
  ·subst h2; exact Int.le_refl _
  ·have := h i (j - 1) (by omega) (by omega)
   omega
theorem Dec.more {p : Array Nat} {k : Nat} (h : Dec r p k) (hk : 1 ≤ k) (e : R r p k ≤ R r p (k - 1)) : Dec r p (k + 1) := by
 intro i j hij hj
 by_cases h1 : j < k
 ·exact h i j hij h1
 ·have : j = k := by omega
  subst this
  by_cases h2 : i = j
  ·subst h2; exact Int.le_refl _
  ·have := h i (j - 1) (by omega) (by omega)
   omega
end
end L2.Srt
namespace L2.Srt
open PySem PySem.W PyProof.Rows
section
variable {prog : Program} {w : World} {A : Around} {E : Value → Shared → Prop} {s : Shared} {r : Nat → Int}
end
end L2.Srt
namespace L2
open PySem PySem.Spec PyProof.Rows Srt
section
variable {X : Cx}
end
end L2
namespace PySem.SeqAt
open PySem PySem.Spec PySem.Calls
def LtAt (A : Around) (s : Shared) (x y : Value) (b : Bool) : Prop := ∀ (prog : Program) (w : World) (E : Value → Shared → Prop) (Q : Value → Shared → Prop), Q (.bool b) s → wpAny (model prog w) A (richCompare .Lt x y) Q E s
noncomputable def lexB (e c : Nat → Bool) (d : Bool) : List Nat → Bool
 | [] => d
 | j :: r => if e j then lexB e c d r else c j
theorem tuple_ltAt (l b : Addr) (items items2 : Array Value) (n n2 : Nat) (dd dd2 : Option Addr) (sl sl2 : Array (Option Value)) (e c : Nat → Bool) :
  Meets (Builtin.«tuple.__lt__» ⟨[.ref l, .ref b], []⟩)
   (fun A R s => s.heap.get? l = some { cls := .type "tuple", dict := dd, data := .seq items n, slots := sl } ∧ s.heap.get? b = some { cls := .type "tuple", dict := dd2, data := .seq items2 n2, slots := sl2 } ∧
    (∀ j (h1 : j < items.size) (h2 : j < items2.size), EqAt A.in1 s items[j] items2[j] (e j)) ∧
    (∀ j (h1 : j < items.size) (h2 : j < items2.size), e j = false → LtAt A.in1 s items[j] items2[j] (c j)) ∧
    R (.ok (.ret (.bool (lexB e c (decide (items.size < items2.size)) (List.range (min items.size items2.size)))))) s) :=
 .of_wp fun prog w A R s h => by
  obtain ⟨hp, g, d, tk, os⟩ := s; obtain ⟨hl, hb, he, hc, h⟩ := h
  have f2 := AutoSeq1.sub_tuple_tuple
  have hZ : (items.toList.zip items2.toList).length = min items.size items2.size := by simp
  wp_walk using wpAny_loadPart' hl, wpAny_loadPart' hb, wpAny_forIn_list _ (fun rest b s' => b.1 = none ∧ s' = ⟨hp, g, d, tk, os⟩ ∧ ∃ i, rest = (items.toList.zip items2.toList).drop i ∧
   R (.ok (.ret (.bool (lexB e c (decide (items.size < items2.size)) ((List.range (min items.size items2.size)).drop i))))) ⟨hp, g, d, tk, os⟩) _
  case turn =>
   rintro ⟨y, x⟩ rest b s' ⟨hb', rfl, i, hz, hR⟩
   have hlt : i < (items.toList.zip items2.toList).length := by
    rcases Nat.lt_or_ge i (items.toList.zip items2.toList).length with h' | h'
    ·exact h'
    ·rw [List.drop_of_length_le h'] at hz; cases hz
   have hm : i < min items.size items2.size := hZ ▸ hlt
   have h1 : i < items.size := Nat.lt_of_lt_of_le hm (Nat.min_le_left _ _)
   have h2 : i < items2.size := Nat.lt_of_lt_of_le hm (Nat.min_le_right _ _)
   rw [List.drop_eq_getElem_cons hlt] at hz
   injection hz with hyx hrest
   have hy : y = items[i] := by have := congrArg Prod.fst hyx; simpa using this
   have hx : x = items2[i] := by have := congrArg Prod.snd hyx; simpa using this
   subst hy hx
   have hd : (List.range (min items.size items2.size)).drop i = i :: (List.range (min items.size items2.size)).drop (i + 1) := by simp [List.drop_eq_getElem_cons, hm]
   rw [hd] at hR
   unfold lexB at hR
   refine wpAny_bind (he i h1 h2 prog w _ _ ?_)
   cases hy : e i with
   | true =>
    rw [hy] at hR
    wp_walk
    exact ⟨rfl, rfl, i + 1, hrest, by simpa using hR⟩
   | false =>
    rw [hy] at hR
    rw [if_pos (show (!false) = true from rfl)]
    dsimp only
    refine wpAny_bind (wpAny_rule ?_)
    refine wpAny_bind (hc i h1 h2 hy prog w _ _ ?_)
    wp_walk
    exact ⟨_, rfl, by simpa using hR⟩
  case fin =>
   rintro ⟨b1, b2⟩ s' ⟨hb', rfl, i, hz, hR⟩
   simp only at hb'
   subst hb'
   have hge : min items.size items2.size ≤ i := by
    rcases Nat.lt_or_ge i (items.toList.zip items2.toList).length with h' | h'
    ·rw [List.drop_eq_getElem_cons h'] at hz; cases hz
    ·exact hZ ▸ h'
   rw [List.drop_of_length_le (by simpa using hge)] at hR
   wp_walk
   exact ⟨_, rfl, by simpa [Builtin.Tuple.tupleCompareSizes, lexB] using hR⟩
  case h =>
   exact ⟨rfl, rfl, 0, rfl, by simpa using h⟩
section
variable {A : Around} {s : Shared}
theorem LtAt.tuples {l b : Addr} {items items2 : Array Value} {e c : Nat → Bool} (hl : s.heap.IsTuple l items) (hb : s.heap.IsTuple b items2) (hu : A.units < cLine)
  (he : ∀ j (h1 : j < items.size) (h2 : j < items2.size), EqAt A.in1 s items[j] items2[j] (e j)) (hc : ∀ j (h1 : j < items.size) (h2 : j < items2.size), e j = false → LtAt A.in1 s items[j] items2[j] (c j)) :
  LtAt A s (.ref l) (.ref b) (lexB e c (decide (items.size < items2.size)) (List.range (min items.size items2.size))) := fun prog w E Q h => by
 obtain ⟨⟨cls, dd, data, sl⟩, ho, hc1, n, hd⟩ := id hl
 obtain ⟨⟨cls2, dd2, data2, sl2⟩, ho2, hc2, n2, hd2⟩ := id hb
 simp only at hc1 hd hc2 hd2
 subst hc1 hd hc2 hd2
 exact richCompare_meets_room (op := .Lt) ⟨_, ho, rfl⟩ ⟨_, ho2, rfl⟩ F.slot_tuple_lt F.entry_tuple_lt (F.args_tuple_lt_2 _ _) (tuple_ltAt l b items items2 n n2 dd dd2 sl sl2 e c)
  ⟨ho, ho2, he, hc, show Value.bool _ ≠ Value.notImplemented ∧ Q (.bool _) s from ⟨(fun x => nomatch x), h⟩⟩ hu
theorem LtAt.str {x y : Str} {t u : Tok} : LtAt A s (.str x t) (.str y u) (decide (x.cps.toList < y.cps.toList)) := fun prog w E Q h => by
 refine wpAny_richCompare_same (T := "str") (id := "str.__lt__") (op := .Lt) (typeIs_str s x t) (typeIs_str s y u) PyProof.Rows.slot_str_lt (PyProof.Rows.call_str_lt ?_)
 exact ⟨(fun x => nomatch x), h⟩
end
end PySem.SeqAt
namespace L2
open PySem PySem.Spec PyProof.Rows Srt
theorem countP_lt {α : Type} {p q : α → Bool} : ∀ {l : List α}, (∀ x ∈ l, p x = true → q x = true) → (∃ x ∈ l, q x = true ∧ p x = false) → l.countP p < l.countP q
 | [], _, h => by obtain ⟨x, hx, _⟩ := h; cases hx
 | a :: t, hm, h => by
  rw [List.countP_cons, List.countP_cons]
  have mono := List.countP_mono_left (l := t) (fun x hx => hm x (List.mem_cons_of_mem _ hx))
  have ha := hm a List.mem_cons_self
  by_cases hw : q a = true ∧ p a = false
  ·rw [hw.1, hw.2]
   simp
   omega
  ·have : ∃ x ∈ t, q x = true ∧ p x = false := by
    obtain ⟨x, hx, hq⟩ := h
    rcases List.mem_cons.mp hx with rfl | hx
    ·exact absurd hq hw
    ·exact ⟨x, hx, hq⟩
   have ih := countP_lt (fun x hx => hm x (List.mem_cons_of_mem _ hx)) this
   cases hp : p a with
   | true => rw [ha hp]; simp; omega
   | false => cases q a <;> simp <;> omega
noncomputable def rank (n : Nat) (lt : Nat → Nat → Bool) (i : Nat) : Int := (((List.range n).countP fun k => lt k i : Nat) : Int)
structure Ord (n : Nat) (lt : Nat → Nat → Bool) : Prop where
 irr : ∀ i, i < n → lt i i = false
 tr : ∀ i j k, i < n → j < n → k < n → lt i j = true → lt j k = true → lt i k = true
 neg : ∀ i j k, i < n → j < n → k < n → lt i k = true → lt i j = true ∨ lt j k = true
theorem Ord.rank {n : Nat} {lt : Nat → Nat → Bool} (o : Ord n lt) {i j : Nat} (hi : i < n) (hj : j < n) : decide (rank n lt i < rank n lt j) = lt i j := by
 cases h : lt i j with
 | true =>
  apply decide_eq_true
  have : (List.range n).countP (fun k => lt k i) < (List.range n).countP fun k => lt k j := countP_lt (fun k hk e => o.tr k i j (List.mem_range.mp hk) hi hj e h) ⟨i, List.mem_range.mpr hi, h, o.irr i hi⟩
  unfold L2.rank
  omega
 | false =>
  apply decide_eq_false
  have : (List.range n).countP (fun k => lt k j) ≤ (List.range n).countP fun k => lt k i := List.countP_mono_left fun k hk e => by
   rcases o.neg k i j (List.mem_range.mp hk) hi hj e with e | e
   ·exact e
   ·rw [h] at e; cases e
  unfold L2.rank
  omega
section
variable {P : Program} {w : World} {A : Around} {H : Hp}
end
end L2
namespace L2.Srt
open PySem PySem.W PyProof.Rows
end L2.Srt
namespace L2
open PySem PySem.Spec PyProof.Rows Srt
def RowsAt (H : Hp) (ys : List V) (ns : List (List Str)) (fs : List Int) : Prop := ys.length = ns.length ∧ fs.length = ns.length ∧ ∀ i, i < ns.length → ∃ t m, ys[i]? = some (.ref t) ∧ H t = some (.tup [.ref m, .int (fs.getD i 0)]) ∧ H m = some (.tup ((ns.getD i []).map V.str))
section
variable {P : Program} {w : World} {A : Around} {H : Hp}
end
end L2
namespace L2
open PySem PySem.Spec PyProof.Rows
def rDGet2 : V → List V → Hp → VK → Prop := fun x xs H Q => ∃ a y z o, x = .ref a ∧ xs = [y, z] ∧ DGet H a y o ∧ Q (o.getD z) H
section
variable {X : Cx}
theorem mt_dget2 (hu : X.A.units + 1 < cLine) : MtR X "dict.get" rDGet2 := by
 intro pins s σ H x xs v us Q I rx r h
 obtain ⟨a, y, z, o, rfl, rfl, g, q⟩ := h
 cases (show v = Value.ref a from rx)
 cases r with
 | cons ry rr =>
  cases rr with
  | cons rz rr =>
   cases rr
   rename_i u1 u2
   rcases g with ⟨kvs, k, e, ey, l⟩ | ⟨kvs, k, b, e, ey, eb, l⟩
   ·subst ey
    obtain ⟨_, hd, vs, rel, dd⟩ := dk_rd I.hok e
    refine call_meetsIn PySem.F.slot_dict_get dd.typeIs PySem.F.entry_dict_get (PySem.F.args_dict_get_3 _ _ _) (meets_dict_get_default (mixKind X.prog X.w) a (kV_is ry) hd u2) ⟨_, dd.mapOf, ⟨_, H, I.tok _, ?_, q⟩⟩
    rw [l]
    exact RelO.getD (rel.val k) rz
   ·subst ey
    cases (show u1 = Value.ref b from ry)
    obtain ⟨_, hd, xs, rel, dd⟩ := dt_rd I.hok e
    have rv := rel.val k
    rw [← l] at rv
    refine wpAny_call_entry PySem.F.slot_dict_get dd.typeIs PySem.F.entry_dict_get ?_ (PySem.F.args_dict_get_3 _ _ _)
    show wpAny _ _ (dictGet a (.ref b) >>= _) _ _ s
    refine wpAny_bind (wpAny_dictGet_heap (tupleKind_room_in1 hu) (key_of I.hok eb) dd ?_)
    have g := RelO.getD rv rz
    cases hf : atKey xs k with
    | some p =>
     rw [hf] at g
     exact wpAny_pure ⟨p.2, rfl, ⟨_, H, I.tok _, g, q⟩⟩
    | none =>
     rw [hf] at g
     show wpAny _ _ (Builtin.Dict.missed a (.ref b) >>= _) _ _ _
     exact wpAny_bind (wpAny_missed_other hd (wpAny_pure ⟨u2, rfl, ⟨_, H, I.tok _, g, q⟩⟩))
end
end L2
namespace L2
open PySem PySem.Spec PyProof.Rows
section
variable {X : Cx} {pins : List (Addr × Obj)} {σ σ' : St} {H H0 : Hp} {s s0 : Shared} {a : Addr} {kvs kvs' : List (Key × V)} {o : Obj}
end
section
variable {X : Cx} {tg : Expr}
end
section
variable {X : Cx}
end
end L2
namespace L2
open PySem PySem.Spec PyProof.Rows
theorem Inv.turnedL {X : Cx} {pins : List (Addr × Obj)} {σ : St} {H : Hp} {s : Shared} {h' : Heap} {t' : Nat} {fp : List Addr} (I : Inv X pins σ H s) (k : ∀ b o, b ∉ fp → s.heap.get? b = some o → h'.get? b = some o) (hf : ∀ b ∈ fp, FpOk X pins H b) : Inv X pins σ H { s with heap := h', toks := t' } := by
 have nfp : ∀ b u, H b = some u → b ∉ fp := fun b u e z => by rw [(hf b z).1] at e; cases e
 refine I.step (g' := s.gens) (d' := s.drawn) (ch := fp) (fun b hb => ?_) (fun b o _ _ hc e _ => k b o hc e) (fun b o _ _ hc e _ => ⟨o.slots, k b o hc e⟩) (fun _ _ _ _ n => n)
  (fun b o hc e => ⟨o, k b o hc e⟩) (fun _ _ e => e) (fun _ _ _ e => e) (fun b ps e => ⟨#[], by rw [e]; simp⟩) (fun m hm => ?_) (fun b u e => ?_) I.bare
 ·obtain ⟨f0, f1, f2, f3, f4, f5⟩ := hf b hb
  exact ⟨f3, f1, f4, f5⟩
 ·exact hm.at fun o e => k _ o (fun z => (hf _ z).2.1 rfl) e
 ·exact (I.hok b u e).stay (fun c v hc q => k c v (by
   rcases hc with rfl | hc
   ·exact nfp _ u e
   ·exact nfp _ _ hc) q) (fun _ q => q) fun _ _ q => q
noncomputable def Ite (K : PySem.W.Frag) (a : Addr) : It :=
 ⟨fun i H => ∃ xs x, SqL K H a xs ∧ xs[i]? = some x, fun i H x H' => ∃ p y, (∀ xs, SqL K H a xs → xs[i]? = some y) ∧ H p = none ∧ x = .ref p ∧ H' = upd H p (.tup [.int (i : Nat), y]), fun i H => ∃ xs, SqL K H a xs ∧ xs.length ≤ i⟩
theorem turn_enum {P : Program} {w : World} {K : PySem.W.Frag} {elts : List Expr} {x1} {tpos : Pos} (a it e : Addr) (hne : e ≠ it) : Turn P w K (.Tuple elts x1 tpos) (Ite K a) [e, it] e (fun i h => (∃ old, IsEnum h e it ((i : Nat) : Int) old) ∧ h.IsListIter it a i) where
 mem := by simp
 obj := fun i h st b hb => by
  obtain ⟨⟨old, he⟩, o', e', c', d'⟩ := st
  rcases List.mem_cons.mp hb with z | z
  ·subst z
   exact ⟨_, he, fun v z => by cases z⟩
  ·have z := List.mem_singleton.mp z
   subst z
   exact ⟨o', e', fun v z => by rw [d'] at z; cases z⟩
 keep := fun i h h' st k => ⟨by
  obtain ⟨old, he⟩ := st.1
  exact ⟨old, k e (by simp) _ he⟩, st.2.at fun o' e' => k it (by simp) o' e'⟩
 item := by
  intro X hP hw hK hc i pins s σ H E I hf st hg
  subst hP hw hK
  obtain ⟨xs, x, hq, hx⟩ := hg
  obtain ⟨⟨old, he⟩, st2⟩ := st
  obtain ⟨its, rv, p, hz⟩ := I.list hq
  obtain ⟨u, hu, ru⟩ := rv.get hx
  have le : e < s.heap.objs.size := Heap.lt_size he
  have li : it < s.heap.objs.size := by
   obtain ⟨o', e', _⟩ := st2
   exact Heap.lt_size e'
  refine wpAny_pyNext_enum_item he st2 p.isList (x := u) (by simpa using hu) hne fun h1 heo hit1 ht1 hz1 hk1 => ⟨_, rfl, ?_⟩
  refine wpAny_letOwnedTupleGo_enum heo fun h2 he2 sb => ?_
  have sb : Heap.SameBut e h1 h2 := sb
  have hfr : H s.heap.objs.size = none := I.hok.fresh (Nat.le_refl _)
  have I1 : Inv X pins σ (upd H s.heap.objs.size (.tup [.int (i : Nat), x])) { s with heap := s.heap.push { cls := .type "tuple", data := .seq #[.int i s.toks, u] }, toks := s.toks + 1 } :=
   I.laid (fun b o' e' => Heap.get?_push_of_some _ e') (Nat.le_refl _) (show ObjOk X.prog X.w _ _ _ (.tup [.int (i : Nat), x]) from ⟨by show (2 : Nat) ≤ sizeLine; decide, [.int i s.toks, u], .cons ⟨_, rfl⟩ (.cons ru .nil), ⟨_, Heap.get?_push_size _ rfl, rfl, _, rfl, rfl⟩⟩)
  have nup : ∀ b, b < s.heap.objs.size → (upd H s.heap.objs.size (.tup [.int (i : Nat), x])) b = H b := fun b hb => upd_ne (Nat.ne_of_lt hb)
  have fpl : ∀ b ∈ [e, it], b < s.heap.objs.size := fun b hb => by
   rcases List.mem_cons.mp hb with z | z
   ·rw [z]; exact le
   ·rw [List.mem_singleton.mp z]; exact li
  have I2 := Inv.turnedL (h' := h2) (t' := s.toks + 1) (fp := [e, it]) I1 (fun b o' hb e' => by
   have be : b ≠ e := fun z => hb (by simp [z])
   have bi : b ≠ it := fun z => hb (by simp [z])
   have e' : (s.heap.push { cls := .type "tuple", data := .seq #[.int i s.toks, u] }).get? b = some o' := e'
   by_cases hbs : b = s.heap.objs.size
   ·subst hbs
    rw [Heap.get?_push_size _ rfl] at e'
    cases e'
    exact (sb.2 _ be).trans ht1
   ·rw [Heap.get?_push_ne _ _ _ hbs] at e'
    exact (sb.2 _ be).trans (hk1 b o' be bi e')) fun b hb => by
   obtain ⟨f0, f⟩ := hf b hb
   exact ⟨by rw [nup b (fpl b hb)]; exact f0, f⟩
  have ei : (((i + 1 : Nat) : Int)) = (i : Int) + 1 := by omega
  refine ⟨.ref s.heap.objs.size, _, I2, rfl, ⟨_, x, fun ys hy => by rw [I.list_inj hy hq]; exact hx, hfr, rfl, rfl⟩, ⟨⟨u, ?_⟩, hit1.at fun o' e' => (sb.2 _ hne.symm).trans e'⟩, fun b hb => by rw [nup b (fpl b hb)]; exact (hf b hb).1⟩
  rw [ei]
  exact he2
 done := by
  intro X hP hw hK hc i pins s σ H E I hf st hg
  subst hP hw hK
  obtain ⟨xs, hq, hx⟩ := hg
  obtain ⟨⟨old, he⟩, st2⟩ := st
  obtain ⟨its, rv, p, hz⟩ := I.list hq
  have hl := rv.length
  obtain ⟨f0, f1, f2, f3, f4, f5⟩ := hf it (by simp)
  exact wpAny_pyNext_enum_end (I.ok.hd hc) he st2 p.isList (by simp; omega) fun h' eb => ⟨rfl, I.turned (t' := s.toks) (fun b o' hb e' => eb b o' hb e') f0 f1 f3 f4 f5⟩
 self := fun _ _ _ _ _ st h => by
  obtain ⟨⟨old, he⟩, _⟩ := st
  exact wpAny_pyIter_enum he h
def iEnum (K : PySem.W.Frag) (ta : TA) : TI := fun σ H R => ta σ H fun vs H1 => ∃ a xs, vs = [.ref a] ∧ SqL K H1 a xs ∧ R (Ite K a) H1
theorem b_enumerate : bootBuiltins "enumerate" = some (.type "enumerate") := by decide +kernel
section
variable {X : Cx}
theorem pi_enum {a : Expr} {ta : TA} {p pos tpos : Pos} {elts : List Expr} {x1} (hg : Gl X "enumerate") (hm : X.mg "enumerate" = none) (ha : PA X [a] ta) (hs : starEach [a] X.env = [(false, eval a X.env)] := by rfl) : PI X (.Tuple elts x1 tpos) (.Call (.Name "enumerate" p) [a] [] pos) (iEnum X.K ta) := by
 intro pins s σ H R I h
 refine Call_ (ld_blt I hg hm b_enumerate (PyProof.Rows.callWith_type1 (thn (ha pos pins s σ H _ I h) fun us s1 ⟨vs, H1, I1, r1, q1⟩ => ?_) hs rfl))
 obtain ⟨l, xs, e, hq, q⟩ := q1
 subst e
 cases r1 with
 | cons r rr =>
  cases rr
  cases (show _ = Value.ref l from r)
  obtain ⟨its, rv, pl, hz⟩ := I1.list hq
  refine call_enumerate_list pl.isList fun h' he hit hsz hk => ?_
  refine wpAny_pyIter_enum he ?_
  have I2 : Inv X pins σ H1 { s1 with heap := h' } := I1.kept (t' := s1.toks) hk
  refine ⟨s1.heap.objs.size + 1, [s1.heap.objs.size + 1, s1.heap.objs.size], _, _, H1, rfl, I2, turn_enum l _ _ (Nat.succ_ne_self _), ⟨⟨_, he⟩, hit⟩, fun b hb => ?_, q⟩
  rcases List.mem_cons.mp hb with z | z
  ·subst z
   exact I1.fpOk (Nat.le_succ _) (I1.hok.fresh (Nat.le_succ _))
  ·rw [List.mem_singleton.mp z]
   exact I1.fpOk (Nat.le_refl _) (I1.hok.fresh (Nat.le_refl _))
end
theorem forW_enum {K : PySem.W.Frag} {a : Addr} {xs : List V} {g : TG} {tb : TS} {D : Ends} {σ : St} {H : Hp} (Pv : Nat → St → Hp → Prop) (h0 : Pv 0 σ H) (hl : ∀ i σ H, i ≤ xs.length → Pv i σ H → SqL K H a xs)
  (hs : ∀ i x σ H p, xs[i]? = some x → Pv i σ H → H p = none → g (.ref p) σ (upd H p (.tup [.int (i : Nat), x])) fun σ2 H2 => tb { D with nx := Pv (i + 1), ct := Pv (i + 1), bk := D.nx } σ2 H2) (hd : ∀ σ H, Pv xs.length σ H → D.nx σ H) : ForW g tb D (Ite K a) σ H := by
 refine ⟨fun i m σ H => m = xs.length - i ∧ i ≤ xs.length ∧ Pv i σ H, ⟨xs.length, by simp, Nat.zero_le _, h0⟩, ?_⟩
 rintro i m σ H ⟨rfl, hi, p⟩
 have q := hl i σ H hi p
 by_cases hlt : i < xs.length
 ·refine .inr ⟨⟨xs, _, q, List.getElem?_eq_getElem hlt⟩, Pv (i + 1), fun σ' H' p' => ⟨xs.length - (i + 1), by omega, rfl, hlt, p'⟩, fun x H' y => ?_⟩
  obtain ⟨t, v, hv, hn, rfl, rfl⟩ := y
  exact hs i v σ H t (hv xs q) p hn
 ·have e : i = xs.length := by omega
  subst e
  exact .inl ⟨⟨xs, q, Nat.le_refl _⟩, hd σ H p⟩
end L2
namespace L2.Srt
open PySem PySem.W PyProof.Rows PySem.Spec
section
variable {prog : Program} {w : World} {A : Around} {E : Value → Shared → Prop} {s : Shared}
end
end L2.Srt
namespace L2
open PySem PySem.Spec PyProof.Rows Srt
section
variable {X : Cx}
end
end L2
namespace L2
open PySem PySem.Spec PyProof.Rows PySem.SeqAt PySem.MeetsSeq PySem.MeetsSeq2 PySem.MeetsSeq3
open AutoSeq1 (wpAny_loadPart')
section
variable {P : Program} {w : World} {A : Around} {E : Value → Shared → Prop} {s : Shared}
end
section
variable {X : Cx}
end
end L2
namespace L2
open PySem
end L2
namespace L2
open PySem PySem.Spec PyProof.Rows
section
variable {P : Program} {w : World}
end
section
variable {X : Cx} {a : Addr} {kvs : List (Key × V)}
end
end L2
namespace L2.Itm
open PySem PySem.Spec PyProof.Rows
structure Raw (h : Heap) (d : Addr) (es : Array DictEntry) (ep : Nat) (o : Obj) : Prop where
 there : h.get? d = some o
 exact' : o.ExactDict
 data : o.data = .dict es ep
theorem Raw.typeIs {s : Shared} {d : Addr} {es : Array DictEntry} {ep : Nat} {o : Obj} (r : Raw s.heap d es ep o) : s.TypeIs (.ref d) "dict" := ⟨o, r.there, r.exact'.1⟩
section
variable {prog : Program} {w : World} {A : Around} {E : Value → Shared → Prop} {s : Shared} {d : Addr} {es : Array DictEntry} {ep : Nat} {o : Obj}
end
end L2.Itm
namespace L2
open PySem PySem.Spec PyProof.Rows Itm
section
variable {X : Cx} {pins : List (Addr × Obj)} {σ σ' : St} {H H0 : Hp} {s s0 : Shared} {a : Addr} {kvs kvs' : List (List Key × V)} {o : Obj}
end
section
variable {X : Cx}
end
end L2
namespace L2
open PySem PySem.Spec PyProof.Rows Itm
section
variable {X : Cx}
end
def TK (H H' : Hp) : Prop := ∀ b xs, H b = some (.tup xs) → H' b = some (.tup xs)
theorem TK.refl (H : Hp) : TK H H := fun _ _ h => h
theorem TK.trans {H H1 H2 : Hp} (a : TK H H1) (b : TK H1 H2) : TK H H2 := fun c xs h => b c xs (a c xs h)
theorem TK.of {H H' : Hp} (s : Same H H') : TK H H' := fun b xs h => s b _ h
theorem TK.put {H : Hp} {a : Addr} {o o' : HO} (h : H a = some o) (ho : ∀ xs, o ≠ .tup xs) : TK H (upd H a o') := fun b xs hb => by
 rw [upd_ne (fun e => by rw [e, h] at hb; exact ho xs (Option.some.inj hb))]
 exact hb
theorem lc_genH {J : It} {fr : St} {tc : TT} {te : TE} {D : Addr} {H1 : Hp} {Q : Hp → Prop} (n : Nat) (item : Nat → V) (P : Nat → List V → Hp → Prop) (mono : ∀ i ys H H', TK H H' → P i ys H → P i ys H') (hn : n < sizeLine) (hD : H1 D = none)
  (hgo : ∀ i H, i < n → Same H1 H → J.go i H) (hyld : ∀ i H x H', i < n → Same H1 H → J.yld i H x H' → H' = H ∧ x = item i) (hstop : ∀ H, Same H1 H → J.stop n H) (h0 : P 0 [] H1)
  (step : ∀ i ys H (G : Hp → Prop) (K' : V → Hp → Prop), i < n → P i ys H → ys.length ≤ i → Same H1 H → (∀ H3, Same H H3 → P (i + 1) ys H3 → G H3) → (∀ y H4, Same H H4 → P (i + 1) (ys ++ [y]) H4 → K' y H4) → tc ([some (item i)] ++ fr) H fun b H3 => if b = true then te ([some (item i)] ++ fr) H3 K' else G H3)
  (done : ∀ ys H, P n ys H → ys.length ≤ n → Same H1 H → H D = some (.lst ys) → Q H) : LC 1 fr (gName 0) tc te J D H1 Q := by
 refine ⟨fun i m H => m = n - i ∧ i ≤ n ∧ ∃ ys, H D = some (.lst ys) ∧ P i ys H ∧ ys.length ≤ i ∧ Same H1 H, ⟨n, by simp, Nat.zero_le _, [], upd_same, mono _ _ _ _ (TK.of (same_new hD _)) h0, Nat.le_refl _, same_new hD _⟩, ?_⟩
 rintro i m H ⟨rfl, hi, ys, hys, hP, hl, hS⟩
 by_cases hlt : i < n
 ·refine .inr ⟨hgo i H hlt hS, fun τ x H' hτ hy => ?_⟩
  obtain ⟨e1, e2⟩ := hyld i H x H' hlt hS hy
  subst e1 e2
  obtain ⟨a, rfl⟩ : ∃ a, τ = [a] := List.length_eq_one_iff.mp hτ
  refine ⟨⟨[some (item i)], rfl, rfl⟩, step i ys H' _ _ hlt hP hl hS (fun H3 q1 q2 => ?_) (fun y H4 q1 q2 => ?_)⟩
  ·exact ⟨n - (i + 1), by omega, rfl, hlt, ys, q1 _ _ hys, q2, Nat.le_succ_of_le hl, hS.trans q1⟩
  ·refine ⟨ys, q1 _ _ hys, by omega, n - (i + 1), by omega, rfl, hlt, ys ++ [y], upd_same, mono _ _ _ _ (TK.put (q1 _ _ hys) fun xs e => by cases e) q2, ?_, (hS.trans q1).upd hD _⟩
   rw [List.length_append, List.length_singleton]
   omega
 ·have e : i = n := by omega
  subst e
  exact .inl ⟨hstop H hS, done ys H hP hl hS hys⟩
end L2
namespace L2.Itm
open PySem PySem.Spec PyProof.Rows
section
variable {prog : Program} {w : World} {A : Around} {E : Value → Shared → Prop} {s : Shared} {d : Addr} {es : Array DictEntry} {ep : Nat} {o : Obj}
end
end L2.Itm
namespace L2
open PySem PySem.Spec PyProof.Rows Itm
section
variable {X : Cx} {tg : Expr}
end
end L2
namespace L2
open PySem PySem.Spec PyProof.Rows
end L2
namespace PySem
open Sem (wp)
open AutoSeq1 (wpAny_loadPart')
theorem ens_type (a v : Value) : checkTypeCall "enumerate" ⟨[a], [("start", v)]⟩ = pure () := by kernel_rfl
theorem ens_new (a v : Value) : checkBuiltinCall "enumerate.__new__" ⟨[.type "enumerate", a], [("start", v)]⟩ = pure () := by kernel_rfl
theorem ens_init (a b v : Value) : argsOk "object.__init__" ⟨[a, b], [("start", v)]⟩ := by
 unfold argsOk; rw [signature?_of (id := "object.__init__") (n := "__tini__".toList) (o := "tcejbo".toList) (by kernel_rfl) F.owner_object]; kernel_rfl
noncomputable def ensIt (l : Addr) : Obj := { cls := .type "list_iterator", data := .fields #[.ref l, .int 0 0] }
noncomputable def ensOb (it : Addr) : Obj := { cls := .type "enumerate", data := .fields #[.none, .bool false, .ref it, rawInt 1, .none, .none] }
theorem ens_meets (l : Addr) (items : Array Value) (n : Nat) (t : Tok) (dct : Option Addr) (sl : Array (Option Value)) :
  Meets (Builtin.«enumerate.__new__» ⟨[.type "enumerate", .ref l], [("start", .int 1 t)]⟩) (fun _ R s => s.heap.get? l = some { cls := .type "list", dict := dct, data := .seq items n, slots := sl } ∧
   R (.ok (.ret (.ref (s.heap.push (ensIt l)).objs.size))) { s with heap := (s.heap.push (ensIt l)).push (ensOb s.heap.objs.size) }) :=
 .of_wp fun prog w A R s h => by
  obtain ⟨hp, g, d, tk, os⟩ := s; obtain ⟨hl, h⟩ := h
  have hsb := sub_enumerate
  have hLs : Heap.IsList (Shared.heap ⟨hp, g, d, tk, os⟩) l items := ⟨_, hl, rfl, n, rfl⟩
  wp_walk using wpAny_loadPart' hl
  refine wpAny_stack_any fun st => wpAny_pure ?_
  split
  ·next c _ _ _ _ _ =>
   cases (c == Value.type "enumerate") <;> (wp_walk using wpAny_loadPart' hl, wpAny_pyIter_list hLs; exact ⟨_, rfl, h⟩)
  ·wp_walk using wpAny_loadPart' hl, wpAny_pyIter_list hLs
   exact ⟨_, rfl, h⟩
theorem ens_object {T newId : String} {self a v : Value} (hl : typeLookup (.type T) "__init__" = pure (some (.builtin "object.__init__"))) (hm : Bind.madeBy (.type T) = pure (some newId)) (hne : (some newId != some "object.__new__") = true) :
  Meets (Builtin.«object.__init__» ⟨[self, a], [("start", v)]⟩) (fun _ R s => s.TypeIs self T ∧ R (.ok (.ret .none)) s) := by
 refine Meets.of_wp fun prog w A R s ⟨hT, hq⟩ => ?_
 repeat (any_goals (first | assumption | wp_step))
 exact ⟨_, rfl, hq⟩
section
variable {prog : Program} {w : World} {A : Around} {E : Value → Shared → Prop} {s : Shared}
theorem ens_call {l : Addr} {t : Tok} {items : Array Value} {Q : Value → Shared → Prop} (hL : s.heap.IsList l items)
  (h : Q (.ref (s.heap.push (ensIt l)).objs.size) { s with heap := (s.heap.push (ensIt l)).push (ensOb s.heap.objs.size) }) :
  wpAny (model prog w) A (call (.type "enumerate") [.ref l] [("start", .int 1 t)]) Q E s := by
 have ft := F.called_enumerate
 obtain ⟨c0, tl, hmro⟩ := ft.mro
 have hmade := ft.made
 have hsub := ft.sub
 have hct := ens_type (.ref l) (.int 1 t)
 obtain ⟨⟨c, dct, dt, sl⟩, hl, hc, n, hd⟩ := hL
 replace hc : c = .type "list" := hc
 replace hd : dt = .seq items n := hd
 subst hc hd
 refine wpAny_call (codeAny_of_tree (show wpAny _ _ (callAny (.type "enumerate") _) _ _ _ from ?_))
 refine wpAny_pure ⟨Code.quiet_builtin _ (by decide +kernel), codeAny_builtin F.entry_type_call ?_⟩
 rw [Around.under_plain (weight_type_call_type "enumerate" [.ref l] [("start", .int 1 t)]) (units_type_call_type _ _ _)]
 have h1 := ft.notType
 have h2 := ft.canCreate
 repeat (any_goals (first | assumption | wp_step))
 have hen : (ensOb s.heap.objs.size).cls = .type "enumerate" := rfl
 have hT : ({ s with heap := (s.heap.push (ensIt l)).push (ensOb s.heap.objs.size) } : Shared).TypeIs (.ref (s.heap.push (ensIt l)).objs.size) "enumerate" := ⟨_, Heap.get?_push_size _ rfl, rfl⟩
 refine codeAny_mono (R := wants (fun v s1 => v = .ref (s.heap.push (ensIt l)).objs.size ∧ s1 = { s with heap := (s.heap.push (ensIt l)).push (ensOb s.heap.objs.size) }) E) (codeAny_call_builtin ft.plain F.entry_enumerate_new (wpAny_of_eq (ens_new (.ref l) (.int 1 t)) (ens_meets l items n t dct sl prog w A.in1 _ s ⟨hl, rfl, rfl⟩))) fun r s1 hr => ?_
 match r, hr with
 | .error e, hr => exact hr
 | .ok (.ret obj), hr =>
  obtain ⟨rfl, rfl⟩ := hr
  have hli := ft.init.lookup
  have hbi := ft.init.bind (.ref (s.heap.push (ensIt l)).objs.size)
  repeat (any_goals (first | assumption | wp_step))
  have gi := ens_object (T := "enumerate") (self := .ref (s.heap.push (ensIt l)).objs.size) (a := .ref l) (v := .int 1 t) ft.init.lookup ft.made (by decide)
  refine codeAny_mono (codeAny_call_builtin ft.init.plain F.entry_object_init (ft.init.check _ _ _ _ _ _ _ _ hT (ens_init _ _ _) (gi prog w A.in1 (wants (fun r s2 => r = .none ∧ Q (.ref (s.heap.push (ensIt l)).objs.size) s2) E) _ ⟨hT, rfl, h⟩))) fun r2 s2 hr2 => ?_
  match r2, hr2 with
  | .error e, hr2 => exact hr2
  | .ok (.ret r), hr2 =>
   obtain ⟨rfl, hq⟩ := hr2
   repeat (any_goals (first | assumption | wp_step))
end
end PySem
namespace L2
open PySem PySem.Spec PyProof.Rows
theorem draws1 {prog : Program} {w : World} {A : Around} (hh : A.handled = none) (it l : Addr) (hne : l ≠ it) (items : Array Value) :
  Draws prog w A it [it, l] (items.size + 1) (fun i v => ∃ j, i = j + 1 ∧ items[j]? = some v) (fun i h => ∃ j, i = j + 1 ∧ h.IsListIter it l j ∧ h.IsList l items) where
 live := fun _ _ ⟨_, _, ⟨o, ho, _⟩, _⟩ => ⟨o, ho⟩
 frame := fun _ _ _ ⟨j, e, a, b⟩ hk => ⟨j, e, a.at fun o e => hk it List.mem_cons_self o e, b.at fun o e => hk l (List.mem_cons_of_mem _ List.mem_cons_self) o e⟩
 item := by
  rintro i s Q E hi ⟨j, rfl, a, b⟩ hQ
  have hj : j < items.size := Nat.lt_of_succ_lt_succ hi
  exact wpAny_nextOf_list_item a b (Array.getElem?_eq_getElem hj) fun h' a' hs => hQ _ h' s.toks ⟨j, rfl, Array.getElem?_eq_getElem hj⟩ ⟨j + 1, rfl, a', b.extBut hs.extBut hne⟩ hs
 done := by
  rintro s Q E ⟨j, e, a, b⟩ hE
  obtain rfl : j = items.size := (Nat.succ.inj e).symm
  exact wpAny_nextOf_list_end hh a b (Array.getElem?_eq_none (Nat.le_refl _)) hE
noncomputable def Ite1 (K : PySem.W.Frag) (a : Addr) : It :=
 ⟨fun i H => ∃ xs x, SqL K H a xs ∧ xs[i]? = some x, fun i H x H' => ∃ p y, (∀ xs, SqL K H a xs → xs[i]? = some y) ∧ H p = none ∧ x = .ref p ∧ H' = upd H p (.tup [.int ((i + 1 : Nat) : Int), y]), fun i H => ∃ xs, SqL K H a xs ∧ xs.length ≤ i⟩
theorem turn_enum1 {P : Program} {w : World} {K : PySem.W.Frag} {elts : List Expr} {x1} {tpos : Pos} (a it e : Addr) (hne : e ≠ it) (hea : e ≠ a) (hai : a ≠ it) : Turn P w K (.Tuple elts x1 tpos) (Ite1 K a) [e, it] e (fun i h => (∃ old, IsEnum h e it ((i + 1 : Nat) : Int) old) ∧ h.IsListIter it a i) where
 mem := by simp
 obj := fun i h st b hb => by
  obtain ⟨⟨old, he⟩, o', e', c', d'⟩ := st
  rcases List.mem_cons.mp hb with rfl | z
  ·exact ⟨_, he, fun v z => by cases z⟩
  ·cases List.mem_singleton.mp z
   exact ⟨o', e', fun v z => by rw [d'] at z; cases z⟩
 keep := fun i h h' ⟨⟨old, he⟩, st2⟩ k => ⟨⟨old, k e (by simp) _ he⟩, st2.at fun o' e' => k it (by simp) o' e'⟩
 item := by
  intro X hP hw hK hc i pins s σ H E I hf st hg
  subst hP hw hK
  obtain ⟨xs, x, hq, hx⟩ := hg
  obtain ⟨⟨old, he⟩, st2⟩ := st
  obtain ⟨its, rv, p, hz⟩ := I.list hq
  obtain ⟨u, hu, ru⟩ := rv.get hx
  have le : e < s.heap.objs.size := Heap.lt_size he
  have li : it < s.heap.objs.size := let ⟨_, e', _⟩ := st2; Heap.lt_size e'
  have hil : i < its.toArray.size := by
   have := (List.getElem?_eq_some_iff.mp hu).1
   simpa using this
  refine wpAny_pyNext_enum_itemD (draws1 (A := X.A.in1) (I.ok.hd hc) it a hai its.toArray) he ⟨i, rfl, st2, p.isList⟩ (Nat.succ_lt_succ hil) hne (fun z => by
   rcases List.mem_cons.mp z with z | z
   ·exact hne z
   ·exact hea (List.mem_singleton.mp z)) fun u' h1 tk hP heo hst1 ht1 hz1 hk1 => ⟨_, rfl, ?_⟩
  obtain ⟨j, ej, hu'⟩ := hP
  cases Nat.succ.inj ej
  obtain rfl : u' = u := by
   have : its.toArray[i]? = some u := by simpa using hu
   exact Option.some.inj (hu'.symm.trans this)
  obtain ⟨j, ej, hit1, _⟩ := hst1
  cases Nat.succ.inj ej
  refine wpAny_letOwnedTupleGo_enum heo fun h2 he2 sb => ?_
  have sb : Heap.SameBut e h1 h2 := sb
  have hfr : H s.heap.objs.size = none := I.hok.fresh (Nat.le_refl _)
  have I1 : Inv X pins σ (upd H s.heap.objs.size (.tup [.int ((i + 1 : Nat) : Int), x])) { s with heap := s.heap.push { cls := .type "tuple", data := .seq #[.int ((i + 1 : Nat) : Int) tk, u'] }, toks := tk + 1 } :=
   I.laid (t' := tk + 1) (fun b o' e' => Heap.get?_push_of_some _ e') (Nat.le_refl _) (show ObjOk X.prog X.w _ _ _ (.tup [.int ((i + 1 : Nat) : Int), x]) from ⟨by show (2 : Nat) ≤ sizeLine; decide, [.int ((i + 1 : Nat) : Int) tk, u'], .cons ⟨_, rfl⟩ (.cons ru .nil), ⟨_, Heap.get?_push_size _ rfl, rfl, _, rfl, rfl⟩⟩)
  have nup : ∀ b, b < s.heap.objs.size → (upd H s.heap.objs.size (.tup [.int ((i + 1 : Nat) : Int), x])) b = H b := fun b hb => upd_ne (Nat.ne_of_lt hb)
  have fpl : ∀ b ∈ [e, it], b < s.heap.objs.size := fun b hb => (List.mem_cons.mp hb).elim (fun z => z ▸ le) fun z => by rw [List.mem_singleton.mp z]; exact li
  have I2 := Inv.turnedL (h' := h2) (t' := tk + 1) (fp := [e, it]) I1 (fun b o' hb e' => by
   have be : b ≠ e := fun z => hb (by rw [z]; exact List.mem_cons_self)
   have bi : b ≠ it := fun z => hb (by rw [z]; exact List.mem_cons_of_mem _ List.mem_cons_self)
   have e' : (s.heap.push { cls := .type "tuple", data := .seq #[.int ((i + 1 : Nat) : Int) tk, u'] }).get? b = some o' := e'
   by_cases hbs : b = s.heap.objs.size
   ·subst hbs
    rw [Heap.get?_push_size _ rfl] at e'
    cases e'
    exact (sb.2 _ be).trans ht1
   ·rw [Heap.get?_push_ne _ _ _ hbs] at e'
    exact (sb.2 _ be).trans (hk1 b o' be bi e')) fun b hb => by
   obtain ⟨f0, f⟩ := hf b hb
   exact ⟨(nup b (fpl b hb)).trans f0, f⟩
  exact ⟨.ref s.heap.objs.size, _, I2, rfl, ⟨_, x, fun ys hy => by rw [I.list_inj hy hq]; exact hx, hfr, rfl, rfl⟩, ⟨⟨u', he2⟩, hit1.at fun o' e' => (sb.2 _ hne.symm).trans e'⟩, fun b hb => (nup b (fpl b hb)).trans (hf b hb).1⟩
 done := by
  intro X hP hw hK hc i pins s σ H E I hf st hg
  subst hP hw hK
  obtain ⟨xs, hq, hx⟩ := hg
  obtain ⟨⟨old, he⟩, st2⟩ := st
  obtain ⟨its, rv, p, hz⟩ := I.list hq
  have hl := rv.length
  obtain ⟨f0, f1, f2, f3, f4, f5⟩ := hf it (by simp)
  have hT : s.TypeIs (.ref e) "enumerate" := ⟨_, he, rfl⟩
  have hnone : its.toArray[i]? = none := by simp; omega
  unfold pyNext
  refine wpAny_bind (wpAny_attempt (wpAny_callSpecial?_slot (name := Str.ofString "__next__") hT F.slot_enumerate_next (wpAny_call_entry F.slot_enumerate_next hT F.entry_enumerate_next ?_ (F.args_enumerate_next_1 _))))
  show wpAny _ _ (field (.ref e) 2 >>= _) _ _ _
  refine wpAny_bind (wpAny_field he rfl (x := .ref it) rfl (wpAny_bind (wpAny_nextOf_list_end (I.ok.hd hc) st2 p.isList hnone fun h' x eb ⟨o, ho, hc'⟩ => wpAny_bind (wpAny_isInstance (T := "StopIteration") (b := true) ⟨o, ho, hc'⟩ isSubtype_stop ?_))))
  exact wpAny_pure ⟨rfl, I.turned (t' := s.toks) (fun b o' hb e' => eb b o' hb e') f0 f1 f3 f4 f5⟩
 self := fun _ _ _ _ _ st h => by
  obtain ⟨⟨old, he⟩, _⟩ := st
  exact wpAny_pyIter_enum he h
def iEnum1 (K : PySem.W.Frag) (ta : TA) : TI := fun σ H R => ta σ H fun vs H1 => ∃ a xs, vs = [.ref a] ∧ SqL K H1 a xs ∧ R (Ite1 K a) H1
theorem forW_enum1 {K : PySem.W.Frag} {a : Addr} {xs : List V} {g : TG} {tb : TS} {D : Ends} {σ : St} {H : Hp} (Pv : Nat → St → Hp → Prop) (h0 : Pv 0 σ H) (hl : ∀ i σ H, i ≤ xs.length → Pv i σ H → SqL K H a xs)
  (hs : ∀ i x σ H p, xs[i]? = some x → Pv i σ H → H p = none → g (.ref p) σ (upd H p (.tup [.int ((i + 1 : Nat) : Int), x])) fun σ2 H2 => tb { D with nx := Pv (i + 1), ct := Pv (i + 1), bk := D.nx } σ2 H2) (hd : ∀ σ H, Pv xs.length σ H → D.nx σ H) : ForW g tb D (Ite1 K a) σ H := by
 refine ⟨fun i m σ H => m = xs.length - i ∧ i ≤ xs.length ∧ Pv i σ H, ⟨xs.length, by simp, Nat.zero_le _, h0⟩, ?_⟩
 rintro i m σ H ⟨rfl, hi, p⟩
 have q := hl i σ H hi p
 by_cases hlt : i < xs.length
 ·refine .inr ⟨⟨xs, _, q, List.getElem?_eq_getElem hlt⟩, Pv (i + 1), fun σ' H' p' => ⟨xs.length - (i + 1), by omega, rfl, hlt, p'⟩, fun x H' y => ?_⟩
  obtain ⟨t, v, hv, hn, rfl, rfl⟩ := y
  exact hs i v σ H t (hv xs q) p hn
 ·obtain rfl : i = xs.length := by omega
  exact .inl ⟨⟨xs, q, Nat.le_refl _⟩, hd σ H p⟩
section
variable {X : Cx}
theorem callWith_tkw {M : Model} {A : Around} {E : Value → Shared → Prop} {s : Shared} {env : Env} {pos : Pos} {T : String} {e : Expr} {kws : List Keyword} {Q : Value → Shared → Prop}
  (h : wpAny M A (spliced (backTo pos (starEach [e] env))) (fun vs s1 => wpAny M A (evalAll ((backToKw pos (keywordEach kws env)).map (·.2))) (fun kvs s2 => wpAny M A (call (.type T) vs (((backToKw pos (keywordEach kws env)).filterMap (·.1)).zip kvs)) Q E s2) E s1) E s)
  (he : backTo pos (starEach [e] env) = (false, eval e env) :: backTo pos (starEach [] env)) (hp : (backTo pos (starEach [e] env)).any (·.1) = false)
  (hall : (backToKw pos (keywordEach kws env)).all (·.1.isSome) = true) (hkw : (backToKw pos (keywordEach kws env)).any (·.1.isNone) = false) :
  wpAny M A (callWith pos (.type T) [] (backTo pos (starEach [e] env)) (backToKw pos (keywordEach kws env))) Q E s := by
 unfold callWith
 refine wpAny_bind (wpAny_holding (wpAny_mono (Q := fun a s1 => wpAny M A (call (.type T) a.pos a.kw) Q E s1) ?_ (fun a s1 h1 => wpAny_bind (wpAny_standAt ?_)) fun _ _ x => x))
 ·rw [he] at h ⊢
  exact evalArgs_kwB hall h
 ·simp only [hp, hkw, Bool.or_false]
  refine wpAny_bind (wpAny_pure ?_)
  exact wpAny_bind (wpAny_mono h1 (fun r s2 hr => wpAny_bind (wpAny_holding (wpAny_point (wpAny_pure hr)))) fun _ _ x => x)
theorem pi_enum1 {a : Expr} {ta : TA} {p pos tpos cp kp : Pos} {elts : List Expr} {x1} {j} (hg : Gl X "enumerate") (hm : X.mg "enumerate" = none) (ha : PA X [a] ta) (hs : starEach [a] X.env = [(false, eval a X.env)] := by rfl) : PI X (.Tuple elts x1 tpos) (.Call (.Name "enumerate" p) [a] [⟨some "start", .Constant (.int 1) j cp, kp⟩] pos) (iEnum1 X.K ta) := by
 intro pins s σ H R I h
 refine wpAny_Call_Name_kw (ld_blt I hg hm b_enumerate (callWith_tkw (thn (ha pos pins s σ H _ I h) fun us s1 ⟨vs, H1, I1, r1, q1⟩ => ?_) (by rw [hs]; rfl) (by rw [hs]; rfl) rfl rfl))
 obtain ⟨l, xs, e, hq, q⟩ := q1
 subst e
 cases r1 with
 | cons r rr =>
  cases rr
  cases (show _ = Value.ref l from r)
  refine kws_cons (wpAny_Constant_int (kws_nil ?_))
  have I1 := I1.tok (s1.toks + 1)
  obtain ⟨its, rv, pl, hz⟩ := I1.list hq
  refine ens_call (t := s1.toks) pl.isList ?_
  have hz1 : (s1.heap.push (ensIt l)).objs.size = s1.heap.objs.size + 1 := Heap.size_push ..
  have he : IsEnum ((s1.heap.push (ensIt l)).push (ensOb s1.heap.objs.size)) (s1.heap.objs.size + 1) s1.heap.objs.size ((0 + 1 : Nat) : Int) .none := by
   have := Heap.get?_push_size (s1.heap.push (ensIt l)) (o := ensOb s1.heap.objs.size) rfl
   rw [hz1] at this
   exact this
  show wpAny _ _ (pyIter (.ref (s1.heap.push (ensIt l)).objs.size)) _ _ _
  rw [hz1]
  refine wpAny_pyIter_enum he ?_
  have I2 := I1.kept (h' := (s1.heap.push (ensIt l)).push (ensOb s1.heap.objs.size)) (t' := s1.toks + 1) fun b o x => Heap.get?_push_of_some _ (Heap.get?_push_of_some _ x)
  have ll : l < s1.heap.objs.size := pl.lt
  refine ⟨s1.heap.objs.size + 1, [s1.heap.objs.size + 1, s1.heap.objs.size], _, _, H1, rfl, I2, turn_enum1 l _ _ (Nat.succ_ne_self _) (Nat.ne_of_gt (Nat.lt_succ_of_lt ll)) (Nat.ne_of_lt ll), ⟨⟨_, he⟩, ⟨_, Heap.get?_push_of_some _ (Heap.get?_push_size _ rfl), rfl, rfl⟩⟩, fun b hb => ?_, q⟩
  rcases List.mem_cons.mp hb with z | z
  ·subst z
   exact I1.fpOk (Nat.le_succ _) (I1.hok.fresh (Nat.le_succ _))
  ·rw [List.mem_singleton.mp z]
   exact I1.fpOk (Nat.le_refl _) (I1.hok.fresh (Nat.le_refl _))
end
end L2
namespace L2
open PySem PySem.Spec PyProof.Rows
theorem lc_rngM {lo : Int} {n : Nat} {fr : St} {tc : TT} {te : TE} {D : Addr} {H1 : Hp} {Q : Hp → Prop} (P : Nat → List V → Hp → Prop) (hn : n < sizeLine) (h0 : P 0 [] (upd H1 D (.lst [])))
  (step : ∀ (i : Nat) ys H (G : Hp → Prop) (K' : V → Hp → Prop), i < n → P i ys H → ys.length ≤ i → H D = some (.lst ys) → (∀ H3, H3 D = some (.lst ys) → P (i + 1) ys H3 → G H3) → (∀ y H4, H4 D = some (.lst ys) → P (i + 1) (ys ++ [y]) (upd H4 D (.lst (ys ++ [y]))) → K' y H4) → tc ([some (.int (lo + i))] ++ fr) H fun b H3 => if b = true then te ([some (.int (lo + i))] ++ fr) H3 K' else G H3)
  (done : ∀ ys H, P n ys H → ys.length ≤ n → H D = some (.lst ys) → Q H) : LC 1 fr (gName 0) tc te (Itr lo n) D H1 Q := by
 refine ⟨fun i m H => m = n - i ∧ i ≤ n ∧ ∃ ys, H D = some (.lst ys) ∧ P i ys H ∧ ys.length ≤ i, ⟨n, by simp, Nat.zero_le _, [], upd_same, h0, Nat.le_refl _⟩, ?_⟩
 rintro i m H ⟨rfl, hi, ys, hys, hP, hl⟩
 by_cases hlt : i < n
 ·refine .inr ⟨hlt, fun τ x H' hτ hy => ?_⟩
  obtain ⟨e1, e2⟩ := hy
  subst e1 e2
  obtain ⟨c, rfl⟩ : ∃ c, τ = [c] := List.length_eq_one_iff.mp hτ
  refine ⟨⟨[some (.int (lo + i))], rfl, rfl⟩, step i ys H' _ _ hlt hP hl hys (fun H3 q1 q2 => ⟨n - (i + 1), by omega, rfl, hlt, ys, q1, q2, Nat.le_succ_of_le hl⟩) fun y H4 q1 q2 => ⟨ys, q1, by omega, n - (i + 1), by omega, rfl, hlt, ys ++ [y], upd_same, q2, ?_⟩⟩
  rw [List.length_append, List.length_singleton]
  omega
 ·obtain rfl : i = n := by omega
  exact .inl ⟨Nat.le_refl _, done ys H hP hl hys⟩
def CDivB (i j : Int) : Prop := 0 < j ∧ j.natAbs.log2 < 9000
theorem op_fdivB {X : Cx} : OpR X (binaryOp .FloorDiv) (rI CDivB fun i j => .int (i / j)) := opI fun i j _ _ _ _ _ hc q => by
 have h1 : (0 : Int) < j := hc.1
 exact floordiv_int (by omega) (by rw [Int.fdiv_eq_ediv_of_nonneg i (by omega)]; exact q) (.inl (PyProof.noPylong_of_log2 hc.2))
end L2
namespace Pc
open PySem PySem.Spec L2 PyProof.Rows
def wdW : V → Prop
 | .int i => i.natAbs < 10 ^ 60
 | .str z => numB z = false ∧ z.length ≤ 8 ∧ z.cps.toList ≠ [] ∧ ∀ c ∈ z.cps.toList, 33 ≤ c
 | _ => False
theorem wdW.isW {v : V} (h : wdW v) : isW v := by
 cases v with
 | int i => exact isW.int i
 | str z => exact isW.str z
 | _ => exact h.elim
theorem wdW.word {v : V} (h : wdW v) : wordV v := by
 cases v with
 | int i => exact log_small h
 | str z => exact True.intro
 | _ => exact h.elim
theorem okW.wd {v : V} (h : okW v) : wdW v := by
 cases v with
 | int i => exact h
 | str z =>
  obtain ⟨h1, h2, h3⟩ := str_codes h
  exact ⟨str_noNum h, h2, h1, fun c hc => by have := h3 c hc; omega⟩
 | _ => exact h.elim
theorem wdW.text {v : V} (h : wdW v) : (textV v).length ≤ 61 ∧ (textV v).cps.toList ≠ [] ∧ ∀ c ∈ (textV v).cps.toList, 33 ≤ c := by
 cases v with
 | int i =>
  refine ⟨(read_int h).2.2, ?_⟩
  cases i with
  | ofNat m =>
   rw [show (textV (V.int (Int.ofNat m))).cps.toList = digs m from text_nat m]
   exact ⟨digs_ne m, fun c hc => by have := digs_digit m c hc; omega⟩
  | negSucc m =>
   rw [text_neg]
   refine ⟨by simp, fun c hc => ?_⟩
   rcases List.mem_cons.mp hc with e | hc
   ·omega
   ·have := digs_digit (m + 1) c hc
    omega
 | str z => exact ⟨by have := h.2.1; show z.length ≤ 61; omega, h.2.2⟩
 | _ => exact h.elim
theorem wd_lit (z : Str) (h : numB z = false ∧ z.length ≤ 8 ∧ z.cps.toList ≠ [] ∧ ∀ c ∈ z.cps.toList, 33 ≤ c) : wdW (.str z) := h
theorem feedS : ("\n" : Str) = ⟨#[10]⟩ := by decide +kernel
theorem join_codes10 : ∀ xs : List Str, (Str.join (⟨#[10]⟩ : Str) xs).cps.toList = joinL 10 (xs.map (·.cps.toList))
 | [] => rfl
 | [x] => by
  show x.cps.toList = x.cps.toList
  rfl
 | x :: y :: r => by
  have ih := join_codes10 (y :: r)
  show (x ++ (⟨#[10]⟩ : Str) ++ Str.join ⟨#[10]⟩ (y :: r)).cps.toList = x.cps.toList ++ 10 :: joinL 10 ((y :: r).map (·.cps.toList))
  rw [← ih]
  simp [Str.cps_append]
theorem codes_inj : ∀ a b : List Str, a.map (·.cps.toList) = b.map (·.cps.toList) → a = b
 | [], [], _ => rfl
 | [], _ :: _, e => by cases e
 | _ :: _, [], e => by cases e
 | x :: r, y :: q, e => by
  simp only [List.map_cons, List.cons.injEq] at e
  rw [str_eq.mpr e.1, codes_inj r q e.2]
theorem split_feed (xs : List Str) (h : xs ≠ []) (hf : ∀ x ∈ xs, 10 ∉ x.cps.toList) : Txt.split (Txt.join "\n" xs) "\n" = xs := by
 have e1 : Txt.join "\n" xs = Str.join ⟨#[10]⟩ xs := by
  rw [feedS]
  exact StrLaws.glued_eq_join _ xs
 rw [e1, feedS]
 have hj := StrLaws.join_split (Str.join ⟨#[10]⟩ xs) ⟨#[10]⟩
 have hfr := StrLaws.split_free (Str.join ⟨#[10]⟩ xs) 10
 have hne := split_ne (Str.join ⟨#[10]⟩ xs) ⟨#[10]⟩
 generalize Txt.split (Str.join ⟨#[10]⟩ xs) ⟨#[10]⟩ = ys at hj hfr hne
 have hc : joinL 10 (ys.map (·.cps.toList)) = joinL 10 (xs.map (·.cps.toList)) := by rw [← join_codes10, ← join_codes10, hj]
 exact codes_inj _ _ (joinL_inj (by simpa using hne) (by simpa using h) (fun x hx => by obtain ⟨z, hz, rfl⟩ := List.mem_map.mp hx; exact hfr z hz) (fun x hx => by obtain ⟨z, hz, rfl⟩ := List.mem_map.mp hx; exact hf z hz) hc)
noncomputable abbrev kdV : V := .str "kind"
noncomputable abbrev rlV : V := .str "rule"
noncomputable abbrev dsV : V := .str "does"
noncomputable abbrev noV : V := .str ""
def boxW (v : V) : Prop := v = .str "out" ∨ v = .str "t1" ∨ v = .str "t2" ∨ v = .str "t3"
noncomputable def leafS (l k : Nat) : Str := ⟨#[l, 48 + k]⟩
def leafV (l : Nat) (v : V) : Prop := ∃ k, 1 ≤ k ∧ k ≤ 9 ∧ v = .str (leafS l k)
def fromW (v : V) : Prop := boxW v ∨ leafV 104 v
def shW (v : V) : Prop := okW v ∨ v = .str "any" ∨ v = .str "var"
def deedOk (d : List V) : Prop := (∃ b x, d = [.str "put", b, x] ∧ boxW b ∧ ((∃ i : Int, x = .int i ∧ i.natAbs < 10 ^ 60) ∨ leafV 110 x)) ∨ (∃ b x, d = [.str "load", b, x] ∧ boxW b ∧ leafV 118 x) ∨ (∃ b x, d = [.str "neg", b, x] ∧ boxW b ∧ fromW x) ∨
 ∃ z b x y, d = [.str z, b, x, y] ∧ arS z = 2 ∧ boxW b ∧ fromW x ∧ fromW y
inductive Rw where
 | kind (n : Str)
 | rule (n k : Str) (p : Int) (ws : List V)
 | does (n : Str) (d : List V)
 | none
noncomputable def Rw.vs : Rw → List V
 | .kind n => [kdV, .str n]
 | .rule n k p ws => rlV :: .str n :: .str k :: .int p :: ws
 | .does n d => dsV :: .str n :: d
 | .none => [noV]
def Rw.ok : Rw → Prop
 | .kind n => nameB n = true
 | .rule n k p ws => nameB n = true ∧ nameB k = true ∧ 1 ≤ p ∧ p ≤ 999999 ∧ 1 ≤ ws.length ∧ ws.length ≤ 12 ∧ ∀ v ∈ ws, shW v
 | .does n d => nameB n = true ∧ deedOk d
 | .none => True
noncomputable def Rw.tx : Rw → List V
 | .rule n k p ws => rlV :: .str n :: .str k :: .int p :: .str "=" :: ws
 | r => r.vs
noncomputable def Rw.line (r : Rw) : Str := Txt.join " " (r.tx.map textV)
noncomputable def Rw.full : Rw → Bool
 | .none => false
 | _ => true
theorem box_wd {v : V} (h : boxW v) : wdW v := by
 rcases h with rfl | rfl | rfl | rfl <;> (refine wd_lit _ ?_; decide +kernel)
theorem leaf_wd {l : Nat} {v : V} (hl : 58 ≤ l) (h : leafV l v) : wdW v := by
 obtain ⟨k, k1, k2, rfl⟩ := h
 have e : (leafS l k).cps.toList = [l, 48 + k] := rfl
 refine ⟨?_, by show (2 : Nat) ≤ 8; decide, by rw [e]; simp, fun c hc => ?_⟩
 ·unfold numB
  have f : figL (leafS l k).cps.toList = [l, 48 + k] := by
   rw [e]
   unfold figL
   rw [if_neg]
   intro h
   have : l = 45 := Option.some.inj h
   omega
  rw [f]
  have : ([l, 48 + k].all fun c => decide (c ∈ figS.cps.toList)) = false := by
   rw [Bool.eq_false_iff]
   intro q
   rw [List.all_eq_true] at q
   have := (mem_fig l).mp (of_decide_eq_true (q l List.mem_cons_self))
   omega
  rw [this]
  simp
 ·rw [e] at hc
  simp only [List.mem_cons, List.not_mem_nil, or_false] at hc
  omega
theorem from_wd {v : V} (h : fromW v) : wdW v := h.elim box_wd (leaf_wd (by decide))
theorem sh_wd {v : V} (h : shW v) : wdW v := by
 rcases h with h | rfl | rfl
 ·exact h.wd
 ·exact wd_lit _ (by decide +kernel)
 ·exact wd_lit _ (by decide +kernel)
theorem name_wd {z : Str} (h : nameB z = true) : wdW (.str z) := okW.wd (.inl h)
theorem deed_wd {d : List V} (h : deedOk d) : ∀ v ∈ d, wdW v := by
 rcases h with ⟨b, x, rfl, hb, hx⟩ | ⟨b, x, rfl, hb, hx⟩ | ⟨b, x, rfl, hb, hx⟩ | ⟨z, b, x, y, rfl, hz, hb, hx, hy⟩ <;> intro v hv <;> simp only [List.mem_cons, List.not_mem_nil, or_false] at hv
 ·rcases hv with rfl | rfl | rfl
  ·exact wd_lit _ (by decide +kernel)
  ·exact box_wd hb
  ·rcases hx with ⟨i, rfl, hi⟩ | hx
   ·exact hi
   ·exact leaf_wd (by decide) hx
 ·rcases hv with rfl | rfl | rfl
  ·exact wd_lit _ (by decide +kernel)
  ·exact box_wd hb
  ·exact leaf_wd (by decide) hx
 ·rcases hv with rfl | rfl | rfl
  ·exact wd_lit _ (by decide +kernel)
  ·exact box_wd hb
  ·exact from_wd hx
 ·rcases hv with rfl | rfl | rfl | rfl
  ·exact okW.wd (.inr (by omega))
  ·exact box_wd hb
  ·exact from_wd hx
  ·exact from_wd hy
theorem deed_len {d : List V} (h : deedOk d) : 3 ≤ d.length ∧ d.length ≤ 4 := by
 rcases h with ⟨b, x, rfl, _⟩ | ⟨b, x, rfl, _⟩ | ⟨b, x, rfl, _⟩ | ⟨z, b, x, y, rfl, _⟩ <;> exact ⟨by simp, by simp⟩
theorem Rw.wd {r : Rw} (h : r.ok) (f : r.full = true) : ∀ v ∈ r.tx, wdW v := by
 cases r with
 | kind n =>
  intro v hv
  simp only [Rw.tx, Rw.vs, List.mem_cons, List.not_mem_nil, or_false] at hv
  rcases hv with rfl | rfl
  ·exact wd_lit _ (by decide +kernel)
  ·exact name_wd h
 | rule n k p ws =>
  obtain ⟨h1, h2, h3, h4, h5, h6, h7⟩ := h
  intro v hv
  simp only [Rw.tx, List.mem_cons] at hv
  rcases hv with rfl | rfl | rfl | rfl | rfl | hv
  ·exact wd_lit _ (by decide +kernel)
  ·exact name_wd h1
  ·exact name_wd h2
  ·show p.natAbs < 10 ^ 60
   exact Nat.lt_of_le_of_lt (show p.natAbs ≤ 999999 by omega) (by decide +kernel)
  ·exact wd_lit _ (by decide +kernel)
  ·exact sh_wd (h7 v hv)
 | does n d =>
  intro v hv
  simp only [Rw.tx, Rw.vs, List.mem_cons] at hv
  rcases hv with rfl | rfl | hv
  ·exact wd_lit _ (by decide +kernel)
  ·exact name_wd h.1
  ·exact deed_wd h.2 v hv
 | none => cases f
theorem Rw.txl {r : Rw} (h : r.ok) : 1 ≤ r.tx.length ∧ r.tx.length ≤ 17 := by
 cases r with
 | kind n => exact ⟨by show 1 ≤ (2 : Nat); decide, by show (2 : Nat) ≤ 17; decide⟩
 | rule n k p ws => have := h.2.2.2.2.2.1; exact ⟨by simp [Rw.tx], by simp only [Rw.tx, List.length_cons]; omega⟩
 | does n d => have := deed_len h.2; exact ⟨by simp [Rw.tx, Rw.vs], by simp only [Rw.tx, Rw.vs, List.length_cons]; omega⟩
 | none => exact ⟨by show 1 ≤ (1 : Nat); decide, by show (1 : Nat) ≤ 17; decide⟩
theorem join_len {ws : List V} (hf : ∀ v ∈ ws, wdW v) : (Txt.join " " (ws.map textV)).length ≤ ws.length * 62 ∧ ((ws.map textV).map (·.length)).sum + (ws.map textV).length * (" " : Str).length ≤ ws.length * 62 := by
 have e1 : (" " : Str).length = 1 := by decide +kernel
 have key : ((ws.map textV).map (·.length)).sum + (ws.map textV).length * (" " : Str).length ≤ ws.length * 62 := by
  rw [e1, List.length_map]
  induction ws with
  | nil => exact Nat.le_refl _
  | cons v r ih =>
   have h1 := (hf v List.mem_cons_self).text.1
   have h2 := ih fun x hx => hf x (List.mem_cons_of_mem _ hx)
   simp only [List.map_cons, List.sum_cons, List.length_cons]
   omega
 exact ⟨Nat.le_trans (join_le " " (ws.map textV)) key, key⟩
theorem joinL_mem {c : Nat} : ∀ {xs : List (List Nat)} {x : Nat}, x ∈ joinL c xs → x = c ∨ ∃ l ∈ xs, x ∈ l
 | [], x, h => by cases h
 | [l], x, h => .inr ⟨l, List.mem_cons_self, h⟩
 | l :: m :: r, x, h => by
  have h : x ∈ l ++ c :: joinL c (m :: r) := h
  rcases List.mem_append.mp h with h | h
  ·exact .inr ⟨l, List.mem_cons_self, h⟩
  ·rcases List.mem_cons.mp h with h | h
   ·exact .inl h
   ·rcases joinL_mem h with h | ⟨k, hk, h⟩
    ·exact .inl h
    ·exact .inr ⟨k, List.mem_cons_of_mem _ hk, h⟩
theorem line_codes (r : Rw) : r.line.cps.toList = joinL 32 ((r.tx.map textV).map (·.cps.toList)) := by
 unfold Rw.line
 rw [show Txt.join " " (r.tx.map textV) = Str.join ⟨#[32]⟩ (r.tx.map textV) by rw [blankS]; exact StrLaws.glued_eq_join _ _]
 exact join_codes _
theorem line_none : Rw.none.line = "" := by decide +kernel
theorem line_feed {r : Rw} (h : r.ok) : 10 ∉ r.line.cps.toList := by
 by_cases f : r.full = true
 ·rw [line_codes]
  intro hc
  rcases joinL_mem hc with e | ⟨l, hl, hx⟩
  ·exact absurd e (by decide)
  ·obtain ⟨z, hz, rfl⟩ := List.mem_map.mp hl
   obtain ⟨v, hv, rfl⟩ := List.mem_map.mp hz
   have := (Rw.wd h f v hv).text.2.2 10 hx
   omega
 ·have e : r = .none := by cases r <;> first | rfl | exact absurd rfl f
  rw [e, line_none]
  decide +kernel
theorem line_ne {r : Rw} (h : r.ok) (f : r.full = true) : r.line ≠ "" := by
 intro e
 have hc := line_codes r
 rw [e, show (("" : Str)).cps.toList = [] by decide +kernel] at hc
 have hw := Rw.wd h f
 have hl := (Rw.txl h).1
 cases ht : r.tx with
 | nil => rw [ht] at hl; exact absurd hl (by decide)
 | cons v q =>
  rw [ht] at hc hw
  have h0 := (hw v List.mem_cons_self).text.2.1
  cases q with
  | nil => exact h0 hc.symm
  | cons u q =>
   have hc : [] = (textV v).cps.toList ++ 32 :: joinL 32 (((u :: q).map textV).map (·.cps.toList)) := hc
   simp at hc
theorem line_split {r : Rw} (h : r.ok) (f : r.full = true) : Txt.split r.line " " = r.tx.map textV :=
 split_joined _ (by intro e; have := (Rw.txl h).1; rw [List.map_eq_nil_iff] at e; rw [e] at this; exact absurd this (by decide)) (fun x hx => by
  obtain ⟨v, hv, rfl⟩ := List.mem_map.mp hx
  intro hc
  have := (Rw.wd h f v hv).text.2.2 32 hc
  omega)
theorem lines_full {rs : List Rw} (h : ∀ r ∈ rs, r.ok) : (rs.map Rw.line).filter (fun z => decide (z ≠ ("" : Str))) = (rs.filter Rw.full).map Rw.line := by
 induction rs with
 | nil => rfl
 | cons r q ih =>
  have ih := ih fun x hx => h x (List.mem_cons_of_mem _ hx)
  rw [List.map_cons, List.filter_cons, List.filter_cons, ih]
  by_cases f : r.full = true
  ·rw [if_pos (decide_eq_true (line_ne (h r List.mem_cons_self) f)), if_pos f]
   rfl
  ·have e : r = .none := by cases r <;> first | rfl | exact absurd rfl f
   rw [if_neg f, e, line_none]
   simp
noncomputable def kindsR (rs : List Rw) : List Str := rs.filterMap fun | .kind n => some n | _ => none
noncomputable def rulesR (rs : List Rw) : List Str := rs.filterMap fun | .rule n _ _ _ => some n | _ => none
noncomputable def deedsR (rs : List Rw) (n : Str) : List (List V) := rs.filterMap fun | .does m d => if m = n then some d else none | _ => none
structure Rd5 where
 name : Str
 kind : Str
 price : Int
 shape : List V
 deeds : List (List V)
noncomputable def rulesD (all : List Rw) : List Str → List Rw → List Rd5
 | _, [] => []
 | seen, .rule n k p ws :: q => ⟨n, k, p, ws, if n ∈ seen then [] else deedsR all n⟩ :: rulesD all (seen ++ [n]) q
 | seen, _ :: q => rulesD all seen q
theorem deedsR_full (rs : List Rw) (n : Str) : deedsR (rs.filter Rw.full) n = deedsR rs n := by
 unfold deedsR
 induction rs with
 | nil => rfl
 | cons r q ih => cases r <;> simp only [List.filter_cons, Rw.full, if_true, if_false, List.filterMap_cons, Bool.false_eq_true, ih]
theorem kindsR_full (rs : List Rw) : kindsR (rs.filter Rw.full) = kindsR rs := by
 unfold kindsR
 induction rs with
 | nil => rfl
 | cons r q ih => cases r <;> simp only [List.filter_cons, Rw.full, if_true, if_false, List.filterMap_cons, Bool.false_eq_true, ih]
theorem rulesR_full (rs : List Rw) : rulesR (rs.filter Rw.full) = rulesR rs := by
 unfold rulesR
 induction rs with
 | nil => rfl
 | cons r q ih => cases r <;> simp only [List.filter_cons, Rw.full, if_true, if_false, List.filterMap_cons, Bool.false_eq_true, ih]
theorem rulesD_full {all : List Rw} : ∀ {q : List Rw} {s : List Str}, rulesD (all.filter Rw.full) s (q.filter Rw.full) = rulesD all s q
 | [], _ => rfl
 | .rule n k p ws :: q, s => by
  rw [List.filter_cons, if_pos (show (Rw.rule n k p ws).full = true from rfl)]
  show _ :: _ = _ :: _
  rw [rulesD_full (q := q), deedsR_full]
 | .kind n :: q, s => by rw [List.filter_cons, if_pos (show (Rw.kind n).full = true from rfl)]; exact rulesD_full (q := q)
 | .does n d :: q, s => by rw [List.filter_cons, if_pos (show (Rw.does n d).full = true from rfl)]; exact rulesD_full (q := q)
 | .none :: q, s => by rw [List.filter_cons, if_neg (by decide)]; exact rulesD_full (q := q)
def TupsAt (H : Hp) (as : List Addr) (ts : List (List V)) : Prop := as.length = ts.length ∧ ∀ (i : Nat) (a : Addr) (t : List V), as[i]? = some a → ts[i]? = some t → H a = some (.tup t)
def Rd5At (H : Hp) (a : Addr) (r : Rd5) : Prop := ∃ sa da as, H a = some (.tup [.str r.name, .str r.kind, .int r.price, .ref sa, .ref da]) ∧ H sa = some (.tup r.shape) ∧ H da = some (.tup (as.map V.ref)) ∧ TupsAt H as r.deeds
def RulesAt (H : Hp) (as : List Addr) (rs : List Rd5) : Prop := as.length = rs.length ∧ ∀ (i : Nat) (a : Addr) (r : Rd5), as[i]? = some a → rs[i]? = some r → Rd5At H a r
def BkAt (H : Hp) (b : Addr) (kinds : List Str) (rs : List Rd5) : Prop := ∃ kt rt ra, H b = some (.tup [.ref kt, .ref rt]) ∧ H kt = some (.tup (kinds.map V.str)) ∧ H rt = some (.tup (ra.map V.ref)) ∧ RulesAt H ra rs
def Tk (H H' : Hp) : Prop := ∀ b xs, H b = some (.tup xs) → H' b = some (.tup xs)
theorem Tk.refl (H : Hp) : Tk H H := fun _ _ h => h
theorem Tk.trans {H H1 H2 : Hp} (a : Tk H H1) (b : Tk H1 H2) : Tk H H2 := fun x xs h => b x xs (a x xs h)
theorem Tk.of {H H' : Hp} (s : Same H H') : Tk H H' := fun _ _ h => s _ _ h
theorem Tk.upd {H H' : Hp} {a : Addr} {o : HO} (k : Tk H H') (h : ∀ xs, H a ≠ some (.tup xs)) : Tk H (L2.upd H' a o) := fun b xs e => by
 by_cases c : b = a
 ·rw [c] at e; exact absurd e (h xs)
 ·rw [upd_ne c]; exact k b xs e
theorem TupsAt.keep {H H' : Hp} {as : List Addr} {ts : List (List V)} (h : TupsAt H as ts) (k : Tk H H') : TupsAt H' as ts := ⟨h.1, fun i a t x y => k _ _ (h.2 i a t x y)⟩
theorem TupsAt.nil (H : Hp) : TupsAt H [] [] := ⟨rfl, fun _ _ _ h => by cases h⟩
theorem snoc_get {α β : Type} {as : List α} {ts : List β} {a : α} {t : β} (h : as.length = ts.length) {R : α → β → Prop} (hr : ∀ (i : Nat) (a : α) (t : β), as[i]? = some a → ts[i]? = some t → R a t) (ha : R a t) : ∀ (i : Nat) (x : α) (y : β), (as ++ [a])[i]? = some x → (ts ++ [t])[i]? = some y → R x y := by
 intro i x y e1 e2
 by_cases c : i < as.length
 ·rw [List.getElem?_append_left c] at e1
  rw [List.getElem?_append_left (by omega)] at e2
  exact hr i x y e1 e2
 ·have hi : i = as.length := by
   have := (List.getElem?_eq_some_iff.mp e1).1
   rw [List.length_append, List.length_singleton] at this
   omega
  subst hi
  rw [List.getElem?_append_right (Nat.le_refl _), Nat.sub_self] at e1
  rw [h, List.getElem?_append_right (Nat.le_refl _), Nat.sub_self] at e2
  cases e1
  cases e2
  exact ha
theorem TupsAt.snoc {H : Hp} {as : List Addr} {ts : List (List V)} {a : Addr} {t : List V} (h : TupsAt H as ts) (ha : H a = some (.tup t)) : TupsAt H (as ++ [a]) (ts ++ [t]) := ⟨by rw [List.length_append, List.length_append, h.1]; rfl, snoc_get h.1 h.2 ha⟩
theorem Rd5At.keep {H H' : Hp} {a : Addr} {r : Rd5} (h : Rd5At H a r) (k : Tk H H') : Rd5At H' a r := let ⟨sa, da, as, h1, h2, h3, h4⟩ := h; ⟨sa, da, as, k _ _ h1, k _ _ h2, k _ _ h3, h4.keep k⟩
theorem RulesAt.keep {H H' : Hp} {as : List Addr} {rs : List Rd5} (h : RulesAt H as rs) (k : Tk H H') : RulesAt H' as rs := ⟨h.1, fun i a r x y => (h.2 i a r x y).keep k⟩
theorem RulesAt.nil (H : Hp) : RulesAt H [] [] := ⟨rfl, fun _ _ _ h => by cases h⟩
theorem RulesAt.snoc {H : Hp} {as : List Addr} {rs : List Rd5} {a : Addr} {r : Rd5} (h : RulesAt H as rs) (ha : Rd5At H a r) : RulesAt H (as ++ [a]) (rs ++ [r]) := ⟨by rw [List.length_append, List.length_append, h.1]; rfl, snoc_get h.1 h.2 ha⟩
theorem BkAt.keep {H H' : Hp} {b : Addr} {kinds : List Str} {rs : List Rd5} (h : BkAt H b kinds rs) (k : Tk H H') : BkAt H' b kinds rs := let ⟨kt, rt, ra, h1, h2, h3, h4⟩ := h; ⟨kt, rt, ra, k _ _ h1, k _ _ h2, k _ _ h3, h4.keep k⟩
def alt : Nat → Hp → V → V → Prop
 | 0, _, x, y => isW x ∧ y = x
 | n + 1, H, x, y => (isW x ∧ y = x) ∨ ∃ a b xs ys, x = .ref a ∧ y = .ref b ∧ H a = some (.tup xs) ∧ H b = some (.tup ys) ∧ xs.length = ys.length ∧ xs.length ≤ 1000 ∧ ∀ (i : Nat) (u v : V), xs[i]? = some u → ys[i]? = some v → alt n H u v
theorem alt.w {n : Nat} {H : Hp} {x : V} (h : isW x) : alt n H x x := by
 cases n with
 | zero => exact ⟨h, rfl⟩
 | succ n => exact .inl ⟨h, rfl⟩
theorem alt.keep {H H' : Hp} (k : Tk H H') : ∀ {n : Nat} {x y : V}, alt n H x y → alt n H' x y
 | 0, _, _, h => h
 | n + 1, x, y, h => by
  rcases h with h | ⟨a, b, xs, ys, e1, e2, h1, h2, h3, h4, h5⟩
  ·exact .inl h
  ·exact .inr ⟨a, b, xs, ys, e1, e2, k _ _ h1, k _ _ h2, h3, h4, fun i u v hu hv => alt.keep k (h5 i u v hu hv)⟩
theorem alt.tup {n : Nat} {H : Hp} {a b : Addr} {xs : List V} (h1 : H a = some (.tup xs)) (h2 : H b = some (.tup xs)) (hl : xs.length ≤ 1000) (hw : ∀ v ∈ xs, isW v) : alt (n + 1) H (.ref a) (.ref b) :=
 .inr ⟨a, b, xs, xs, rfl, rfl, h1, h2, rfl, hl, fun i u v hu hv => by
  cases hu.symm.trans hv
  exact alt.w (hw u (List.mem_of_getElem? hu))⟩
theorem refs_get {as : List Addr} {i : Nat} {u : V} (h : (as.map V.ref)[i]? = some u) : ∃ a, as[i]? = some a ∧ u = .ref a := by
 rw [List.getElem?_map] at h
 obtain ⟨a, h1, h2⟩ := Option.map_eq_some_iff.mp h
 exact ⟨a, h1, h2.symm⟩
theorem alt.refs {n : Nat} {H : Hp} {a b : Addr} {as bs : List Addr} (h1 : H a = some (.tup (as.map V.ref))) (h2 : H b = some (.tup (bs.map V.ref))) (hl : as.length = bs.length) (hm : as.length ≤ 1000) (hr : ∀ (i : Nat) (x y : Addr), as[i]? = some x → bs[i]? = some y → alt n H (.ref x) (.ref y)) : alt (n + 1) H (.ref a) (.ref b) :=
 .inr ⟨a, b, _, _, rfl, rfl, h1, h2, by rw [List.length_map, List.length_map]; exact hl, by rw [List.length_map]; exact hm, fun i u v hu hv => by
  obtain ⟨x, hx, rfl⟩ := refs_get hu
  obtain ⟨y, hy, rfl⟩ := refs_get hv
  exact hr i x y hx hy⟩
def Rd5.fit (r : Rd5) : Prop := (∀ v ∈ r.shape, isW v) ∧ r.shape.length ≤ 12 ∧ r.deeds.length ≤ 1000 ∧ ∀ d ∈ r.deeds, d.length ≤ 1000 ∧ ∀ v ∈ d, isW v
theorem alt_tups {n : Nat} {H : Hp} {as bs : List Addr} {ts : List (List V)} (h1 : TupsAt H as ts) (h2 : TupsAt H bs ts) (hw : ∀ d ∈ ts, d.length ≤ 1000 ∧ ∀ v ∈ d, isW v) (i : Nat) (x y : Addr) (hx : as[i]? = some x) (hy : bs[i]? = some y) : alt (n + 1) H (.ref x) (.ref y) := by
 have hi : i < ts.length := by rw [← h1.1]; exact (List.getElem?_eq_some_iff.mp hx).1
 have ht := List.getElem?_eq_getElem hi
 exact alt.tup (h1.2 i x _ hx ht) (h2.2 i y _ hy ht) (hw _ (List.mem_of_getElem? ht)).1 (hw _ (List.mem_of_getElem? ht)).2
theorem alt_rule {H : Hp} {a b : Addr} {r : Rd5} (h1 : Rd5At H a r) (h2 : Rd5At H b r) (f : r.fit) : alt 3 H (.ref a) (.ref b) := by
 obtain ⟨sa, da, as, a1, a2, a3, a4⟩ := h1
 obtain ⟨sb, db, bs, b1, b2, b3, b4⟩ := h2
 refine .inr ⟨a, b, _, _, rfl, rfl, a1, b1, rfl, by show (5 : Nat) ≤ 1000; decide, fun i u v hu hv => ?_⟩
 match i, hu, hv with
 | 0, hu, hv => cases hu; cases hv; exact alt.w (isW.str _)
 | 1, hu, hv => cases hu; cases hv; exact alt.w (isW.str _)
 | 2, hu, hv => cases hu; cases hv; exact alt.w (isW.int _)
 | 3, hu, hv => cases hu; cases hv; exact alt.tup a2 b2 (Nat.le_trans f.2.1 (by decide)) f.1
 | 4, hu, hv => cases hu; cases hv; exact alt.refs a3 b3 (a4.1.trans b4.1.symm) (by rw [a4.1]; exact f.2.2.1) (alt_tups a4 b4 f.2.2.2)
theorem alt_book {H : Hp} {a b : Addr} {kinds : List Str} {rs : List Rd5} (h1 : BkAt H a kinds rs) (h2 : BkAt H b kinds rs) (hk : kinds.length ≤ 1000) (hr : rs.length ≤ 1000) (f : ∀ r ∈ rs, r.fit) : alt 5 H (.ref a) (.ref b) := by
 obtain ⟨ka, ra, as, a1, a2, a3, a4⟩ := h1
 obtain ⟨kb, rb, bs, b1, b2, b3, b4⟩ := h2
 refine .inr ⟨a, b, _, _, rfl, rfl, a1, b1, rfl, by show (2 : Nat) ≤ 1000; decide, fun i u v hu hv => ?_⟩
 match i, hu, hv with
 | 0, hu, hv => cases hu; cases hv; exact alt.tup a2 b2 (by rw [List.length_map]; exact hk) fun v hv => by obtain ⟨z, _, rfl⟩ := List.mem_map.mp hv; exact isW.str z
 | 1, hu, hv =>
  cases hu; cases hv
  refine alt.refs a3 b3 (a4.1.trans b4.1.symm) (by rw [a4.1]; exact hr) fun i x y hx hy => ?_
  have hi : i < rs.length := by rw [← a4.1]; exact (List.getElem?_eq_some_iff.mp hx).1
  have ht := List.getElem?_eq_getElem hi
  exact alt_rule (a4.2 i x _ hx ht) (b4.2 i y _ hy ht) (f _ (List.mem_of_getElem? ht))
end Pc
namespace Pc
open PySem PySem.Spec L2 PyProof.Rows
noncomputable def mag (x : Int) : Nat := max x.natAbs 2
def leafB : V → Prop
 | .int i => mag i ≤ 2 ^ 200
 | _ => True
end Pc
namespace L2
open PySem PySem.Spec PyProof.Rows
def bitsOk (i : Int) : Prop := ∃ n, n ≤ 1000000 ∧ i.natAbs < 2 ^ n
theorem bitsOk.le {i : Int} (h : bitsOk i) : Builtin.Int.intBits i ≤ 2 ^ 20 := by
 obtain ⟨n, hn, hi⟩ := h
 unfold Builtin.Int.intBits
 split
 ·exact Nat.zero_le _
 ·rename_i h0
  have hne : i.natAbs ≠ 0 := by
   intro e
   exact h0 (by rw [Int.natAbs_eq_zero.mp e]; rfl)
  have := (Nat.log2_lt hne).mpr hi
  have e : (2 : Nat) ^ 20 = 1048576 := rfl
  omega
def CBits (i j : Int) : Prop := bitsOk i ∧ bitsOk j
theorem op_mulB {X : Cx} : OpR X (binaryOp .Mult) (rI CBits fun i j => .int (i * j)) := opI fun _ _ _ _ _ _ _ hc q => mul_int q (IntMulOk.of_bits hc.1.le hc.2.le)
theorem FnV.up {P : Program} {w : World} {K : PySem.W.Frag} {mg : Str → Option Value} {base : Heap} {j k : Nat} {ps : List Str} {sp : Sp} {v : V} (h : FnV P w K mg base j ps sp v) (l : j ≤ k) : FnV P w K mg base k ps sp v := by
 obtain ⟨f, fd, e, F, r⟩ := h
 exact ⟨f, fd, e, F.mono l, r⟩
end L2
namespace Pc
open PySem PySem.Spec L2 PyProof.Rows
def ValsAt (H : Hp) (a : Addr) (ρ : Str → Option Int) : Prop := ∃ kvs : List (Key × V), H a = some (.dK kvs) ∧ ∀ z, valV kvs (Sum.inr z) = (ρ z).map V.int
theorem ValsAt.same {H H' : Hp} {a : Addr} {ρ : Str → Option Int} (h : ValsAt H a ρ) (s : Same H H') : ValsAt H' a ρ := by
 obtain ⟨kvs, h1, h2⟩ := h
 exact ⟨kvs, s _ _ h1, h2⟩
noncomputable def valW (ρ : Str → Option Int) : V → V
 | .str z => if 0 < arS z then .str z else .int ((ρ z).getD 0)
 | v => v
def hasV (ρ : Str → Option Int) : V → Prop
 | .str z => 0 < arS z ∨ (ρ z).isSome = true
 | _ => True
end Pc
namespace Pc
open PySem PySem.Spec L2 PyProof.Rows
theorem cut_part (ws : List V) (p n : Nat) (h : p + n ≤ ws.length) : cutV ws (some (p : Int)) (some ((p : Int) + (n : Int))) = (ws.drop p).take n := by
 unfold cutV
 rw [show (p : Int) + (n : Int) = ((p + n : Nat) : Int) by omega, HT.sIx_nat, HT.sIx_nat, Nat.min_eq_left h, Nat.min_eq_left (by omega)]
 congr 1
 omega
theorem cut_head (ws : List V) (p : Nat) (h : p ≤ ws.length) : cutV ws none (some (p : Int)) = ws.take p := by
 unfold cutV
 rw [HT.sIx_nat, HT.sIx_none, Nat.min_eq_left h]
 rfl
theorem cut_tail (ws : List V) (p n : Nat) (h : p + n ≤ ws.length) : cutV ws (some ((p : Int) + (n : Int))) none = ws.drop (p + n) := by
 unfold cutV
 rw [show (p : Int) + (n : Int) = ((p + n : Nat) : Int) by omega, HT.sIx_nat, HT.sIx_none, Nat.min_eq_left h]
 apply List.take_of_length_le
 rw [List.length_drop]
 omega
def lowW (ρ : Str → Option Int) (v : V) : Prop := isW v ∧ hasV ρ v ∧ ∀ i, valW ρ v = .int i → mag i ≤ 2 ^ 7
noncomputable def six : List Str := ["a", "b", "ab", "kind", "addd", "neon"]
theorem six_name {z : Str} (h : z ∈ six) : nameB z = true := by
 have all : six.all nameB = true := by decide +kernel
 exact List.all_eq_true.mp all z h
def okL : V → Prop
 | .int i => i.natAbs ≤ 100
 | .str z => z ∈ six ∨ 0 < arS z
 | _ => False
theorem okL.ok {v : V} (h : okL v) : okW v := by
 cases v with
 | int i =>
  have h : i.natAbs ≤ 100 := h
  show i.natAbs < 10 ^ 60
  omega
 | str z => exact h.elim (fun a => .inl (six_name a)) .inr
 | _ => exact h.elim
def LawTerm (H : Hp) (t : Addr) (m : Nat) (ws : List V) : Prop := H t = some (.tup ws) ∧ (∀ v ∈ ws, okL v) ∧ isTerm ws ∧ ws.length ≤ m
def lawV (ρ : Str → Option Int) : Prop := ∀ z ∈ six, ∃ i, ρ z = some i ∧ i.natAbs ≤ 100
theorem okL.low {ρ : Str → Option Int} (hρ : lawV ρ) {v : V} (h : okL v) : lowW ρ v := by
 have m7 : ∀ i : Int, i.natAbs ≤ 100 → mag i ≤ 2 ^ 7 := fun i hi => Nat.max_le.mpr ⟨by omega, by decide⟩
 cases v with
 | int n =>
  refine ⟨isW.int n, True.intro, fun i e => ?_⟩
  have e : V.int n = V.int i := e
  cases e
  exact m7 _ h
 | str z =>
  rcases h with h | h
  ·obtain ⟨i, hi, hb⟩ := hρ z h
   have a0 : arS z = 0 := name_ar (six_name h)
   refine ⟨isW.str z, .inr (by rw [hi]; rfl), fun x e => ?_⟩
   have e : (if 0 < arS z then V.str z else V.int ((ρ z).getD 0)) = V.int x := e
   rw [if_neg (by omega), hi] at e
   cases e
   exact m7 _ hb
  ·refine ⟨isW.str z, .inl h, fun x e => ?_⟩
   have e : (if 0 < arS z then V.str z else V.int ((ρ z).getD 0)) = V.int x := e
   rw [if_pos h] at e
   cases e
 | _ => exact h.elim
def valsOk (i : Nat) (kvs : List (Key × V)) : Prop := (∀ z v, valV kvs (Sum.inr z) = some v → ∃ x : Int, v = .int x) ∧ ∀ z ∈ six.take i, ∃ x : Int, valV kvs (Sum.inr z) = some (.int x) ∧ x.natAbs ≤ 100
theorem valsOk.put {i : Nat} {kvs : List (Key × V)} (h : valsOk i kvs) {z : Str} (hz : six[i]? = some z) {x : Int} (hx : x.natAbs ≤ 100) : valsOk (i + 1) (putK kvs (Sum.inr z) (.int x)) := by
 constructor
 ·intro y v e
  rw [valV_put] at e
  by_cases hy : (Sum.inr y : Key) = Sum.inr z
  ·rw [if_pos hy] at e
   exact ⟨x, (Option.some.inj e).symm⟩
  ·rw [if_neg hy] at e
   exact h.1 y v e
 ·intro y hy
  rw [valV_put]
  by_cases e : (Sum.inr y : Key) = Sum.inr z
  ·rw [if_pos e]
   exact ⟨x, rfl, hx⟩
  ·rw [if_neg e]
   rw [List.take_add_one, hz] at hy
   rcases List.mem_append.mp hy with hy | hy
   ·exact h.2 y hy
   ·have : y = z := by simpa using hy
    exact absurd (by rw [this]) e
theorem valsOk.vals {kvs : List (Key × V)} (h : valsOk 6 kvs) {H : Hp} {a : Addr} (ha : H a = some (.dK kvs)) : ∃ ρ, ValsAt H a ρ ∧ lawV ρ := by
 refine ⟨fun z => match valV kvs (Sum.inr z) with | some (.int x) => some x | _ => none, ⟨kvs, ha, fun z => ?_⟩, fun z hz => ?_⟩
 ·show valV kvs (Sum.inr z) = Option.map V.int (match valV kvs (Sum.inr z) with | some (.int x) => some x | _ => none)
  generalize e : valV kvs (Sum.inr z) = r
  cases r with
  | none => rfl
  | some v =>
   obtain ⟨x, rfl⟩ := h.1 z v e
   rfl
 ·obtain ⟨x, hx, hb⟩ := h.2 z (by rw [show six.take 6 = six from rfl]; exact hz)
  refine ⟨x, ?_, hb⟩
  show (match valV kvs (Sum.inr z) with | some (.int x) => some x | _ => none) = some x
  rw [hx]
theorem LawTerm.same {H H' : Hp} {t : Addr} {m : Nat} {ws : List V} (h : LawTerm H t m ws) (s : Same H H') : LawTerm H' t m ws := ⟨s _ _ h.1, h.2⟩
theorem LawTerm.le {H : Hp} {t : Addr} {m k : Nat} {ws : List V} (h : LawTerm H t m ws) (l : m ≤ k) : LawTerm H t k ws := ⟨h.1, h.2.1, h.2.2.1, Nat.le_trans h.2.2.2 l⟩
end Pc
namespace L2
open PySem PySem.Spec PyProof.Rows
theorem gTup2_ok {K : PySem.W.Frag} {n : Nat} {a : Addr} {x0 x1 : V} {i0 i1 : Nat} {σ : L2.St} {H : Hp} {Q : L2.St → Hp → Prop} (h : H a = some (.tup [x0, x1])) (hn : 2 = n) (q : Q ((σ.set i0 (some x0)).set i1 (some x1)) H) : gTup K n (gCons (gName i0) (gCons (gName i1) gNil)) (.ref a) σ H Q := ⟨a, _, rfl, SqT.of h, hn, _, _, rfl, _, _, rfl, rfl, q⟩
theorem gTup5_ok {K : PySem.W.Frag} {n : Nat} {a : Addr} {x0 x1 x2 x3 x4 : V} {i0 i1 i2 i3 i4 : Nat} {σ : L2.St} {H : Hp} {Q : L2.St → Hp → Prop} (h : H a = some (.tup [x0, x1, x2, x3, x4])) (hn : 5 = n) (q : Q (((((σ.set i0 (some x0)).set i1 (some x1)).set i2 (some x2)).set i3 (some x3)).set i4 (some x4)) H) : gTup K n (gCons (gName i0) (gCons (gName i1) (gCons (gName i2) (gCons (gName i3) (gCons (gName i4) gNil))))) (.ref a) σ H Q := ⟨a, _, rfl, SqT.of h, hn, _, _, rfl, _, _, rfl, _, _, rfl, _, _, rfl, _, _, rfl, rfl, q⟩
end L2
namespace Bk
open PySem PySem.Spec L2 PyProof.Rows Pc
def spTW : Sp := fun vs H Q _ => ∃ z, vs = [.str z] ∧ z.length ≤ 1000 ∧ ∀ H', Same H H' → Q (.bl (numB z || nameB z || decide (0 < arS z))) H'
def spNumT : Sp := fun vs H Q _ => ∃ v, vs = [.str (textV v)] ∧ wdW v ∧ ∀ H', Same H H' → Q v H'
noncomputable def shB (z : Str) : Bool := (numB z || nameB z || decide (0 < arS z)) || inV (.str z) [.str "any", .str "var"]
def spShB : Sp := fun vs H Q _ => ∃ z, vs = [.str z] ∧ z.length ≤ 1000 ∧ ∀ H', Same H H' → Q (.bl (shB z)) H'
noncomputable def leafB (l : Nat) (z : Str) : Bool := match z.cps.toList with
 | [a, b] => decide (a = l) && decide (49 ≤ b ∧ b ≤ 57)
 | _ => false
def spLeafN : Sp := fun vs H Q _ => ∃ z l, vs = [.str z, .str ⟨#[l]⟩] ∧ z.length ≤ 1000 ∧ ∀ H', Same H H' → Q (.bl (leafB l z)) H'
noncomputable def boxesV : List V := [.str "out", .str "t1", .str "t2", .str "t3"]
noncomputable def boxB (z : Str) : Bool := inV (.str z) boxesV
noncomputable def fromB (z : Str) : Bool := boxB z || leafB 104 z
def spFrom : Sp := fun vs H Q _ => ∃ z, vs = [.str z] ∧ z.length ≤ 1000 ∧ ∀ H', Same H H' → Q (.bl (fromB z)) H'
noncomputable def srcB (d z : Str) : Bool := if d = "put" then numB z || leafB 110 z else if d = "load" then leafB 118 z else fromB z
def spSrc : Sp := fun vs H Q _ => ∃ d z, vs = [.str d, .str z] ∧ z.length ≤ 1000 ∧ ∀ H', Same H H' → Q (.bl (srcB d z)) H'
noncomputable def arQ (d : Str) : Nat := if d = "put" ∨ d = "load" then 1 else arS d
def spHowS : Sp := fun vs H Q _ => ∃ d, vs = [.str d] ∧ ∀ H', Same H H' → Q (.int (arQ d)) H'
noncomputable def deedB (ts : List Str) : Bool := decide (3 ≤ ts.length) && boxB (ts.getD 1 "") && decide (ts.length = 2 + arQ (ts.getD 0 "")) && (ts.drop 2).all fun z => srcB (ts.getD 0 "") z
def spDeedB : Sp := fun vs H Q _ => ∃ (a : Addr) (ts : List Str), vs = [.ref a] ∧ H a = some (.lst (ts.map V.str)) ∧ (∀ z ∈ ts, z.length ≤ 1000) ∧ ts.length ≤ 1000 ∧ ∀ H', Same H H' → Q (.bl (deedB ts)) H'
def numOk (z : Str) : Prop := numB z = true → ∃ i, PySem.intText? z = some i
noncomputable def priceB (z : Str) : Bool := numB z && (match PySem.intText? z with | some i => decide (1 ≤ i) && decide (i ≤ 999999) | none => false)
def spPrB : Sp := fun vs H Q _ => ∃ z, vs = [.str z] ∧ z.length ≤ 1000 ∧ numOk z ∧ ∀ H', Same H H' → Q (.bl (priceB z)) H'
noncomputable def kindB (ts : List Str) : Bool := decide (ts.length = 2) && decide (ts.getD 0 "" = "kind") && nameB (ts.getD 1 "")
noncomputable def ruleB (ts : List Str) : Bool := decide (1 ≤ (ts.drop 5).length) && decide ((ts.drop 5).length ≤ 12) && decide (ts.getD 0 "" = "rule") && (nameB (ts.getD 1 "") && nameB (ts.getD 2 "") && priceB (ts.getD 3 "") && decide (ts.getD 4 "" = "=")) && (ts.drop 5).all shB
noncomputable def doesB (ts : List Str) : Bool := decide (2 < ts.length) && decide (ts.getD 0 "" = "does") && nameB (ts.getD 1 "") && deedB (ts.drop 2)
def spKindB : Sp := fun vs H Q _ => ∃ (a : Addr) (ts : List Str), vs = [.ref a] ∧ H a = some (.lst (ts.map V.str)) ∧ (∀ z ∈ ts, z.length ≤ 1000) ∧ ts.length ≤ 1000 ∧ ∀ H', Same H H' → Q (.bl (kindB ts)) H'
def spRuleB : Sp := fun vs H Q _ => ∃ (a : Addr) (ts : List Str), vs = [.ref a] ∧ H a = some (.lst (ts.map V.str)) ∧ (∀ z ∈ ts, z.length ≤ 1000) ∧ numOk (ts.getD 3 "") ∧ ts.length ≤ 1000 ∧ ∀ H', Same H H' → Q (.bl (ruleB ts)) H'
def spDoesB : Sp := fun vs H Q _ => ∃ (a : Addr) (ts : List Str), vs = [.ref a] ∧ H a = some (.lst (ts.map V.str)) ∧ (∀ z ∈ ts, z.length ≤ 1000) ∧ ts.length ≤ 1000 ∧ ∀ H', Same H H' → Q (.bl (doesB ts)) H'
theorem str_at {ts : List Str} {k : Nat} (h : k < ts.length) : atI (ts.map V.str) ((k : Nat) : Int) = some (.str (ts.getD k "")) := atI_nat (by
 rw [List.getElem?_map, List.getElem?_eq_getElem h, List.getD_eq_getElem?_getD, List.getElem?_eq_getElem h]
 rfl)
theorem at_mem {ts : List Str} {k : Nat} (h : k < ts.length) : ts.getD k "" ∈ ts := by
 rw [List.getD_eq_getElem?_getD, List.getElem?_eq_getElem h]
 exact List.getElem_mem h
theorem cut_drop (ts : List Str) (k : Nat) : cutV (ts.map V.str) (some ((k : Nat) : Int)) none = (ts.drop k).map V.str := by
 by_cases h : k ≤ ts.length
 ·have := cut_tail (ts.map V.str) 0 k (by rw [List.length_map]; omega)
  rw [show ((0 : Nat) : Int) + (k : Int) = (k : Int) by omega] at this
  rw [this, Nat.zero_add, List.map_drop]
 ·have e : (ts.drop k).map V.str = [] := by rw [List.drop_eq_nil_of_le (by omega)]; rfl
  rw [e]
  unfold cutV
  rw [List.length_map]
  have : HT.sIx ts.length 0 (some ((k : Nat) : Int)) = ts.length := by unfold HT.sIx; simp only [Option.elim]; first | (rw [if_neg (by omega)]; omega) | (simp; split <;> omega)
  rw [this, List.drop_eq_nil_of_le (by rw [List.length_map]; exact Nat.le_refl _)]
  exact List.take_nil
theorem leaf2 {z : Str} {l a b : Nat} (h : z.cps.toList = [a, b]) : leafB l z = (decide (a = l) && decide (49 ≤ b ∧ b ≤ 57)) := by
 unfold leafB
 rw [h]
theorem leaf_no {z : Str} {l : Nat} (h : z.length ≠ 2) : leafB l z = false := by
 unfold leafB
 rw [slen] at h
 match e : z.cps.toList with
 | [] => rfl
 | [_] => rfl
 | [_, _] => rw [e] at h; exact absurd rfl h
 | _ :: _ :: _ :: _ => rfl
theorem in_nums (b : Nat) : (!(Builtin.Str.occurrences (Str.ofString "123456789") ⟨#[b]⟩ 0 (Str.ofString "123456789").length 1).isEmpty) = decide (49 ≤ b ∧ b ≤ 57) := by
 rw [StrLaws.found_one]
 refine decide_eq_decide.mpr ?_
 rw [show (Str.ofString "123456789").cps.toList = [49, 50, 51, 52, 53, 54, 55, 56, 57] by decide +kernel]
 simp only [List.mem_cons, List.not_mem_nil, or_false]
 omega
theorem num_len {z : Str} (h : numB z = true) : z.length ≤ 640 := by
 unfold numB at h
 simp only [Bool.and_eq_true, decide_eq_true_eq] at h
 have h2 := h.2.1
 rw [slen]
 unfold figL at h2
 split at h2
 ·rw [List.length_tail] at h2
  omega
 ·omega
def RowAt (H : Hp) (l p : Addr) (ts : List Str) : Prop := ∃ (n : Int) (a : Addr), a ≠ l ∧ H p = some (.tup [.int n, .ref a]) ∧ H a = some (.lst (ts.map V.str))
def RowsAt (H : Hp) (l : Addr) (tss : List (List Str)) : Prop := ∃ ps : List Addr, H l = some (.lst (ps.map V.ref)) ∧ ps.length = tss.length ∧ ∀ (i : Nat) (p : Addr) (ts : List Str), ps[i]? = some p → tss[i]? = some ts → RowAt H l p ts
theorem RowAt.same {H H' : Hp} {l p : Addr} {ts : List Str} (h : RowAt H l p ts) (s : Same H H') : RowAt H' l p ts := let ⟨n, a, ne, h1, h2⟩ := h; ⟨n, a, ne, s _ _ h1, s _ _ h2⟩
theorem RowAt.put {H : Hp} {l p : Addr} {ts : List Str} {xs ys : List V} (h : RowAt H l p ts) (hl : H l = some (.lst xs)) : RowAt (upd H l (.lst ys)) l p ts := let ⟨n, a, ne, h1, h2⟩ := h; ⟨n, a, ne, by rw [upd_ne (fun e => by rw [e, hl] at h1; cases h1)]; exact h1, by rw [upd_ne ne]; exact h2⟩
theorem RowsAt.same {H H' : Hp} {l : Addr} {tss : List (List Str)} (h : RowsAt H l tss) (s : Same H H') : RowsAt H' l tss := let ⟨ps, h1, h2, h3⟩ := h; ⟨ps, s _ _ h1, h2, fun i p ts a b => (h3 i p ts a b).same s⟩
noncomputable def txs (rs : List Rw) : List (List Str) := rs.map fun r => r.tx.map textV
def good (rs : List Rw) : Prop := (∀ r ∈ rs, r.ok ∧ r.full = true) ∧ rs.length ≤ 100
def spRowsIn : Sp := fun vs H Q _ => ∃ (z : Str), vs = [.str z] ∧ z.length ≤ 100000 ∧ (Txt.split z "\n").length ≤ 1000 ∧ (∀ y ∈ Txt.split z "\n", y.length ≤ 100000) ∧ ∀ (l : Addr) (H' : Hp), Same H H' → RowsAt H' l (((Txt.split z "\n").filter fun y => decide (y ≠ ("" : Str))).map fun y => Txt.split y " ") → Q (.ref l) H'
def spRefuse : Sp := fun vs H Q _ => ∃ (l : Addr) (rs : List Rw), vs = [.ref l] ∧ RowsAt H l (txs rs) ∧ good rs ∧ ∀ H', Same H H' → Q .non H'
def spReadWs : Sp := fun vs H Q _ => ∃ (a : Addr) (ws : List V), vs = [.ref a] ∧ H a = some (.lst ((ws.map textV).map V.str)) ∧ (∀ v ∈ ws, wdW v) ∧ ws.length ≤ 1000 ∧ ∀ (t : Addr) (H' : Hp), Same H H' → H t = none → H' t = some (.tup ws) → Q (.ref t) H'
def DA (C : Addr → Prop) (H : Hp) (d : Addr) (n : Nat) (f : Str → Option (List (List V))) : Prop := ∃ kvs : List (Key × V), H d = some (.dK kvs) ∧ kvs.length ≤ n ∧ (∀ z, f z = none → valV kvs (.inr z) = none) ∧ (∀ z ts, f z = some ts → ∃ a as, C a ∧ valV kvs (.inr z) = some (.ref a) ∧ H a = some (.lst (as.map V.ref)) ∧ TupsAt H as ts) ∧ ∀ z y a, valV kvs (.inr z) = some (.ref a) → valV kvs (.inr y) = some (.ref a) → z = y
def spDeedsBy : Sp := fun vs H Q _ => ∃ (l : Addr) (rs : List Rw), vs = [.ref l] ∧ RowsAt H l (txs rs) ∧ good rs ∧ (∀ n d, Rw.does n d ∈ rs → n ∈ rulesR rs) ∧ ∀ (d : Addr) (H' : Hp), Same H H' → H d = none → DA (fun a => H a = Option.none) H' d 100 (fun z => if z ∈ rulesR rs then some (deedsR rs z) else none) → Q (.ref d) H'
def spReadBk : Sp := fun vs H Q _ => ∃ (z : Str) (rs : List Rw), vs = [.str z] ∧ z.length ≤ 100000 ∧ (Txt.split z "\n").length ≤ 1000 ∧ (∀ y ∈ Txt.split z "\n", y.length ≤ 100000) ∧ (Txt.split z "\n").filter (fun y => decide (y ≠ ("" : Str))) = rs.map Rw.line ∧ good rs ∧ (∀ n d, Rw.does n d ∈ rs → n ∈ rulesR rs) ∧ ∀ (b : Addr) (H' : Hp), Same H H' → BkAt H' b (kindsR rs) (rulesD rs [] rs) → Q (.ref b) H'
theorem kindB_ok {n : Str} (h : nameB n = true) : kindB ((Rw.kind n).tx.map textV) = true := by
 show (decide ((2 : Nat) = 2) && decide (("kind" : Str) = "kind") && nameB n) = true
 rw [h]
 decide
theorem sh_ok {v : V} (h : shW v) : shB (textV v) = true := by
 unfold shB
 rcases h with h | rfl | rfl
 ·cases v with
  | int i => rw [(read_int h).1, Bool.true_or, Bool.true_or, Bool.true_or]
  | str z =>
   show ((numB z || nameB z || decide (0 < arS z)) || _) = true
   rcases (show nameB z = true ∨ 0 < arS z from h) with k | k
   ·rw [k, Bool.or_true, Bool.true_or, Bool.true_or]
   ·rw [decide_eq_true k, Bool.or_true, Bool.true_or]
  | _ => exact h.elim
 ·decide +kernel
 ·decide +kernel
theorem price_ok {p : Int} (h1 : 1 ≤ p) (h2 : p ≤ 999999) : priceB (textV (.int p)) = true := by
 have r := read_int (i := p) (Nat.lt_of_le_of_lt (show p.natAbs ≤ 999999 by omega) (by decide +kernel))
 unfold priceB
 rw [r.1, r.2.1, Bool.true_and]
 show (decide (1 ≤ p) && decide (p ≤ 999999)) = true
 rw [decide_eq_true h1, decide_eq_true h2]
 rfl
theorem ruleB_ok {n k : Str} {p : Int} {ws : List V} (h : (Rw.rule n k p ws).ok) : ruleB ((Rw.rule n k p ws).tx.map textV) = true := by
 obtain ⟨h1, h2, h3, h4, h5, h6, h7⟩ := h
 have e : (((Rw.rule n k p ws).tx.map textV).drop 5) = ws.map textV := rfl
 unfold ruleB
 rw [e, List.length_map, decide_eq_true h5, decide_eq_true h6]
 show (true && true && decide (("rule" : Str) = "rule") && (nameB n && nameB k && priceB (textV (.int p)) && decide (("=" : Str) = "=")) && (ws.map textV).all shB) = true
 rw [h1, h2, price_ok h3 h4, show (ws.map textV).all shB = true from List.all_eq_true.mpr fun z hz => by obtain ⟨v, hv, rfl⟩ := List.mem_map.mp hz; exact sh_ok (h7 v hv)]
 decide
theorem box_ok {v : V} (h : boxW v) : boxB (textV v) = true := by rcases h with rfl | rfl | rfl | rfl <;> decide +kernel
theorem leaf_ok {l : Nat} {v : V} (h : leafV l v) : leafB l (textV v) = true := by
 obtain ⟨k, k1, k2, rfl⟩ := h
 rw [leaf2 (show (textV (.str (leafS l k))).cps.toList = [l, 48 + k] from rfl), decide_eq_true rfl, decide_eq_true (by omega)]
 rfl
theorem from_ok {v : V} (h : fromW v) : fromB (textV v) = true := by
 unfold fromB
 rcases h with h | h
 ·rw [box_ok h, Bool.true_or]
 ·rw [leaf_ok h, Bool.or_true]
theorem deedB_ok {d : List V} (h : deedOk d) : deedB (d.map textV) = true := by
 rcases h with ⟨b, x, rfl, hb, hx⟩ | ⟨b, x, rfl, hb, hx⟩ | ⟨b, x, rfl, hb, hx⟩ | ⟨z, b, x, y, rfl, hz, hb, hx, hy⟩
 ·show (decide (3 ≤ (3 : Nat)) && boxB (textV b) && decide ((3 : Nat) = 2 + arQ "put") && (srcB "put" (textV x) && true)) = true
  have e : srcB "put" (textV x) = true := by
   unfold srcB
   rw [if_pos rfl]
   rcases hx with ⟨i, rfl, hi⟩ | hx
   ·rw [(read_int hi).1, Bool.true_or]
   ·rw [leaf_ok hx, Bool.or_true]
  rw [box_ok hb, e, decide_eq_true (show (3 : Nat) = 2 + arQ "put" by decide +kernel)]
  rfl
 ·show (decide (3 ≤ (3 : Nat)) && boxB (textV b) && decide ((3 : Nat) = 2 + arQ "load") && (srcB "load" (textV x) && true)) = true
  have e : srcB "load" (textV x) = true := by
   unfold srcB
   rw [if_neg (by decide +kernel), if_pos rfl]
   exact leaf_ok hx
  rw [box_ok hb, e, decide_eq_true (show (3 : Nat) = 2 + arQ "load" by decide +kernel)]
  rfl
 ·show (decide (3 ≤ (3 : Nat)) && boxB (textV b) && decide ((3 : Nat) = 2 + arQ "neg") && (srcB "neg" (textV x) && true)) = true
  have e : srcB "neg" (textV x) = true := by
   unfold srcB
   rw [if_neg (by decide +kernel), if_neg (by decide +kernel)]
   exact from_ok hx
  rw [box_ok hb, e, decide_eq_true (show (3 : Nat) = 2 + arQ "neg" by decide +kernel)]
  rfl
 ·show (decide (3 ≤ (4 : Nat)) && boxB (textV b) && decide ((4 : Nat) = 2 + arQ z) && (srcB z (textV x) && (srcB z (textV y) && true))) = true
  have n1 : ¬ z = "put" := fun e => by rw [e] at hz; exact absurd hz (by decide +kernel)
  have n2 : ¬ z = "load" := fun e => by rw [e] at hz; exact absurd hz (by decide +kernel)
  have e : ∀ v, fromW v → srcB z (textV v) = true := fun v hv => by
   unfold srcB
   rw [if_neg n1, if_neg n2]
   exact from_ok hv
  have ea : arQ z = 2 := by unfold arQ; rw [if_neg (by rintro (e | e); exact n1 e; exact n2 e)]; exact hz
  rw [box_ok hb, e x hx, e y hy, ea]
  rfl
theorem doesB_ok {n : Str} {d : List V} (h : (Rw.does n d).ok) : doesB ((Rw.does n d).tx.map textV) = true := by
 have e : (((Rw.does n d).tx.map textV).drop 2) = d.map textV := rfl
 have hl := deed_len h.2
 unfold doesB
 rw [e, deedB_ok h.2, decide_eq_true (show 2 < ((Rw.does n d).tx.map textV).length by show 2 < (d.map textV).length + 1 + 1; rw [List.length_map]; omega)]
 show (true && decide (("does" : Str) = "does") && nameB n && true) = true
 rw [h.1]
 decide
theorem tx_len {r : Rw} (h : r.ok) (f : r.full = true) : ∀ z ∈ r.tx.map textV, z.length ≤ 1000 := fun z hz => by
 obtain ⟨v, hv, rfl⟩ := List.mem_map.mp hz
 have := (Rw.wd h f v hv).text.1
 omega
theorem num_tx {r : Rw} (h : r.ok) (f : r.full = true) (k : Nat) : numOk ((r.tx.map textV).getD k "") := by
 intro hn
 rw [List.getD_eq_getElem?_getD, List.getElem?_map] at hn ⊢
 cases e : r.tx[k]? with
 | none => rw [e] at hn; exact absurd hn (by decide +kernel)
 | some v =>
  rw [e] at hn
  have hw := Rw.wd h f v (List.mem_of_getElem? e)
  cases v with
  | int i => exact ⟨i, (read_int hw).2.1⟩
  | str z => exact absurd (show numB z = true from hn) (by rw [hw.1]; decide)
  | _ => exact hw.elim
theorem valV_drop (k j : Key) : ∀ kvs : List (Key × V), valV (dropK kvs k) j = if j = k then none else valV kvs j
 | [] => by unfold dropK; simp [valV]
 | p :: r => by
  have ih := valV_drop k j r
  unfold dropK at ih ⊢
  rw [List.filter_cons]
  by_cases c : p.1 = k
  ·rw [if_neg (by simpa using c), ih]
   by_cases e : j = k
   ·rw [if_pos e, if_pos e]
   ·rw [if_neg e, if_neg e, valV_neg (fun h => e (h.symm.trans c))]
  ·rw [if_pos (by simpa using c)]
   by_cases e : p.1 = j
   ·rw [valV_pos e, valV_pos e, if_neg (fun h => c (e.trans h))]
   ·rw [valV_neg e, valV_neg e, ih]
theorem DA.new {C : Addr → Prop} {H : Hp} {d : Addr} : DA C (upd H d (.dK [])) d 0 (fun _ => none) := ⟨[], upd_same, Nat.le_refl _, fun _ _ => rfl, (fun _ _ h => by cases h), fun _ _ _ h => by cases h⟩
theorem DA.same {C : Addr → Prop} {H H' : Hp} {d : Addr} {n : Nat} {f : Str → Option (List (List V))} (h : DA C H d n f) (s : Same H H') : DA C H' d n f := by
 obtain ⟨kvs, h1, h2, h3, h4, h5⟩ := h
 refine ⟨kvs, s _ _ h1, h2, h3, fun z ts e => ?_, h5⟩
 obtain ⟨a, as, g0, g1, g2, g3⟩ := h4 z ts e
 exact ⟨a, as, g0, g1, s _ _ g2, g3.keep (Tk.of s)⟩
theorem DA.ext {C : Addr → Prop} {H : Hp} {d : Addr} {n m : Nat} {f g : Str → Option (List (List V))} (h : DA C H d n f) (e : ∀ z, f z = g z) (hn : n ≤ m) : DA C H d m g := by
 rw [show g = f from funext fun z => (e z).symm]
 obtain ⟨kvs, h1, h2, h3⟩ := h
 exact ⟨kvs, h1, Nat.le_trans h2 hn, h3⟩
theorem DA.put {C : Addr → Prop} {H : Hp} {d a : Addr} {n : Nat} {f : Str → Option (List (List V))} (h : DA C H d n f) (ha : H a = none) (hB : C a) (z : Str) : ∃ kvs, upd H a (.lst []) d = some (.dK kvs) ∧ kvs.length ≤ n ∧ DA C (upd (upd H a (.lst [])) d (.dK (putK kvs (.inr z) (.ref a)))) d (n + 1) (fun y => if y = z then some [] else f y) := by
 obtain ⟨kvs, h1, h2, h3, h4, h5⟩ := h
 have hda : d ≠ a := ne_of_none h1 ha
 have old : ∀ y b, y ≠ z → valV kvs (.inr y) = some (.ref b) → b ≠ a := by
  intro y b _ e e2
  cases hf : f y with
  | none => rw [h3 y hf] at e; cases e
  | some ts =>
   obtain ⟨a', as, _, g1, g2, _⟩ := h4 y ts hf
   rw [e] at g1
   have : b = a' := by injection (Option.some.inj g1)
   rw [← this, e2, ha] at g2
   cases g2
 have inj : ∀ y, (Sum.inr y : Key) = Sum.inr z ↔ y = z := fun y => ⟨Sum.inr.inj, fun e => by rw [e]⟩
 refine ⟨kvs, by rw [upd_ne hda]; exact h1, h2, putK kvs (.inr z) (.ref a), upd_same, Nat.le_trans (length_putK _ _ _) (Nat.succ_le_succ h2), fun y e => ?_, fun y ts e => ?_, fun y x b e1 e2 => ?_⟩
 ·dsimp only at e
  by_cases c : y = z
  ·rw [if_pos c] at e; cases e
  ·rw [if_neg c] at e
   rw [valV_put, if_neg (fun h => c ((inj y).mp h)), h3 y e]
 ·dsimp only at e
  by_cases c : y = z
  ·rw [if_pos c] at e
   cases e
   refine ⟨a, [], hB, by rw [valV_put, if_pos ((inj y).mpr c)], by rw [upd_ne hda.symm, upd_same]; rfl, TupsAt.nil _⟩
  ·rw [if_neg c] at e
   obtain ⟨b, as, g0, g1, g2, g3⟩ := h4 y ts e
   refine ⟨b, as, g0, by rw [valV_put, if_neg (fun h => c ((inj y).mp h))]; exact g1, by rw [upd_ne (ne_of g2 h1 (by intro h; cases h)), upd_ne (old y b c g1)]; exact g2, g3.keep ?_⟩
   refine Tk.upd (Tk.of (same_new ha _)) fun xs e => ?_
   rw [h1] at e
   cases e
 ·rw [valV_put] at e1 e2
  by_cases c1 : (Sum.inr y : Key) = Sum.inr z
  ·rw [if_pos c1] at e1
   by_cases c2 : (Sum.inr x : Key) = Sum.inr z
   ·exact ((inj y).mp c1).trans ((inj x).mp c2).symm
   ·rw [if_neg c2] at e2
    have : b = a := by injection (Option.some.inj e1) with h; exact h.symm
    exact absurd this (old x b (fun h => c2 ((inj x).mpr h)) e2)
  ·rw [if_neg c1] at e1
   by_cases c2 : (Sum.inr x : Key) = Sum.inr z
   ·rw [if_pos c2] at e2
    have : b = a := by injection (Option.some.inj e2) with h; exact h.symm
    exact absurd this (old y b (fun h => c1 ((inj y).mpr h)) e1)
   ·rw [if_neg c2] at e2
    exact h5 y x b e1 e2
theorem DA.get {C : Addr → Prop} {H : Hp} {d : Addr} {n : Nat} {f : Str → Option (List (List V))} (h : DA C H d n f) {z : Str} {ts : List (List V)} (hz : f z = some ts) : ∃ kvs a as, C a ∧ H d = some (.dK kvs) ∧ valV kvs (.inr z) = some (.ref a) ∧ H a = some (.lst (as.map V.ref)) ∧ TupsAt H as ts ∧
  (∀ t u, H t = some (.tup u) → DA C (upd H a (.lst (as.map V.ref ++ [.ref t]))) d n (fun y => if y = z then some (ts ++ [u]) else f y)) ∧ DA C (upd H d (.dK (dropK kvs (.inr z)))) d n (fun y => if y = z then none else f y) := by
 obtain ⟨kvs, h1, h2, h3, h4, h5⟩ := h
 obtain ⟨a, as, g0, g1, g2, g3⟩ := h4 z ts hz
 have inj : ∀ y, (Sum.inr y : Key) = Sum.inr z ↔ y = z := fun y => ⟨Sum.inr.inj, fun e => by rw [e]⟩
 have hda : d ≠ a := ne_of h1 g2 (by intro h; cases h)
 refine ⟨kvs, a, as, g0, h1, g1, g2, g3, fun t u ht => ⟨kvs, by rw [upd_ne hda]; exact h1, h2, fun y e => ?_, fun y us e => ?_, h5⟩, dropK kvs (.inr z), upd_same, Nat.le_trans (dropK_le _ _) h2, fun y e => ?_, fun y us e => ?_, fun y x b e1 e2 => ?_⟩
 ·dsimp only at e
  by_cases c : y = z
  ·rw [if_pos c] at e; cases e
  ·rw [if_neg c] at e; exact h3 y e
 ·have tk : Tk H (upd H a (.lst (as.map V.ref ++ [.ref t]))) := Tk.upd (Tk.refl _) fun xs e => by rw [g2] at e; cases e
  dsimp only at e
  by_cases c : y = z
  ·rw [if_pos c] at e
   cases e
   subst c
   exact ⟨a, as ++ [t], g0, g1, by rw [upd_same, List.map_append]; rfl, (g3.keep tk).snoc (tk _ _ ht)⟩
  ·rw [if_neg c] at e
   obtain ⟨b, bs, k0, k1, k2, k3⟩ := h4 y us e
   have hba : b ≠ a := fun e => c (h5 y z a (by rw [← e]; exact k1) g1)
   exact ⟨b, bs, k0, k1, by rw [upd_ne hba]; exact k2, k3.keep tk⟩
 ·dsimp only at e
  rw [valV_drop]
  by_cases c : y = z
  ·rw [if_pos ((inj y).mpr c)]
  ·rw [if_neg c] at e
   rw [if_neg (fun h => c ((inj y).mp h)), h3 y e]
 ·dsimp only at e
  by_cases c : y = z
  ·rw [if_pos c] at e; cases e
  ·rw [if_neg c] at e
   obtain ⟨b, bs, k0, k1, k2, k3⟩ := h4 y us e
   refine ⟨b, bs, k0, by rw [valV_drop, if_neg (fun h => c ((inj y).mp h))]; exact k1, by rw [upd_ne (ne_of k2 h1 (by intro h; cases h))]; exact k2, k3.keep (Tk.upd (Tk.refl _) fun xs e => by rw [h1] at e; cases e)⟩
 ·rw [valV_drop] at e1 e2
  by_cases c1 : (Sum.inr y : Key) = Sum.inr z
  ·rw [if_pos c1] at e1; cases e1
  ·by_cases c2 : (Sum.inr x : Key) = Sum.inr z
   ·rw [if_pos c2] at e2; cases e2
   ·rw [if_neg c1] at e1
    rw [if_neg c2] at e2
    exact h5 y x b e1 e2
theorem DA.none {C : Addr → Prop} {H : Hp} {d : Addr} {n : Nat} {f : Str → Option (List (List V))} (h : DA C H d n f) {z : Str} (hz : f z = none) : ∃ kvs, H d = some (.dK kvs) ∧ valV kvs (.inr z) = none := let ⟨kvs, h1, _, h3, _⟩ := h; ⟨kvs, h1, h3 z hz⟩
theorem DA.away {C : Addr → Prop} {H : Hp} {d x : Addr} {n : Nat} {f : Str → Option (List (List V))} (h : DA C H d n f) (hx : H x = Option.none) : DA (fun a => C a ∧ a ≠ x) H d n f := by
 obtain ⟨kvs, h1, h2, h3, h4, h5⟩ := h
 refine ⟨kvs, h1, h2, h3, fun z ts e => ?_, h5⟩
 obtain ⟨a, as, g0, g1, g2, g3⟩ := h4 z ts e
 exact ⟨a, as, ⟨g0, ne_of_none g2 hx⟩, g1, g2, g3⟩
theorem DA.upd {C : Addr → Prop} {H : Hp} {d x : Addr} {n : Nat} {f : Str → Option (List (List V))} (h : DA C H d n f) (hx : ∀ a, C a → a ≠ x) (hd : d ≠ x) (hT : ∀ xs, H x ≠ some (.tup xs)) (o : HO) : DA C (L2.upd H x o) d n f := by
 obtain ⟨kvs, h1, h2, h3, h4, h5⟩ := h
 refine ⟨kvs, by rw [upd_ne hd]; exact h1, h2, h3, fun z ts e => ?_, h5⟩
 obtain ⟨a, as, g0, g1, g2, g3⟩ := h4 z ts e
 exact ⟨a, as, g0, g1, by rw [upd_ne (hx a g0)]; exact g2, g3.keep (Tk.upd (Tk.refl _) hT)⟩
theorem rules_rule {q : List Rw} {n k : Str} {p : Int} {ws : List V} : rulesR (q ++ [.rule n k p ws]) = rulesR q ++ [n] := by unfold rulesR; rw [List.filterMap_append]; rfl
theorem rules_kind {q : List Rw} {n : Str} : rulesR (q ++ [.kind n]) = rulesR q := by unfold rulesR; rw [List.filterMap_append]; exact List.append_nil _
theorem rules_does {q : List Rw} {n : Str} {d : List V} : rulesR (q ++ [.does n d]) = rulesR q := by unfold rulesR; rw [List.filterMap_append]; exact List.append_nil _
theorem deeds_rule {q : List Rw} {n k z : Str} {p : Int} {ws : List V} : deedsR (q ++ [.rule n k p ws]) z = deedsR q z := by unfold deedsR; rw [List.filterMap_append]; exact List.append_nil _
theorem deeds_kind {q : List Rw} {n z : Str} : deedsR (q ++ [.kind n]) z = deedsR q z := by unfold deedsR; rw [List.filterMap_append]; exact List.append_nil _
theorem deeds_does {q : List Rw} {n z : Str} {d : List V} : deedsR (q ++ [.does n d]) z = if n = z then deedsR q z ++ [d] else deedsR q z := by
 unfold deedsR
 rw [List.filterMap_append]
 by_cases c : n = z
 ·rw [if_pos c]
  simp [List.filterMap_cons, c]
 ·rw [if_neg c]
  simp [List.filterMap_cons, c]
theorem deeds_len (rs : List Rw) (z : Str) : (deedsR rs z).length ≤ rs.length := List.length_filterMap_le _ _
theorem rules_len (rs : List Rw) : (rulesR rs).length ≤ rs.length := List.length_filterMap_le _ _
theorem kinds_rule {q : List Rw} {n k : Str} {p : Int} {ws : List V} : kindsR (q ++ [.rule n k p ws]) = kindsR q := by unfold kindsR; rw [List.filterMap_append]; exact List.append_nil _
theorem kinds_kind {q : List Rw} {n : Str} : kindsR (q ++ [.kind n]) = kindsR q ++ [n] := by unfold kindsR; rw [List.filterMap_append]; rfl
theorem kinds_does {q : List Rw} {n : Str} {d : List V} : kindsR (q ++ [.does n d]) = kindsR q := by unfold kindsR; rw [List.filterMap_append]; exact List.append_nil _
theorem rulesD_app {all : List Rw} : ∀ {q r : List Rw} {s : List Str}, rulesD all s (q ++ r) = rulesD all s q ++ rulesD all (s ++ rulesR q) r
 | [], r, s => by rw [show rulesR [] = [] from rfl, List.append_nil]; rfl
 | .rule n k p ws :: q, r, s => by
  show _ :: rulesD all (s ++ [n]) (q ++ r) = _ :: (rulesD all (s ++ [n]) q ++ _)
  rw [rulesD_app (q := q), show rulesR (.rule n k p ws :: q) = n :: rulesR q from rfl, List.append_assoc]
  rfl
 | .kind n :: q, r, s => rulesD_app (q := q)
 | .does n d :: q, r, s => rulesD_app (q := q)
 | .none :: q, r, s => rulesD_app (q := q)
theorem rulesD_len {all : List Rw} : ∀ {q : List Rw} {s : List Str}, (rulesD all s q).length ≤ q.length
 | [], _ => Nat.le_refl _
 | .rule n k p ws :: q, s => Nat.succ_le_succ (rulesD_len (q := q))
 | .kind n :: q, s => Nat.le_succ_of_le (rulesD_len (q := q))
 | .does n d :: q, s => Nat.le_succ_of_le (rulesD_len (q := q))
 | .none :: q, s => Nat.le_succ_of_le (rulesD_len (q := q))
theorem dpop_by {K : PySem.W.Frag} {i j : Nat} {c : Int} {σ : L2.St} {H : Hp} {Q : VK} {d a : Addr} {ts : List Str} {z : Str} {kvs : List (Key × V)} (R : Addr → Hp → Prop) (hd : σ[i]? = some (some (.ref d))) (ha : σ[j]? = some (some (.ref a))) (hA : H a = some (.lst (ts.map V.str))) (hz : atI (ts.map V.str) c = some (.str z)) (hk : H d = some (.dK kvs))
  (hs : ∀ v e, H e = none → valV kvs (.inr z) = some v → ∃ b, v = .ref b ∧ R b (upd (upd H e (.lst [])) d (.dK (dropK kvs (.inr z))))) (hn : ∀ e, H e = none → valV kvs (.inr z) = none → R e (upd H e (.lst []))) (q : ∀ b H5, R b H5 → Q (.ref b) H5) :
  tDPop2 (tVarD i) (tOp (rIxL K) (tVarD j) (tC (.int c))) (tLst tNil) σ H Q := by
 simp only [tDPop2, tVarD, tOp, tC, tLst, tNil, hd, ha]
 refine ⟨d, rfl, .inl ⟨kvs, .inl hk⟩, rIxL_ok hA hz ⟨Nat.zero_le _, fun e he => ⟨kvs, Sum.inr z, by rw [upd_ne (ne_of_none hk he)]; exact hk, rfl, fun v hv => ?_, fun hv => q e _ (hn e he hv)⟩⟩⟩
 obtain ⟨b, rfl, r⟩ := hs v e he hv
 exact q b _ r
theorem inV_mem {z : Str} {xs : List V} (h : V.str z ∈ xs) : inV (.str z) xs = true := List.any_eq_true.mpr ⟨_, h, by simp [eqV]⟩
end Bk
namespace Bk
open PySem PySem.Spec L2 PyProof.Rows Pc
def HandAt (H : Hp) (h : Addr) (n : Nat) : Prop := ∃ a b c : Int, H h = some (.lst [.int a, .int b, .int c]) ∧ 0 ≤ a ∧ a ≤ (n : Int) ∧ 0 ≤ b ∧ b < 1000000007
def spHand : Sp := fun vs H Q _ => ∃ (c : Int) (k : Nat), vs = [.int c, .int (k : Int)] ∧ k ≤ 100 ∧ ∀ (l : Addr) (H' : Hp), Same H H' → H l = none → HandAt H' l 0 → Q (.ref l) H'
def spDraw : Sp := fun vs H Q _ => ∃ (h : Addr) (m : Int) (n : Nat), vs = [.ref h, .int m] ∧ HandAt H h n ∧ n ≤ 10000 ∧ 0 < m ∧ m.natAbs.log2 < 9000 ∧ ∀ (x : Int) (H' : Hp), SameB h H H' → HandAt H' h (n + 1) → 0 ≤ x → x < m → Q (.int x) H'
def spNumL : Sp := fun vs H Q _ => ∃ (h : Addr) (n : Nat), vs = [.ref h] ∧ HandAt H h n ∧ n ≤ 9990 ∧ ∀ (x : Int) (H' : Hp), SameB h H H' → HandAt H' h (n + 2) → x.natAbs < 10 ^ 60 → Q (.int x) H'
def spNamesL : Sp := fun vs H Q _ => ∃ (h : Addr), vs = [.ref h, .int 20] ∧ HandAt H h 0 ∧ ∀ (l : Addr) (H' : Hp), SameB h H H' → H l = none → Names H' l 20 → Q (.ref l) H'
def spAnyWd : Sp := fun vs H Q _ => ∃ (h l : Addr) (n : Nat), vs = [.ref h, .ref l] ∧ HandAt H h n ∧ Names H l 20 ∧ n ≤ 9000 ∧ ∀ (v : V) (H' : Hp), SameB h H H' → HandAt H' h (n + 3) → shW v → Q v H'
def spDeedL : Sp := fun vs H Q _ => ∃ (h : Addr) (n : Nat), vs = [.ref h] ∧ HandAt H h n ∧ n ≤ 9000 ∧ ∀ (t : Addr) (d : List V) (H' : Hp), SameB h H H' → H t = none → H' t = some (.tup d) → deedOk d → Q (.ref t) H'
def RawOk (r : List V) : Prop := (∃ n, r = [kdV, .str n] ∧ nameB n = true) ∨ (∃ n k p ws, r = rlV :: .str n :: .str k :: .int p :: ws ∧ (Rw.rule n k p ws).ok) ∨ r = [noV] ∨ ∃ i d, r = dsV :: .int i :: d ∧ deedOk d ∧ 0 ≤ i ∧ i < 1000
def spRowL : Sp := fun vs H Q _ => ∃ (h l : Addr), vs = [.ref h, .ref l] ∧ HandAt H h 0 ∧ Names H l 20 ∧ ∀ (t : Addr) (r : List V) (H' : Hp), SameB h H H' → H' t = some (.tup r) → RawOk r → Q (.ref t) H'
def LRows (H : Hp) (l : Addr) (rs : List (List V)) : Prop := ∃ ps : List Addr, H l = some (.lst (ps.map V.ref)) ∧ TupsAt H ps rs
def Told (rs : List Rw) : Prop := (∀ r ∈ rs, r.ok) ∧ rs.length ≤ 63 ∧ ∀ n d, Rw.does n d ∈ rs → n ∈ rulesR rs
def spSettled : Sp := fun vs H Q _ => ∃ (l : Addr) (raws : List (List V)), vs = [.ref l] ∧ LRows H l raws ∧ (∀ r ∈ raws, RawOk r) ∧ raws.length ≤ 63 ∧ ∀ (l' : Addr) (rs : List Rw) (H' : Hp), Same H H' → LRows H' l' (rs.map Rw.vs) → Told rs → Q (.ref l') H'
def spRowsL (K : PySem.W.Frag) : Sp := fun vs H Q _ => ∃ (a l : Addr) (ns : List Int), vs = [.ref a, .ref l] ∧ SqL K H a (ns.map V.int) ∧ ns.length ≤ 63 ∧ Names H l 20 ∧ ∀ (l' : Addr) (rs : List Rw) (H' : Hp), Same H H' → LRows H' l' (rs.map Rw.vs) → Told rs → Q (.ref l') H'
def spLine : Sp := fun vs H Q _ => ∃ (t : Addr) (r : Rw), vs = [.ref t] ∧ H t = some (.tup r.vs) ∧ r.ok ∧ ∀ H', Same H H' → Q (.str r.line) H'
def spDue : Sp := fun vs H Q _ => ∃ (l : Addr) (rs : List Rw), vs = [.ref l] ∧ LRows H l (rs.map Rw.vs) ∧ Told rs ∧ ∀ (b : Addr) (H' : Hp), Same H H' → BkAt H' b (kindsR rs) (rulesD rs [] rs) → Q (.ref b) H'
def spAlt (n : Nat) : Sp := fun vs H Q _ => ∃ x y, vs = [x, y] ∧ alt n H x y ∧ ∀ H', Same H H' → Q (.bl true) H'
theorem HandAt.le {H : Hp} {h : Addr} {n m : Nat} (a : HandAt H h n) (e : n ≤ m) : HandAt H h m := let ⟨x, y, z, h1, h2, h3, h4, h5⟩ := a; ⟨x, y, z, h1, h2, by omega, h4, h5⟩
theorem HandAt.same {H H' : Hp} {h : Addr} {n : Nat} (a : HandAt H h n) (s : Same H H') : HandAt H' h n := let ⟨x, y, z, h1, r⟩ := a; ⟨x, y, z, s _ _ h1, r⟩
theorem HandAt.ne {H : Hp} {h l : Addr} {n : Nat} {xs : List V} (a : HandAt H h n) (hl : H l = some (.lst xs)) (hx : xs.length ≠ 3) : l ≠ h := fun e => by
 obtain ⟨x, y, z, h1, _⟩ := a
 rw [e, h1] at hl
 cases hl
 exact hx rfl
theorem Names.hand {H H' : Hp} {h l : Addr} {n : Nat} (hN : Names H l 20) (a : HandAt H h n) (s : SameB h H H') : Names H' l 20 := by
 obtain ⟨zs, h1, h2, h3⟩ := hN
 exact ⟨zs, s _ _ (a.ne h1 (by rw [List.length_map]; omega)) h1, h2, h3⟩
theorem draw_ok {H : Hp} {h : Addr} {m : Int} {n : Nat} {Q : VK} {E : XK} (hh : HandAt H h n) (hn : n ≤ 10000) (hm : 0 < m) (hb : m.natAbs.log2 < 9000) (q : ∀ (x : Int) (H' : Hp), SameB h H H' → HandAt H' h (n + 1) → 0 ≤ x → x < m → Q (.int x) H') : spDraw [.ref h, .int m] H Q E := ⟨h, m, n, rfl, hh, hn, hm, hb, q⟩
theorem join0_mem : ∀ (zs : List Str) {x : Nat}, x ∈ (Str.join (⟨#[]⟩ : Str) zs).cps.toList → ∃ z ∈ zs, x ∈ z.cps.toList
 | [], x, h => by cases h
 | [z], x, h => ⟨z, List.mem_cons_self, h⟩
 | z :: y :: r, x, h => by
  have h : x ∈ (z ++ (⟨#[]⟩ : Str) ++ Str.join ⟨#[]⟩ (y :: r)).cps.toList := h
  simp only [Str.cps_append, Array.toList_append, List.mem_append] at h
  rcases h with (h | h) | h
  ·exact ⟨z, List.mem_cons_self, h⟩
  ·cases h
  ·obtain ⟨u, hu, hx⟩ := join0_mem (y :: r) h
   exact ⟨u, List.mem_cons_of_mem _ hu, hx⟩
theorem joined_mem {zs : List Str} {x : Nat} (h : x ∈ (Txt.join "" zs).cps.toList) : ∃ z ∈ zs, x ∈ z.cps.toList := by
 have e : Txt.join "" zs = Str.join ⟨#[]⟩ zs := by
  rw [show (Str.ofString "") = (⟨#[]⟩ : Str) by decide +kernel]
  exact StrLaws.glued_eq_join _ zs
 rw [e] at h
 exact join0_mem zs h
theorem let_of {x : Int} (h0 : 0 ≤ x) (h1 : x < 26) : ∃ c : Nat, atI letS.cps.toList x = some c ∧ 97 ≤ c ∧ c ≤ 122 := by
 obtain ⟨c, h, l⟩ := let_at x
 rw [Int.emod_eq_of_lt h0 h1] at h
 exact ⟨97 + c, h, by omega, by omega⟩
theorem kept_xs : ∀ z ∈ keptS, nameB (z ++ Str.ofString "x") = true := by decide +kernel
theorem name_of {z : Str} (h1 : 1 ≤ z.length) (h8 : z.length ≤ 8) (hc : ∀ c ∈ z.cps.toList, 97 ≤ c ∧ c ≤ 122) : (inV (.str z) keptV = true → nameB (z ++ Str.ofString "x") = true) ∧ (inV (.str z) keptV = false → nameB z = true) := by
 refine ⟨fun h => ?_, nameB_mk h1 h8 hc⟩
 have hm := inV_str h
 refine kept_xs z ?_
 have e : keptV = keptS.map V.str := rfl
 rw [e] at hm
 obtain ⟨y, hy, e⟩ := List.mem_map.mp hm
 cases e
 exact hy
theorem leaf_text : ∀ k : _root_.Fin 9, (Str.ofString "n" ++ textV (.int (1 + (k.val : Int))) = leafS 110 (k.val + 1)) ∧ (Str.ofString "v" ++ textV (.int (1 + (k.val : Int))) = leafS 118 (k.val + 1)) ∧ (Str.ofString "h" ++ textV (.int (1 + (k.val : Int))) = leafS 104 (k.val + 1)) := by decide +kernel
noncomputable def fromL : List V := [.str "out", .str "t1", .str "t2", .str "t3"] ++ (List.range 9).map fun k => V.str (leafS 104 (k + 1))
theorem from_all : ∀ v ∈ fromL, fromW v := by
 intro v hv
 unfold fromL at hv
 rcases List.mem_append.mp hv with h | h
 ·left
  simpa [boxW] using h
 ·right
  obtain ⟨k, hk, rfl⟩ := List.mem_map.mp h
  have := List.mem_range.mp hk
  exact ⟨k + 1, by omega, by omega, rfl⟩
theorem box_all : ∀ v ∈ ([.str "out", .str "t1", .str "t2", .str "t3"] : List V), boxW v := by
 intro v hv
 simpa [boxW] using hv
theorem bin_all : ∀ v ∈ ([.str "add", .str "sub", .str "mul"] : List V), ∃ z, v = .str z ∧ arS z = 2 := by
 intro v hv
 simp only [List.mem_cons, List.not_mem_nil, or_false] at hv
 rcases hv with rfl | rfl | rfl <;> exact ⟨_, rfl, by decide +kernel⟩
theorem six_all : ∀ v ∈ ([.str "add", .str "sub", .str "mul", .str "neg", .str "any", .str "var"] : List V), shW v := by
 intro v hv
 simp only [List.mem_cons, List.not_mem_nil, or_false] at hv
 rcases hv with rfl | rfl | rfl | rfl | rfl | rfl
 ·exact .inl (.inr (by decide +kernel))
 ·exact .inl (.inr (by decide +kernel))
 ·exact .inl (.inr (by decide +kernel))
 ·exact .inl (.inr (by decide +kernel))
 ·exact .inr (.inl rfl)
 ·exact .inr (.inr rfl)
end Bk
namespace Bk
open PySem PySem.Spec L2 PyProof.Rows Pc
inductive Rr where
 | it (r : Rw)
 | dn (i : Int) (d : List V)
noncomputable def Rr.vs : Rr → List V
 | .it r => r.vs
 | .dn i d => dsV :: .int i :: d
def Rr.ok : Rr → Prop
 | .it r => r.ok ∧ ∀ n d, r ≠ .does n d
 | .dn i d => deedOk d ∧ 0 ≤ i ∧ i < 1000
noncomputable def rrules (qs : List Rr) : List Str := qs.filterMap fun | .it (.rule n _ _ _) => some n | _ => none
theorem raw_of {r : List V} (h : RawOk r) : ∃ q : Rr, r = q.vs ∧ q.ok := by
 rcases h with ⟨n, rfl, hn⟩ | ⟨n, k, p, ws, rfl, ok⟩ | rfl | ⟨i, d, rfl, hd, h0, h1⟩
 ·exact ⟨.it (.kind n), rfl, hn, fun _ _ e => by cases e⟩
 ·exact ⟨.it (.rule n k p ws), rfl, ok, fun _ _ e => by cases e⟩
 ·exact ⟨.it .none, rfl, trivial, fun _ _ e => by cases e⟩
 ·exact ⟨.dn i d, rfl, hd, h0, h1⟩
theorem raws_of : ∀ {raws : List (List V)}, (∀ r ∈ raws, RawOk r) → ∃ qs : List Rr, raws = qs.map Rr.vs ∧ ∀ q ∈ qs, q.ok
 | [], _ => ⟨[], rfl, fun _ h => nomatch h⟩
 | r :: rest, h => by
  obtain ⟨q, e, ok⟩ := raw_of (h r List.mem_cons_self)
  obtain ⟨qs, e2, oks⟩ := raws_of fun x hx => h x (List.mem_cons_of_mem _ hx)
  exact ⟨q :: qs, by rw [e, e2]; rfl, fun x hx => (List.mem_cons.mp hx).elim (fun e => e ▸ ok) (oks x)⟩
theorem rr_rule {q : List Rr} {n k : Str} {p : Int} {ws : List V} : rrules (q ++ [.it (.rule n k p ws)]) = rrules q ++ [n] := by unfold rrules; rw [List.filterMap_append]; rfl
theorem rr_kind {q : List Rr} {n : Str} : rrules (q ++ [.it (.kind n)]) = rrules q := by unfold rrules; rw [List.filterMap_append]; exact List.append_nil _
theorem rr_none {q : List Rr} : rrules (q ++ [.it .none]) = rrules q := by unfold rrules; rw [List.filterMap_append]; exact List.append_nil _
theorem rr_dn {q : List Rr} {i : Int} {d : List V} : rrules (q ++ [.dn i d]) = rrules q := by unfold rrules; rw [List.filterMap_append]; exact List.append_nil _
theorem rules_none {q : List Rw} : rulesR (q ++ [.none]) = rulesR q := by unfold rulesR; rw [List.filterMap_append]; exact List.append_nil _
theorem rr_len (qs : List Rr) : (rrules qs).length ≤ qs.length := List.length_filterMap_le _ _
def CntAt (H : Hp) (d : Addr) (n : Nat) : Prop := ∃ kvs : List (Key × V), H d = some (.dK kvs) ∧ kvs.length ≤ n ∧ ∀ z v, valV kvs (.inr z) = some v → ∃ i : Int, v = .int i
theorem CntAt.same {H H' : Hp} {d : Addr} {n : Nat} (h : CntAt H d n) (s : Same H H') : CntAt H' d n := let ⟨k, a, b, c⟩ := h; ⟨k, s _ _ a, b, c⟩
theorem CntAt.le {H : Hp} {d : Addr} {n m : Nat} (h : CntAt H d n) (e : n ≤ m) : CntAt H d m := let ⟨k, a, b, c⟩ := h; ⟨k, a, Nat.le_trans b e, c⟩
theorem CntAt.put {H : Hp} {d : Addr} {n : Nat} {kvs : List (Key × V)} {z : Str} {i : Int} (h : CntAt H d n) (hk : H d = some (.dK kvs)) : CntAt (upd H d (.dK (putK kvs (.inr z) (.int i)))) d (n + 1) := by
 obtain ⟨k, a, b, c⟩ := h
 cases a.symm.trans hk
 refine ⟨_, upd_same, Nat.le_trans (length_putK _ _ _) (Nat.succ_le_succ b), fun y v hv => ?_⟩
 rw [valV_put] at hv
 split at hv
 ·cases hv
  exact ⟨i, rfl⟩
 ·exact c y v hv
end Bk
namespace Bk
open PySem PySem.Spec L2 PyProof.Rows Pc
theorem raw_wd {r : List V} (h : RawOk r) : (∀ v ∈ r, wordV v ∧ (textV v).length ≤ 61) ∧ r.length ≤ 17 ∧ ∃ z s, r = .str z :: s ∧ (z = "kind" ∨ z = "rule" ∨ z = "does" ∨ z = "") := by
 have wt : ∀ {v : V}, wdW v → wordV v ∧ (textV v).length ≤ 61 := fun h => ⟨h.word, h.text.1⟩
 rcases h with ⟨n, rfl, hn⟩ | ⟨n, k, p, ws, rfl, ok⟩ | rfl | ⟨i, d, rfl, hd, h0, h1⟩
 ·exact ⟨fun v hv => wt (Rw.wd (r := .kind n) hn rfl v hv), by show (2 : Nat) ≤ 17; decide, _, _, rfl, .inl rfl⟩
 ·refine ⟨fun v hv => wt (Rw.wd ok rfl v ?_), ?_, _, _, rfl, .inr (.inl rfl)⟩
  ·simp only [Rw.tx, List.mem_cons] at hv ⊢
   rcases hv with h | h | h | h | h
   ·exact .inl h
   ·exact .inr (.inl h)
   ·exact .inr (.inr (.inl h))
   ·exact .inr (.inr (.inr (.inl h)))
   ·exact .inr (.inr (.inr (.inr (.inr h))))
  ·have := ok.2.2.2.2.2.1
   show ws.length + 4 ≤ 17
   omega
 ·refine ⟨fun v hv => ?_, by show (1 : Nat) ≤ 17; decide, _, _, rfl, .inr (.inr (.inr rfl))⟩
  rw [List.mem_singleton.mp hv]
  exact ⟨True.intro, by decide +kernel⟩
 ·refine ⟨fun v hv => ?_, ?_, _, _, rfl, .inr (.inr (.inl rfl))⟩
  ·rcases List.mem_cons.mp hv with rfl | hv
   ·exact ⟨True.intro, by decide +kernel⟩
   ·rcases List.mem_cons.mp hv with rfl | hv
    ·exact wt (show i.natAbs < 10 ^ 60 from Nat.lt_of_le_of_lt (show i.natAbs ≤ 1000 by omega) (by decide +kernel))
    ·exact wt (deed_wd hd v hv)
  ·have := (deed_len hd).2
   show d.length + 2 ≤ 17
   omega
noncomputable abbrev k4 (a b c e : Int) : List (Key × V) := [(Sum.inr "kind", .int a), (Sum.inr "rule", .int b), (Sum.inr "does", .int c), (Sum.inr "", .int e)]
def C4 (H : Hp) (d : Addr) : Prop := ∃ a b c e : Int, H d = some (.dK (k4 a b c e))
theorem C4.same {H H' : Hp} {d : Addr} (h : C4 H d) (s : Same H H') : C4 H' d := let ⟨a, b, c, e, h⟩ := h; ⟨a, b, c, e, s _ _ h⟩
theorem k4_val (a b c e : Int) {z : Str} (hz : z = "kind" ∨ z = "rule" ∨ z = "does" ∨ z = "") : ∃ i : Int, valV (k4 a b c e) (Sum.inr z) = some (.int i) := by
 rcases hz with rfl | rfl | rfl | rfl
 ·exact ⟨a, rfl⟩
 ·exact ⟨b, rfl⟩
 ·exact ⟨c, rfl⟩
 ·exact ⟨e, rfl⟩
theorem C4.get {H : Hp} {d : Addr} {z : Str} (h : C4 H d) (hz : z = "kind" ∨ z = "rule" ∨ z = "does" ∨ z = "") : ∃ i : Int, DGet H d (.str z) (some (.int i)) := by
 obtain ⟨a, b, c, e, h⟩ := h
 obtain ⟨i, hi⟩ := k4_val a b c e hz
 have := DGet.k (k := Sum.inr z) h
 rw [hi] at this
 exact ⟨i, this⟩
theorem C4.put {H : Hp} {d : Addr} {z : Str} (h : C4 H d) (hz : z = "kind" ∨ z = "rule" ∨ z = "does" ∨ z = "") (v : Int) : ∃ kvs, DPut H d (.str z) (.int v) (upd H d (.dK kvs)) ∧ C4 (upd H d (.dK kvs)) d := by
 obtain ⟨a, b, c, e, h⟩ := h
 refine ⟨_, DPut.k (k := Sum.inr z) h (by show (4 : Nat) < sizeLine; decide), ?_⟩
 rcases hz with rfl | rfl | rfl | rfl
 ·exact ⟨v, b, c, e, by rw [upd_same]; rfl⟩
 ·exact ⟨a, v, c, e, by rw [upd_same]; rfl⟩
 ·exact ⟨a, b, v, e, by rw [upd_same]; rfl⟩
 ·exact ⟨a, b, c, v, by rw [upd_same]; rfl⟩
theorem _root_.L2.Same.sameB_of {H H1 H2 : Hp} {h : Addr} (s : Same H H1) (t : SameB h H1 H2) : SameB h H H2 := fun b o n ho => t b o n (s b o ho)
theorem SameB.fresh {H H' : Hp} {h : Addr} (s : SameB h H H') (hn : H h = none) : Same H H' := fun b o ho => s b o (ne_of_none ho hn) ho
end Bk
namespace Bk
open PySem PySem.Spec L2 PyProof.Rows Pc
theorem kinds_none {q : List Rw} : kindsR (q ++ [.none]) = kindsR q := by unfold kindsR; rw [List.filterMap_append]; exact List.append_nil _
theorem deeds_none {q : List Rw} {z : Str} : deedsR (q ++ [.none]) z = deedsR q z := by unfold deedsR; rw [List.filterMap_append]; exact List.append_nil _
end Bk
namespace Bk
open PySem PySem.Spec L2 PyProof.Rows Pc
structure Tx (rs : List Rw) (z : Str) : Prop where
 len : z.length ≤ 100000
 cnt : (Txt.split z "\n").length ≤ 1000
 each : ∀ y ∈ Txt.split z "\n", y.length ≤ 100000
 rows : (Txt.split z "\n").filter (fun y => decide (y ≠ ("" : Str))) = (rs.filter Rw.full).map Rw.line
theorem told_good {rs : List Rw} (h : Told rs) : good (rs.filter Rw.full) := ⟨fun r hr => let ⟨a, b⟩ := List.mem_filter.mp hr; ⟨h.1 r a, b⟩, Nat.le_trans (List.length_filter_le _ _) (Nat.le_trans h.2.1 (by decide))⟩
theorem told_does {rs : List Rw} (h : Told rs) : ∀ n d, Rw.does n d ∈ rs.filter Rw.full → n ∈ rulesR (rs.filter Rw.full) := fun n d hm => by
 rw [rulesR_full]
 exact h.2.2 n d (List.mem_filter.mp hm).1
theorem deeds_in {rs : List Rw} {z : Str} {d : List V} (h : d ∈ deedsR rs z) : Rw.does z d ∈ rs := by
 obtain ⟨r, hr, e⟩ := List.mem_filterMap.mp h
 cases r with
 | does m d' =>
  have e : (if m = z then some d' else none) = some d := e
  by_cases c : m = z
  ·rw [if_pos c] at e
   cases e
   rw [← c]
   exact hr
  ·rw [if_neg c] at e
   cases e
 | _ => cases e
theorem rulesD_fit {all : List Rw} (h : Told all) : ∀ {q : List Rw} {s : List Str}, (∀ r ∈ q, r.ok) → ∀ r ∈ rulesD all s q, r.fit
 | [], _, _, r, hr => by cases hr
 | .kind n :: q, s, hq, r, hr => rulesD_fit h (q := q) (fun x hx => hq x (List.mem_cons_of_mem _ hx)) r hr
 | .does n d :: q, s, hq, r, hr => rulesD_fit h (q := q) (fun x hx => hq x (List.mem_cons_of_mem _ hx)) r hr
 | .none :: q, s, hq, r, hr => rulesD_fit h (q := q) (fun x hx => hq x (List.mem_cons_of_mem _ hx)) r hr
 | .rule n k p ws :: q, s, hq, r, hr => by
  rcases List.mem_cons.mp (show r ∈ ⟨n, k, p, ws, if n ∈ s then [] else deedsR all n⟩ :: rulesD all (s ++ [n]) q from hr) with rfl | hr
  ·have ok := hq _ List.mem_cons_self
   refine ⟨fun v hv => (sh_wd (ok.2.2.2.2.2.2 v hv)).isW, ok.2.2.2.2.2.1, ?_, fun d hd => ?_⟩
   ·show (if n ∈ s then [] else deedsR all n).length ≤ 1000
    split
    ·exact Nat.zero_le _
    ·exact Nat.le_trans (deeds_len _ _) (Nat.le_trans h.2.1 (by decide))
   ·have hd : d ∈ (if n ∈ s then [] else deedsR all n) := hd
    split at hd
    ·cases hd
    ·have := (h.1 _ (deeds_in hd)).2
     exact ⟨Nat.le_trans (deed_len this).2 (by decide), fun v hv => (deed_wd this v hv).isW⟩
  ·exact rulesD_fit h (q := q) (fun x hx => hq x (List.mem_cons_of_mem _ hx)) r hr
theorem told_fit {rs : List Rw} (h : Told rs) : ∀ r ∈ rulesD rs [] rs, r.fit := rulesD_fit h h.1
theorem line_len {r : Rw} (h : r.ok) : r.line.length ≤ 1100 := by
 by_cases f : r.full = true
 ·have a := (join_len (Rw.wd h f)).1
  have b := (Rw.txl h).2
  show (Txt.join " " (r.tx.map textV)).length ≤ 1100
  omega
 ·have e : r = .none := by cases r <;> first | rfl | exact absurd rfl f
  rw [e, line_none]
  decide +kernel
theorem sum_le {zs : List Str} {m : Nat} (h : ∀ z ∈ zs, z.length ≤ m) : (zs.map fun x => x.length).sum ≤ zs.length * m := by
 induction zs with
 | nil => exact Nat.zero_le _
 | cons a r ih =>
  have h1 := h a List.mem_cons_self
  have h2 := ih fun z hz => h z (List.mem_cons_of_mem _ hz)
  rw [List.map_cons, List.sum_cons, List.length_cons, Nat.add_mul]
  omega
structure TxB (rs : List Rw) : Prop where
 sum : ((rs.map Rw.line).map fun x => x.length).sum + (rs.map Rw.line).length * (Str.ofString "\n").length ≤ 1000000
 plain : Tx rs (Txt.join "\n" (rs.map Rw.line))
 more : Tx rs (Str.ofString "\n" ++ Txt.join "\n" (rs.map Rw.line) ++ Str.ofString "\n\n")
 len : (Txt.join "\n" (rs.map Rw.line)).length ≤ 90000
theorem feed1 : (Str.ofString "\n").length = 1 := by decide +kernel
theorem empty_filter : [("" : Str)].filter (fun y => decide (y ≠ ("" : Str))) = [] := rfl
theorem join_feed3 {xs : List Str} (h : xs ≠ []) : Str.ofString "\n" ++ Txt.join "\n" xs ++ Str.ofString "\n\n" = Txt.join "\n" (([""] : List Str) ++ xs ++ (["", ""] : List Str)) := by
 have e1 : ∀ ys, Txt.join "\n" ys = Str.join ⟨#[10]⟩ ys := fun ys => by rw [feedS]; exact StrLaws.glued_eq_join _ ys
 have e2 : (Str.ofString "\n\n") = ⟨#[10, 10]⟩ := by decide +kernel
 rw [e1, e1, str_eq, join_codes10]
 have key : ∀ ys : List (List Nat), ys ≠ [] → joinL 10 (ys ++ [[], []]) = joinL 10 ys ++ [10, 10] := by
  intro ys hy
  induction ys with
  | nil => exact absurd rfl hy
  | cons y r ih =>
   cases r with
   | nil => rfl
   | cons u r =>
    show y ++ 10 :: joinL 10 ((u :: r) ++ [[], []]) = (y ++ 10 :: joinL 10 (u :: r)) ++ [10, 10]
    rw [ih (by simp)]
    simp
 rw [show (([""] : List Str) ++ xs ++ (["", ""] : List Str)) = ("" : Str) :: (xs ++ (["", ""] : List Str)) from rfl, List.map_cons, List.map_append]
 rw [show (("" : Str)).cps.toList = [] by decide +kernel]
 have ne : xs.map (·.cps.toList) ≠ [] := by simpa using h
 have hx : ∃ y r, xs.map (·.cps.toList) ++ [[], []] = y :: r := List.exists_cons_of_ne_nil (by simp)
 obtain ⟨y, r, hyr⟩ := hx
 rw [show ((["", ""] : List Str).map (·.cps.toList)) = [[], []] by decide +kernel, hyr]
 show _ = [] ++ 10 :: joinL 10 (y :: r)
 rw [← hyr, key _ ne, e2, feedS, ← join_codes10]
 simp [Str.cps_append]
theorem told_text {rs : List Rw} (h : Told rs) : TxB rs := by
 have ll : ∀ z ∈ rs.map Rw.line, z.length ≤ 1100 := fun z hz => by obtain ⟨r, hr, rfl⟩ := List.mem_map.mp hz; exact line_len (h.1 r hr)
 have lf : ∀ z ∈ rs.map Rw.line, 10 ∉ z.cps.toList := fun z hz => by obtain ⟨r, hr, rfl⟩ := List.mem_map.mp hz; exact line_feed (h.1 r hr)
 have hn := h.2.1
 have sl := sum_le ll
 have jl := join_le "\n" (rs.map Rw.line)
 rw [List.length_map] at sl
 have f1 := feed1
 have jl : (Txt.join "\n" (rs.map Rw.line)).length ≤ ((rs.map Rw.line).map (·.length)).sum + (rs.map Rw.line).length * (Str.ofString "\n").length := jl
 rw [f1, List.length_map] at jl
 have sl : ((rs.map Rw.line).map (·.length)).sum ≤ rs.length * 1100 := sl
 have e0 : ("" : Str).cps.toList = [] := by decide +kernel
 have s0 : Txt.split (Txt.join "\n" []) "\n" = ([""] : List Str) := by
  have : (Txt.join "\n" [] : Str) = Txt.join "\n" ([""] : List Str) := by decide +kernel
  rw [this]
  exact split_feed ([""] : List Str) (by simp) (fun x hx => by rw [List.mem_singleton.mp hx, e0]; exact fun h => nomatch h)
 have l0 : ("" : Str).length ≤ 100000 := by decide +kernel
 have len : (Txt.join "\n" (rs.map Rw.line)).length ≤ 90000 := by omega
 refine ⟨by rw [f1, List.length_map]; show ((rs.map Rw.line).map (·.length)).sum + rs.length * 1 ≤ 1000000; omega, ?_, ?_, len⟩
 ·by_cases c : rs = []
  ·subst c
   exact ⟨by omega, by rw [show (List.map Rw.line []) = [] from rfl, s0]; decide, fun y hy => by rw [show (List.map Rw.line []) = [] from rfl, s0, List.mem_singleton] at hy; rw [hy]; exact l0, by rw [show (List.map Rw.line []) = [] from rfl, s0]; rfl⟩
  ·have sp := split_feed (rs.map Rw.line) (by simpa using c) lf
   refine ⟨by omega, by rw [sp, List.length_map]; omega, fun y hy => ?_, by rw [sp]; exact lines_full h.1⟩
   rw [sp] at hy
   exact Nat.le_trans (ll y hy) (by decide)
 ·have lm : (Str.ofString "\n" ++ Txt.join "\n" (rs.map Rw.line) ++ Str.ofString "\n\n").length ≤ 100000 := by
   have la : ∀ a b : Str, (a ++ b).length = a.length + b.length := fun a b => Array.size_append
   rw [la, la, f1, show (Str.ofString "\n\n").length = 2 by decide +kernel]
   omega
  by_cases c : rs = []
  ·subst c
   have e : Str.ofString "\n" ++ Txt.join "\n" (List.map Rw.line []) ++ Str.ofString "\n\n" = Txt.join "\n" ["", "", "", ""] := by decide +kernel
   have sp := split_feed ["", "", "", ""] (by simp) (fun x hx => by simp only [List.mem_cons, List.not_mem_nil, or_false, or_self] at hx; rw [hx, e0]; exact fun h => nomatch h)
   refine ⟨lm, by rw [e, sp]; decide, fun y hy => ?_, by rw [e, sp]; rfl⟩
   rw [e, sp] at hy
   simp only [List.mem_cons, List.not_mem_nil, or_false, or_self] at hy
   rw [hy]
   exact l0
  ·have ne : rs.map Rw.line ≠ [] := by simpa using c
   have e := join_feed3 ne
   have sp := split_feed (([""] : List Str) ++ rs.map Rw.line ++ (["", ""] : List Str)) (by simp) (fun x hx => by
    simp only [List.mem_append, List.mem_cons, List.not_mem_nil, or_false, or_self] at hx
    rcases hx with (hx | hx) | hx
    ·rw [hx, e0]; exact fun h => nomatch h
    ·exact lf x hx
    ·rw [hx, e0]; exact fun h => nomatch h)
   refine ⟨lm, ?_, fun y hy => ?_, ?_⟩
   ·rw [e, sp, List.length_append, List.length_append, List.length_map]
    show 1 + rs.length + 2 ≤ 1000
    omega
   ·rw [e, sp] at hy
    simp only [List.mem_append, List.mem_cons, List.not_mem_nil, or_false, or_self] at hy
    rcases hy with (hy | hy) | hy
    ·rw [hy]; exact l0
    ·exact Nat.le_trans (ll y hy) (by decide)
    ·rw [hy]; exact l0
   ·rw [e, sp, List.filter_append, List.filter_append, lines_full h.1]
    rw [show (["", ""] : List Str).filter (fun y => decide (y ≠ ("" : Str))) = [] from rfl, empty_filter]
    simp
end Bk
namespace Bk
open PySem PySem.Spec L2 PyProof.Rows Pc
theorem told_nil : Told [] := ⟨fun _ h => (nomatch h), Nat.zero_le _, fun _ _ h => nomatch h⟩
end Bk
namespace Bk
open PySem PySem.Spec L2 PyProof.Rows Pc
noncomputable def shownR (r : Rd5) : List Rw := .rule r.name r.kind r.price r.shape :: r.deeds.map (.does r.name)
noncomputable def shown (kinds : List Str) (rules : List Rd5) : List Rw := kinds.map Rw.kind ++ (rules.map shownR).flatten
theorem kindsR_app (a b : List Rw) : kindsR (a ++ b) = kindsR a ++ kindsR b := List.filterMap_append
theorem rulesR_app (a b : List Rw) : rulesR (a ++ b) = rulesR a ++ rulesR b := List.filterMap_append
theorem deedsR_app (a b : List Rw) (z : Str) : deedsR (a ++ b) z = deedsR a z ++ deedsR b z := List.filterMap_append
theorem kindsR_kinds : ∀ ks : List Str, kindsR (ks.map Rw.kind) = ks
 | [] => rfl
 | k :: ks => by show k :: kindsR (ks.map Rw.kind) = _; rw [kindsR_kinds ks]
theorem deedsR_kinds (z : Str) : ∀ ks : List Str, deedsR (ks.map Rw.kind) z = []
 | [] => rfl
 | k :: ks => deedsR_kinds z ks
theorem kindsR_does (n : Str) : ∀ ds : List (List V), kindsR (ds.map (Rw.does n)) = []
 | [] => rfl
 | d :: ds => kindsR_does n ds
theorem rulesR_does (n : Str) : ∀ ds : List (List V), rulesR (ds.map (Rw.does n)) = []
 | [] => rfl
 | d :: ds => rulesR_does n ds
theorem deedsR_does (n z : Str) : ∀ ds : List (List V), deedsR (ds.map (Rw.does n)) z = if n = z then ds else []
 | [] => by split <;> rfl
 | d :: ds => by
  have ih := deedsR_does n z ds
  have e : deedsR ([] ++ [Rw.does n d]) z = if n = z then deedsR [] z ++ [d] else deedsR [] z := deeds_does
  rw [List.map_cons, show Rw.does n d :: ds.map (Rw.does n) = ([] ++ [Rw.does n d]) ++ ds.map (Rw.does n) from rfl, deedsR_app, e, ih]
  by_cases c : n = z
  ·rw [if_pos c, if_pos c, if_pos c]
   rfl
  ·rw [if_neg c, if_neg c, if_neg c]
   rfl
theorem kindsR_shown : ∀ rs : List Rd5, kindsR (rs.map shownR).flatten = []
 | [] => rfl
 | r :: rs => by
  rw [List.map_cons, List.flatten_cons, kindsR_app, kindsR_shown rs, List.append_nil]
  exact kindsR_does r.name r.deeds
theorem rulesR_shown : ∀ rs : List Rd5, rulesR (rs.map shownR).flatten = rs.map (·.name)
 | [] => rfl
 | r :: rs => by
  rw [List.map_cons, List.flatten_cons, rulesR_app, rulesR_shown rs, List.map_cons]
  show r.name :: (rulesR (r.deeds.map (Rw.does r.name)) ++ _) = _
  rw [rulesR_does]
  rfl
def Once : List Str → List Rd5 → Prop
 | _, [] => True
 | seen, r :: rs => (r.name ∈ seen → r.deeds = []) ∧ Once (seen ++ [r.name]) rs
theorem Once.mono : ∀ {rs : List Rd5} {s s' : List Str}, (∀ z, z ∈ s' → z ∈ s) → Once s rs → Once s' rs
 | [], _, _, _, _ => trivial
 | r :: rs, s, s', h, o => ⟨fun hm => o.1 (h _ hm), Once.mono (rs := rs) (fun z hz => by
   rcases List.mem_append.mp hz with hz | hz
   ·exact List.mem_append_left _ (h z hz)
   ·exact List.mem_append_right _ hz) o.2⟩
theorem Once.none : ∀ {rs : List Rd5} {s : List Str} {z : Str}, Once s rs → z ∈ s → deedsR (rs.map shownR).flatten z = []
 | [], _, _, _, _ => rfl
 | r :: rs, s, z, o, hz => by
  rw [List.map_cons, List.flatten_cons, deedsR_app, Once.none (rs := rs) o.2 (List.mem_append_left _ hz), List.append_nil]
  show deedsR (r.deeds.map (Rw.does r.name)) z = []
  rw [deedsR_does]
  by_cases c : r.name = z
  ·rw [if_pos c, o.1 (by rw [c]; exact hz)]
  ·rw [if_neg c]
theorem rulesD_does {all : List Rw} {n : Str} : ∀ {ds : List (List V)} {s : List Str}, rulesD all s (ds.map (Rw.does n)) = []
 | [], _ => rfl
 | d :: ds, s => rulesD_does (ds := ds)
theorem rulesD_kinds {all : List Rw} : ∀ {ks : List Str} {s : List Str} {q : List Rw}, rulesD all s (ks.map Rw.kind ++ q) = rulesD all s q
 | [], _, _ => rfl
 | k :: ks, s, q => rulesD_kinds (ks := ks)
theorem shown_rules {all : List Rw} : ∀ {rs : List Rd5} {s : List Str}, Once s rs → (∀ z, z ∉ s → deedsR all z = deedsR (rs.map shownR).flatten z) → rulesD all s (rs.map shownR).flatten = rs
 | [], _, _, _ => rfl
 | r :: rs, s, o, h => by
  rw [List.map_cons, List.flatten_cons]
  show (⟨r.name, r.kind, r.price, r.shape, if r.name ∈ s then [] else deedsR all r.name⟩ : Rd5) :: rulesD all (s ++ [r.name]) (r.deeds.map (Rw.does r.name) ++ (rs.map shownR).flatten) = _
  have e : (if r.name ∈ s then [] else deedsR all r.name) = r.deeds := by
   by_cases c : r.name ∈ s
   ·rw [if_pos c, o.1 c]
   ·rw [if_neg c, h _ c, List.map_cons, List.flatten_cons, deedsR_app, o.2.none (List.mem_append_right _ List.mem_cons_self), List.append_nil]
    show deedsR (r.deeds.map (Rw.does r.name)) r.name = _
    rw [deedsR_does, if_pos rfl]
  rw [e, rulesD_app, rulesD_does, List.nil_append, rulesR_does, List.append_nil]
  congr 1
  refine shown_rules (rs := rs) o.2 fun z hz => ?_
  have hz1 : z ∉ s := fun h => hz (List.mem_append_left _ h)
  have hz2 : ¬ r.name = z := fun h => hz (List.mem_append_right _ (List.mem_singleton.mpr h.symm))
  rw [h z hz1, List.map_cons, List.flatten_cons, deedsR_app]
  show deedsR (r.deeds.map (Rw.does r.name)) z ++ _ = _
  rw [deedsR_does, if_neg hz2]
  rfl
theorem shown_book {ks : List Str} {rs : List Rd5} (o : Once [] rs) : kindsR (shown ks rs) = ks ∧ rulesD (shown ks rs) [] (shown ks rs) = rs := by
 unfold shown
 refine ⟨by rw [kindsR_app, kindsR_kinds, kindsR_shown, List.append_nil], ?_⟩
 rw [rulesD_kinds]
 refine shown_rules o fun z _ => ?_
 rw [deedsR_app, deedsR_kinds]
 rfl
theorem rulesD_once {all : List Rw} : ∀ {q : List Rw} {s : List Str}, Once s (rulesD all s q)
 | [], _ => trivial
 | .rule n k p ws :: q, s => ⟨fun h => if_pos h, rulesD_once (q := q)⟩
 | .kind n :: q, s => rulesD_once (q := q)
 | .does n d :: q, s => rulesD_once (q := q)
 | .none :: q, s => rulesD_once (q := q)
noncomputable def doesN (rs : List Rw) (s : List Str) : Nat := (rs.filter fun | .does n _ => decide (n ∉ s) | _ => false).length
theorem doesN_add (n : Str) : ∀ (rs : List Rw) (s : List Str), n ∉ s → doesN rs s = (deedsR rs n).length + doesN rs (s ++ [n])
 | [], _, _ => rfl
 | .kind m :: q, s, h => doesN_add n q s h
 | .rule m k p ws :: q, s, h => doesN_add n q s h
 | .none :: q, s, h => doesN_add n q s h
 | .does m d :: q, s, h => by
  have ih := doesN_add n q s h
  have e1 : doesN (.does m d :: q) s = (if m ∉ s then 1 else 0) + doesN q s := by
   unfold doesN
   rw [List.filter_cons]
   by_cases c : m ∉ s
   ·rw [if_pos (by simpa using c), if_pos c, List.length_cons]; omega
   ·rw [if_neg (by simpa using c), if_neg c]; omega
  have e2 : doesN (.does m d :: q) (s ++ [n]) = (if m ∉ s ++ [n] then 1 else 0) + doesN q (s ++ [n]) := by
   unfold doesN
   rw [List.filter_cons]
   by_cases c : m ∉ s ++ [n]
   ·rw [if_pos (by simpa using c), if_pos c, List.length_cons]; omega
   ·rw [if_neg (by simpa using c), if_neg c]; omega
  have e3 : (deedsR (.does m d :: q) n).length = (if m = n then 1 else 0) + (deedsR q n).length := by
   unfold deedsR
   rw [List.filterMap_cons]
   by_cases c : m = n
   ·simp only [c, if_true, List.length_cons]; omega
   ·simp only [c, if_false]; omega
  rw [e1, e2, e3, ih]
  by_cases c : m = n
  ·rw [if_pos c, c, if_pos h, if_neg (fun x => x (List.mem_append_right _ List.mem_cons_self))]
   omega
  ·rw [if_neg c]
   by_cases c2 : m ∉ s
   ·rw [if_pos c2, if_pos (fun x => (List.mem_append.mp x).elim c2 fun x => c (List.mem_singleton.mp x))]
    omega
   ·rw [if_neg c2, if_neg (fun x => c2 fun y => x (List.mem_append_left _ y))]
    omega
theorem doesN_seen (rs : List Rw) {s s' : List Str} (h : ∀ z, z ∈ s ↔ z ∈ s') : doesN rs s = doesN rs s' := by
 unfold doesN
 congr 2
 funext r
 cases r with
 | does n d => exact decide_eq_decide.mpr (not_congr (h n))
 | _ => rfl
theorem shown_len {all : List Rw} : ∀ {q : List Rw} {s : List Str}, ((rulesD all s q).map shownR).flatten.length ≤ (rulesR q).length + doesN all s
 | [], s => Nat.zero_le _
 | .kind n :: q, s => shown_len (q := q)
 | .does n d :: q, s => shown_len (q := q)
 | .none :: q, s => shown_len (q := q)
 | .rule n k p ws :: q, s => by
  have ih := shown_len (all := all) (q := q) (s := s ++ [n])
  show (((⟨n, k, p, ws, if n ∈ s then [] else deedsR all n⟩ : Rd5) :: rulesD all (s ++ [n]) q).map shownR).flatten.length ≤ (n :: rulesR q).length + _
  rw [List.map_cons, List.flatten_cons, List.length_append, List.length_cons]
  show ((if n ∈ s then [] else deedsR all n).map (Rw.does n)).length + 1 + _ ≤ _
  rw [List.length_map]
  by_cases c : n ∈ s
  ·rw [if_pos c]
   rw [doesN_seen all (s := s ++ [n]) (s' := s) fun z => ⟨fun h => (List.mem_append.mp h).elim id fun h => by rw [List.mem_singleton.mp h]; exact c, fun h => List.mem_append_left _ h⟩] at ih
   show 0 + 1 + _ ≤ _
   omega
  ·rw [if_neg c]
   have := doesN_add n all s c
   omega
theorem parts_len : ∀ rs : List Rw, (kindsR rs).length + (rulesR rs).length + doesN rs [] ≤ rs.length
 | [] => Nat.le_refl _
 | .kind n :: q => by have := parts_len q; show (kindsR q).length + 1 + (rulesR q).length + doesN q [] ≤ q.length + 1; omega
 | .rule n k p ws :: q => by have := parts_len q; show (kindsR q).length + ((rulesR q).length + 1) + doesN q [] ≤ q.length + 1; omega
 | .none :: q => by have := parts_len q; show (kindsR q).length + (rulesR q).length + doesN q [] ≤ q.length + 1; omega
 | .does n d :: q => by
  have := parts_len q
  have e : doesN (.does n d :: q) [] = doesN q [] + 1 := by
   unfold doesN
   rw [List.filter_cons, if_pos (by simp)]
   rfl
  rw [e]
  show (kindsR q).length + (rulesR q).length + (doesN q [] + 1) ≤ q.length + 1
  omega
theorem rulesD_ok {all : List Rw} (h : Told all) : ∀ {q : List Rw} {s : List Str}, (∀ r ∈ q, r.ok) → ∀ r ∈ rulesD all s q, (Rw.rule r.name r.kind r.price r.shape).ok ∧ ∀ d ∈ r.deeds, (Rw.does r.name d).ok
 | [], _, _, r, hr => by cases hr
 | .kind n :: q, s, hq, r, hr => rulesD_ok h (q := q) (fun x hx => hq x (List.mem_cons_of_mem _ hx)) r hr
 | .does n d :: q, s, hq, r, hr => rulesD_ok h (q := q) (fun x hx => hq x (List.mem_cons_of_mem _ hx)) r hr
 | .none :: q, s, hq, r, hr => rulesD_ok h (q := q) (fun x hx => hq x (List.mem_cons_of_mem _ hx)) r hr
 | .rule n k p ws :: q, s, hq, r, hr => by
  rcases List.mem_cons.mp (show r ∈ ⟨n, k, p, ws, if n ∈ s then [] else deedsR all n⟩ :: rulesD all (s ++ [n]) q from hr) with rfl | hr
  ·refine ⟨hq _ List.mem_cons_self, fun d hd => ?_⟩
   have hd : d ∈ (if n ∈ s then [] else deedsR all n) := hd
   split at hd
   ·cases hd
   ·exact h.1 _ (deeds_in hd)
  ·exact rulesD_ok h (q := q) (fun x hx => hq x (List.mem_cons_of_mem _ hx)) r hr
theorem shown_told {rs : List Rw} (h : Told rs) : Told (shown (kindsR rs) (rulesD rs [] rs)) := by
 have rok := rulesD_ok h (q := rs) (s := []) h.1
 refine ⟨fun r hr => ?_, ?_, fun n d hm => ?_⟩
 ·rcases List.mem_append.mp hr with hr | hr
  ·obtain ⟨k, hk, rfl⟩ := List.mem_map.mp hr
   obtain ⟨x, hx, e⟩ := List.mem_filterMap.mp hk
   cases x with
   | kind m => cases e; exact h.1 _ hx
   | _ => cases e
  ·obtain ⟨l, hl, hr⟩ := List.mem_flatten.mp hr
   obtain ⟨x, hx, rfl⟩ := List.mem_map.mp hl
   rcases List.mem_cons.mp hr with rfl | hr
   ·exact (rok x hx).1
   ·obtain ⟨d, hd, rfl⟩ := List.mem_map.mp hr
    exact (rok x hx).2 d hd
 ·unfold shown
  rw [List.length_append, List.length_map]
  have a := shown_len (all := rs) (q := rs) (s := [])
  have b := parts_len rs
  have c := h.2.1
  omega
 ·unfold shown at hm ⊢
  rw [rulesR_app, rulesR_shown]
  refine List.mem_append_right _ ?_
  rcases List.mem_append.mp hm with hm | hm
  ·obtain ⟨k, _, e⟩ := List.mem_map.mp hm
   cases e
  ·obtain ⟨l, hl, hr⟩ := List.mem_flatten.mp hm
   obtain ⟨x, hx, rfl⟩ := List.mem_map.mp hl
   rcases List.mem_cons.mp hr with e | hr
   ·cases e
   ·obtain ⟨d', hd, e⟩ := List.mem_map.mp hr
    cases e
    exact List.mem_map.mpr ⟨x, hx, rfl⟩
theorem shown_full {ks : List Str} {rs : List Rd5} : ∀ r ∈ shown ks rs, r.full = true := fun r hr => by
 rcases List.mem_append.mp hr with hr | hr
 ·obtain ⟨k, _, rfl⟩ := List.mem_map.mp hr
  rfl
 ·obtain ⟨l, hl, hr⟩ := List.mem_flatten.mp hr
  obtain ⟨x, hx, rfl⟩ := List.mem_map.mp hl
  rcases List.mem_cons.mp hr with rfl | hr
  ·rfl
  ·obtain ⟨d, _, rfl⟩ := List.mem_map.mp hr
   rfl
theorem line_kind (k : Str) : Str.ofString "kind " ++ k = (Rw.kind k).line := by
 rw [str_eq, line_codes]
 show (Str.ofString "kind " ++ k).cps.toList = (Str.ofString "kind").cps.toList ++ 32 :: k.cps.toList
 rw [Str.cps_append, Array.toList_append, show (Str.ofString "kind ").cps.toList = (Str.ofString "kind").cps.toList ++ [32] by decide +kernel]
 simp
theorem lc_tupK {K : PySem.W.Frag} {a : Addr} {xs : List V} {fr : L2.St} {tc : TT} {te : TE} {D : Addr} {H1 : Hp} {Q : Hp → Prop} (P : Nat → List V → Hp → Prop) (mono : ∀ i ys H H', TK H H' → P i ys H → P i ys H') (hS : SqT K H1 a xs) (hn : xs.length < sizeLine) (hD : H1 D = none) (h0 : P 0 [] H1)
  (step : ∀ i x ys H (G : Hp → Prop) (K' : V → Hp → Prop), xs[i]? = some x → P i ys H → ys.length ≤ i → Same H1 H → (∀ H3, Same H H3 → P (i + 1) ys H3 → G H3) → (∀ y H4, Same H H4 → P (i + 1) (ys ++ [y]) H4 → K' y H4) → tc ([some x] ++ fr) H fun b H3 => if b = true then te ([some x] ++ fr) H3 K' else G H3)
  (done : ∀ ys H, P xs.length ys H → ys.length ≤ xs.length → Same H1 H → H D = some (.lst ys) → Q H) : LC 1 fr (gName 0) tc te (Itt K a) D H1 Q := by
 have at' : ∀ i, i < xs.length → xs[i]? = some (xs.getD i .non) := fun i hi => by
  rw [List.getD_eq_getElem?_getD, List.getElem?_eq_getElem hi]
  rfl
 exact lc_genH xs.length (fun i => xs.getD i .non) P mono hn hD (fun i H hi hs => ⟨xs, _, hs.tup hS, at' i hi⟩)
  (fun i H x H' hi hs hy => ⟨hy.1, Option.some.inj ((hy.2 xs (hs.tup hS)).symm.trans (at' i hi))⟩) (fun H hs => ⟨xs, hs.tup hS, Nat.le_refl _⟩) h0
  (fun i ys H G K' hi hP hl hs hG hK => step i _ ys H G K' (at' i hi) hP hl hs hG hK) done
theorem shown_take {ks : List Str} {rs : List Rd5} {i : Nat} (hi : i < rs.length) : shown ks (rs.take (i + 1)) = shown ks (rs.take i) ++ shownR rs[i] := by
 unfold shown
 rw [List.take_add_one, List.getElem?_eq_getElem hi, List.map_append, List.flatten_append, List.append_assoc]
 show _ ++ (_ ++ ((shownR rs[i]) ++ [])) = _
 rw [List.append_nil]
theorem shown_cut {ks : List Str} {rs : List Rd5} {i : Nat} (hi : i < rs.length) : (shown ks (rs.take i)).length + (shownR rs[i]).length ≤ (shown ks rs).length := by
 have e : shown ks rs = shown ks (rs.take (i + 1)) ++ ((rs.drop (i + 1)).map shownR).flatten := by
  unfold shown
  rw [List.append_assoc, ← List.flatten_append, ← List.map_append, List.take_append_drop]
 rw [e, shown_take hi, List.length_append, List.length_append]
 omega
theorem tups_app {H : Hp} {as bs : List Addr} {ts us : List (List V)} (h : TupsAt H as ts) (g : TupsAt H bs us) : TupsAt H (as ++ bs) (ts ++ us) := by
 refine ⟨by rw [List.length_append, List.length_append, h.1, g.1], fun i a t ha ht => ?_⟩
 by_cases c : i < as.length
 ·rw [List.getElem?_append_left c] at ha
  rw [List.getElem?_append_left (by rw [← h.1]; exact c)] at ht
  exact h.2 i a t ha ht
 ·rw [List.getElem?_append_right (by omega)] at ha
  rw [List.getElem?_append_right (by rw [← h.1]; omega), ← h.1] at ht
  exact g.2 _ a t ha ht
noncomputable def isDoes : Rw → Bool
 | .does _ _ => true
 | _ => false
noncomputable def notDoes : Rw → Bool
 | .does _ _ => false
 | _ => true
noncomputable def moved (rs : List Rw) : List Rw := rs.filter isDoes ++ rs.filter notDoes
theorem kinds_moved (rs : List Rw) : kindsR (moved rs) = kindsR rs := by
 unfold moved
 rw [kindsR_app]
 induction rs with
 | nil => rfl
 | cons r q ih =>
  have a : ∀ q : List Rw, kindsR (q.filter isDoes) = [] := by
   intro q
   induction q with
   | nil => rfl
   | cons r q ih => cases r <;> simp only [List.filter_cons, isDoes, if_true, if_false, Bool.false_eq_true] <;> exact ih
  rw [a, List.nil_append] at ih ⊢
  cases r with
  | kind n => simp only [List.filter_cons, isDoes, notDoes, if_true]; show n :: kindsR _ = n :: kindsR _; rw [ih]
  | rule n k p ws => simp only [List.filter_cons, isDoes, notDoes, if_true]; exact ih
  | does n d => simp only [List.filter_cons, isDoes, notDoes, if_false, Bool.false_eq_true]; exact ih
  | none => simp only [List.filter_cons, isDoes, notDoes, if_true]; exact ih
theorem rulesR_noDoes : ∀ q : List Rw, rulesR (q.filter isDoes) = []
 | [] => rfl
 | r :: q => by cases r <;> simp only [List.filter_cons, isDoes, if_true, if_false, Bool.false_eq_true] <;> exact rulesR_noDoes q
theorem rules_moved (rs : List Rw) : rulesR (moved rs) = rulesR rs := by
 unfold moved
 rw [rulesR_app, rulesR_noDoes, List.nil_append]
 induction rs with
 | nil => rfl
 | cons r q ih =>
  cases r with
  | rule n k p ws => simp only [List.filter_cons, isDoes, notDoes, if_true]; show n :: rulesR _ = n :: rulesR _; rw [ih]
  | kind n => simp only [List.filter_cons, isDoes, notDoes, if_true]; exact ih
  | does n d => simp only [List.filter_cons, isDoes, notDoes, if_false, Bool.false_eq_true]; exact ih
  | none => simp only [List.filter_cons, isDoes, notDoes, if_true]; exact ih
theorem deeds_moved (rs : List Rw) (z : Str) : deedsR (moved rs) z = deedsR rs z := by
 have a : ∀ q : List Rw, deedsR (q.filter notDoes) z = [] := by
  intro q
  induction q with
  | nil => rfl
  | cons r q ih => cases r <;> simp only [List.filter_cons, isDoes, notDoes, if_true, if_false, Bool.false_eq_true] <;> exact ih
 unfold moved
 rw [deedsR_app, a, List.append_nil]
 induction rs with
 | nil => rfl
 | cons r q ih =>
  cases r with
  | does n d =>
   simp only [List.filter_cons, isDoes, if_true]
   unfold deedsR at ih ⊢
   rw [List.filterMap_cons, List.filterMap_cons, ih]
  | kind n => simp only [List.filter_cons, isDoes, if_false, Bool.false_eq_true]; exact ih
  | rule n k p ws => simp only [List.filter_cons, isDoes, if_false, Bool.false_eq_true]; exact ih
  | none => simp only [List.filter_cons, isDoes, if_false, Bool.false_eq_true]; exact ih
theorem rulesD_all {all all' : List Rw} (h : ∀ z, deedsR all z = deedsR all' z) : ∀ {q : List Rw} {s : List Str}, rulesD all s q = rulesD all' s q
 | [], _ => rfl
 | .rule n k p ws :: q, s => by
  show (⟨n, k, p, ws, if n ∈ s then [] else deedsR all n⟩ : Rd5) :: rulesD all (s ++ [n]) q = ⟨n, k, p, ws, if n ∈ s then [] else deedsR all' n⟩ :: rulesD all' (s ++ [n]) q
  rw [h n, rulesD_all h (q := q)]
 | .kind n :: q, s => rulesD_all h (q := q)
 | .does n d :: q, s => rulesD_all h (q := q)
 | .none :: q, s => rulesD_all h (q := q)
theorem rulesD_noDoes {all : List Rw} : ∀ {q : List Rw} {s : List Str}, rulesD all s (q.filter isDoes) = [] ∧ rulesD all s (q.filter notDoes) = rulesD all s q
 | [], _ => ⟨rfl, rfl⟩
 | .rule n k p ws :: q, s => by
  simp only [List.filter_cons, isDoes, notDoes, if_true, if_false, Bool.false_eq_true]
  refine ⟨rulesD_noDoes.1, ?_⟩
  show _ :: rulesD all (s ++ [n]) _ = _ :: rulesD all (s ++ [n]) q
  rw [(rulesD_noDoes (q := q)).2]
 | .kind n :: q, s => by
  simp only [List.filter_cons, isDoes, notDoes, if_true, if_false, Bool.false_eq_true]
  exact ⟨rulesD_noDoes.1, (rulesD_noDoes (q := q) (s := s)).2⟩
 | .none :: q, s => by
  simp only [List.filter_cons, isDoes, notDoes, if_true, if_false, Bool.false_eq_true]
  exact ⟨rulesD_noDoes.1, (rulesD_noDoes (q := q) (s := s)).2⟩
 | .does n d :: q, s => by
  simp only [List.filter_cons, isDoes, notDoes, if_true, if_false, Bool.false_eq_true]
  exact ⟨(rulesD_noDoes (q := q) (s := s)).1, (rulesD_noDoes (q := q) (s := s)).2⟩
theorem rulesD_moved (rs : List Rw) : rulesD (moved rs) [] (moved rs) = rulesD rs [] rs := by
 rw [rulesD_all (deeds_moved rs)]
 unfold moved
 rw [rulesD_app, rulesD_noDoes.1, List.nil_append, rulesR_noDoes, List.append_nil, rulesD_noDoes.2]
theorem moved_told {rs : List Rw} (h : Told rs) : Told (moved rs) := by
 have mem : ∀ r ∈ moved rs, r ∈ rs := fun r hr => (List.mem_append.mp hr).elim (fun h => (List.mem_filter.mp h).1) fun h => (List.mem_filter.mp h).1
 refine ⟨fun r hr => h.1 r (mem r hr), ?_, fun n d hm => by rw [rules_moved]; exact h.2.2 n d (mem _ hm)⟩
 unfold moved
 rw [List.length_append]
 have : ∀ q : List Rw, (q.filter isDoes).length + (q.filter notDoes).length = q.length := by
  intro q
  induction q with
  | nil => rfl
  | cons r q ih => cases r <;> simp only [List.filter_cons, isDoes, notDoes, if_true, if_false, Bool.false_eq_true, List.length_cons] <;> omega
 rw [this]
 exact h.2.1
end Bk
namespace L2
open PySem PySem.Spec PyProof.Rows
theorem lc_listH {K : PySem.W.Frag} {a : Addr} {xs : List V} {fr : L2.St} {tc : TT} {te : TE} {D : Addr} {H1 : Hp} {Q : Hp → Prop} (P : Nat → List V → Hp → Prop) (mono : ∀ i ys H H', TK H H' → P i ys H → P i ys H') (hS : SqL K H1 a xs) (hn : xs.length < sizeLine) (hD : H1 D = none) (h0 : P 0 [] H1)
  (step : ∀ i x ys H (G : Hp → Prop) (K' : V → Hp → Prop), xs[i]? = some x → P i ys H → ys.length ≤ i → Same H1 H → (∀ H3, Same H H3 → P (i + 1) ys H3 → G H3) → (∀ y H4, Same H H4 → P (i + 1) (ys ++ [y]) H4 → K' y H4) → tc ([some x] ++ fr) H fun b H3 => if b = true then te ([some x] ++ fr) H3 K' else G H3)
  (done : ∀ ys H, P xs.length ys H → ys.length ≤ xs.length → Same H1 H → H D = some (.lst ys) → Q H) : LC 1 fr (gName 0) tc te (Itl K a) D H1 Q := by
 have at' : ∀ i, i < xs.length → xs[i]? = some (xs.getD i .non) := fun i hi => by
  rw [List.getD_eq_getElem?_getD, List.getElem?_eq_getElem hi]
  rfl
 exact lc_genH xs.length (fun i => xs.getD i .non) P mono hn hD (fun i H hi hs => ⟨xs, _, hs.seq hS, at' i hi⟩)
  (fun i H x H' hi hs hy => ⟨hy.1, Option.some.inj ((hy.2 xs (hs.seq hS)).symm.trans (at' i hi))⟩) (fun H hs => ⟨xs, hs.seq hS, Nat.le_refl _⟩) h0
  (fun i ys H G K' hi hP hl hs hG hK => step i _ ys H G K' (at' i hi) hP hl hs hG hK) done
end L2
namespace Tim
open PySem PyProof.Rows
structure TB (a₀ : Array Keyed) (st : SortSt) : Prop where
 perm : (arrOf st).Perm a₀
 kind : kindOf st = oneType'
 failed : failedOf st = none
theorem TB.size {a₀ : Array Keyed} {st : SortSt} (h : TB a₀ st) : (arrOf st).size = a₀.size := h.perm.size_eq
theorem TB.setArr {a₀ : Array Keyed} {st : SortSt} (h : TB a₀ st) {xs : Array Keyed} (hp : xs.Perm (arrOf st)) : TB a₀ (setArr st xs) := ⟨hp.trans h.perm, h.kind, h.failed⟩
theorem IntKeys.perm {xs ys : Array Keyed} (h : IntKeys ys) (p : xs.Perm ys) : IntKeys xs := fun q hq => h q ((Array.perm_iff_toList_perm.mp p).mem_iff.mp hq)
def Seg (xs : Array Keyed) (lo hi : Nat) : Prop := ∀ i j, lo ≤ i → i ≤ j → j < hi → K xs i ≤ K xs j
def Dsc (xs : Array Keyed) (lo hi : Nat) : Prop := ∀ i j, lo ≤ i → i ≤ j → j < hi → K xs j ≤ K xs i
theorem Seg.one (xs : Array Keyed) (lo : Nat) : Seg xs lo (lo + 1) := fun i j h1 h2 h3 => by
 have : i = j := by omega
 subst this
 exact Int.le_refl _
theorem Seg.more {xs : Array Keyed} {lo hi : Nat} (h : Seg xs lo hi) (hl : lo < hi) (e : K xs (hi - 1) ≤ K xs hi) : Seg xs lo (hi + 1) := fun i j h1 h2 h3 => by
 by_cases hj : j < hi
 ·exact h i j h1 h2 hj
 ·have hj' : j = hi := by omega
  subst hj'
  by_cases hi' : i = j
  ·subst hi'; exact Int.le_refl _
  ·exact Int.le_trans (h i (j - 1) h1 (by omega) (by omega)) e
theorem Dsc.more {xs : Array Keyed} {lo hi : Nat} (h : Dsc xs lo hi) (hl : lo < hi) (e : K xs hi ≤ K xs (hi - 1)) : Dsc xs lo (hi + 1) := fun i j h1 h2 h3 => by
 by_cases hj : j < hi
 ·exact h i j h1 h2 hj
 ·have hj' : j = hi := by omega
  subst hj'
  by_cases hi' : i = j
  ·subst hi'; exact Int.le_refl _
  ·exact Int.le_trans e (h i (j - 1) h1 (by omega) (by omega))
theorem Seg.congr {xs ys : Array Keyed} {lo hi : Nat} (h : Seg xs lo hi) (e : ∀ k, lo ≤ k → k < hi → K ys k = K xs k) : Seg ys lo hi := fun i j h1 h2 h3 => by
 rw [e i h1 (by omega), e j (by omega) h3]
 exact h i j h1 h2 h3
theorem Dsc.congr {xs ys : Array Keyed} {lo hi : Nat} (h : Dsc xs lo hi) (e : ∀ k, lo ≤ k → k < hi → K ys k = K xs k) : Dsc ys lo hi := fun i j h1 h2 h3 => by
 rw [e i h1 (by omega), e j (by omega) h3]
 exact h i j h1 h2 h3
theorem Dsc.turn {xs : Array Keyed} {lo hi : Nat} (h : Dsc xs lo hi) (hs : hi ≤ xs.size) : Seg (mirror xs lo hi ((hi - lo) / 2)) lo hi := fun i j h1 h2 h3 => by
 rw [K_mirror hs, K_mirror hs, if_pos ⟨h1, by omega⟩, if_pos ⟨by omega, h3⟩]
 exact h _ _ (by omega) (by omega) (by omega)
structure Kept (lo : Nat) (st st' : SortSt) : Prop where
 pend : pendingOf st' = pendingOf st
 low : ∀ k, k < lo → K (arrOf st') k = K (arrOf st) k
theorem Kept.refl (lo : Nat) (st : SortSt) : Kept lo st st := ⟨rfl, fun _ _ => rfl⟩
theorem Kept.arr {lo : Nat} {st : SortSt} {xs : Array Keyed} (e : ∀ k, k < lo → K xs k = K (arrOf st) k) : Kept lo st (setArr st xs) := ⟨rfl, e⟩
theorem Kept.trans {lo : Nat} {a b c : SortSt} (h : Kept lo a b) (g : Kept lo b c) : Kept lo a c := ⟨g.pend.trans h.pend, fun k hk => (g.low k hk).trans (h.low k hk)⟩
section
variable {prog : Program} {w : World} {A : Around} {E : Value → Shared → Prop} {s : Shared} {a₀ : Array Keyed}
end
end Tim
namespace Tim
open PySem PyProof.Rows
section
variable {prog : Program} {w : World} {A : Around} {E : Value → Shared → Prop} {s : Shared} {a₀ : Array Keyed}
end
end Tim
namespace Tim
open PySem PyProof.Rows
section
variable {prog : Program} {w : World} {A : Around} {E : Value → Shared → Prop} {s : Shared} {a₀ : Array Keyed}
end
end Tim
namespace Tim
open PySem PyProof.Rows
noncomputable def keyN (p : Keyed) : Int := numOf p.1
section
variable {prog : Program} {w : World} {A : Around} {E : Value → Shared → Prop} {s : Shared}
end
end Tim
namespace Tim
open PySem PyProof.Rows
def Srt (l : List Keyed) : Prop := l.Pairwise fun x y => keyN x ≤ keyN y
structure Out (o ra rb all : List Keyed) : Prop where
 perm : (o ++ ra ++ rb).Perm all
 srt : Srt o
 sa : Srt ra
 sb : Srt rb
 low : ∀ x ∈ o, ∀ y, y ∈ ra ∨ y ∈ rb → keyN x ≤ keyN y
theorem Srt.split {l : List Keyed} (h : Srt l) (k : Nat) : Srt (l.take k) ∧ Srt (l.drop k) ∧ ∀ x ∈ l.take k, ∀ y ∈ l.drop k, keyN x ≤ keyN y := by
 have e : l.take k ++ l.drop k = l := List.take_append_drop k l
 unfold Srt at h ⊢
 rw [← e, List.pairwise_append] at h
 exact ⟨h.1, h.2.1, h.2.2⟩
theorem Out.takeA {o ra rb all : List Keyed} (h : Out o ra rb all) (k : Nat) (hk : ∀ x ∈ ra.take k, ∀ y ∈ rb, keyN x ≤ keyN y) : Out (o ++ ra.take k) (ra.drop k) rb all := by
 obtain ⟨s1, s2, s3⟩ := h.sa.split k
 refine ⟨?_, ?_, s2, h.sb, fun x hx y hy => ?_⟩
 ·rw [List.append_assoc o, List.take_append_drop]
  exact h.perm
 ·unfold Srt
  rw [List.pairwise_append]
  exact ⟨h.srt, s1, fun x hx y hy => h.low x hx y (.inl (List.mem_of_mem_take hy))⟩
 ·rcases List.mem_append.mp hx with k1 | k1
  ·exact h.low x k1 y (hy.imp List.mem_of_mem_drop id)
  ·rcases hy with hy | hy
   ·exact s3 x k1 y hy
   ·exact hk x k1 y hy
theorem Out.takeB {o ra rb all : List Keyed} (h : Out o ra rb all) (k : Nat) (hk : ∀ x ∈ rb.take k, ∀ y ∈ ra, keyN x ≤ keyN y) : Out (o ++ rb.take k) ra (rb.drop k) all := by
 obtain ⟨s1, s2, s3⟩ := h.sb.split k
 refine ⟨?_, ?_, h.sa, s2, fun x hx y hy => ?_⟩
 ·refine List.Perm.trans ?_ h.perm
  conv => rhs; rw [← List.take_append_drop k rb]
  rw [List.append_assoc, List.append_assoc, List.append_assoc]
  refine List.Perm.append_left o ?_
  rw [← List.append_assoc, ← List.append_assoc]
  exact List.Perm.append_right _ List.perm_append_comm
 ·unfold Srt
  rw [List.pairwise_append]
  exact ⟨h.srt, s1, fun x hx y hy => h.low x hx y (.inr (List.mem_of_mem_take hy))⟩
 ·rcases List.mem_append.mp hx with k1 | k1
  ·exact h.low x k1 y (hy.imp id List.mem_of_mem_drop)
  ·rcases hy with hy | hy
   ·exact hk x k1 y hy
   ·exact s3 x k1 y hy
theorem Out.done {o ra rb all : List Keyed} (h : Out o ra rb all) (he : ra = [] ∨ rb = []) : (o ++ ra ++ rb).Perm all ∧ Srt (o ++ ra ++ rb) := by
 refine ⟨h.perm, ?_⟩
 unfold Srt
 rcases he with rfl | rfl
 ·rw [List.append_nil, List.pairwise_append]
  exact ⟨h.srt, h.sb, fun x hx y hy => h.low x hx y (.inr hy)⟩
 ·rw [List.append_nil, List.pairwise_append]
  exact ⟨h.srt, h.sa, fun x hx y hy => h.low x hx y (.inl hy)⟩
theorem Out.last {o ra rb all : List Keyed} (h : Out o ra rb all) (he : ∀ y ∈ rb, ∀ x ∈ ra, keyN y ≤ keyN x) : (o ++ rb ++ ra).Perm all ∧ Srt (o ++ rb ++ ra) := by
 refine ⟨?_, ?_⟩
 ·refine List.Perm.trans ?_ h.perm
  rw [List.append_assoc, List.append_assoc]
  exact List.Perm.append_left o List.perm_append_comm
 ·unfold Srt
  rw [List.pairwise_append, List.pairwise_append]
  refine ⟨⟨h.srt, h.sb, fun x hx y hy => h.low x hx y (.inr hy)⟩, h.sa, fun x hx y hy => ?_⟩
  rcases List.mem_append.mp hx with k | k
  ·exact h.low x k y (.inl hy)
  ·exact he x k y hy
structure Lk (st st' : SortSt) : Prop where
 kind : kindOf st' = kindOf st
 arr : arrOf st' = arrOf st
 pend : pendingOf st' = pendingOf st
 failed : failedOf st' = failedOf st
theorem Lk.refl (st : SortSt) : Lk st st := ⟨rfl, rfl, rfl, rfl⟩
theorem Lk.trans {a b c : SortSt} (h : Lk a b) (g : Lk b c) : Lk a c := ⟨g.kind.trans h.kind, g.arr.trans h.arr, g.pend.trans h.pend, g.failed.trans h.failed⟩
end Tim
namespace Tim
open PySem PyProof.Rows
theorem drop_cons {a : Array Keyed} {i : Nat} {x : Keyed} (e : a[i]? = some x) : a.toList.drop i = x :: a.toList.drop (i + 1) := by
 have e' : a.toList[i]? = some x := by rw [Array.getElem?_toList]; exact e
 obtain ⟨h, rfl⟩ := List.getElem?_eq_some_iff.mp e'
 exact List.drop_eq_getElem_cons h
theorem K_of {a : Array Keyed} {i : Nat} {x : Keyed} (e : a[i]? = some x) : K a i = keyN x := by
 unfold K
 rw [e]
 rfl
theorem mem_drop {a : Array Keyed} {i : Nat} {x : Keyed} (h : x ∈ a.toList.drop i) : ∃ j, i ≤ j ∧ j < a.size ∧ keyN x = K a j := by
 obtain ⟨k, hk, e⟩ := List.getElem_of_mem h
 rw [List.length_drop] at hk
 have hl : a.toList.length = a.size := Array.length_toList
 refine ⟨i + k, by omega, by omega, ?_⟩
 refine (K_of ?_).symm
 rw [← Array.getElem?_toList, ← e, List.getElem_drop]
 exact List.getElem?_eq_getElem (by omega)
theorem mem_take {a : Array Keyed} {i : Nat} {x : Keyed} (h : x ∈ a.toList.take i) : ∃ j, j < i ∧ j < a.size ∧ keyN x = K a j := by
 obtain ⟨k, hk, e⟩ := List.getElem_of_mem h
 rw [List.length_take] at hk
 have hl : a.toList.length = a.size := Array.length_toList
 refine ⟨k, by omega, by omega, ?_⟩
 refine (K_of ?_).symm
 rw [← Array.getElem?_toList, ← e, List.getElem_take]
 exact List.getElem?_eq_getElem (by omega)
theorem mem_mid {a : Array Keyed} {i k : Nat} {x : Keyed} (h : x ∈ (a.toList.drop i).take k) : ∃ j, i ≤ j ∧ j < i + k ∧ j < a.size ∧ keyN x = K a j := by
 obtain ⟨m, hm, e⟩ := List.getElem_of_mem h
 rw [List.length_take, List.length_drop] at hm
 have hl : a.toList.length = a.size := Array.length_toList
 refine ⟨i + m, by omega, by omega, by omega, ?_⟩
 refine (K_of ?_).symm
 rw [← Array.getElem?_toList, ← e, List.getElem_take, List.getElem_drop]
 exact List.getElem?_eq_getElem (by omega)
theorem srt_of {a : Array Keyed} (h : Seg a 0 a.size) : Srt a.toList := by
 unfold Srt
 rw [List.pairwise_iff_getElem]
 intro i j hi hj hij
 have hl : a.toList.length = a.size := Array.length_toList
 have e1 : a[i]? = some a.toList[i] := by rw [← Array.getElem?_toList]; exact List.getElem?_eq_getElem hi
 have e2 : a[j]? = some a.toList[j] := by rw [← Array.getElem?_toList]; exact List.getElem?_eq_getElem hj
 rw [← K_of e1, ← K_of e2]
 exact h i j (by omega) (by omega) (by omega)
theorem ext_list (a : Array Keyed) (i j : Nat) : (a.extract i j).toList = (a.toList.drop i).take (j - i) := by
 rw [Array.toList_extract, List.extract_eq_take_drop]
def Inv (a b out : Array Keyed) (ia ib : Nat) : Prop := Out out.toList (a.toList.drop ia) (b.toList.drop ib) (a.toList ++ b.toList)
def Good (a b r : Array Keyed) : Prop := r.toList.Perm (a.toList ++ b.toList) ∧ Srt r.toList
section
variable {a b out : Array Keyed} {ia ib : Nat}
theorem Inv.start (ha : Seg a 0 a.size) (hb : Seg b 0 b.size) : Inv a b #[] 0 0 := ⟨List.Perm.refl _, List.Pairwise.nil, srt_of ha, srt_of hb, fun x hx => nomatch hx⟩
theorem Inv.as (h : Inv a b out ia ib) (hb : Seg b 0 b.size) (k : Nat) (hk : ∀ j, ia ≤ j → j < ia + k → K a j ≤ K b ib) : Inv a b (out ++ a.extract ia (ia + k)) (ia + k) ib := by
 have z := Out.takeA h k fun x hx y hy => by
  obtain ⟨j, h1, h2, h3, e⟩ := mem_mid hx
  obtain ⟨m, g1, g2, e2⟩ := mem_drop hy
  rw [e, e2]
  exact Int.le_trans (hk j h1 h2) (hb ib m (by omega) g1 g2)
 unfold Inv
 rw [Array.toList_append, ext_list, show ia + k - ia = k by omega, ← List.drop_drop]
 exact z
theorem Inv.bs (h : Inv a b out ia ib) (ha : Seg a 0 a.size) (k : Nat) (hk : ∀ j, ib ≤ j → j < ib + k → K b j ≤ K a ia) : Inv a b (out ++ b.extract ib (ib + k)) ia (ib + k) := by
 have z := Out.takeB h k fun x hx y hy => by
  obtain ⟨j, h1, h2, h3, e⟩ := mem_mid hx
  obtain ⟨m, g1, g2, e2⟩ := mem_drop hy
  rw [e, e2]
  exact Int.le_trans (hk j h1 h2) (ha ia m (by omega) g1 g2)
 unfold Inv
 rw [Array.toList_append, ext_list, show ib + k - ib = k by omega, ← List.drop_drop]
 exact z
theorem ext_one {a : Array Keyed} {i : Nat} {x : Keyed} (e : a[i]? = some x) : out.push x = out ++ a.extract i (i + 1) := by
 apply Array.toList_inj.mp
 rw [Array.toList_push, Array.toList_append, ext_list, drop_cons e, show i + 1 - i = 1 by omega]
 rfl
theorem Inv.a1 (h : Inv a b out ia ib) (hb : Seg b 0 b.size) {x : Keyed} (e : a[ia]? = some x) (hk : K a ia ≤ K b ib) : Inv a b (out.push x) (ia + 1) ib := by
 rw [ext_one e]
 exact h.as hb 1 fun j h1 h2 => by
  have : j = ia := by omega
  subst this
  exact hk
theorem Inv.b1 (h : Inv a b out ia ib) (ha : Seg a 0 a.size) {x : Keyed} (e : b[ib]? = some x) (hk : K b ib ≤ K a ia) : Inv a b (out.push x) ia (ib + 1) := by
 rw [ext_one e]
 exact h.bs ha 1 fun j h1 h2 => by
  have : j = ib := by omega
  subst this
  exact hk
theorem ext_end (a : Array Keyed) (i : Nat) : (a.extract i a.size).toList = a.toList.drop i := by
 rw [ext_list]
 exact List.take_of_length_le (by rw [List.length_drop, Array.length_toList]; omega)
theorem Inv.fin (h : Inv a b out ia ib) (e : ia = a.size ∨ ib = b.size) : Good a b (out ++ a.extract ia a.size ++ b.extract ib b.size) := by
 unfold Good
 rw [Array.toList_append, Array.toList_append, ext_end, ext_end]
 refine Out.done h (e.imp ?_ ?_)
 ·intro e; exact List.drop_eq_nil_of_le (by rw [Array.length_toList]; omega)
 ·intro e; exact List.drop_eq_nil_of_le (by rw [Array.length_toList]; omega)
theorem Inv.last (h : Inv a b out ia ib) (e : ia + 1 = a.size) (hl : ∀ j, j < b.size → K b j ≤ K a (a.size - 1)) : Good a b (out ++ b.extract ib b.size ++ a.extract ia a.size) := by
 unfold Good
 rw [Array.toList_append, Array.toList_append, ext_end, ext_end]
 refine Out.last h fun y hy x hx => ?_
 obtain ⟨j, h1, h2, e1⟩ := mem_drop hx
 obtain ⟨m, g1, g2, e2⟩ := mem_drop hy
 rw [e1, e2, show j = a.size - 1 by omega]
 exact hl m g2
end
section
variable {prog : Program} {w : World} {A : Around} {E : Value → Shared → Prop} {s : Shared}
theorem Seg.from {a : Array Keyed} {i n : Nat} (h : Seg a 0 a.size) (e : i + n = a.size) : Seg a i (i + n) := fun x y h1 h2 h3 => h x y (by omega) h2 (by omega)
end
end Tim
namespace Tim
open PySem PyProof.Rows
structure Ouh (o ra rb all : List Keyed) : Prop where
 perm : (ra ++ rb ++ o).Perm all
 srt : Srt o
 sa : Srt ra
 sb : Srt rb
 high : ∀ x ∈ o, ∀ y, y ∈ ra ∨ y ∈ rb → keyN y ≤ keyN x
theorem Ouh.takeA {o ra rb all : List Keyed} (h : Ouh o ra rb all) (k : Nat) (hk : ∀ x ∈ ra.drop k, ∀ y ∈ rb, keyN y ≤ keyN x) : Ouh (ra.drop k ++ o) (ra.take k) rb all := by
 obtain ⟨s1, s2, s3⟩ := h.sa.split k
 refine ⟨?_, ?_, s1, h.sb, fun x hx y hy => ?_⟩
 ·refine List.Perm.trans ?_ h.perm
  conv => rhs; rw [← List.take_append_drop k ra]
  rw [← List.append_assoc]
  refine List.Perm.append_right o ?_
  rw [List.append_assoc, List.append_assoc]
  exact List.Perm.append_left _ List.perm_append_comm
 ·unfold Srt
  rw [List.pairwise_append]
  exact ⟨s2, h.srt, fun x hx y hy => h.high y hy x (.inl (List.mem_of_mem_drop hx))⟩
 ·rcases List.mem_append.mp hx with k1 | k1
  ·rcases hy with hy | hy
   ·exact s3 y hy x k1
   ·exact hk x k1 y hy
  ·exact h.high x k1 y (hy.imp List.mem_of_mem_take id)
theorem Ouh.takeB {o ra rb all : List Keyed} (h : Ouh o ra rb all) (k : Nat) (hk : ∀ x ∈ rb.drop k, ∀ y ∈ ra, keyN y ≤ keyN x) : Ouh (rb.drop k ++ o) ra (rb.take k) all := by
 obtain ⟨s1, s2, s3⟩ := h.sb.split k
 refine ⟨?_, ?_, h.sa, s1, fun x hx y hy => ?_⟩
 ·refine List.Perm.trans ?_ h.perm
  conv => rhs; rw [← List.take_append_drop k rb]
  rw [← List.append_assoc, ← List.append_assoc]
 ·unfold Srt
  rw [List.pairwise_append]
  exact ⟨s2, h.srt, fun x hx y hy => h.high y hy x (.inr (List.mem_of_mem_drop hx))⟩
 ·rcases List.mem_append.mp hx with k1 | k1
  ·rcases hy with hy | hy
   ·exact hk x k1 y hy
   ·exact s3 y hy x k1
  ·exact h.high x k1 y (hy.imp id List.mem_of_mem_take)
theorem Ouh.done {o ra rb all : List Keyed} (h : Ouh o ra rb all) (he : ra = [] ∨ rb = []) : (ra ++ rb ++ o).Perm all ∧ Srt (ra ++ rb ++ o) := by
 refine ⟨h.perm, ?_⟩
 unfold Srt
 rcases he with rfl | rfl
 ·rw [List.nil_append, List.pairwise_append]
  exact ⟨h.sb, h.srt, fun x hx y hy => h.high y hy x (.inr hx)⟩
 ·rw [List.append_nil, List.pairwise_append]
  exact ⟨h.sa, h.srt, fun x hx y hy => h.high y hy x (.inl hx)⟩
theorem Ouh.first {o ra rb all : List Keyed} (h : Ouh o ra rb all) (he : ∀ y ∈ rb, ∀ x ∈ ra, keyN y ≤ keyN x) : (rb ++ ra ++ o).Perm all ∧ Srt (rb ++ ra ++ o) := by
 refine ⟨?_, ?_⟩
 ·refine List.Perm.trans ?_ h.perm
  exact List.Perm.append_right o List.perm_append_comm
 ·unfold Srt
  rw [List.pairwise_append, List.pairwise_append]
  refine ⟨⟨h.sb, h.sa, he⟩, h.srt, fun x hx y hy => ?_⟩
  rcases List.mem_append.mp hx with k | k
  ·exact h.high y hy x (.inr k)
  ·exact h.high y hy x (.inl k)
def InvH (a b out : Array Keyed) (na nb : Nat) : Prop := Ouh out.toList.reverse (a.toList.take na) (b.toList.take nb) (a.toList ++ b.toList)
theorem mem_low {a : Array Keyed} {i k : Nat} {x : Keyed} (h : x ∈ (a.toList.take k).drop i) : ∃ j, i ≤ j ∧ j < k ∧ j < a.size ∧ keyN x = K a j := by
 obtain ⟨m, hm, e⟩ := List.getElem_of_mem h
 rw [List.length_drop, List.length_take] at hm
 have hl : a.toList.length = a.size := Array.length_toList
 refine ⟨i + m, by omega, by omega, by omega, ?_⟩
 refine (K_of ?_).symm
 rw [← Array.getElem?_toList, ← e, List.getElem_drop, List.getElem_take]
 exact List.getElem?_eq_getElem (by omega)
theorem ext_low (a : Array Keyed) (i k : Nat) : (a.extract i k).toList = (a.toList.take k).drop i := by
 rw [ext_list, List.drop_take]
section
variable {a b out : Array Keyed} {na nb : Nat}
theorem InvH.start (ha : Seg a 0 a.size) (hb : Seg b 0 b.size) : InvH a b #[] a.size b.size := by
 have e1 : a.toList.take a.size = a.toList := List.take_of_length_le (by rw [Array.length_toList]; omega)
 have e2 : b.toList.take b.size = b.toList := List.take_of_length_le (by rw [Array.length_toList]; omega)
 unfold InvH
 rw [e1, e2]
 exact ⟨by show (a.toList ++ b.toList ++ []).Perm _; rw [List.append_nil], List.Pairwise.nil, srt_of ha, srt_of hb, fun x hx => nomatch hx⟩
theorem InvH.as (h : InvH a b out na nb) (hb : Seg b 0 b.size) (hnb : 1 ≤ nb) (hnb2 : nb ≤ b.size) (k : Nat) (hkn : k ≤ na) (hk : ∀ j, k ≤ j → j < na → K b (nb - 1) ≤ K a j) : InvH a b (out ++ (a.extract k na).reverse) k nb := by
 have z := Ouh.takeA h k fun x hx y hy => by
  obtain ⟨j, h1, h2, h3, e⟩ := mem_low hx
  obtain ⟨m, g1, g2, e2⟩ := mem_take hy
  rw [e, e2]
  exact Int.le_trans (hb m (nb - 1) (by omega) (by omega) (by omega)) (hk j h1 h2)
 unfold InvH
 rw [Array.toList_append, Array.toList_reverse, List.reverse_append, List.reverse_reverse, ext_low]
 rw [List.take_take, show min k na = k by omega] at z
 exact z
theorem InvH.bs (h : InvH a b out na nb) (ha : Seg a 0 a.size) (hna : 1 ≤ na) (hna2 : na ≤ a.size) (k : Nat) (hkn : k ≤ nb) (hk : ∀ j, k ≤ j → j < nb → K a (na - 1) ≤ K b j) : InvH a b (out ++ (b.extract k nb).reverse) na k := by
 have z := Ouh.takeB h k fun x hx y hy => by
  obtain ⟨j, h1, h2, h3, e⟩ := mem_low hx
  obtain ⟨m, g1, g2, e2⟩ := mem_take hy
  rw [e, e2]
  exact Int.le_trans (ha m (na - 1) (by omega) (by omega) (by omega)) (hk j h1 h2)
 unfold InvH
 rw [Array.toList_append, Array.toList_reverse, List.reverse_append, List.reverse_reverse, ext_low]
 rw [List.take_take, show min k nb = k by omega] at z
 exact z
theorem ext_oneR {a : Array Keyed} {i : Nat} {x : Keyed} (hi : 1 ≤ i) (e : a[i - 1]? = some x) : out.push x = out ++ (a.extract (i - 1) i).reverse := by
 apply Array.toList_inj.mp
 rw [Array.toList_push, Array.toList_append, Array.toList_reverse, ext_list, drop_cons e, show i - (i - 1) = 1 by omega]
 rfl
theorem InvH.a1 (h : InvH a b out na nb) (hb : Seg b 0 b.size) (hnb : 1 ≤ nb) (hnb2 : nb ≤ b.size) {x : Keyed} (hna : 1 ≤ na) (e : a[na - 1]? = some x) (hk : K b (nb - 1) ≤ K a (na - 1)) : InvH a b (out.push x) (na - 1) nb := by
 rw [ext_oneR hna e]
 exact h.as hb hnb hnb2 _ (by omega) fun j h1 h2 => by
  have : j = na - 1 := by omega
  subst this
  exact hk
theorem InvH.b1 (h : InvH a b out na nb) (ha : Seg a 0 a.size) (hna : 1 ≤ na) (hna2 : na ≤ a.size) {x : Keyed} (hnb : 1 ≤ nb) (e : b[nb - 1]? = some x) (hk : K a (na - 1) ≤ K b (nb - 1)) : InvH a b (out.push x) na (nb - 1) := by
 rw [ext_oneR hnb e]
 exact h.bs ha hna hna2 _ (by omega) fun j h1 h2 => by
  have : j = nb - 1 := by omega
  subst this
  exact hk
theorem ext_start (a : Array Keyed) (i : Nat) : (a.extract 0 i).toList = a.toList.take i := by
 rw [ext_list]
 rfl
theorem InvH.fin (h : InvH a b out na nb) (e : na = 0 ∨ nb = 0) : Good a b (a.extract 0 na ++ b.extract 0 nb ++ out.reverse) := by
 unfold Good
 rw [Array.toList_append, Array.toList_append, ext_start, ext_start, Array.toList_reverse]
 refine Ouh.done h (e.imp ?_ ?_)
 ·rintro rfl; rfl
 ·rintro rfl; rfl
theorem InvH.first (h : InvH a b out na nb) (e : nb = 1) (hl : ∀ j, j < a.size → K b 0 ≤ K a j) : Good a b (b.extract 0 nb ++ a.extract 0 na ++ out.reverse) := by
 unfold Good
 rw [Array.toList_append, Array.toList_append, ext_start, ext_start, Array.toList_reverse]
 refine Ouh.first h fun y hy x hx => ?_
 obtain ⟨j, h1, h2, e1⟩ := mem_take hx
 obtain ⟨m, g1, g2, e2⟩ := mem_take hy
 rw [e1, e2, show m = 0 by omega]
 exact hl j h2
end
section
variable {prog : Program} {w : World} {A : Around} {E : Value → Shared → Prop} {s : Shared}
theorem Seg.to {a : Array Keyed} {n : Nat} (h : Seg a 0 a.size) (e : n ≤ a.size) : Seg a 0 (0 + n) := fun x y h1 h2 h3 => h x y (by omega) h2 (by omega)
end
end Tim
namespace Tim
open PySem PyProof.Rows
noncomputable def laid (s : Nat) (l : List Keyed) (n : Nat) (xs : Array Keyed) : Array Keyed := (l.zipIdx n).foldl (fun a (p, j) => a.setIfInBounds (s + j) p) xs
section
variable {prog : Program} {w : World} {A : Around} {E : Value → Shared → Prop} {s : Shared} {a₀ : Array Keyed}
end
end Tim
namespace Tim
open PySem PyProof.Rows
def Runs (xs : Array Keyed) : Nat → List (Nat × Nat × Nat) → Nat → Prop
 | lo, [], hi => lo = hi
 | lo, t :: r, hi => t.1 = lo ∧ 1 ≤ t.2.1 ∧ Seg xs lo (lo + t.2.1) ∧ Runs xs (lo + t.2.1) r hi
theorem Runs.app {xs : Array Keyed} {hi : Nat} {q : List (Nat × Nat × Nat)} : ∀ {p : List (Nat × Nat × Nat)} {lo : Nat}, Runs xs lo (p ++ q) hi ↔ ∃ m, Runs xs lo p m ∧ Runs xs m q hi
 | [], lo => ⟨fun h => ⟨lo, rfl, h⟩, fun ⟨m, h1, h2⟩ => by cases h1; exact h2⟩
 | t :: p, lo => by
  show (_ ∧ _ ∧ _ ∧ Runs xs _ (p ++ q) hi) ↔ ∃ m, (_ ∧ _ ∧ _ ∧ Runs xs _ p m) ∧ _
  rw [Runs.app (p := p)]
  exact ⟨fun ⟨a, b, c, m, d, e⟩ => ⟨m, ⟨a, b, c, d⟩, e⟩, fun ⟨m, ⟨a, b, c, d⟩, e⟩ => ⟨a, b, c, m, d, e⟩⟩
theorem Runs.le {xs : Array Keyed} {hi : Nat} : ∀ {p : List (Nat × Nat × Nat)} {lo : Nat}, Runs xs lo p hi → lo + p.length ≤ hi
 | [], lo, h => by cases h; exact Nat.le_refl _
 | t :: p, lo, ⟨_, h1, _, h2⟩ => by
  have := h2.le
  rw [List.length_cons]
  omega
theorem Runs.congr {xs ys : Array Keyed} {hi : Nat} : ∀ {p : List (Nat × Nat × Nat)} {lo : Nat}, Runs xs lo p hi → (∀ k, lo ≤ k → k < hi → K ys k = K xs k) → Runs ys lo p hi
 | [], lo, h, _ => h
 | t :: p, lo, ⟨h0, h1, h2, h3⟩, e => ⟨h0, h1, h2.congr fun k k1 k2 => e k k1 (by have := h3.le; omega), h3.congr fun k k1 k2 => e k (by omega) k2⟩
theorem Runs.same {xs : Array Keyed} {hi : Nat} : ∀ {p q : List (Nat × Nat × Nat)} {lo : Nat}, Runs xs lo p hi → q.map (fun t => (t.1, t.2.1)) = p.map (fun t => (t.1, t.2.1)) → Runs xs lo q hi
 | [], [], lo, h, _ => h
 | [], _ :: _, lo, h, e => by cases e
 | _ :: _, [], lo, h, e => by cases e
 | t :: p, u :: q, lo, ⟨h0, h1, h2, h3⟩, e => by
  rw [List.map_cons, List.map_cons, List.cons.injEq, Prod.mk.injEq] at e
  obtain ⟨⟨e1, e2⟩, e3⟩ := e
  refine ⟨e1.trans h0, by omega, by rw [e2]; exact h2, ?_⟩
  rw [e2]
  exact h3.same e3
section
variable {prog : Program} {w : World} {A : Around} {E : Value → Shared → Prop} {s : Shared} {a₀ : Array Keyed}
end
end Tim
namespace L2.Srt
open PySem PySem.W PyProof.Rows
section
variable {prog : Program} {w : World} {A : Around} {E : Value → Shared → Prop} {s : Shared}
end
end L2.Srt
namespace L2
open PySem PySem.Spec PyProof.Rows Srt
section
variable {X : Cx}
end
end L2
namespace L2.RvR
open PySem PySem.Spec PySem.Calls PyProof.Rows
section
variable {prog : Program} {w : World} {A : Around} {E : Value → Shared → Prop} {s : Shared}
end
end L2.RvR
namespace L2
open PySem PySem.Spec PyProof.Rows RvR
section
variable {X : Cx} {tg : Expr}
end
end L2
namespace L2
open PySem PySem.Spec PyProof.Rows
end L2
namespace L2
open PySem PySem.Spec PyProof.Rows
section
variable {X : Cx}
end
end L2
namespace K33
open PySem PySem.Spec L2 PyProof.Rows Pc Bk
set_option hygiene false
set_option compiler.extract_closed false
local macro_rules | `(tactic| push_cast [$xs,*]) => `(tactic| simp only [↓cons_same, ↓l1_same, ↓l2_same, ↓l3_same, ↓exists_eq_left, ↓exists_eq_left', ↓int_ex, ↓ref_ex, ↓bl_ex, ↓int_ex2, tVarD, rI0D, rID, rUD, tBD, tPartD, rLenD, rTupD, rIntD, tSeq, tIfS, tRet, tRetN, tNext, tVar, tC, tTest, tB, tOp, tUn, rI, rI0, rU, rEq, rNe, tCall, tCB, tCons, tNil, tAnd, tOr, tNot, tAndV, tOrV, tNotV, tIf, gName, tAsg, tBM, tBM0, tSl, tNoPart, tPart, rSlS, rSlL, tLst, tTup, tDrop, tNoIf, iStr, iList, iTup, iRng1, iRng2, tLC, tSetLC, frOf, List.set_cons_zero, List.set_cons_succ, List.getElem?_cons_zero, List.getElem?_cons_succ, Option.some.injEq, V.int.injEq, V.str.injEq, V.bl.injEq, V.ref.injEq, List.cons.injEq, exists_eq_left, exists_eq_left', exists_eq_right, exists_eq_right', exists_and_left, exists_and_right, and_true, true_and, List.cons_append, List.nil_append, List.append_nil, reduceCtorEq, false_and, exists_false, false_or, or_false, decide_eq_true_eq, eq_self, if_true, if_false, Bool.false_eq_true, Bool.true_eq_false, cxOf_K, cxOf_P, cxOf_w, cxOf_mg, cxOf_b, List.map_cons, List.map_nil, Option.getD_some, Option.getD_none, exists_const, nox_K, and_assoc, exists_eq, exists_eq', V.ty.injEq, tVals, Int.reduceLT, Int.reduceLE, Int.reduceNeg, Int.reducePow, Nat.reduceLT, Nat.reduceLeDiff, tFor_eq, tyV_str, CDiv, tCallV, tDIn, tDNotIn, tDGet, iRev, tDNewK, sDPut, and_self, exists_prop, $xs,*])
set_option hygiene true
set_option compiler.extract_closed true
noncomputable def top (i : Nat) : Stmt := PySem.Challenge.pw_pricecover_k33_whole_shown_and_read.main.body.getD i (.Pass ⟨0, 0, 0, 0⟩)
structure Gs (w : World) (K : PySem.W.Frag) (mg : Str → Option Value) : Prop where
 m_all : mg "all" = none
 m_bool : mg "bool" = none
 m_enumerate : mg "enumerate" = none
 m_int : mg "int" = none
 m_isinstance : mg "isinstance" = none
 m_len : mg "len" = none
 m_range : mg "range" = none
 m_str : mg "str" = none
 m_sum : mg "sum" = none
 m_tuple : mg "tuple" = none
 m_LETTERS : ∃ t, mg "LETTERS" = some (.str "abcdefghijklmnopqrstuvwxyz" t)
 m_FIGURES : ∃ t, mg "FIGURES" = some (.str "0123456789" t)
 m_MOST_LETTERS : ∃ t, mg "MOST_LETTERS" = some (.int 8 t)
 m_MOST_FIGURES : ∃ t, mg "MOST_FIGURES" = some (.int 60 t)
 m_KEPT_WORDS : ∃ a, mg "KEPT_WORDS" = some (.ref a) ∧ ∀ H, SqT K H a [.str "add", .str "sub", .str "mul", .str "neg", .str "any", .str "var", .str "put", .str "load", .str "out"]
 m_PARTS_BELOW : ∃ a, mg "PARTS_BELOW" = some (.ref a) ∧ ModD w K a [(Sum.inr "add", .int 2), (Sum.inr "sub", .int 2), (Sum.inr "mul", .int 2), (Sum.inr "neg", .int 1)]
 m_BOXES : ∃ a, mg "BOXES" = some (.ref a) ∧ ∀ H, SqT K H a [.str "out", .str "t1", .str "t2", .str "t3"]
 m_LEAF_NUMBERS : ∃ t, mg "LEAF_NUMBERS" = some (.str "123456789" t)
 m_MOST_PRICE : ∃ t, mg "MOST_PRICE" = some (.int 999999 t)
 m_MOST_SHAPE_WORDS : ∃ t, mg "MOST_SHAPE_WORDS" = some (.int 12 t)
 m_SHAPE_START : ∃ t, mg "SHAPE_START" = some (.int 5 t)
def spLaw (K : PySem.W.Frag) : Sp := fun vs H Q _ => ∃ (a : Addr) (ns : List Int), vs = [.ref a] ∧ SqL K H a (ns.map V.int) ∧ ns.length ≤ 63 ∧ ∀ H', Q (.bl true) H'
def spT : Sp := fun vs H Q _ => False
def spNever : Sp := fun _ _ _ _ => False
def spShownT : Sp := fun vs H Q _ => ∃ (t : Addr) (ws : List V), vs = [.ref t] ∧ H t = some (.tup ws) ∧ (∀ v ∈ ws, wdW v) ∧ ws.length ≤ 20 ∧ ∀ H', Same H H' → Q (.str (Txt.join " " (ws.map textV))) H'
noncomputable def textB (ks : List Str) (rs : List Rd5) : Str := Txt.join "\n" ((shown ks rs).map Rw.line)
def spShownB : Sp := fun vs H Q _ => ∃ (b : Addr) (ks : List Str) (rs : List Rd5), vs = [.ref b] ∧ BkAt H b ks rs ∧ Told (shown ks rs) ∧ ∀ H', Same H H' → Q (.str (textB ks rs)) H'
theorem head_does {r : Rw} (ok : r.ok) : ∃ z s, r.vs = .str z :: s ∧ decide (z = "does") = isDoes r := by
 cases r with
 | kind n => exact ⟨_, _, rfl, by show decide (("kind" : Str) = "does") = false; decide +kernel⟩
 | rule n k p ws => exact ⟨_, _, rfl, by show decide (("rule" : Str) = "does") = false; decide +kernel⟩
 | does n d => exact ⟨_, _, rfl, by show decide (("does" : Str) = "does") = true; decide +kernel⟩
 | none => exact ⟨_, _, rfl, by show decide (("" : Str) = "does") = false; decide +kernel⟩
theorem not_does (r : Rw) : notDoes r = !isDoes r := by cases r <;> rfl
theorem text_nil : textB [] [] = Str.ofString "" := by decide +kernel
theorem tups_same {H H' : Hp} {as : List Addr} {ts : List (List V)} (h : TupsAt H as ts) (s : Same H H') : TupsAt H' as ts := h.keep (Tk.of s)
section
variable {P : Program} {w : World} {K : PySem.W.Frag} {mg : Str → Option Value} {base : Heap} {k : Nat}
noncomputable abbrev sMade : Stmt := top 10
theorem scMade : FnScope ["text", "signs"] ["text", "signs"] (defScope sMade) := ⟨rfl, rfl, rfl, by decide +kernel, rfl, by decide +kernel, by decide +kernel⟩
theorem hasMade (G : Gs w K mg) (D : Def K mg "made_of" sMade ["text", "signs"]) : Has P w K mg base (k + 1) "made_of" ["text", "signs"] spMade := by
 refine D.has scMade (fun vs H Q E h => ?_) (fun f cdv A outer s H vs Q E hr h => ?_)
 ·obtain ⟨_, _, rfl, _, _⟩ := h
  rfl
 have nd := scMade.nd
 have hu := hu_of hr
 have hu0 := Nat.lt_of_succ_lt hu
 obtain ⟨z, y, rfl, hz, q⟩ := h
 have m_all := G.m_all
 refine ⟨_, (@pss_one _ _ _ (@ps_ret _ _ _ _ (@pe_callB _ _ _ _ _ _ _ _ _ (@call_all_list _ rfl) rfl m_all b_all (@pa_cons _ _ _ _ _ (@pe_lc _ _ _ _ _ _ _ _ _ _ _ _ _ _ _ (@ClOk.mk _ _ ["sign"] ["signs"] [1] _ rfl rfl rfl rfl (And.intro rfl trivial) rfl (And.intro (And.intro rfl (And.intro rfl rfl)) trivial)) rfl (@pi_str _ _ _ _ (@pvD _ 0 _ _ (by rfl) (by first | exact Or.inl rfl | exact Or.inr (Or.inl rfl) | exact Or.inr (Or.inr rfl)) (by decide) (by decide))) (fun _ _ _ => (@pg_name _ _ 0 _ (show List.Nodup (["sign", "signs"] : List Str) by decide +kernel) rfl (Or.inl rfl) (by first | exact .inl rfl | exact .inr rfl | assumption))) (fun _ _ _ => (@pif0 _)) (fun _ _ _ => (@pe_cmpR _ _ _ _ _ _ _ _ (@op_in_str _) (@pvD _ 0 _ _ (by rfl) (by first | exact Or.inl rfl | exact Or.inr (Or.inl rfl) | exact Or.inr (Or.inr rfl)) (by decide) (by decide)) (@pvD _ 1 _ _ (by rfl) (by first | exact Or.inl rfl | exact Or.inr (Or.inl rfl) | exact Or.inr (Or.inr rfl)) (by decide) (by decide)) (by with_unfolding_all rfl))) (by intro _; rfl)) (@pa_nil _) (by rfl)) (by decide) (by decide) (by rfl) (by rfl)))), ?_⟩
 rw [show start ["text", "signs"] [.str z, .str y] = [some (.str z), some (.str y)] from rfl]
 clear hu hu0 nd hr
 push_cast [and_true]
 intro D hD
 refine lc_str (fun i ys => ys = (z.cps.toList.take i).map fun c => V.bl (decide (c ∈ y.cps.toList))) (Nat.lt_of_le_of_lt hz (by decide)) hD rfl (fun i c ys H1 G' K' hc hP hl hS hG hK => ?_) (fun ys H' hP _ hS hL => ?_)
 ·push_cast [and_true]
  rw [StrLaws.found_one]
  refine hK _ _ (Same.refl _) ?_
  rw [hP, List.take_add_one, hc]
  simp
 ·rw [slen, List.take_length] at hP
  refine ⟨z.cps.toList.map fun c => decide (c ∈ y.cps.toList), SqL.of (by rw [hL, hP, List.map_map]; rfl), ?_⟩
  rw [List.all_map]
  exact q H' hS
noncomputable abbrev sName : Stmt := top 11
theorem scName : FnScope ["word"] ["word"] (defScope sName) := ⟨rfl, rfl, rfl, by decide +kernel, rfl, by decide +kernel, by decide +kernel⟩
theorem hasName (G : Gs w K mg) (h_made_of : Has P w K mg base k "made_of" ["text", "signs"] spMade) (D : Def K mg "is_name" sName ["word"]) : Has P w K mg base (k + 1) "is_name" ["word"] spName := by
 refine D.has scName (fun vs H Q E h => ?_) (fun f cdv A outer s H vs Q E hr h => ?_)
 ·obtain ⟨_, rfl, _, _⟩ := h
  rfl
 have nd := scName.nd
 have hu := hu_of hr
 have hu0 := Nat.lt_of_succ_lt hu
 obtain ⟨z, rfl, hz, q⟩ := h
 obtain ⟨a_KEPT_WORDS, m_KEPT_WORDS, s_KEPT_WORDS⟩ := G.m_KEPT_WORDS
 obtain ⟨_, m_LETTERS⟩ := G.m_LETTERS
 obtain ⟨_, m_MOST_LETTERS⟩ := G.m_MOST_LETTERS
 have m_len := G.m_len
 refine ⟨_, (@pss_cons _ _ _ _ _ (@ps_if _ _ _ _ _ _ _ _ (@PW.pt _ _ _ (@pw_or _ _ _ _ _ _ _ (@pt_cmpRD _ _ _ _ _ _ _ _ (@op_ltD _) (@pe_callB _ _ _ _ _ _ _ _ _ (@call_len_str _) rfl m_len b_len (@pa_cons _ _ _ _ _ (@pvD _ 0 _ _ (by rfl) (by first | exact Or.inl rfl | exact Or.inr (Or.inl rfl) | exact Or.inr (Or.inr rfl)) (by decide) (by decide)) (@pa_nil _) (by rfl)) (by decide) (by decide) (by rfl) (by rfl)) (@pe_int _ _ _ _) (@nomark _ _ (by decide) (by decide))) (@pw_or1 _ _ _ _ (@pt_cmpRD _ _ _ _ _ _ _ _ (@op_gtD _) (@pe_callB _ _ _ _ _ _ _ _ _ (@call_len_str _) rfl m_len b_len (@pa_cons _ _ _ _ _ (@pvD _ 0 _ _ (by rfl) (by first | exact Or.inl rfl | exact Or.inr (Or.inl rfl) | exact Or.inr (Or.inr rfl)) (by decide) (by decide)) (@pa_nil _) (by rfl)) (by decide) (by decide) (by rfl) (by rfl)) (@pe_gint _ _ _ _ _ m_MOST_LETTERS (by rfl) (by decide +kernel)) (@nomark _ _ (by decide) (by decide)))))) (@pss_one _ _ _ (@ps_ret _ _ _ _ (@pe_bl _ _ _ _))) (@pss_nil _)) (@pss_one _ _ _ (@ps_ret _ _ _ _ (@pe_and _ _ _ _ _ _ _ (@pe_has _ _ _ _ _ _ _ _ _ _ h_made_of hr (@pa_cons _ _ _ _ _ (@pvD _ 0 _ _ (by rfl) (by first | exact Or.inl rfl | exact Or.inr (Or.inl rfl) | exact Or.inr (Or.inr rfl)) (by decide) (by decide)) (@pa_cons _ _ _ _ _ (@pe_gstr _ _ _ _ _ m_LETTERS (by rfl) (by decide +kernel)) (@pa_nil _) (by rfl)) (by rfl)) (by rfl) (by decide +kernel) (by rfl) (by rfl)) (@pe_one _ _ _ _ _ (@pe_cmpR _ _ _ _ _ _ _ _ (@op_notIn_seq _) (@pvD _ 0 _ _ (by rfl) (by first | exact Or.inl rfl | exact Or.inr (Or.inl rfl) | exact Or.inr (Or.inr rfl)) (by decide) (by decide)) (@pe_gref _ _ _ _ m_KEPT_WORDS (by rfl) (by decide +kernel)) (by with_unfolding_all rfl))))))), ?_⟩
 rw [show start ["word"] [.str z] = [some (.str z)] from rfl]
 clear hu hu0 nd hr
 push_cast [spMade, rIn]
 refine ⟨big hz, ite2 (fun c => ?_) fun c => ⟨big hz, ite2 (fun c2 => ?_) fun c2 => ⟨hz, fun H' hS => ite2 (fun c3 => ?_) fun c3 => ?_⟩⟩⟩
 ·have e : nameB z = false := by unfold nameB; rw [decide_eq_false (by omega)]; rfl
  exact e ▸ q H (Same.refl H)
 ·have e : nameB z = false := by unfold nameB; rw [decide_eq_false (show ¬ z.length ≤ 8 by omega)]; simp
  exact e ▸ q H (Same.refl H)
 ·refine ⟨keptV, .inr (s_KEPT_WORDS H'), rfl, rfl, ?_⟩
  have e : nameB z = !inV (.str z) keptV := by
   unfold nameB; rw [decide_eq_true (show 1 ≤ z.length by omega), decide_eq_true (show z.length ≤ 8 by omega), c3]; simp
  exact e ▸ q H' hS
 ·have e : nameB z = false := by unfold nameB; rw [Bool.eq_false_iff.mpr c3]; simp
  exact e ▸ q H' hS
noncomputable abbrev sNum : Stmt := top 12
theorem scNum : FnScope ["word", "figures"] ["word"] (defScope sNum) := ⟨rfl, rfl, rfl, by decide +kernel, rfl, by decide +kernel, by decide +kernel⟩
theorem hasNum (G : Gs w K mg) (h_made_of : Has P w K mg base k "made_of" ["text", "signs"] spMade) (D : Def K mg "is_number" sNum ["word"]) : Has P w K mg base (k + 1) "is_number" ["word"] spNum := by
 refine D.has scNum (fun vs H Q E h => ?_) (fun f cdv A outer s H vs Q E hr h => ?_)
 ·obtain ⟨_, rfl, _, _⟩ := h
  rfl
 have nd := scNum.nd
 have hu := hu_of hr
 have hu0 := Nat.lt_of_succ_lt hu
 obtain ⟨z, rfl, hz, q⟩ := h
 obtain ⟨_, m_FIGURES⟩ := G.m_FIGURES
 obtain ⟨_, m_MOST_FIGURES⟩ := G.m_MOST_FIGURES
 have m_len := G.m_len
 refine ⟨_, (@pss_cons _ _ _ _ _ (@ps_set _ _ 1 _ _ _ _ nd rfl (by first | exact Or.inl rfl | exact Or.inr rfl) (@pe_ifExp _ _ _ _ _ _ _ _ (@pt_valD _ _ _ (@pe_bm _ _ _ _ _ _ _ _ _ _ _ _ PySem.F.plainAttrs_str PySem.F.slot_str_startswith PySem.F.type_str_startswith (@mt_startswith _) (@pvD _ 0 _ _ (by rfl) (by first | exact Or.inl rfl | exact Or.inr (Or.inl rfl) | exact Or.inr (Or.inr rfl)) (by decide) (by decide)) (@pa_cons _ _ _ _ _ (@pe_str _ _ _ _) (@pa_nil _) (by rfl)) (by rfl) (by rfl) (by rfl) (by rfl) (by rfl)) (by intro _; rfl)) (@pe_slice _ _ _ _ _ _ _ _ _ _ (@sl_str _) (@pvD _ 0 _ _ (by rfl) (by first | exact Or.inl rfl | exact Or.inr (Or.inl rfl) | exact Or.inr (Or.inr rfl)) (by decide) (by decide)) (@po_someD _ _ _ (@pe_int _ _ _ _)) (@po_none _)) (@pvD _ 0 _ _ (by rfl) (by first | exact Or.inl rfl | exact Or.inr (Or.inl rfl) | exact Or.inr (Or.inr rfl)) (by decide) (by decide))) (by rfl) (by first | exact .inl rfl | exact .inr rfl | assumption)) (@pss_cons _ _ _ _ _ (@ps_if _ _ _ _ _ _ _ _ (@PW.pt _ _ _ (@pw_or _ _ _ _ _ _ _ (@pt_cmpRD _ _ _ _ _ _ _ _ (@op_ltD _) (@pe_callB _ _ _ _ _ _ _ _ _ (@call_len_str _) rfl m_len b_len (@pa_cons _ _ _ _ _ (@pvD _ 1 _ _ (by rfl) (by first | exact Or.inl rfl | exact Or.inr (Or.inl rfl) | exact Or.inr (Or.inr rfl)) (by decide) (by decide)) (@pa_nil _) (by rfl)) (by decide) (by decide) (by rfl) (by rfl)) (@pe_int _ _ _ _) (@nomark _ _ (by decide) (by decide))) (@pw_or1 _ _ _ _ (@pt_cmpRD _ _ _ _ _ _ _ _ (@op_gtD _) (@pe_callB _ _ _ _ _ _ _ _ _ (@call_len_str _) rfl m_len b_len (@pa_cons _ _ _ _ _ (@pvD _ 1 _ _ (by rfl) (by first | exact Or.inl rfl | exact Or.inr (Or.inl rfl) | exact Or.inr (Or.inr rfl)) (by decide) (by decide)) (@pa_nil _) (by rfl)) (by decide) (by decide) (by rfl) (by rfl)) (@pe_gint _ _ _ _ _ m_MOST_FIGURES (by rfl) (by decide +kernel)) (@nomark _ _ (by decide) (by decide)))))) (@pss_one _ _ _ (@ps_ret _ _ _ _ (@pe_bl _ _ _ _))) (@pss_nil _)) (@pss_cons _ _ _ _ _ (@ps_if _ _ _ _ _ _ _ _ (@pt_not _ _ _ _ (@pt_valD _ _ _ (@pe_has _ _ _ _ _ _ _ _ _ _ h_made_of hr (@pa_cons _ _ _ _ _ (@pvD _ 1 _ _ (by rfl) (by first | exact Or.inl rfl | exact Or.inr (Or.inl rfl) | exact Or.inr (Or.inr rfl)) (by decide) (by decide)) (@pa_cons _ _ _ _ _ (@pe_gstr _ _ _ _ _ m_FIGURES (by rfl) (by decide +kernel)) (@pa_nil _) (by rfl)) (by rfl)) (by rfl) (by decide +kernel) (by rfl) (by rfl)) (by intro _; rfl))) (@pss_one _ _ _ (@ps_ret _ _ _ _ (@pe_bl _ _ _ _))) (@pss_nil _)) (@pss_one _ _ _ (@ps_ret _ _ _ _ (@pe_or _ _ _ _ _ _ _ (@pe_cmpR _ _ _ _ _ _ _ _ (@op_eq _) (@pvD _ 0 _ _ (by rfl) (by first | exact Or.inl rfl | exact Or.inr (Or.inl rfl) | exact Or.inr (Or.inr rfl)) (by decide) (by decide)) (@pe_str _ _ _ _) (@nomark _ _ (by decide) (by decide))) (@pe_one _ _ _ _ _ (@pe_cmpR _ _ _ _ _ _ _ _ (@op_ne _) (@pe_ix _ _ _ _ _ _ _ (@ix_str _) (@pvD _ 1 _ _ (by rfl) (by first | exact Or.inl rfl | exact Or.inr (Or.inl rfl) | exact Or.inr (Or.inr rfl)) (by decide) (by decide)) (@pe_int _ _ _ _) (fun _ _ => rfl)) (@pe_str _ _ _ _) (@nomark _ _ (by decide) (by decide)))))))))), ?_⟩
 rw [show start ["word", "figures"] [.str z] = [some (.str z), none] from rfl]
 clear hu hu0 nd hr
 push_cast [spMade, rIxS, scal]
 rw [starts1]
 refine ite2 (fun c => ?_) fun c => ?_
 ·have c' : z.cps.toList.head? = some 45 := of_decide_eq_true c
  refine ⟨big hz, num_fin z _ (by rw [cut1]; unfold figL; rw [if_pos c']) (Nat.le_trans (cutS_le z _ _) hz) q⟩
 ·have c' : ¬ z.cps.toList.head? = some 45 := of_decide_eq_false (Bool.eq_false_iff.mpr c)
  exact num_fin z z (by unfold figL; rw [if_neg c']) hz q
noncomputable abbrev sHow : Stmt := top 13
theorem scHow : FnScope ["word"] ["word"] (defScope sHow) := ⟨rfl, rfl, rfl, by decide +kernel, rfl, by decide +kernel, by decide +kernel⟩
theorem hasHow (G : Gs w K mg) (D : Def K mg "how_many_below" sHow ["word"]) : Has P w K mg base (k + 1) "how_many_below" ["word"] spHow := by
 refine D.has scHow (fun vs H Q E h => ?_) (fun f cdv A outer s H vs Q E hr h => ?_)
 ·obtain ⟨_, rfl, _, _⟩ := h
  rfl
 have nd := scHow.nd
 have hu := hu_of hr
 have hu0 := Nat.lt_of_succ_lt hu
 obtain ⟨v, rfl, hw, q⟩ := h
 obtain ⟨a_PARTS_BELOW, m_PARTS_BELOW, s_PARTS_BELOW⟩ := G.m_PARTS_BELOW
 refine ⟨_, (@pss_one _ _ _ (@ps_ret _ _ _ _ (@pe_mget2 _ _ _ _ _ _ _ _ _ _ (@pe_gref _ _ _ _ m_PARTS_BELOW (by rfl) (by decide +kernel)) s_PARTS_BELOW (@pvD _ 0 _ _ (by rfl) (by first | exact Or.inl rfl | exact Or.inr (Or.inl rfl) | exact Or.inr (Or.inr rfl)) (by decide) (by decide)) (@pe_int _ _ _ _) (@M2.mk _ _ _ _ _ _ _ rfl rfl rfl rfl)))), ?_⟩
 rw [show start ["word"] [v] = [some (v)] from rfl]
 clear hu hu0 nd hr
 push_cast [tMGet2]
 obtain ⟨k, rfl⟩ := hw
 refine ⟨k, rfl, ?_⟩
 show Q ((valV parts k).getD (V.int 0)) H
 rw [val_parts]
 exact q
noncomputable abbrev sTermW : Stmt := top 14
theorem scTermW : FnScope ["word"] ["word"] (defScope sTermW) := ⟨rfl, rfl, rfl, by decide +kernel, rfl, by decide +kernel, by decide +kernel⟩
theorem hasTermW (G : Gs w K mg) (h_is_name : Has P w K mg base k "is_name" ["word"] spName) (h_is_number : Has P w K mg base k "is_number" ["word"] spNum) (D : Def K mg "is_term_word" sTermW ["word"]) : Has P w K mg base (k + 1) "is_term_word" ["word"] spTW := by
 refine D.has scTermW (fun vs H Q E h => ?_) (fun f cdv A outer s H vs Q E hr h => ?_)
 ·obtain ⟨_, rfl, _, _⟩ := h
  rfl
 have nd := scTermW.nd
 have hu := hu_of hr
 have hu0 := Nat.lt_of_succ_lt hu
 obtain ⟨z, rfl, hz, q⟩ := h
 obtain ⟨a_PARTS_BELOW, m_PARTS_BELOW, s_PARTS_BELOW⟩ := G.m_PARTS_BELOW
 refine ⟨_, (@pss_one _ _ _ (@ps_ret _ _ _ _ (@pe_or _ _ _ _ _ _ _ (@pe_has _ _ _ _ _ _ _ _ _ _ h_is_number hr (@pa_cons _ _ _ _ _ (@pvD _ 0 _ _ (by rfl) (by first | exact Or.inl rfl | exact Or.inr (Or.inl rfl) | exact Or.inr (Or.inr rfl)) (by decide) (by decide)) (@pa_nil _) (by rfl)) (by rfl) (by decide +kernel) (by rfl) (by rfl)) (@pe_or _ _ _ _ _ _ _ (@pe_has _ _ _ _ _ _ _ _ _ _ h_is_name hr (@pa_cons _ _ _ _ _ (@pvD _ 0 _ _ (by rfl) (by first | exact Or.inl rfl | exact Or.inr (Or.inl rfl) | exact Or.inr (Or.inr rfl)) (by decide) (by decide)) (@pa_nil _) (by rfl)) (by rfl) (by decide +kernel) (by rfl) (by rfl)) (@pe_one _ _ _ _ _ (@pe_cmpR _ _ _ _ _ _ _ _ (@op_in_mod _ _ _ s_PARTS_BELOW) (@pvD _ 0 _ _ (by rfl) (by first | exact Or.inl rfl | exact Or.inr (Or.inl rfl) | exact Or.inr (Or.inr rfl)) (by decide) (by decide)) (@pe_gref _ _ _ _ m_PARTS_BELOW (by rfl) (by decide +kernel)) (by with_unfolding_all rfl))))))), ?_⟩
 rw [show start ["word"] [.str z] = [some (.str z)] from rfl]
 clear hu hu0 nd hr
 push_cast [spName, spNum]
 refine ⟨hz, fun H' s1 => ite2 (fun c => ?_) fun c => ⟨hz, fun H2 s2 => ite2 (fun c2 => ?_) fun c2 => ⟨Sum.inr z, rfl, ?_⟩⟩⟩
 ·have q1 := q H' s1
  rw [c, Bool.true_or, Bool.true_or] at q1
  exact q1
 ·have q1 := q H2 (s1.trans s2)
  rw [Bool.eq_false_iff.mpr c, c2, Bool.false_or, Bool.true_or] at q1
  exact q1
 ·have q1 := q H2 (s1.trans s2)
  rw [Bool.eq_false_iff.mpr c, Bool.eq_false_iff.mpr c2, Bool.false_or, Bool.false_or] at q1
  show Q (V.bl (valV parts (Sum.inr z)).isSome) H2
  rw [in_parts]
  exact q1
noncomputable abbrev sNumT : Stmt := top 15
theorem scNumT : FnScope ["word"] ["word"] (defScope sNumT) := ⟨rfl, rfl, rfl, by decide +kernel, rfl, by decide +kernel, by decide +kernel⟩
theorem hasNumT (G : Gs w K mg) (h_is_number : Has P w K mg base k "is_number" ["word"] spNum) (D : Def K mg "number_or_text" sNumT ["word"]) : Has P w K mg base (k + 1) "number_or_text" ["word"] spNumT := by
 refine D.has scNumT (fun vs H Q E h => ?_) (fun f cdv A outer s H vs Q E hr h => ?_)
 ·obtain ⟨_, rfl, _, _⟩ := h
  rfl
 have nd := scNumT.nd
 have hu := hu_of hr
 have hu0 := Nat.lt_of_succ_lt hu
 obtain ⟨v, rfl, hw, q⟩ := h
 have m_int := G.m_int
 refine ⟨_, (@pss_one _ _ _ (@ps_ret _ _ _ _ (@pe_ifExp _ _ _ _ _ _ _ _ (@pt_valD _ _ _ (@pe_has _ _ _ _ _ _ _ _ _ _ h_is_number hr (@pa_cons _ _ _ _ _ (@pvD _ 0 _ _ (by rfl) (by first | exact Or.inl rfl | exact Or.inr (Or.inl rfl) | exact Or.inr (Or.inr rfl)) (by decide) (by decide)) (@pa_nil _) (by rfl)) (by rfl) (by decide +kernel) (by rfl) (by rfl)) (by intro _; rfl)) (@pe_callTy _ _ _ _ _ _ _ _ _ (@call_int_str _) rfl m_int b_int (@pa_cons _ _ _ _ _ (@pvD _ 0 _ _ (by rfl) (by first | exact Or.inl rfl | exact Or.inr (Or.inl rfl) | exact Or.inr (Or.inr rfl)) (by decide) (by decide)) (@pa_nil _) (by rfl)) (by decide) (by decide) (by rfl) (by rfl)) (@pvD _ 0 _ _ (by rfl) (by first | exact Or.inl rfl | exact Or.inr (Or.inl rfl) | exact Or.inr (Or.inr rfl)) (by decide) (by decide))))), ?_⟩
 rw [show start ["word"] [.str (textV v)] = [some (.str (textV v))] from rfl]
 clear hu hu0 nd hr
 push_cast [spNum]
 have hl := hw.text.1
 refine ⟨by omega, fun H' hS => ?_⟩
 cases v with
 | int i =>
  have r := read_int hw
  rw [if_pos r.1]
  exact ⟨i, r.2.1, by omega, q H' hS⟩
 | str z =>
  rw [if_neg (by show ¬ numB z = true; rw [hw.1]; decide)]
  exact q H' hS
 | _ => exact hw.elim
noncomputable abbrev sShB : Stmt := top 18
theorem scShB : FnScope ["word"] ["word"] (defScope sShB) := ⟨rfl, rfl, rfl, by decide +kernel, rfl, by decide +kernel, by decide +kernel⟩
theorem hasShB (G : Gs w K mg) (h_is_term_word : Has P w K mg base k "is_term_word" ["word"] spTW) (D : Def K mg "is_shape_word" sShB ["word"]) : Has P w K mg base (k + 1) "is_shape_word" ["word"] spShB := by
 refine D.has scShB (fun vs H Q E h => ?_) (fun f cdv A outer s H vs Q E hr h => ?_)
 ·obtain ⟨_, rfl, _, _⟩ := h
  rfl
 have nd := scShB.nd
 have hu := hu_of hr
 have hu0 := Nat.lt_of_succ_lt hu
 obtain ⟨z, rfl, hz, q⟩ := h
 refine ⟨_, (@pss_one _ _ _ (@ps_ret _ _ _ _ (@pe_or _ _ _ _ _ _ _ (@pe_has _ _ _ _ _ _ _ _ _ _ h_is_term_word hr (@pa_cons _ _ _ _ _ (@pvD _ 0 _ _ (by rfl) (by first | exact Or.inl rfl | exact Or.inr (Or.inl rfl) | exact Or.inr (Or.inr rfl)) (by decide) (by decide)) (@pa_nil _) (by rfl)) (by rfl) (by decide +kernel) (by rfl) (by rfl)) (@pe_one _ _ _ _ _ (@pe_cmpR _ _ _ _ _ _ _ _ (@op_in_seq _) (@pvD _ 0 _ _ (by rfl) (by first | exact Or.inl rfl | exact Or.inr (Or.inl rfl) | exact Or.inr (Or.inr rfl)) (by decide) (by decide)) (@pe_tup _ _ _ _ _ (@pa_cons _ _ _ _ _ (@pe_str _ _ _ _) (@pa_cons _ _ _ _ _ (@pe_str _ _ _ _) (@pa_nil _) (by rfl)) (by rfl))) (by with_unfolding_all rfl)))))), ?_⟩
 rw [show start ["word"] [.str z] = [some (.str z)] from rfl]
 clear hu hu0 nd hr
 push_cast [spTW, rIn]
 refine ⟨hz, fun H1 s1 => ite2 (fun c => ?_) fun c => ⟨by show (2 : Nat) ≤ sizeLine; decide, fun p hp => ⟨_, .inr (SqT.of upd_same), rfl, rfl, ?_⟩⟩⟩
 ·have q1 := q H1 s1
  unfold shB at q1
  rw [c, Bool.true_or] at q1
  exact q1
 ·have q1 := q _ (s1.trans (same_new hp (.tup [V.str (Str.ofString "any"), V.str (Str.ofString "var")])))
  unfold shB at q1
  rw [Bool.eq_false_iff.mpr c, Bool.false_or] at q1
  exact q1
noncomputable abbrev sLeafN : Stmt := top 25
theorem scLeafN : FnScope ["word", "letter"] ["word", "letter"] (defScope sLeafN) := ⟨rfl, rfl, rfl, by decide +kernel, rfl, by decide +kernel, by decide +kernel⟩
theorem hasLeafN (G : Gs w K mg) (D : Def K mg "is_leaf_name" sLeafN ["word", "letter"]) : Has P w K mg base (k + 1) "is_leaf_name" ["word", "letter"] spLeafN := by
 refine D.has scLeafN (fun vs H Q E h => ?_) (fun f cdv A outer s H vs Q E hr h => ?_)
 ·obtain ⟨_, _, rfl, _, _⟩ := h
  rfl
 have nd := scLeafN.nd
 have hu := hu_of hr
 have hu0 := Nat.lt_of_succ_lt hu
 obtain ⟨z, l, rfl, hz, q⟩ := h
 obtain ⟨_, m_LEAF_NUMBERS⟩ := G.m_LEAF_NUMBERS
 have m_len := G.m_len
 refine ⟨_, (@pss_one _ _ _ (@ps_ret _ _ _ _ (@pe_and _ _ _ _ _ _ _ (@pe_cmpR _ _ _ _ _ _ _ _ (@op_eq _) (@pe_callB _ _ _ _ _ _ _ _ _ (@call_len_str _) rfl m_len b_len (@pa_cons _ _ _ _ _ (@pvD _ 0 _ _ (by rfl) (by first | exact Or.inl rfl | exact Or.inr (Or.inl rfl) | exact Or.inr (Or.inr rfl)) (by decide) (by decide)) (@pa_nil _) (by rfl)) (by decide) (by decide) (by rfl) (by rfl)) (@pe_int _ _ _ _) (@nomark _ _ (by decide) (by decide))) (@pe_and _ _ _ _ _ _ _ (@pe_cmpR _ _ _ _ _ _ _ _ (@op_eq _) (@pe_ix _ _ _ _ _ _ _ (@ix_str _) (@pvD _ 0 _ _ (by rfl) (by first | exact Or.inl rfl | exact Or.inr (Or.inl rfl) | exact Or.inr (Or.inr rfl)) (by decide) (by decide)) (@pe_int _ _ _ _) (fun _ _ => rfl)) (@pvD _ 1 _ _ (by rfl) (by first | exact Or.inl rfl | exact Or.inr (Or.inl rfl) | exact Or.inr (Or.inr rfl)) (by decide) (by decide)) (@nomark _ _ (by decide) (by decide))) (@pe_one _ _ _ _ _ (@pe_cmpR _ _ _ _ _ _ _ _ (@op_in_str _) (@pe_ix _ _ _ _ _ _ _ (@ix_str _) (@pvD _ 0 _ _ (by rfl) (by first | exact Or.inl rfl | exact Or.inr (Or.inl rfl) | exact Or.inr (Or.inr rfl)) (by decide) (by decide)) (@pe_int _ _ _ _) (fun _ _ => rfl)) (@pe_gstr _ _ _ _ _ m_LEAF_NUMBERS (by rfl) (by decide +kernel)) (by with_unfolding_all rfl))))))), ?_⟩
 rw [show start ["word", "letter"] [.str z, .str ⟨#[l]⟩] = [some (.str z), some (.str ⟨#[l]⟩)] from rfl]
 clear hu hu0 nd hr
 push_cast [rIxS]
 refine ⟨big hz, rfl, ite2 (fun c => ?_) fun c => ?_⟩
 ·have c2 : z.length = 2 := by omega
  rw [slen] at c2
  obtain ⟨a, b, e⟩ : ∃ a b, z.cps.toList = [a, b] := by
   match h : z.cps.toList, c2 with
   | [a, b], _ => exact ⟨a, b, rfl⟩
  have q1 := q H (Same.refl _)
  rw [leaf2 e] at q1
  refine ⟨big hz, a, by rw [e]; rfl, rfl, ite2 (fun ea => ⟨big hz, b, by rw [e]; rfl, ?_⟩) fun ea => ?_⟩
  ·rw [in_nums]
   have : a = l := by simpa using ea
   rw [decide_eq_true this, Bool.true_and] at q1
   exact q1
  ·have : a ≠ l := fun h => ea (by rw [h])
   rw [decide_eq_false this, Bool.false_and] at q1
   exact q1
 ·have q1 := q H (Same.refl _)
  rw [leaf_no (by omega)] at q1
  exact q1
noncomputable abbrev sFrom : Stmt := top 26
theorem scFrom : FnScope ["word"] ["word"] (defScope sFrom) := ⟨rfl, rfl, rfl, by decide +kernel, rfl, by decide +kernel, by decide +kernel⟩
theorem hasFrom (G : Gs w K mg) (h_is_leaf_name : Has P w K mg base k "is_leaf_name" ["word", "letter"] spLeafN) (D : Def K mg "is_from" sFrom ["word"]) : Has P w K mg base (k + 1) "is_from" ["word"] spFrom := by
 refine D.has scFrom (fun vs H Q E h => ?_) (fun f cdv A outer s H vs Q E hr h => ?_)
 ·obtain ⟨_, rfl, _, _⟩ := h
  rfl
 have nd := scFrom.nd
 have hu := hu_of hr
 have hu0 := Nat.lt_of_succ_lt hu
 obtain ⟨z, rfl, hz, q⟩ := h
 obtain ⟨a_BOXES, m_BOXES, s_BOXES⟩ := G.m_BOXES
 refine ⟨_, (@pss_one _ _ _ (@ps_ret _ _ _ _ (@pe_or _ _ _ _ _ _ _ (@pe_cmpR _ _ _ _ _ _ _ _ (@op_in_seq _) (@pvD _ 0 _ _ (by rfl) (by first | exact Or.inl rfl | exact Or.inr (Or.inl rfl) | exact Or.inr (Or.inr rfl)) (by decide) (by decide)) (@pe_gref _ _ _ _ m_BOXES (by rfl) (by decide +kernel)) (by with_unfolding_all rfl)) (@pe_one _ _ _ _ _ (@pe_has _ _ _ _ _ _ _ _ _ _ h_is_leaf_name hr (@pa_cons _ _ _ _ _ (@pvD _ 0 _ _ (by rfl) (by first | exact Or.inl rfl | exact Or.inr (Or.inl rfl) | exact Or.inr (Or.inr rfl)) (by decide) (by decide)) (@pa_cons _ _ _ _ _ (@pe_str _ _ _ _) (@pa_nil _) (by rfl)) (by rfl)) (by rfl) (by decide +kernel) (by rfl) (by rfl)))))), ?_⟩
 rw [show start ["word"] [.str z] = [some (.str z)] from rfl]
 clear hu hu0 nd hr
 push_cast [spLeafN, rIn]
 refine ⟨boxesV, .inr (s_BOXES H), rfl, rfl, ite2 (fun c => ?_) fun c => ⟨104, by decide +kernel, hz, fun H1 s1 => ?_⟩⟩
 ·have q1 := q H (Same.refl _)
  unfold fromB boxB at q1
  rw [show inV (.str z) boxesV = true from c, Bool.true_or] at q1
  exact q1
 ·have q1 := q H1 s1
  unfold fromB boxB at q1
  rw [show inV (.str z) boxesV = false from Bool.eq_false_iff.mpr c, Bool.false_or] at q1
  exact q1
noncomputable abbrev sSrc : Stmt := top 27
theorem scSrc : FnScope ["deed", "word"] ["deed", "word"] (defScope sSrc) := ⟨rfl, rfl, rfl, by decide +kernel, rfl, by decide +kernel, by decide +kernel⟩
theorem hasSrc (G : Gs w K mg) (h_is_from : Has P w K mg base k "is_from" ["word"] spFrom) (h_is_leaf_name : Has P w K mg base k "is_leaf_name" ["word", "letter"] spLeafN) (h_is_number : Has P w K mg base k "is_number" ["word"] spNum) (D : Def K mg "is_source" sSrc ["deed", "word"]) : Has P w K mg base (k + 1) "is_source" ["deed", "word"] spSrc := by
 refine D.has scSrc (fun vs H Q E h => ?_) (fun f cdv A outer s H vs Q E hr h => ?_)
 ·obtain ⟨_, _, rfl, _, _⟩ := h
  rfl
 have nd := scSrc.nd
 have hu := hu_of hr
 have hu0 := Nat.lt_of_succ_lt hu
 obtain ⟨d, z, rfl, hz, q⟩ := h
 refine ⟨_, (@pss_cons _ _ _ _ _ (@ps_if _ _ _ _ _ _ _ _ (@pt_cmpRD _ _ _ _ _ _ _ _ (@op_eq _) (@pvD _ 0 _ _ (by rfl) (by first | exact Or.inl rfl | exact Or.inr (Or.inl rfl) | exact Or.inr (Or.inr rfl)) (by decide) (by decide)) (@pe_str _ _ _ _) (@nomark _ _ (by decide) (by decide))) (@pss_one _ _ _ (@ps_ret _ _ _ _ (@pe_or _ _ _ _ _ _ _ (@pe_has _ _ _ _ _ _ _ _ _ _ h_is_number hr (@pa_cons _ _ _ _ _ (@pvD _ 1 _ _ (by rfl) (by first | exact Or.inl rfl | exact Or.inr (Or.inl rfl) | exact Or.inr (Or.inr rfl)) (by decide) (by decide)) (@pa_nil _) (by rfl)) (by rfl) (by decide +kernel) (by rfl) (by rfl)) (@pe_one _ _ _ _ _ (@pe_has _ _ _ _ _ _ _ _ _ _ h_is_leaf_name hr (@pa_cons _ _ _ _ _ (@pvD _ 1 _ _ (by rfl) (by first | exact Or.inl rfl | exact Or.inr (Or.inl rfl) | exact Or.inr (Or.inr rfl)) (by decide) (by decide)) (@pa_cons _ _ _ _ _ (@pe_str _ _ _ _) (@pa_nil _) (by rfl)) (by rfl)) (by rfl) (by decide +kernel) (by rfl) (by rfl)))))) (@pss_nil _)) (@pss_cons _ _ _ _ _ (@ps_if _ _ _ _ _ _ _ _ (@pt_cmpRD _ _ _ _ _ _ _ _ (@op_eq _) (@pvD _ 0 _ _ (by rfl) (by first | exact Or.inl rfl | exact Or.inr (Or.inl rfl) | exact Or.inr (Or.inr rfl)) (by decide) (by decide)) (@pe_str _ _ _ _) (@nomark _ _ (by decide) (by decide))) (@pss_one _ _ _ (@ps_ret _ _ _ _ (@pe_has _ _ _ _ _ _ _ _ _ _ h_is_leaf_name hr (@pa_cons _ _ _ _ _ (@pvD _ 1 _ _ (by rfl) (by first | exact Or.inl rfl | exact Or.inr (Or.inl rfl) | exact Or.inr (Or.inr rfl)) (by decide) (by decide)) (@pa_cons _ _ _ _ _ (@pe_str _ _ _ _) (@pa_nil _) (by rfl)) (by rfl)) (by rfl) (by decide +kernel) (by rfl) (by rfl)))) (@pss_nil _)) (@pss_one _ _ _ (@ps_ret _ _ _ _ (@pe_has _ _ _ _ _ _ _ _ _ _ h_is_from hr (@pa_cons _ _ _ _ _ (@pvD _ 1 _ _ (by rfl) (by first | exact Or.inl rfl | exact Or.inr (Or.inl rfl) | exact Or.inr (Or.inr rfl)) (by decide) (by decide)) (@pa_nil _) (by rfl)) (by rfl) (by decide +kernel) (by rfl) (by rfl)))))), ?_⟩
 rw [show start ["deed", "word"] [.str d, .str z] = [some (.str d), some (.str z)] from rfl]
 clear hu hu0 nd hr
 push_cast [spFrom, spLeafN, spNum]
 unfold srcB at q
 refine ⟨rfl, ite2 (fun c => ⟨hz, fun H1 s1 => ite2 (fun c1 => ?_) fun c1 => ⟨110, by decide +kernel, hz, fun H2 s2 => ?_⟩⟩) fun c => ⟨rfl, ite2 (fun c1 => ⟨118, by decide +kernel, hz, fun H1 s1 => ?_⟩) fun c1 => ⟨hz, fun H1 s1 => ?_⟩⟩⟩
 ·have q1 := q H1 s1
  rw [if_pos c, c1, Bool.true_or] at q1
  exact q1
 ·have q1 := q H2 (s1.trans s2)
  rw [if_pos c, Bool.eq_false_iff.mpr c1, Bool.false_or] at q1
  exact q1
 ·have q1 := q H1 s1
  rw [if_neg c, if_pos c1] at q1
  exact q1
 ·have q1 := q H1 s1
  rw [if_neg c, if_neg c1] at q1
  exact q1
noncomputable abbrev sHowS : Stmt := top 28
theorem scHowS : FnScope ["deed"] ["deed"] (defScope sHowS) := ⟨rfl, rfl, rfl, by decide +kernel, rfl, by decide +kernel, by decide +kernel⟩
theorem hasHowS (G : Gs w K mg) (h_how_many_below : Has P w K mg base k "how_many_below" ["word"] spHow) (D : Def K mg "how_many_sources" sHowS ["deed"]) : Has P w K mg base (k + 1) "how_many_sources" ["deed"] spHowS := by
 refine D.has scHowS (fun vs H Q E h => ?_) (fun f cdv A outer s H vs Q E hr h => ?_)
 ·obtain ⟨_, rfl, _⟩ := h
  rfl
 have nd := scHowS.nd
 have hu := hu_of hr
 have hu0 := Nat.lt_of_succ_lt hu
 obtain ⟨d, rfl, q⟩ := h
 refine ⟨_, (@pss_one _ _ _ (@ps_ret _ _ _ _ (@pe_ifExp _ _ _ _ _ _ _ _ (@pt_cmpRD _ _ _ _ _ _ _ _ (@op_in_seq _) (@pvD _ 0 _ _ (by rfl) (by first | exact Or.inl rfl | exact Or.inr (Or.inl rfl) | exact Or.inr (Or.inr rfl)) (by decide) (by decide)) (@pe_tup _ _ _ _ _ (@pa_cons _ _ _ _ _ (@pe_str _ _ _ _) (@pa_cons _ _ _ _ _ (@pe_str _ _ _ _) (@pa_nil _) (by rfl)) (by rfl))) (by with_unfolding_all rfl)) (@pe_int _ _ _ _) (@pe_has _ _ _ _ _ _ _ _ _ _ h_how_many_below hr (@pa_cons _ _ _ _ _ (@pvD _ 0 _ _ (by rfl) (by first | exact Or.inl rfl | exact Or.inr (Or.inl rfl) | exact Or.inr (Or.inr rfl)) (by decide) (by decide)) (@pa_nil _) (by rfl)) (by rfl) (by decide +kernel) (by rfl) (by rfl))))), ?_⟩
 rw [show start ["deed"] [.str d] = [some (.str d)] from rfl]
 clear hu hu0 nd hr
 push_cast [spHow, rIn]
 refine ⟨by show (2 : Nat) ≤ sizeLine; decide, fun p hp => ⟨_, .inr (SqT.of upd_same), rfl, rfl, ?_⟩⟩
 have q1 := q _ (same_new hp (.tup [V.str (Str.ofString "put"), V.str (Str.ofString "load")]))
 refine ite2 (fun c => ?_) fun c => ⟨isW.str d, ?_⟩
 ·have : d = "put" ∨ d = "load" := by
   have := inV_str c
   simpa using this
  unfold arQ at q1
  rw [if_pos this] at q1
  exact q1
 ·have : ¬ (d = "put" ∨ d = "load") := by
   intro h
   refine c (inV_mem ?_)
   rcases h with rfl | rfl
   ·exact List.mem_cons_self
   ·exact List.mem_cons_of_mem _ List.mem_cons_self
  unfold arQ at q1
  rw [if_neg this] at q1
  exact q1
noncomputable abbrev sDeedB : Stmt := top 29
theorem scDeedB : FnScope ["words"] ["words"] (defScope sDeedB) := ⟨rfl, rfl, rfl, by decide +kernel, rfl, by decide +kernel, by decide +kernel⟩
theorem hasDeedB (G : Gs w K mg) (h_how_many_sources : Has P w K mg base k "how_many_sources" ["deed"] spHowS) (h_is_source : Has P w K mg base k "is_source" ["deed", "word"] spSrc) (D : Def K mg "is_deed" sDeedB ["words"]) : Has P w K mg base (k + 1) "is_deed" ["words"] spDeedB := by
 refine D.has scDeedB (fun vs H Q E h => ?_) (fun f cdv A outer s H vs Q E hr h => ?_)
 ·obtain ⟨_, _, rfl, _, _, _, _⟩ := h
  rfl
 have nd := scDeedB.nd
 have hu := hu_of hr
 have hu0 := Nat.lt_of_succ_lt hu
 obtain ⟨a, ts, rfl, ha, hz, hl, q⟩ := h
 obtain ⟨a_BOXES, m_BOXES, s_BOXES⟩ := G.m_BOXES
 have m_all := G.m_all
 have m_len := G.m_len
 refine ⟨_, (@pss_cons _ _ _ _ _ (@ps_if _ _ _ _ _ _ _ _ (@PW.pt _ _ _ (@pw_or _ _ _ _ _ _ _ (@pt_cmpRD _ _ _ _ _ _ _ _ (@op_ltD _) (@pe_callB _ _ _ _ _ _ _ _ _ (@call_len_seqD _) rfl m_len b_len (@pa_cons _ _ _ _ _ (@pvD _ 0 _ _ (by rfl) (by first | exact Or.inl rfl | exact Or.inr (Or.inl rfl) | exact Or.inr (Or.inr rfl)) (by decide) (by decide)) (@pa_nil _) (by rfl)) (by decide) (by decide) (by rfl) (by rfl)) (@pe_int _ _ _ _) (@nomark _ _ (by decide) (by decide))) (@pw_or1 _ _ _ _ (@pt_cmpRD _ _ _ _ _ _ _ _ (@op_notIn_seq _) (@pe_ix _ _ _ _ _ _ _ (@ix_list _) (@pvD _ 0 _ _ (by rfl) (by first | exact Or.inl rfl | exact Or.inr (Or.inl rfl) | exact Or.inr (Or.inr rfl)) (by decide) (by decide)) (@pe_int _ _ _ _) (fun _ _ => rfl)) (@pe_gref _ _ _ _ m_BOXES (by rfl) (by decide +kernel)) (by with_unfolding_all rfl))))) (@pss_one _ _ _ (@ps_ret _ _ _ _ (@pe_bl _ _ _ _))) (@pss_nil _)) (@pss_cons _ _ _ _ _ (@ps_if _ _ _ _ _ _ _ _ (@pt_cmpRD _ _ _ _ _ _ _ _ (@op_ne _) (@pe_callB _ _ _ _ _ _ _ _ _ (@call_len_seqD _) rfl m_len b_len (@pa_cons _ _ _ _ _ (@pvD _ 0 _ _ (by rfl) (by first | exact Or.inl rfl | exact Or.inr (Or.inl rfl) | exact Or.inr (Or.inr rfl)) (by decide) (by decide)) (@pa_nil _) (by rfl)) (by decide) (by decide) (by rfl) (by rfl)) (@pe_op _ _ _ _ _ _ _ _ (@op_addD _) (@pe_int _ _ _ _) (@pe_has _ _ _ _ _ _ _ _ _ _ h_how_many_sources hr (@pa_cons _ _ _ _ _ (@pe_ix _ _ _ _ _ _ _ (@ix_list _) (@pvD _ 0 _ _ (by rfl) (by first | exact Or.inl rfl | exact Or.inr (Or.inl rfl) | exact Or.inr (Or.inr rfl)) (by decide) (by decide)) (@pe_int _ _ _ _) (fun _ _ => rfl)) (@pa_nil _) (by rfl)) (by rfl) (by decide +kernel) (by rfl) (by rfl))) (@nomark _ _ (by decide) (by decide))) (@pss_one _ _ _ (@ps_ret _ _ _ _ (@pe_bl _ _ _ _))) (@pss_nil _)) (@pss_one _ _ _ (@ps_ret _ _ _ _ (@pe_callB _ _ _ _ _ _ _ _ _ (@call_all_list _ rfl) rfl m_all b_all (@pa_cons _ _ _ _ _ (@pe_lc _ _ _ _ _ _ _ _ _ _ _ _ _ _ _ (@ClOk.mk _ _ ["word"] ["words"] [0] _ rfl rfl rfl rfl (And.intro rfl trivial) rfl (And.intro (And.intro rfl (And.intro rfl rfl)) trivial)) rfl (@pi_list _ _ _ _ (@pe_slice _ _ _ _ _ _ _ _ _ _ (@sl_list _) (@pvD _ 0 _ _ (by rfl) (by first | exact Or.inl rfl | exact Or.inr (Or.inl rfl) | exact Or.inr (Or.inr rfl)) (by decide) (by decide)) (@po_someD _ _ _ (@pe_int _ _ _ _)) (@po_none _))) (fun _ _ _ => (@pg_name _ _ 0 _ (show List.Nodup (["word", "words"] : List Str) by decide +kernel) rfl (Or.inl rfl) (by first | exact .inl rfl | exact .inr rfl | assumption))) (fun _ _ _ => (@pif0 _)) (fun _ _ _ => (@pe_has _ _ _ _ _ _ _ _ _ _ h_is_source hr (@pa_cons _ _ _ _ _ (@pe_ix _ _ _ _ _ _ _ (@ix_listK _ K rfl) (@pvD _ 1 _ _ (by rfl) (by first | exact Or.inl rfl | exact Or.inr (Or.inl rfl) | exact Or.inr (Or.inr rfl)) (by decide) (by decide)) (@pe_int _ _ _ _) (fun _ _ => rfl)) (@pa_cons _ _ _ _ _ (@pvD _ 0 _ _ (by rfl) (by first | exact Or.inl rfl | exact Or.inr (Or.inl rfl) | exact Or.inr (Or.inr rfl)) (by decide) (by decide)) (@pa_nil _) (by rfl)) (by rfl)) (by rfl) (by decide +kernel) (by rfl) (by rfl))) (by intro _; rfl)) (@pa_nil _) (by rfl)) (by decide) (by decide) (by rfl) (by rfl)))))), ?_⟩
 rw [show start ["words"] [.ref a] = [some (.ref a)] from rfl]
 clear hu hu0 nd hr
 push_cast [spHowS, spSrc, rIn]
 have sz := sizeLine_eq
 have tl : (ts.map V.str).length = ts.length := List.length_map _
 unfold deedB at q
 refine ⟨_, .inl (SqL.of ha), ?_⟩
 rw [tl]
 refine ite2 (fun c => ?_) fun c => ?_
 ·have q1 := q H (Same.refl _)
  rw [decide_eq_false (show ¬ 3 ≤ ts.length by omega), Bool.false_and, Bool.false_and, Bool.false_and] at q1
  exact q1
 rw [decide_eq_true (show 3 ≤ ts.length by omega), Bool.true_and] at q
 refine rIxL_ok ha (str_at (k := 1) (by omega)) ⟨boxesV, .inr (s_BOXES H), rfl, rfl, ?_⟩
 show if (!inV (.str (ts.getD 1 "")) boxesV) = true then _ else _
 refine ite2 (fun c1 => ?_) fun c1 => ⟨_, .inl (SqL.of ha), ?_⟩
 ·have q1 := q H (Same.refl _)
  unfold boxB at q1
  rw [show inV (.str (ts.getD 1 "")) boxesV = false by simpa using c1, Bool.false_and, Bool.false_and] at q1
  exact q1
 have bt : boxB (ts.getD 1 "") = true := by
  unfold boxB
  simpa using c1
 rw [bt, Bool.true_and] at q
 refine rIxL_ok ha (str_at (k := 0) (by omega)) ⟨_, rfl, fun H1 s1 => ⟨rfl, ?_⟩⟩
 rw [tl, show decide ((ts.length : Int) = 2 + (arQ (ts.getD 0 "") : Int)) = decide (ts.length = 2 + arQ (ts.getD 0 "")) from decide_eq_decide.mpr (by omega)]
 refine ite2 (fun c2 => ?_) fun c2 => ?_
 ·have q1 := q H1 s1
  rw [show decide (ts.length = 2 + arQ (ts.getD 0 "")) = false by simpa using c2, Bool.false_and] at q1
  exact q1
 rw [show decide (ts.length = 2 + arQ (ts.getD 0 "")) = true by simpa using c2, Bool.true_and] at q
 refine ⟨_, SqL.of (s1 _ _ ha), fun p hp => ?_⟩
 rw [show cutV (ts.map V.str) (some 2) none = (ts.drop 2).map V.str from cut_drop ts 2]
 refine ⟨⟨_, SqL.of upd_same⟩, fun D hD => lc_list (fun i ys => ys = ((ts.drop 2).take i).map fun z => V.bl (srcB (ts.getD 0 "") z)) (SqL.of upd_same) (by rw [List.length_map, List.length_drop]; omega) hD rfl (fun i x ys H2 G' K' hx hP hl2 hS hG hK => ?_) fun ys H2 hP hl2 hS hD2 => ?_⟩
 ·rw [List.getElem?_map] at hx
  obtain ⟨z, hx', rfl⟩ := Option.map_eq_some_iff.mp hx
  push_cast [spSrc]
  refine rIxL_ok (hS _ _ (same_new hp _ _ _ (s1 _ _ ha))) (str_at (k := 0) (by omega)) ⟨_, rfl, hz z (List.mem_of_mem_drop (List.mem_of_getElem? hx')), fun H3 s3 => hK _ _ s3 ?_⟩
  rw [hP, List.take_add_one, hx', List.map_append]
  rfl
 ·rw [List.length_map, List.take_length] at hP
  refine ⟨(ts.drop 2).map fun z => srcB (ts.getD 0 "") z, SqL.of (by rw [hD2, hP, List.map_map]; rfl), ?_⟩
  rw [List.all_map]
  exact q H2 (s1.trans ((same_new hp _).trans hS))
noncomputable abbrev sPrB : Stmt := top 30
theorem scPrB : FnScope ["word"] ["word"] (defScope sPrB) := ⟨rfl, rfl, rfl, by decide +kernel, rfl, by decide +kernel, by decide +kernel⟩
theorem hasPrB (G : Gs w K mg) (h_is_number : Has P w K mg base k "is_number" ["word"] spNum) (D : Def K mg "is_price" sPrB ["word"]) : Has P w K mg base (k + 1) "is_price" ["word"] spPrB := by
 refine D.has scPrB (fun vs H Q E h => ?_) (fun f cdv A outer s H vs Q E hr h => ?_)
 ·obtain ⟨_, rfl, _, _, _⟩ := h
  rfl
 have nd := scPrB.nd
 have hu := hu_of hr
 have hu0 := Nat.lt_of_succ_lt hu
 obtain ⟨z, rfl, hz, hn, q⟩ := h
 obtain ⟨_, m_MOST_PRICE⟩ := G.m_MOST_PRICE
 have m_int := G.m_int
 refine ⟨_, (@pss_one _ _ _ (@ps_ret _ _ _ _ (@pe_and _ _ _ _ _ _ _ (@pe_has _ _ _ _ _ _ _ _ _ _ h_is_number hr (@pa_cons _ _ _ _ _ (@pvD _ 0 _ _ (by rfl) (by first | exact Or.inl rfl | exact Or.inr (Or.inl rfl) | exact Or.inr (Or.inr rfl)) (by decide) (by decide)) (@pa_nil _) (by rfl)) (by rfl) (by decide +kernel) (by rfl) (by rfl)) (@pe_and _ _ _ _ _ _ _ (@pe_cmpR _ _ _ _ _ _ _ _ (@op_leD _) (@pe_int _ _ _ _) (@pe_callTy _ _ _ _ _ _ _ _ _ (@call_int_str _) rfl m_int b_int (@pa_cons _ _ _ _ _ (@pvD _ 0 _ _ (by rfl) (by first | exact Or.inl rfl | exact Or.inr (Or.inl rfl) | exact Or.inr (Or.inr rfl)) (by decide) (by decide)) (@pa_nil _) (by rfl)) (by decide) (by decide) (by rfl) (by rfl)) (@nomark _ _ (by decide) (by decide))) (@pe_one _ _ _ _ _ (@pe_cmpR _ _ _ _ _ _ _ _ (@op_leD _) (@pe_callTy _ _ _ _ _ _ _ _ _ (@call_int_str _) rfl m_int b_int (@pa_cons _ _ _ _ _ (@pvD _ 0 _ _ (by rfl) (by first | exact Or.inl rfl | exact Or.inr (Or.inl rfl) | exact Or.inr (Or.inr rfl)) (by decide) (by decide)) (@pa_nil _) (by rfl)) (by decide) (by decide) (by rfl) (by rfl)) (@pe_gint _ _ _ _ _ m_MOST_PRICE (by rfl) (by decide +kernel)) (@nomark _ _ (by decide) (by decide)))))))), ?_⟩
 rw [show start ["word"] [.str z] = [some (.str z)] from rfl]
 clear hu hu0 nd hr
 push_cast [spNum]
 unfold priceB at q
 refine ⟨hz, fun H1 s1 => ite2 (fun c => ?_) fun c => ?_⟩
 ·obtain ⟨i, hi⟩ := hn c
  have hz2 : z.length ≤ 640 := num_len c
  have q1 := q H1 s1
  rw [c, Bool.true_and, hi] at q1
  refine ⟨i, hi, hz2, ite2 (fun c1 => ⟨i, hi, hz2, ?_⟩) fun c1 => ?_⟩
  ·have q1 : Q (.bl (decide (1 ≤ i) && decide (i ≤ 999999))) H1 := q1
   rw [decide_eq_true c1, Bool.true_and] at q1
   exact q1
  ·have q1 : Q (.bl (decide (1 ≤ i) && decide (i ≤ 999999))) H1 := q1
   rw [decide_eq_false c1, Bool.false_and] at q1
   exact q1
 ·have q1 := q H1 s1
  rw [Bool.eq_false_iff.mpr c, Bool.false_and] at q1
  exact q1
noncomputable abbrev sKindB : Stmt := top 31
theorem scKindB : FnScope ["words"] ["words"] (defScope sKindB) := ⟨rfl, rfl, rfl, by decide +kernel, rfl, by decide +kernel, by decide +kernel⟩
theorem hasKindB (G : Gs w K mg) (h_is_name : Has P w K mg base k "is_name" ["word"] spName) (D : Def K mg "is_kind_row" sKindB ["words"]) : Has P w K mg base (k + 1) "is_kind_row" ["words"] spKindB := by
 refine D.has scKindB (fun vs H Q E h => ?_) (fun f cdv A outer s H vs Q E hr h => ?_)
 ·obtain ⟨_, _, rfl, _, _, _, _⟩ := h
  rfl
 have nd := scKindB.nd
 have hu := hu_of hr
 have hu0 := Nat.lt_of_succ_lt hu
 obtain ⟨a, ts, rfl, ha, hz, hl, q⟩ := h
 have m_len := G.m_len
 refine ⟨_, (@pss_one _ _ _ (@ps_ret _ _ _ _ (@pe_and _ _ _ _ _ _ _ (@pe_cmpR _ _ _ _ _ _ _ _ (@op_eq _) (@pe_callB _ _ _ _ _ _ _ _ _ (@call_len_seqD _) rfl m_len b_len (@pa_cons _ _ _ _ _ (@pvD _ 0 _ _ (by rfl) (by first | exact Or.inl rfl | exact Or.inr (Or.inl rfl) | exact Or.inr (Or.inr rfl)) (by decide) (by decide)) (@pa_nil _) (by rfl)) (by decide) (by decide) (by rfl) (by rfl)) (@pe_int _ _ _ _) (@nomark _ _ (by decide) (by decide))) (@pe_and _ _ _ _ _ _ _ (@pe_cmpR _ _ _ _ _ _ _ _ (@op_eq _) (@pe_ix _ _ _ _ _ _ _ (@ix_list _) (@pvD _ 0 _ _ (by rfl) (by first | exact Or.inl rfl | exact Or.inr (Or.inl rfl) | exact Or.inr (Or.inr rfl)) (by decide) (by decide)) (@pe_int _ _ _ _) (fun _ _ => rfl)) (@pe_str _ _ _ _) (@nomark _ _ (by decide) (by decide))) (@pe_one _ _ _ _ _ (@pe_has _ _ _ _ _ _ _ _ _ _ h_is_name hr (@pa_cons _ _ _ _ _ (@pe_ix _ _ _ _ _ _ _ (@ix_list _) (@pvD _ 0 _ _ (by rfl) (by first | exact Or.inl rfl | exact Or.inr (Or.inl rfl) | exact Or.inr (Or.inr rfl)) (by decide) (by decide)) (@pe_int _ _ _ _) (fun _ _ => rfl)) (@pa_nil _) (by rfl)) (by rfl) (by decide +kernel) (by rfl) (by rfl))))))), ?_⟩
 rw [show start ["words"] [.ref a] = [some (.ref a)] from rfl]
 clear hu hu0 nd hr
 push_cast [spName]
 unfold kindB at q
 refine ⟨_, .inl (SqL.of ha), rfl, ?_⟩
 rw [List.length_map]
 refine ite2 (fun c => rIxL_ok ha (str_at (k := 0) (by omega)) ⟨rfl, ite2 (fun c1 => rIxL_ok ha (str_at (k := 1) (by omega)) ⟨_, rfl, hz _ (at_mem (by omega)), fun H1 s1 => ?_⟩) fun c1 => ?_⟩) fun c => ?_
 ·have q1 := q H1 s1
  rw [decide_eq_true (show ts.length = 2 by omega), decide_eq_true (V.str.inj c1), Bool.true_and, Bool.true_and] at q1
  exact q1
 ·have q1 := q H (Same.refl _)
  rw [decide_eq_false (show ¬ ts.getD 0 "" = "kind" from fun e => c1 (congrArg V.str e)), Bool.and_false, Bool.false_and] at q1
  exact q1
 ·have q1 := q H (Same.refl _)
  rw [decide_eq_false (show ¬ ts.length = 2 by omega), Bool.false_and, Bool.false_and] at q1
  exact q1
noncomputable abbrev sDoesB : Stmt := top 33
theorem scDoesB : FnScope ["words"] ["words"] (defScope sDoesB) := ⟨rfl, rfl, rfl, by decide +kernel, rfl, by decide +kernel, by decide +kernel⟩
theorem hasDoesB (G : Gs w K mg) (h_is_deed : Has P w K mg base k "is_deed" ["words"] spDeedB) (h_is_name : Has P w K mg base k "is_name" ["word"] spName) (D : Def K mg "is_does_row" sDoesB ["words"]) : Has P w K mg base (k + 1) "is_does_row" ["words"] spDoesB := by
 refine D.has scDoesB (fun vs H Q E h => ?_) (fun f cdv A outer s H vs Q E hr h => ?_)
 ·obtain ⟨_, _, rfl, _, _, _, _⟩ := h
  rfl
 have nd := scDoesB.nd
 have hu := hu_of hr
 have hu0 := Nat.lt_of_succ_lt hu
 obtain ⟨a, ts, rfl, ha, hz, hl, q⟩ := h
 have m_len := G.m_len
 refine ⟨_, (@pss_one _ _ _ (@ps_ret _ _ _ _ (@pe_and _ _ _ _ _ _ _ (@pe_cmpR _ _ _ _ _ _ _ _ (@op_gtD _) (@pe_callB _ _ _ _ _ _ _ _ _ (@call_len_seqD _) rfl m_len b_len (@pa_cons _ _ _ _ _ (@pvD _ 0 _ _ (by rfl) (by first | exact Or.inl rfl | exact Or.inr (Or.inl rfl) | exact Or.inr (Or.inr rfl)) (by decide) (by decide)) (@pa_nil _) (by rfl)) (by decide) (by decide) (by rfl) (by rfl)) (@pe_int _ _ _ _) (@nomark _ _ (by decide) (by decide))) (@pe_and _ _ _ _ _ _ _ (@pe_cmpR _ _ _ _ _ _ _ _ (@op_eq _) (@pe_ix _ _ _ _ _ _ _ (@ix_list _) (@pvD _ 0 _ _ (by rfl) (by first | exact Or.inl rfl | exact Or.inr (Or.inl rfl) | exact Or.inr (Or.inr rfl)) (by decide) (by decide)) (@pe_int _ _ _ _) (fun _ _ => rfl)) (@pe_str _ _ _ _) (@nomark _ _ (by decide) (by decide))) (@pe_and _ _ _ _ _ _ _ (@pe_has _ _ _ _ _ _ _ _ _ _ h_is_name hr (@pa_cons _ _ _ _ _ (@pe_ix _ _ _ _ _ _ _ (@ix_list _) (@pvD _ 0 _ _ (by rfl) (by first | exact Or.inl rfl | exact Or.inr (Or.inl rfl) | exact Or.inr (Or.inr rfl)) (by decide) (by decide)) (@pe_int _ _ _ _) (fun _ _ => rfl)) (@pa_nil _) (by rfl)) (by rfl) (by decide +kernel) (by rfl) (by rfl)) (@pe_one _ _ _ _ _ (@pe_has _ _ _ _ _ _ _ _ _ _ h_is_deed hr (@pa_cons _ _ _ _ _ (@pe_slice _ _ _ _ _ _ _ _ _ _ (@sl_list _) (@pvD _ 0 _ _ (by rfl) (by first | exact Or.inl rfl | exact Or.inr (Or.inl rfl) | exact Or.inr (Or.inr rfl)) (by decide) (by decide)) (@po_someD _ _ _ (@pe_int _ _ _ _)) (@po_none _)) (@pa_nil _) (by rfl)) (by rfl) (by decide +kernel) (by rfl) (by rfl)))))))), ?_⟩
 rw [show start ["words"] [.ref a] = [some (.ref a)] from rfl]
 clear hu hu0 nd hr
 push_cast [spDeedB, spName]
 unfold doesB at q
 refine ⟨_, .inl (SqL.of ha), ?_⟩
 rw [List.length_map]
 refine ite2 (fun c => rIxL_ok ha (str_at (k := 0) (by omega)) ⟨rfl, ite2 (fun c1 => rIxL_ok ha (str_at (k := 1) (by omega)) ⟨_, rfl, hz _ (at_mem (by omega)), fun H1 s1 => ite2 (fun c2 => ⟨_, SqL.of (s1 _ _ ha), fun p hp => ⟨ts.drop 2, ?_, fun z h => hz z (List.mem_of_mem_drop h), by rw [List.length_drop]; omega, fun H2 s2 => ?_⟩⟩) fun c2 => ?_⟩) fun c1 => ?_⟩) fun c => ?_
 ·rw [show cutV (ts.map V.str) (some 2) none = (ts.drop 2).map V.str from cut_drop ts 2]
  exact upd_same
 ·have q1 := q H2 (s1.trans ((same_new hp _).trans s2))
  rw [decide_eq_true (show 2 < ts.length by omega), decide_eq_true (V.str.inj c1), c2, Bool.true_and, Bool.true_and, Bool.true_and] at q1
  exact q1
 ·have q1 := q H1 s1
  rw [Bool.eq_false_iff.mpr c2, Bool.and_false, Bool.false_and] at q1
  exact q1
 ·have q1 := q H (Same.refl _)
  rw [decide_eq_false (show ¬ ts.getD 0 "" = "does" from fun e => c1 (congrArg V.str e)), Bool.and_false, Bool.false_and, Bool.false_and] at q1
  exact q1
 ·have q1 := q H (Same.refl _)
  rw [decide_eq_false (show ¬ 2 < ts.length by omega), Bool.false_and, Bool.false_and, Bool.false_and] at q1
  exact q1
noncomputable abbrev sRuleB : Stmt := top 32
theorem scRuleB : FnScope ["words", "shape"] ["words"] (defScope sRuleB) := ⟨rfl, rfl, rfl, by decide +kernel, rfl, by decide +kernel, by decide +kernel⟩
theorem hasRuleB (G : Gs w K mg) (h_is_name : Has P w K mg base k "is_name" ["word"] spName) (h_is_price : Has P w K mg base k "is_price" ["word"] spPrB) (h_is_shape_word : Has P w K mg base k "is_shape_word" ["word"] spShB) (D : Def K mg "is_rule_row" sRuleB ["words"]) : Has P w K mg base (k + 1) "is_rule_row" ["words"] spRuleB := by
 refine D.has scRuleB (fun vs H Q E h => ?_) (fun f cdv A outer s H vs Q E hr h => ?_)
 ·obtain ⟨_, _, rfl, _, _, _, _, _⟩ := h
  rfl
 have nd := scRuleB.nd
 have hu := hu_of hr
 have hu0 := Nat.lt_of_succ_lt hu
 obtain ⟨a, ts, rfl, ha, hz, hn, hl, q⟩ := h
 obtain ⟨_, m_MOST_SHAPE_WORDS⟩ := G.m_MOST_SHAPE_WORDS
 obtain ⟨_, m_SHAPE_START⟩ := G.m_SHAPE_START
 have m_all := G.m_all
 have m_len := G.m_len
 refine ⟨_, (@pss_cons _ _ _ _ _ (@ps_set _ _ 1 _ _ _ _ nd rfl (by first | exact Or.inl rfl | exact Or.inr rfl) (@pe_slice _ _ _ _ _ _ _ _ _ _ (@sl_list _) (@pvD _ 0 _ _ (by rfl) (by first | exact Or.inl rfl | exact Or.inr (Or.inl rfl) | exact Or.inr (Or.inr rfl)) (by decide) (by decide)) (@po_someD _ _ _ (@pe_gint _ _ _ _ _ m_SHAPE_START (by rfl) (by decide +kernel))) (@po_none _)) (by rfl) (by first | exact .inl rfl | exact .inr rfl | assumption)) (@pss_cons _ _ _ _ _ (@ps_if _ _ _ _ _ _ _ _ (@PW.pt _ _ _ (@pw_or _ _ _ _ _ _ _ (@pt_cmpRD _ _ _ _ _ _ _ _ (@op_ltD _) (@pe_callB _ _ _ _ _ _ _ _ _ (@call_len_seqD _) rfl m_len b_len (@pa_cons _ _ _ _ _ (@pvD _ 1 _ _ (by rfl) (by first | exact Or.inl rfl | exact Or.inr (Or.inl rfl) | exact Or.inr (Or.inr rfl)) (by decide) (by decide)) (@pa_nil _) (by rfl)) (by decide) (by decide) (by rfl) (by rfl)) (@pe_int _ _ _ _) (@nomark _ _ (by decide) (by decide))) (@pw_or _ _ _ _ _ _ _ (@pt_cmpRD _ _ _ _ _ _ _ _ (@op_gtD _) (@pe_callB _ _ _ _ _ _ _ _ _ (@call_len_seqD _) rfl m_len b_len (@pa_cons _ _ _ _ _ (@pvD _ 1 _ _ (by rfl) (by first | exact Or.inl rfl | exact Or.inr (Or.inl rfl) | exact Or.inr (Or.inr rfl)) (by decide) (by decide)) (@pa_nil _) (by rfl)) (by decide) (by decide) (by rfl) (by rfl)) (@pe_gint _ _ _ _ _ m_MOST_SHAPE_WORDS (by rfl) (by decide +kernel)) (@nomark _ _ (by decide) (by decide))) (@pw_or1 _ _ _ _ (@pt_cmpRD _ _ _ _ _ _ _ _ (@op_ne _) (@pe_ix _ _ _ _ _ _ _ (@ix_list _) (@pvD _ 0 _ _ (by rfl) (by first | exact Or.inl rfl | exact Or.inr (Or.inl rfl) | exact Or.inr (Or.inr rfl)) (by decide) (by decide)) (@pe_int _ _ _ _) (fun _ _ => rfl)) (@pe_str _ _ _ _) (@nomark _ _ (by decide) (by decide))))))) (@pss_one _ _ _ (@ps_ret _ _ _ _ (@pe_bl _ _ _ _))) (@pss_nil _)) (@pss_cons _ _ _ _ _ (@ps_if _ _ _ _ _ _ _ _ (@PW.pt _ _ _ (@pw_or _ _ _ _ _ _ _ (@pt_not _ _ _ _ (@pt_valD _ _ _ (@pe_has _ _ _ _ _ _ _ _ _ _ h_is_name hr (@pa_cons _ _ _ _ _ (@pe_ix _ _ _ _ _ _ _ (@ix_list _) (@pvD _ 0 _ _ (by rfl) (by first | exact Or.inl rfl | exact Or.inr (Or.inl rfl) | exact Or.inr (Or.inr rfl)) (by decide) (by decide)) (@pe_int _ _ _ _) (fun _ _ => rfl)) (@pa_nil _) (by rfl)) (by rfl) (by decide +kernel) (by rfl) (by rfl)) (by intro _; rfl))) (@pw_or _ _ _ _ _ _ _ (@pt_not _ _ _ _ (@pt_valD _ _ _ (@pe_has _ _ _ _ _ _ _ _ _ _ h_is_name hr (@pa_cons _ _ _ _ _ (@pe_ix _ _ _ _ _ _ _ (@ix_list _) (@pvD _ 0 _ _ (by rfl) (by first | exact Or.inl rfl | exact Or.inr (Or.inl rfl) | exact Or.inr (Or.inr rfl)) (by decide) (by decide)) (@pe_int _ _ _ _) (fun _ _ => rfl)) (@pa_nil _) (by rfl)) (by rfl) (by decide +kernel) (by rfl) (by rfl)) (by intro _; rfl))) (@pw_or _ _ _ _ _ _ _ (@pt_not _ _ _ _ (@pt_valD _ _ _ (@pe_has _ _ _ _ _ _ _ _ _ _ h_is_price hr (@pa_cons _ _ _ _ _ (@pe_ix _ _ _ _ _ _ _ (@ix_list _) (@pvD _ 0 _ _ (by rfl) (by first | exact Or.inl rfl | exact Or.inr (Or.inl rfl) | exact Or.inr (Or.inr rfl)) (by decide) (by decide)) (@pe_int _ _ _ _) (fun _ _ => rfl)) (@pa_nil _) (by rfl)) (by rfl) (by decide +kernel) (by rfl) (by rfl)) (by intro _; rfl))) (@pw_or1 _ _ _ _ (@pt_cmpRD _ _ _ _ _ _ _ _ (@op_ne _) (@pe_ix _ _ _ _ _ _ _ (@ix_list _) (@pvD _ 0 _ _ (by rfl) (by first | exact Or.inl rfl | exact Or.inr (Or.inl rfl) | exact Or.inr (Or.inr rfl)) (by decide) (by decide)) (@pe_int _ _ _ _) (fun _ _ => rfl)) (@pe_str _ _ _ _) (@nomark _ _ (by decide) (by decide)))))))) (@pss_one _ _ _ (@ps_ret _ _ _ _ (@pe_bl _ _ _ _))) (@pss_nil _)) (@pss_one _ _ _ (@ps_ret _ _ _ _ (@pe_callB _ _ _ _ _ _ _ _ _ (@call_all_list _ rfl) rfl m_all b_all (@pa_cons _ _ _ _ _ (@pe_lc _ _ _ _ _ _ _ _ _ _ _ _ _ _ _ (@ClOk.mk _ _ ["word"] [] [] _ rfl rfl rfl rfl trivial rfl trivial) rfl (@pi_list _ _ _ _ (@pvD _ 1 _ _ (by rfl) (by first | exact Or.inl rfl | exact Or.inr (Or.inl rfl) | exact Or.inr (Or.inr rfl)) (by decide) (by decide))) (fun _ _ _ => (@pg_name _ _ 0 _ (show List.Nodup (["word"] : List Str) by decide +kernel) rfl (Or.inl rfl) (by first | exact .inl rfl | exact .inr rfl | assumption))) (fun _ _ _ => (@pif0 _)) (fun _ _ _ => (@pe_has _ _ _ _ _ _ _ _ _ _ h_is_shape_word hr (@pa_cons _ _ _ _ _ (@pvD _ 0 _ _ (by rfl) (by first | exact Or.inl rfl | exact Or.inr (Or.inl rfl) | exact Or.inr (Or.inr rfl)) (by decide) (by decide)) (@pa_nil _) (by rfl)) (by rfl) (by decide +kernel) (by rfl) (by rfl))) (by intro _; rfl)) (@pa_nil _) (by rfl)) (by decide) (by decide) (by rfl) (by rfl))))))), ?_⟩
 rw [show start ["words", "shape"] [.ref a] = [some (.ref a), none] from rfl]
 clear hu hu0 nd hr
 push_cast [spName, spPrB, spShB]
 have sz := sizeLine_eq
 unfold ruleB at q
 refine ⟨_, SqL.of ha, fun p hp => ?_⟩
 rw [show cutV (ts.map V.str) (some 5) none = (ts.drop 5).map V.str from cut_drop ts 5]
 have s0 := same_new hp (.lst ((ts.drop 5).map V.str))
 have ha0 := s0 _ _ ha
 have hp0 : upd H p (.lst ((ts.drop 5).map V.str)) p = some (.lst ((ts.drop 5).map V.str)) := upd_same
 generalize upd H p (.lst ((ts.drop 5).map V.str)) = H0 at s0 ha0 hp0 ⊢
 have dl : (ts.drop 5).length = ts.length - 5 := List.length_drop
 refine ⟨_, .inl (SqL.of hp0), ?_⟩
 rw [List.length_map]
 refine ite2 (fun c => ?_) fun c => ⟨_, .inl (SqL.of hp0), ?_⟩
 ·have q1 := q H0 s0
  rw [decide_eq_false (show ¬ 1 ≤ (ts.drop 5).length by omega)] at q1
  simp only [Bool.false_and] at q1
  exact q1
 rw [decide_eq_true (show 1 ≤ (ts.drop 5).length by omega), Bool.true_and] at q
 rw [List.length_map]
 refine ite2 (fun c => ?_) fun c => ?_
 ·have q1 := q H0 s0
  rw [decide_eq_false (show ¬ (ts.drop 5).length ≤ 12 by omega)] at q1
  simp only [Bool.false_and] at q1
  exact q1
 rw [decide_eq_true (show (ts.drop 5).length ≤ 12 by omega), Bool.true_and] at q
 refine rIxL_ok ha0 (str_at (k := 0) (by omega)) ⟨rfl, ite2 (fun c1 => ?_) fun c1 => rIxL_ok ha0 (str_at (k := 1) (by omega)) ⟨_, rfl, hz _ (at_mem (by omega)), fun H1 s1 => ?_⟩⟩
 ·have q1 := q H0 s0
  rw [decide_eq_false (show ¬ ts.getD 0 "" = "rule" from fun e => by rw [e] at c1; simp at c1)] at q1
  simp only [Bool.false_and] at q1
  exact q1
 rw [decide_eq_true (show ts.getD 0 "" = "rule" by simpa using c1), Bool.true_and] at q
 refine ite2 (fun c2 => ?_) fun c2 => rIxL_ok (s1 _ _ ha0) (str_at (k := 2) (by omega)) ⟨_, rfl, hz _ (at_mem (by omega)), fun H2 s2 => ?_⟩
 ·have q1 := q H1 (s0.trans s1)
  rw [show nameB (ts.getD 1 "") = false by simpa using c2] at q1
  simp only [Bool.false_and] at q1
  exact q1
 rw [show nameB (ts.getD 1 "") = true by simpa using c2, Bool.true_and] at q
 have S2 := s0.trans (s1.trans s2)
 refine ite2 (fun c2 => ?_) fun c2 => rIxL_ok (S2 _ _ ha) (str_at (k := 3) (by omega)) ⟨_, rfl, hz _ (at_mem (by omega)), hn, fun H3 s3 => ?_⟩
 ·have q1 := q H2 S2
  rw [show nameB (ts.getD 2 "") = false by simpa using c2] at q1
  simp only [Bool.false_and] at q1
  exact q1
 rw [show nameB (ts.getD 2 "") = true by simpa using c2, Bool.true_and] at q
 have S3 := S2.trans s3
 refine ite2 (fun c2 => ?_) fun c2 => rIxL_ok (S3 _ _ ha) (str_at (k := 4) (by omega)) ⟨rfl, ite2 (fun c3 => ?_) fun c3 => ⟨⟨_, SqL.of ((s1.trans (s2.trans s3)) _ _ hp0)⟩, fun D hD => ?_⟩⟩
 ·have q1 := q H3 S3
  rw [show priceB (ts.getD 3 "") = false by simpa using c2] at q1
  simp only [Bool.false_and] at q1
  exact q1
 ·have q1 := q H3 S3
  rw [decide_eq_false (show ¬ ts.getD 4 "" = "=" from fun e => by rw [e] at c3; simp at c3)] at q1
  simp only [Bool.false_and, Bool.and_false] at q1
  exact q1
 rw [show priceB (ts.getD 3 "") = true by simpa using c2, decide_eq_true (show ts.getD 4 "" = "=" by simpa using c3), Bool.true_and, Bool.true_and] at q
 have hp3 := (s1.trans (s2.trans s3)) _ _ hp0
 refine lc_list (fun i ys => ys = ((ts.drop 5).take i).map fun z => V.bl (shB z)) (SqL.of hp3) (by rw [List.length_map]; omega) hD rfl (fun i x ys H4 G' K' hx hP hl2 hS hG hK => ?_) fun ys H4 hP hl2 hS hD2 => ?_
 ·rw [List.getElem?_map] at hx
  obtain ⟨z, hx', rfl⟩ := Option.map_eq_some_iff.mp hx
  push_cast [spShB]
  refine ⟨hz z (List.mem_of_mem_drop (List.mem_of_getElem? hx')), fun H5 s5 => hK _ _ s5 ?_⟩
  rw [hP, List.take_add_one, hx', List.map_append]
  rfl
 ·rw [List.length_map, List.take_length] at hP
  refine ⟨(ts.drop 5).map shB, SqL.of (by rw [hD2, hP, List.map_map]; rfl), ?_⟩
  rw [List.all_map]
  exact q H4 (S3.trans hS)
noncomputable abbrev sRowsIn : Stmt := top 34
theorem scRowsIn : FnScope ["text", "rows", "number", "row"] ["text"] (defScope sRowsIn) := ⟨rfl, rfl, rfl, by decide +kernel, rfl, by decide +kernel, by decide +kernel⟩
theorem hasRowsIn (G : Gs w K mg) (D : Def K mg "rows_in" sRowsIn ["text"]) : Has P w K mg base (k + 1) "rows_in" ["text"] spRowsIn := by
 refine D.has scRowsIn (fun vs H Q E h => ?_) (fun f cdv A outer s H vs Q E hr h => ?_)
 ·obtain ⟨_, rfl, _, _, _, _⟩ := h
  rfl
 have nd := scRowsIn.nd
 have hu := hu_of hr
 have hu0 := Nat.lt_of_succ_lt hu
 obtain ⟨z, rfl, hz, hl, hy, q⟩ := h
 have m_enumerate := G.m_enumerate
 refine ⟨_, (@pss_cons _ _ _ _ _ (@ps_set _ _ 1 _ _ _ _ nd rfl (by first | exact Or.inl rfl | exact Or.inr rfl) (@pe_lst _ _ _ _ (@pa_nil _)) (by rfl) (by first | exact .inl rfl | exact .inr rfl | assumption)) (@pss_cons _ _ _ _ _ (@ps_for _ _ _ _ _ _ _ _ PassesOwn.never rfl (@pi_enum1 _ _ _ _ _ _ _ _ _ _ _ rfl m_enumerate (@pa_cons _ _ _ _ _ (@pe_bm _ _ _ _ _ _ _ _ _ _ _ _ PySem.F.plainAttrs_str PySem.F.slot_str_split PySem.F.type_str_split (@mt_split _) (@pvD _ 0 _ _ (by rfl) (by first | exact Or.inl rfl | exact Or.inr (Or.inl rfl) | exact Or.inr (Or.inr rfl)) (by decide) (by decide)) (@pa_cons _ _ _ _ _ (@pe_str _ _ _ _) (@pa_nil _) (by rfl)) (by rfl) (by rfl) (by rfl) (by rfl) (by rfl)) (@pa_nil _) (by rfl)) (by rfl)) (@pg_tup _ _ _ _ _ _ rfl (@pgs_cons _ _ _ _ _ (@pg_name _ _ 2 _ nd rfl (by first | exact Or.inl rfl | exact Or.inr rfl) (by first | exact .inl rfl | exact .inr rfl | assumption)) (@pgs_cons _ _ _ _ _ (@pg_name _ _ 3 _ nd rfl (by first | exact Or.inl rfl | exact Or.inr rfl) (by first | exact .inl rfl | exact .inr rfl | assumption)) (@pgs_nil _) (by rfl)) (by rfl)) (by rfl) (by rfl)) (@pss_one _ _ _ (@ps_if _ _ _ _ _ _ _ _ (@pt_cmpRD _ _ _ _ _ _ _ _ (@op_ne _) (@pvD _ 3 _ _ (by rfl) (by first | exact Or.inl rfl | exact Or.inr (Or.inl rfl) | exact Or.inr (Or.inr rfl)) (by decide) (by decide)) (@pe_str _ _ _ _) (@nomark _ _ (by decide) (by decide))) (@pss_one _ _ _ (@ps_expr _ _ _ _ (@pe_bm _ _ _ _ _ _ _ _ _ _ _ _ PySem.F.plainAttrs_list PySem.F.slot_list_append PySem.F.type_list_append (@mt_append _) (@pvD _ 1 _ _ (by rfl) (by first | exact Or.inl rfl | exact Or.inr (Or.inl rfl) | exact Or.inr (Or.inr rfl)) (by decide) (by decide)) (@pa_cons _ _ _ _ _ (@pe_tup _ _ _ _ _ (@pa_cons _ _ _ _ _ (@pvD _ 2 _ _ (by rfl) (by first | exact Or.inl rfl | exact Or.inr (Or.inl rfl) | exact Or.inr (Or.inr rfl)) (by decide) (by decide)) (@pa_cons _ _ _ _ _ (@pe_bm _ _ _ _ _ _ _ _ _ _ _ _ PySem.F.plainAttrs_str PySem.F.slot_str_split PySem.F.type_str_split (@mt_split _) (@pvD _ 3 _ _ (by rfl) (by first | exact Or.inl rfl | exact Or.inr (Or.inl rfl) | exact Or.inr (Or.inr rfl)) (by decide) (by decide)) (@pa_cons _ _ _ _ _ (@pe_str _ _ _ _) (@pa_nil _) (by rfl)) (by rfl) (by rfl) (by rfl) (by rfl) (by rfl)) (@pa_nil _) (by rfl)) (by rfl))) (@pa_nil _) (by rfl)) (by rfl) (by rfl) (by rfl) (by rfl) (by rfl)) (by rfl))) (@pss_nil _))) (by intro _; rfl)) (@pss_one _ _ _ (@ps_ret _ _ _ _ (@pvD _ 1 _ _ (by rfl) (by first | exact Or.inl rfl | exact Or.inr (Or.inl rfl) | exact Or.inr (Or.inr rfl)) (by decide) (by decide)))))), ?_⟩
 rw [show start ["text", "rows", "number", "row"] [.str z] = [some (.str z), none, none, none] from rfl]
 clear hu hu0 nd hr
 push_cast [and_true]
 have sz := sizeLine_eq
 refine ⟨Nat.zero_le _, fun l hln => ?_⟩
 push_cast [iEnum1]
 refine ⟨by decide +kernel, by omega, fun p hp => ?_⟩
 refine ⟨⟨_, SqL.of upd_same⟩, ?_⟩
 have hpl : p ≠ l := fun e => by rw [e, upd_same] at hp; cases hp
 refine forW_enum1 (xs := (Txt.split z "\n").map V.str) (fun i σ H' => ∃ v2 v3, σ = [some (.str z), some (.ref l), v2, v3] ∧ Same H H' ∧ H' p = some (.lst ((Txt.split z "\n").map V.str)) ∧ RowsAt H' l ((((Txt.split z "\n").take i).filter fun y => decide (y ≠ ("" : Str))).map fun y => Txt.split y " ")) ?_ ?_ ?_ ?_
 ·exact ⟨none, none, rfl, (same_new hln _).trans (same_new hp _), upd_same, [], by rw [upd_ne hpl.symm]; exact upd_same, rfl, fun i p ts h => by cases h⟩
 ·rintro i σ H' _ ⟨_, _, _, _, h, _⟩
  exact SqL.of h
 ·rintro i x σ H1 t hx ⟨v2, v3, rfl, s1, hp1, ps, r1, r2, r3⟩ ht
  rw [List.getElem?_map] at hx
  obtain ⟨y, hy1, rfl⟩ := Option.map_eq_some_iff.mp hx
  have yl := hy y (List.mem_of_getElem? hy1)
  have pl : ps.length ≤ 1000 := by
   rw [r2, List.length_map]
   exact Nat.le_trans (List.length_filter_le _ _) (Nat.le_trans (List.length_take_le _ _) (Nat.le_trans (Nat.le_of_lt (List.getElem?_eq_some_iff.mp hy1).1) hl))
  have et : ((Txt.split z "\n").take (i + 1)).filter (fun y => decide (y ≠ ("" : Str))) = ((Txt.split z "\n").take i).filter (fun y => decide (y ≠ ("" : Str))) ++ [y].filter (fun y => decide (y ≠ ("" : Str))) := by
   rw [List.take_add_one, hy1, List.filter_append]
   rfl
  have s2 := same_new ht (.tup [.int ((i + 1 : Nat) : Int), .str y])
  have ntl : t ≠ l := (ne_of_none r1 ht).symm
  refine gTup2_ok upd_same rfl ?_
  push_cast [and_true]
  refine ⟨rfl, ?_⟩
  by_cases c : y = ""
  ·rw [c] at et
   rw [if_neg (by rw [c]; simp), et, show [("" : Str)].filter (fun y => decide (y ≠ ("" : Str))) = [] from rfl, List.append_nil]
   exact ⟨s1.trans s2, s2 _ _ hp1, ps, s2 _ _ r1, r2, fun j p' ts a b => (r3 j p' ts a b).same s2⟩
  ·rw [if_pos (by simpa using c), et, show [y].filter (fun y => decide (y ≠ ("" : Str))) = [y] by rw [List.filter_cons, if_pos (decide_eq_true c)]; rfl]
   refine ⟨tyV_list (s2 _ _ r1), by decide +kernel, by omega, fun a ha => ⟨by show (2 : Nat) ≤ sizeLine; decide, fun u hu => ?_⟩⟩
   have s3 := same_new ha (.lst ((Txt.split y (Str.ofString " ")).map V.str))
   have s4 := same_new hu (.tup [.int ((i + 1 : Nat) : Int), .ref a])
   have s34 := s2.trans (s3.trans s4)
   have r1' := s34 _ _ r1
   refine (append_ok (K := K) r1' (by rw [List.length_map]; omega) ⟨((s1.trans s34).upd hln _), by rw [upd_ne hpl]; exact s34 _ _ hp1, ps ++ [u], by rw [upd_same, List.map_append]; rfl, by rw [List.length_append, List.map_append, List.length_append, r2]; rfl, ?_⟩).2
   rw [List.map_append]
   refine snoc_get (R := fun p' ts => RowAt (upd _ l (.lst (ps.map V.ref ++ [V.ref u]))) l p' ts) r2 (fun j p' ts a b => ((r3 j p' ts a b).same s34).put r1') ?_
   exact RowAt.put ⟨_, a, (ne_of_none (s2 _ _ r1) ha).symm, upd_same, s4 _ _ upd_same⟩ r1'
 ·rintro σ H1 ⟨v2, v3, rfl, s1, _, hR⟩
  rw [List.length_map, List.take_length] at hR
  push_cast [and_true]
  exact q l H1 s1 hR
noncomputable abbrev sRefuse : Stmt := top 35
theorem scRefuse : FnScope ["rows", "number", "words"] ["rows"] (defScope sRefuse) := ⟨rfl, rfl, rfl, by decide +kernel, rfl, by decide +kernel, by decide +kernel⟩
theorem hasRefuse (G : Gs w K mg) (h_is_does_row : Has P w K mg base k "is_does_row" ["words"] spDoesB) (h_is_kind_row : Has P w K mg base k "is_kind_row" ["words"] spKindB) (h_is_rule_row : Has P w K mg base k "is_rule_row" ["words"] spRuleB) (D : Def K mg "refuse_other_rows" sRefuse ["rows"]) : Has P w K mg base (k + 1) "refuse_other_rows" ["rows"] spRefuse := by
 refine D.has scRefuse (fun vs H Q E h => ?_) (fun f cdv A outer s H vs Q E hr h => ?_)
 ·obtain ⟨_, _, rfl, _, _, _⟩ := h
  rfl
 have nd := scRefuse.nd
 have hu := hu_of hr
 have hu0 := Nat.lt_of_succ_lt hu
 obtain ⟨l, rs, rfl, hR, hg, q⟩ := h
 refine ⟨_, (@pss_one _ _ _ (@ps_for _ _ _ _ _ _ _ _ PassesOwn.never rfl (@pi_list _ _ _ _ (@pvD _ 0 _ _ (by rfl) (by first | exact Or.inl rfl | exact Or.inr (Or.inl rfl) | exact Or.inr (Or.inr rfl)) (by decide) (by decide))) (@pg_tup _ _ _ _ _ _ rfl (@pgs_cons _ _ _ _ _ (@pg_name _ _ 1 _ nd rfl (by first | exact Or.inl rfl | exact Or.inr rfl) (by first | exact .inl rfl | exact .inr rfl | assumption)) (@pgs_cons _ _ _ _ _ (@pg_name _ _ 2 _ nd rfl (by first | exact Or.inl rfl | exact Or.inr rfl) (by first | exact .inl rfl | exact .inr rfl | assumption)) (@pgs_nil _) (by rfl)) (by rfl)) (by rfl) (by rfl)) (@pss_one _ _ _ (@ps_if _ _ _ _ _ _ _ _ (@PW.pt _ _ _ (@pw_and _ _ _ _ _ _ _ (@pt_not _ _ _ _ (@pt_valD _ _ _ (@pe_has _ _ _ _ _ _ _ _ _ _ h_is_kind_row hr (@pa_cons _ _ _ _ _ (@pvD _ 2 _ _ (by rfl) (by first | exact Or.inl rfl | exact Or.inr (Or.inl rfl) | exact Or.inr (Or.inr rfl)) (by decide) (by decide)) (@pa_nil _) (by rfl)) (by rfl) (by decide +kernel) (by rfl) (by rfl)) (by intro _; rfl))) (@pw_and _ _ _ _ _ _ _ (@pt_not _ _ _ _ (@pt_valD _ _ _ (@pe_has _ _ _ _ _ _ _ _ _ _ h_is_rule_row hr (@pa_cons _ _ _ _ _ (@pvD _ 2 _ _ (by rfl) (by first | exact Or.inl rfl | exact Or.inr (Or.inl rfl) | exact Or.inr (Or.inr rfl)) (by decide) (by decide)) (@pa_nil _) (by rfl)) (by rfl) (by decide +kernel) (by rfl) (by rfl)) (by intro _; rfl))) (@pw_and1 _ _ _ _ (@pt_not _ _ _ _ (@pt_valD _ _ _ (@pe_has _ _ _ _ _ _ _ _ _ _ h_is_does_row hr (@pa_cons _ _ _ _ _ (@pvD _ 2 _ _ (by rfl) (by first | exact Or.inl rfl | exact Or.inr (Or.inl rfl) | exact Or.inr (Or.inr rfl)) (by decide) (by decide)) (@pa_nil _) (by rfl)) (by rfl) (by decide +kernel) (by rfl) (by rfl)) (by intro _; rfl))))))) (@pss_one _ _ _ (@ps_never _ _)) (@pss_nil _))) (by intro _; rfl))), ?_⟩
 rw [show start ["rows", "number", "words"] [.ref l] = [some (.ref l), none, none] from rfl]
 clear hu hu0 nd hr
 push_cast [and_true]
 have sz := sizeLine_eq
 obtain ⟨ps, r1, r2, r3⟩ := hR
 refine ⟨⟨_, SqL.of r1⟩, forW_list (xs := ps.map V.ref) (fun i σ H' => ∃ v1 v2, σ = [some (.ref l), v1, v2] ∧ Same H H') ⟨none, none, rfl, Same.refl _⟩ (fun i σ H' _ h => ?_) ?_ ?_⟩
 ·obtain ⟨_, _, _, s⟩ := h
  exact SqL.of (s _ _ r1)
 ·rintro i x σ H1 hx ⟨v1, v2, rfl, s1⟩
  obtain ⟨p, hp, rfl⟩ := refs_get hx
  have hi : i < rs.length := by
   have := (List.getElem?_eq_some_iff.mp hp).1
   rw [r2] at this
   unfold txs at this
   rwa [List.length_map] at this
  obtain ⟨n, a, _, h1, h2⟩ := r3 i p _ hp (by unfold txs; rw [List.getElem?_map, List.getElem?_eq_getElem hi]; rfl)
  obtain ⟨ok, fu⟩ := hg.1 _ (List.getElem_mem hi)
  generalize rs[i] = r at h2 ok fu
  have tl := tx_len ok fu
  have ln : (r.tx.map textV).length ≤ 1000 := by rw [List.length_map]; have := (Rw.txl ok).2; omega
  refine gTup2_ok (s1 _ _ h1) rfl ?_
  push_cast [spKindB, spRuleB, spDoesB]
  refine ⟨_, s1 _ _ h2, tl, ln, fun H2 s2 => ite2 (fun c => ⟨_, (s1.trans s2) _ _ h2, tl, num_tx ok fu 3, ln, fun H3 s3 => ite2 (fun c1 => ⟨_, (s1.trans (s2.trans s3)) _ _ h2, tl, ln, fun H4 s4 => ite2 (fun c2 => ?_) fun c2 => s1.trans (s2.trans (s3.trans s4))⟩) fun c1 => s1.trans (s2.trans s3)⟩) fun c => s1.trans s2⟩
  exfalso
  cases r with
  | kind n => rw [kindB_ok ok] at c; exact absurd c (by decide)
  | rule n k p ws => rw [ruleB_ok ok] at c1; exact absurd c1 (by decide)
  | does n d => rw [doesB_ok ok] at c2; exact absurd c2 (by decide)
  | none => cases fu
 ·rintro σ H1 ⟨v1, v2, rfl, s1⟩
  exact q H1 s1
noncomputable abbrev sReadWs : Stmt := top 36
theorem scReadWs : FnScope ["words"] ["words"] (defScope sReadWs) := ⟨rfl, rfl, rfl, by decide +kernel, rfl, by decide +kernel, by decide +kernel⟩
theorem hasReadWs (G : Gs w K mg) (h_number_or_text : Has P w K mg base k "number_or_text" ["word"] spNumT) (D : Def K mg "read_words" sReadWs ["words"]) : Has P w K mg base (k + 1) "read_words" ["words"] spReadWs := by
 refine D.has scReadWs (fun vs H Q E h => ?_) (fun f cdv A outer s H vs Q E hr h => ?_)
 ·obtain ⟨_, _, rfl, _, _, _, _⟩ := h
  rfl
 have nd := scReadWs.nd
 have hu := hu_of hr
 have hu0 := Nat.lt_of_succ_lt hu
 obtain ⟨a, ws, rfl, ha, hw, hl, q⟩ := h
 have m_tuple := G.m_tuple
 refine ⟨_, (@pss_one _ _ _ (@ps_ret _ _ _ _ (@pe_callTy _ _ _ _ _ _ _ _ _ (@call_tuple_ofD _) rfl m_tuple b_tuple (@pa_cons _ _ _ _ _ (@pe_lc _ _ _ _ _ _ _ _ _ _ _ _ _ _ _ (@ClOk.mk _ _ ["word"] [] [] _ rfl rfl rfl rfl trivial rfl trivial) rfl (@pi_list _ _ _ _ (@pvD _ 0 _ _ (by rfl) (by first | exact Or.inl rfl | exact Or.inr (Or.inl rfl) | exact Or.inr (Or.inr rfl)) (by decide) (by decide))) (fun _ _ _ => (@pg_name _ _ 0 _ (show List.Nodup (["word"] : List Str) by decide +kernel) rfl (Or.inl rfl) (by first | exact .inl rfl | exact .inr rfl | assumption))) (fun _ _ _ => (@pif0 _)) (fun _ _ _ => (@pe_has _ _ _ _ _ _ _ _ _ _ h_number_or_text hr (@pa_cons _ _ _ _ _ (@pvD _ 0 _ _ (by rfl) (by first | exact Or.inl rfl | exact Or.inr (Or.inl rfl) | exact Or.inr (Or.inr rfl)) (by decide) (by decide)) (@pa_nil _) (by rfl)) (by rfl) (by decide +kernel) (by rfl) (by rfl))) (by intro _; rfl)) (@pa_nil _) (by rfl)) (by decide) (by decide) (by rfl) (by rfl)))), ?_⟩
 rw [show start ["words"] [.ref a] = [some (.ref a)] from rfl]
 clear hu hu0 nd hr
 push_cast [spNumT]
 have sz := sizeLine_eq
 refine ⟨⟨_, SqL.of ha⟩, fun D hD => lc_list (fun i ys => ys = ws.take i) (SqL.of ha) (by rw [List.length_map, List.length_map]; omega) hD rfl (fun i x ys H1 G' K' hx hP hl2 hS hG hK => ?_) fun ys H1 hP hl2 hS hD2 => ⟨ys, .inl ⟨SqL.of hD2, fun t ht => ?_⟩⟩⟩
 ·rw [List.map_map, List.getElem?_map] at hx
  obtain ⟨v, hv, rfl⟩ := Option.map_eq_some_iff.mp hx
  push_cast [spNumT]
  refine ⟨v, rfl, hw v (List.mem_of_getElem? hv), fun H2 s2 => hK _ _ s2 ?_⟩
  rw [hP, List.take_add_one, hv]
  rfl
 ·rw [List.length_map, List.length_map, List.take_length] at hP
  subst hP
  exact q t _ (hS.upd (hS.free ht) _) (hS.free ht) upd_same
noncomputable abbrev sDeedsBy : Stmt := top 37
theorem scDeedsBy : FnScope ["rows", "deeds", "number", "words"] ["rows"] (defScope sDeedsBy) := ⟨rfl, rfl, rfl, by decide +kernel, rfl, by decide +kernel, by decide +kernel⟩
theorem hasDeedsBy (G : Gs w K mg) (h_read_words : Has P w K mg base k "read_words" ["words"] spReadWs) (D : Def K mg "deeds_by_rule" sDeedsBy ["rows"]) : Has P w K mg base (k + 1) "deeds_by_rule" ["rows"] spDeedsBy := by
 refine D.has scDeedsBy (fun vs H Q E h => ?_) (fun f cdv A outer s H vs Q E hr h => ?_)
 ·obtain ⟨_, _, rfl, _, _, _, _⟩ := h
  rfl
 have nd := scDeedsBy.nd
 have hu := hu_of hr
 have hu0 := Nat.lt_of_succ_lt hu
 obtain ⟨l, rs, rfl, hR, hg, hd, q⟩ := h
 refine ⟨_, (@pss_cons _ _ _ _ _ (@ps_set _ _ 1 _ _ _ _ nd rfl (by first | exact Or.inl rfl | exact Or.inr rfl) (@pe_dnewK _ _) (by rfl) (by first | exact .inl rfl | exact .inr rfl | assumption)) (@pss_cons _ _ _ _ _ (@ps_for _ _ _ _ _ _ _ _ PassesOwn.never rfl (@pi_list _ _ _ _ (@pvD _ 0 _ _ (by rfl) (by first | exact Or.inl rfl | exact Or.inr (Or.inl rfl) | exact Or.inr (Or.inr rfl)) (by decide) (by decide))) (@pg_tup _ _ _ _ _ _ rfl (@pgs_cons _ _ _ _ _ (@pg_name _ _ 2 _ nd rfl (by first | exact Or.inl rfl | exact Or.inr rfl) (by first | exact .inl rfl | exact .inr rfl | assumption)) (@pgs_cons _ _ _ _ _ (@pg_name _ _ 3 _ nd rfl (by first | exact Or.inl rfl | exact Or.inr rfl) (by first | exact .inl rfl | exact .inr rfl | assumption)) (@pgs_nil _) (by rfl)) (by rfl)) (by rfl) (by rfl)) (@pss_one _ _ _ (@ps_if _ _ _ _ _ _ _ _ (@pt_cmpRD _ _ _ _ _ _ _ _ (@op_eq _) (@pe_ix _ _ _ _ _ _ _ (@ix_list _) (@pvD _ 3 _ _ (by rfl) (by first | exact Or.inl rfl | exact Or.inr (Or.inl rfl) | exact Or.inr (Or.inr rfl)) (by decide) (by decide)) (@pe_int _ _ _ _) (fun _ _ => rfl)) (@pe_str _ _ _ _) (@nomark _ _ (by decide) (by decide))) (@pss_one _ _ _ (@ps_dput _ _ _ _ _ _ _ _ _ hu (@pvD _ 1 _ _ (by rfl) (by first | exact Or.inl rfl | exact Or.inr (Or.inl rfl) | exact Or.inr (Or.inr rfl)) (by decide) (by decide)) (@pe_ix _ _ _ _ _ _ _ (@ix_list _) (@pvD _ 3 _ _ (by rfl) (by first | exact Or.inl rfl | exact Or.inr (Or.inl rfl) | exact Or.inr (Or.inr rfl)) (by decide) (by decide)) (@pe_int _ _ _ _) (fun _ _ => rfl)) (@pe_lst _ _ _ _ (@pa_nil _)) rfl)) (@pss_nil _))) (by intro _; rfl)) (@pss_cons _ _ _ _ _ (@ps_for _ _ _ _ _ _ _ _ PassesOwn.never rfl (@pi_list _ _ _ _ (@pvD _ 0 _ _ (by rfl) (by first | exact Or.inl rfl | exact Or.inr (Or.inl rfl) | exact Or.inr (Or.inr rfl)) (by decide) (by decide))) (@pg_tup _ _ _ _ _ _ rfl (@pgs_cons _ _ _ _ _ (@pg_name _ _ 2 _ nd rfl (by first | exact Or.inl rfl | exact Or.inr rfl) (by first | exact .inl rfl | exact .inr rfl | assumption)) (@pgs_cons _ _ _ _ _ (@pg_name _ _ 3 _ nd rfl (by first | exact Or.inl rfl | exact Or.inr rfl) (by first | exact .inl rfl | exact .inr rfl | assumption)) (@pgs_nil _) (by rfl)) (by rfl)) (by rfl) (by rfl)) (@pss_one _ _ _ (@ps_if _ _ _ _ _ _ _ _ (@pt_cmpRD _ _ _ _ _ _ _ _ (@op_eq _) (@pe_ix _ _ _ _ _ _ _ (@ix_list _) (@pvD _ 3 _ _ (by rfl) (by first | exact Or.inl rfl | exact Or.inr (Or.inl rfl) | exact Or.inr (Or.inr rfl)) (by decide) (by decide)) (@pe_int _ _ _ _) (fun _ _ => rfl)) (@pe_str _ _ _ _) (@nomark _ _ (by decide) (by decide))) (@pss_cons _ _ _ _ _ (@ps_if _ _ _ _ _ _ _ _ (@pt_cmpD _ _ _ _ _ _ (@pc_dnotin _ _ _ _ _ hu (@pe_ix _ _ _ _ _ _ _ (@ix_list _) (@pvD _ 3 _ _ (by rfl) (by first | exact Or.inl rfl | exact Or.inr (Or.inl rfl) | exact Or.inr (Or.inr rfl)) (by decide) (by decide)) (@pe_int _ _ _ _) (fun _ _ => rfl)) (@pvD _ 1 _ _ (by rfl) (by first | exact Or.inl rfl | exact Or.inr (Or.inl rfl) | exact Or.inr (Or.inr rfl)) (by decide) (by decide))) (by first | exact nobehind _ (by decide) (by decide) | rfl)) (@pss_one _ _ _ (@ps_never _ _)) (@pss_nil _)) (@pss_one _ _ _ (@ps_expr _ _ _ _ (@pe_bm _ _ _ _ _ _ _ _ _ _ _ _ PySem.F.plainAttrs_list PySem.F.slot_list_append PySem.F.type_list_append (@mt_append _) (@pe_dget _ _ _ _ _ _ hu (@pvD _ 1 _ _ (by rfl) (by first | exact Or.inl rfl | exact Or.inr (Or.inl rfl) | exact Or.inr (Or.inr rfl)) (by decide) (by decide)) (@pe_ix _ _ _ _ _ _ _ (@ix_list _) (@pvD _ 3 _ _ (by rfl) (by first | exact Or.inl rfl | exact Or.inr (Or.inl rfl) | exact Or.inr (Or.inr rfl)) (by decide) (by decide)) (@pe_int _ _ _ _) (fun _ _ => rfl)) (fun _ _ => rfl)) (@pa_cons _ _ _ _ _ (@pe_has _ _ _ _ _ _ _ _ _ _ h_read_words hr (@pa_cons _ _ _ _ _ (@pe_slice _ _ _ _ _ _ _ _ _ _ (@sl_list _) (@pvD _ 3 _ _ (by rfl) (by first | exact Or.inl rfl | exact Or.inr (Or.inl rfl) | exact Or.inr (Or.inr rfl)) (by decide) (by decide)) (@po_someD _ _ _ (@pe_int _ _ _ _)) (@po_none _)) (@pa_nil _) (by rfl)) (by rfl) (by decide +kernel) (by rfl) (by rfl)) (@pa_nil _) (by rfl)) (by rfl) (by rfl) (by rfl) (by rfl) (by rfl)) (by rfl)))) (@pss_nil _))) (by intro _; rfl)) (@pss_one _ _ _ (@ps_ret _ _ _ _ (@pvD _ 1 _ _ (by rfl) (by first | exact Or.inl rfl | exact Or.inr (Or.inl rfl) | exact Or.inr (Or.inr rfl)) (by decide) (by decide))))))), ?_⟩
 rw [show start ["rows", "deeds", "number", "words"] [.ref l] = [some (.ref l), none, none, none] from rfl]
 clear hu hu0 nd hr
 push_cast [and_true]
 have sz := sizeLine_eq
 obtain ⟨ps, r1, r2, r3⟩ := hR
 have rl := hg.2
 refine fun d hdn => ⟨⟨_, SqL.of (same_new hdn _ _ _ r1)⟩, forW_list (xs := ps.map V.ref) (fun i σ H' => ∃ v2 v3, σ = [some (.ref l), some (.ref d), v2, v3] ∧ Same H H' ∧ DA (fun a => H a = Option.none) H' d i (fun z => if z ∈ rulesR (rs.take i) then some [] else none)) ⟨none, none, rfl, same_new hdn _, DA.new.ext (fun z => rfl) (Nat.le_refl _)⟩ (fun i σ H' _ h => ?_) ?_ ?_⟩
 ·obtain ⟨_, _, _, s, _⟩ := h
  exact SqL.of (s _ _ r1)
 ·rintro i x σ H1 hx ⟨v2, v3, rfl, s1, hA⟩
  obtain ⟨p, hp, rfl⟩ := refs_get hx
  have hi : i < rs.length := by
   have := (List.getElem?_eq_some_iff.mp hp).1
   rw [r2] at this
   unfold txs at this
   rwa [List.length_map] at this
  have hri : rs[i]? = some rs[i] := List.getElem?_eq_getElem hi
  have et : rs.take (i + 1) = rs.take i ++ [rs[i]] := by rw [List.take_add_one, hri]; rfl
  obtain ⟨n, a, _, h1, h2⟩ := r3 i p _ hp (by unfold txs; rw [List.getElem?_map, hri]; rfl)
  obtain ⟨ok, fu⟩ := hg.1 _ (List.getElem_mem hi)
  have hm := List.getElem_mem hi
  generalize rs[i] = r at h2 ok fu et hm
  have g1 : H1 p = some (.tup [.int n, .ref a]) := s1 _ _ h1
  have g2 : H1 a = some (.lst ((r.tx.map textV).map V.str)) := s1 _ _ h2
  refine gTup2_ok g1 rfl ?_
  push_cast [and_true]
  have l1 : 0 < (r.tx.map textV).length := by rw [List.length_map]; exact (Rw.txl ok).1
  refine rIxL_ok g2 (str_at (k := 0) l1) ⟨rfl, ?_⟩
  cases r with
  | kind m =>
   rw [et, rules_kind]
   exact ifN (show ¬ V.str ("kind" : Str) = V.str "rule" by decide +kernel) ⟨s1, hA.ext (fun z => rfl) (Nat.le_succ _)⟩
  | does m d' =>
   rw [et, rules_does]
   exact ifN (show ¬ V.str ("does" : Str) = V.str "rule" by decide +kernel) ⟨s1, hA.ext (fun z => rfl) (Nat.le_succ _)⟩
  | rule m k' p' ws =>
   rw [et, rules_rule]
   refine ifY (show V.str ("rule" : Str) = V.str "rule" from rfl) ⟨Nat.zero_le _, fun a' ha' => rIxL_ok (same_new ha' _ _ _ g2) (str_at (k := 1) (by show 1 < (ws.map textV).length + 5; omega)) ?_⟩
   obtain ⟨kvs, k1, k2, k3⟩ := hA.put ha' (s1.free ha') m
   refine ⟨_, DPut.k (k := Sum.inr m) k1 (by omega), ?_, k3.ext (fun z => ?_) (Nat.le_refl _)⟩
   ·exact (s1.trans (same_new ha' _)).upd hdn _
   ·by_cases c : z = m
    ·rw [if_pos c, if_pos (by rw [c]; exact List.mem_append_right _ List.mem_cons_self)]
    ·rw [if_neg c]
     by_cases c2 : z ∈ rulesR (rs.take i)
     ·rw [if_pos c2, if_pos (List.mem_append_left _ c2)]
     ·rw [if_neg c2, if_neg (fun h => (List.mem_append.mp h).elim c2 fun h => c (List.mem_singleton.mp h))]
  | none => cases fu
 ·rintro σ H1 ⟨v2, v3, rfl, s1, hA⟩
  rw [List.length_map, r2, show (txs rs).length = rs.length from List.length_map _, List.take_length] at hA
  push_cast [and_true]
  refine ⟨⟨_, SqL.of (s1 _ _ r1)⟩, forW_list (xs := ps.map V.ref) (fun i σ H' => ∃ v2 v3, σ = [some (.ref l), some (.ref d), v2, v3] ∧ Same H H' ∧ DA (fun a => H a = Option.none) H' d 100 (fun z => if z ∈ rulesR rs then some (deedsR (rs.take i) z) else none)) ⟨v2, v3, rfl, s1, hA.ext (fun z => rfl) rl⟩ (fun i σ H' _ h => ?_) ?_ ?_⟩
  ·obtain ⟨_, _, _, s, _⟩ := h
   exact SqL.of (s _ _ r1)
  ·clear hA s1 H1 v2 v3
   rintro i x σ H1 hx ⟨v2, v3, rfl, s1, hA⟩
   obtain ⟨p, hp, rfl⟩ := refs_get hx
   have hi : i < rs.length := by
    have := (List.getElem?_eq_some_iff.mp hp).1
    rw [r2] at this
    unfold txs at this
    rwa [List.length_map] at this
   have hri : rs[i]? = some rs[i] := List.getElem?_eq_getElem hi
   have et : rs.take (i + 1) = rs.take i ++ [rs[i]] := by rw [List.take_add_one, hri]; rfl
   obtain ⟨n, a, _, h1, h2⟩ := r3 i p _ hp (by unfold txs; rw [List.getElem?_map, hri]; rfl)
   obtain ⟨ok, fu⟩ := hg.1 _ (List.getElem_mem hi)
   have hm := List.getElem_mem hi
   generalize rs[i] = r at h2 ok fu et hm
   have g1 : H1 p = some (.tup [.int n, .ref a]) := s1 _ _ h1
   have g2 : H1 a = some (.lst ((r.tx.map textV).map V.str)) := s1 _ _ h2
   refine gTup2_ok g1 rfl ?_
   push_cast [spReadWs]
   have l1 : 0 < (r.tx.map textV).length := by rw [List.length_map]; exact (Rw.txl ok).1
   refine rIxL_ok g2 (str_at (k := 0) l1) ⟨rfl, ?_⟩
   cases r with
   | kind m =>
    rw [et]
    exact ifN (show ¬ V.str ("kind" : Str) = V.str "does" by decide +kernel) ⟨s1, hA.ext (fun z => by rw [deeds_kind]) (Nat.le_refl _)⟩
   | rule m k' p' ws =>
    rw [et]
    exact ifN (show ¬ V.str ("rule" : Str) = V.str "does" by decide +kernel) ⟨s1, hA.ext (fun z => by rw [deeds_rule]) (Nat.le_refl _)⟩
   | does m d' =>
    have hmr := hd m d' hm
    have dl := deed_len ok.2
    have l2 : 1 < ((Rw.does m d').tx.map textV).length := by show 1 < (d'.map textV).length + 2; omega
    obtain ⟨kvs, b, bs, k0, k1, k2, k3, k4, k5, _⟩ := hA.get (z := m) (by rw [if_pos hmr])
    rw [et]
    refine ifY (show V.str ("does" : Str) = V.str "does" from rfl) ?_
    have gd : DGet H1 d (.str m) (some (.ref b)) := by
     have := DGet.k (k := Sum.inr m) k1
     rw [k2] at this
     exact this
    refine rIxL_ok g2 (str_at (k := 1) l2) ⟨_, gd, ?_⟩
    rw [if_neg (by simp)]
    refine rIxL_ok g2 (str_at (k := 1) l2) ⟨_, gd, ⟨tyV_list k3, ?_⟩⟩
    refine ⟨_, SqL.of g2, fun c hc => ⟨d', ?_, deed_wd ok.2, by omega, fun t H3 s3 hf ht => ?_⟩⟩
    ·rw [show cutV (((Rw.does m d').tx.map textV).map V.str) (some 2) none = (d'.map textV).map V.str from cut_drop _ 2]
     exact upd_same
    have s4 := (same_new hc _).trans s3
    have A3 := hA.same s4
    obtain ⟨kvs', b', bs', _, e1, e2, e3, e4, e5, _⟩ := A3.get (z := m) (by rw [if_pos hmr])
    have ek : kvs' = kvs := by
     have := e1.symm.trans (s4 _ _ k1)
     injection (Option.some.inj this)
    subst ek
    obtain rfl : b' = b := by
     have := e2.symm.trans k2
     injection (Option.some.inj this)
    have A4 := e5 t d' ht
    refine ⟨b', _, _, rfl, rfl, e3, ?_, (s1.trans s4).upd k0 _, A4.ext (fun z => ?_) (Nat.le_refl _)⟩
    ·rw [List.length_map, e4.1]
     have := deeds_len (rs.take i) m
     rw [List.length_take] at this
     omega
    ·rw [deeds_does]
     by_cases c : z = m
     ·rw [if_pos c, c, if_pos hmr, if_pos rfl]
     ·rw [if_neg c, if_neg (show ¬ m = z from fun e => c e.symm)]
   | none => cases fu
  ·rintro σ H2 ⟨v2, v3, rfl, s2, hA2⟩
   rw [List.length_map, r2, show (txs rs).length = rs.length from List.length_map _, List.take_length] at hA2
   push_cast [and_true]
   exact q d H2 s2 hdn hA2
noncomputable abbrev sReadBk : Stmt := top 38
theorem scReadBk : FnScope ["text", "rows", "deeds", "kinds", "rules", "number", "words", "own"] ["text"] (defScope sReadBk) := ⟨rfl, rfl, rfl, by decide +kernel, rfl, by decide +kernel, by decide +kernel⟩
theorem hasReadBk (G : Gs w K mg) (h_deeds_by_rule : Has P w K mg base k "deeds_by_rule" ["rows"] spDeedsBy) (h_read_words : Has P w K mg base k "read_words" ["words"] spReadWs) (h_refuse_other_rows : Has P w K mg base k "refuse_other_rows" ["rows"] spRefuse) (h_rows_in : Has P w K mg base k "rows_in" ["text"] spRowsIn) (D : Def K mg "read_book" sReadBk ["text"]) : Has P w K mg base (k + 1) "read_book" ["text"] spReadBk := by
 refine D.has scReadBk (fun vs H Q E h => ?_) (fun f cdv A outer s H vs Q E hr h => ?_)
 ·obtain ⟨_, _, rfl, _, _, _, _, _, _, _⟩ := h
  rfl
 have nd := scReadBk.nd
 have hu := hu_of hr
 have hu0 := Nat.lt_of_succ_lt hu
 obtain ⟨z, rs, rfl, hz, hl, hy, hs, hg, hd, q⟩ := h
 obtain ⟨_, m_SHAPE_START⟩ := G.m_SHAPE_START
 have m_int := G.m_int
 have m_tuple := G.m_tuple
 refine ⟨_, (@pss_cons _ _ _ _ _ (@ps_set _ _ 1 _ _ _ _ nd rfl (by first | exact Or.inl rfl | exact Or.inr rfl) (@pe_has _ _ _ _ _ _ _ _ _ _ h_rows_in hr (@pa_cons _ _ _ _ _ (@pvD _ 0 _ _ (by rfl) (by first | exact Or.inl rfl | exact Or.inr (Or.inl rfl) | exact Or.inr (Or.inr rfl)) (by decide) (by decide)) (@pa_nil _) (by rfl)) (by rfl) (by decide +kernel) (by rfl) (by rfl)) (by rfl) (by first | exact .inl rfl | exact .inr rfl | assumption)) (@pss_cons _ _ _ _ _ (@ps_expr _ _ _ _ (@pe_has _ _ _ _ _ _ _ _ _ _ h_refuse_other_rows hr (@pa_cons _ _ _ _ _ (@pvD _ 1 _ _ (by rfl) (by first | exact Or.inl rfl | exact Or.inr (Or.inl rfl) | exact Or.inr (Or.inr rfl)) (by decide) (by decide)) (@pa_nil _) (by rfl)) (by rfl) (by decide +kernel) (by rfl) (by rfl)) (by rfl)) (@pss_cons _ _ _ _ _ (@ps_set _ _ 2 _ _ _ _ nd rfl (by first | exact Or.inl rfl | exact Or.inr rfl) (@pe_has _ _ _ _ _ _ _ _ _ _ h_deeds_by_rule hr (@pa_cons _ _ _ _ _ (@pvD _ 1 _ _ (by rfl) (by first | exact Or.inl rfl | exact Or.inr (Or.inl rfl) | exact Or.inr (Or.inr rfl)) (by decide) (by decide)) (@pa_nil _) (by rfl)) (by rfl) (by decide +kernel) (by rfl) (by rfl)) (by rfl) (by first | exact .inl rfl | exact .inr rfl | assumption)) (@pss_cons _ _ _ _ _ (@ps_set _ _ 3 _ _ _ _ nd rfl (by first | exact Or.inl rfl | exact Or.inr rfl) (@pe_lst _ _ _ _ (@pa_nil _)) (by rfl) (by first | exact .inl rfl | exact .inr rfl | assumption)) (@pss_cons _ _ _ _ _ (@ps_set _ _ 4 _ _ _ _ nd rfl (by first | exact Or.inl rfl | exact Or.inr rfl) (@pe_lst _ _ _ _ (@pa_nil _)) (by rfl) (by first | exact .inl rfl | exact .inr rfl | assumption)) (@pss_cons _ _ _ _ _ (@ps_for _ _ _ _ _ _ _ _ PassesOwn.never rfl (@pi_list _ _ _ _ (@pvD _ 1 _ _ (by rfl) (by first | exact Or.inl rfl | exact Or.inr (Or.inl rfl) | exact Or.inr (Or.inr rfl)) (by decide) (by decide))) (@pg_tup _ _ _ _ _ _ rfl (@pgs_cons _ _ _ _ _ (@pg_name _ _ 5 _ nd rfl (by first | exact Or.inl rfl | exact Or.inr rfl) (by first | exact .inl rfl | exact .inr rfl | assumption)) (@pgs_cons _ _ _ _ _ (@pg_name _ _ 6 _ nd rfl (by first | exact Or.inl rfl | exact Or.inr rfl) (by first | exact .inl rfl | exact .inr rfl | assumption)) (@pgs_nil _) (by rfl)) (by rfl)) (by rfl) (by rfl)) (@pss_mid _ _ _ _ _ (@ps_if _ _ _ _ _ _ _ _ (@pt_cmpRD _ _ _ _ _ _ _ _ (@op_eq _) (@pe_ix _ _ _ _ _ _ _ (@ix_list _) (@pvD _ 6 _ _ (by rfl) (by first | exact Or.inl rfl | exact Or.inr (Or.inl rfl) | exact Or.inr (Or.inr rfl)) (by decide) (by decide)) (@pe_int _ _ _ _) (fun _ _ => rfl)) (@pe_str _ _ _ _) (@nomark _ _ (by decide) (by decide))) (@pss_one _ _ _ (@ps_expr _ _ _ _ (@pe_bm _ _ _ _ _ _ _ _ _ _ _ _ PySem.F.plainAttrs_list PySem.F.slot_list_append PySem.F.type_list_append (@mt_append _) (@pvD _ 3 _ _ (by rfl) (by first | exact Or.inl rfl | exact Or.inr (Or.inl rfl) | exact Or.inr (Or.inr rfl)) (by decide) (by decide)) (@pa_cons _ _ _ _ _ (@pe_ix _ _ _ _ _ _ _ (@ix_list _) (@pvD _ 6 _ _ (by rfl) (by first | exact Or.inl rfl | exact Or.inr (Or.inl rfl) | exact Or.inr (Or.inr rfl)) (by decide) (by decide)) (@pe_int _ _ _ _) (fun _ _ => rfl)) (@pa_nil _) (by rfl)) (by rfl) (by rfl) (by rfl) (by rfl) (by rfl)) (by rfl))) (@pss_nil _)) (@pss_one _ _ _ (@ps_if _ _ _ _ _ _ _ _ (@pt_cmpRD _ _ _ _ _ _ _ _ (@op_eq _) (@pe_ix _ _ _ _ _ _ _ (@ix_list _) (@pvD _ 6 _ _ (by rfl) (by first | exact Or.inl rfl | exact Or.inr (Or.inl rfl) | exact Or.inr (Or.inr rfl)) (by decide) (by decide)) (@pe_int _ _ _ _) (fun _ _ => rfl)) (@pe_str _ _ _ _) (@nomark _ _ (by decide) (by decide))) (@pss_cons _ _ _ _ _ (@ps_set _ _ 7 _ _ _ _ nd rfl (by first | exact Or.inl rfl | exact Or.inr rfl) (@pe_callTy _ _ _ _ _ _ _ _ _ (@call_tuple_ofD _) rfl m_tuple b_tuple (@pa_cons _ _ _ _ _ (@pe_dpop2 _ _ _ _ _ _ _ _ _ (@pvD _ 2 _ _ (by rfl) (by first | exact Or.inl rfl | exact Or.inr (Or.inl rfl) | exact Or.inr (Or.inr rfl)) (by decide) (by decide)) (@pe_ix _ _ _ _ _ _ _ (@ix_list _) (@pvD _ 6 _ _ (by rfl) (by first | exact Or.inl rfl | exact Or.inr (Or.inl rfl) | exact Or.inr (Or.inr rfl)) (by decide) (by decide)) (@pe_int _ _ _ _) (fun _ _ => rfl)) (@pe_lst _ _ _ _ (@pa_nil _)) (@M2.mk _ _ _ _ _ _ _ rfl rfl rfl rfl)) (@pa_nil _) (by rfl)) (by decide) (by decide) (by rfl) (by rfl)) (by rfl) (by first | exact .inl rfl | exact .inr rfl | assumption)) (@pss_one _ _ _ (@ps_expr _ _ _ _ (@pe_bm _ _ _ _ _ _ _ _ _ _ _ _ PySem.F.plainAttrs_list PySem.F.slot_list_append PySem.F.type_list_append (@mt_append _) (@pvD _ 4 _ _ (by rfl) (by first | exact Or.inl rfl | exact Or.inr (Or.inl rfl) | exact Or.inr (Or.inr rfl)) (by decide) (by decide)) (@pa_cons _ _ _ _ _ (@pe_tup _ _ _ _ _ (@pa_cons _ _ _ _ _ (@pe_ix _ _ _ _ _ _ _ (@ix_list _) (@pvD _ 6 _ _ (by rfl) (by first | exact Or.inl rfl | exact Or.inr (Or.inl rfl) | exact Or.inr (Or.inr rfl)) (by decide) (by decide)) (@pe_int _ _ _ _) (fun _ _ => rfl)) (@pa_cons _ _ _ _ _ (@pe_ix _ _ _ _ _ _ _ (@ix_list _) (@pvD _ 6 _ _ (by rfl) (by first | exact Or.inl rfl | exact Or.inr (Or.inl rfl) | exact Or.inr (Or.inr rfl)) (by decide) (by decide)) (@pe_int _ _ _ _) (fun _ _ => rfl)) (@pa_cons _ _ _ _ _ (@pe_callTy _ _ _ _ _ _ _ _ _ (@call_int_str _) rfl m_int b_int (@pa_cons _ _ _ _ _ (@pe_ix _ _ _ _ _ _ _ (@ix_list _) (@pvD _ 6 _ _ (by rfl) (by first | exact Or.inl rfl | exact Or.inr (Or.inl rfl) | exact Or.inr (Or.inr rfl)) (by decide) (by decide)) (@pe_int _ _ _ _) (fun _ _ => rfl)) (@pa_nil _) (by rfl)) (by decide) (by decide) (by rfl) (by rfl)) (@pa_cons _ _ _ _ _ (@pe_has _ _ _ _ _ _ _ _ _ _ h_read_words hr (@pa_cons _ _ _ _ _ (@pe_slice _ _ _ _ _ _ _ _ _ _ (@sl_list _) (@pvD _ 6 _ _ (by rfl) (by first | exact Or.inl rfl | exact Or.inr (Or.inl rfl) | exact Or.inr (Or.inr rfl)) (by decide) (by decide)) (@po_someD _ _ _ (@pe_gint _ _ _ _ _ m_SHAPE_START (by rfl) (by decide +kernel))) (@po_none _)) (@pa_nil _) (by rfl)) (by rfl) (by decide +kernel) (by rfl) (by rfl)) (@pa_cons _ _ _ _ _ (@pvD _ 7 _ _ (by rfl) (by first | exact Or.inl rfl | exact Or.inr (Or.inl rfl) | exact Or.inr (Or.inr rfl)) (by decide) (by decide)) (@pa_nil _) (by rfl)) (by rfl)) (by rfl)) (by rfl)) (by rfl))) (@pa_nil _) (by rfl)) (by rfl) (by rfl) (by rfl) (by rfl) (by rfl)) (by rfl)))) (@pss_nil _)))) (by intro _; rfl)) (@pss_one _ _ _ (@ps_ret _ _ _ _ (@pe_tup _ _ _ _ _ (@pa_cons _ _ _ _ _ (@pe_callTy _ _ _ _ _ _ _ _ _ (@call_tuple_ofD _) rfl m_tuple b_tuple (@pa_cons _ _ _ _ _ (@pvD _ 3 _ _ (by rfl) (by first | exact Or.inl rfl | exact Or.inr (Or.inl rfl) | exact Or.inr (Or.inr rfl)) (by decide) (by decide)) (@pa_nil _) (by rfl)) (by decide) (by decide) (by rfl) (by rfl)) (@pa_cons _ _ _ _ _ (@pe_callTy _ _ _ _ _ _ _ _ _ (@call_tuple_ofD _) rfl m_tuple b_tuple (@pa_cons _ _ _ _ _ (@pvD _ 4 _ _ (by rfl) (by first | exact Or.inl rfl | exact Or.inr (Or.inl rfl) | exact Or.inr (Or.inr rfl)) (by decide) (by decide)) (@pa_nil _) (by rfl)) (by decide) (by decide) (by rfl) (by rfl)) (@pa_nil _) (by rfl)) (by rfl))))))))))), ?_⟩
 rw [show start ["text", "rows", "deeds", "kinds", "rules", "number", "words", "own"] [.str z] = [some (.str z), none, none, none, none, none, none, none] from rfl]
 clear hu hu0 nd hr
 push_cast [spDeedsBy, spReadWs, spRefuse, spRowsIn]
 have sz := sizeLine_eq
 have rl := hg.2
 refine ⟨hz, hl, hy, fun l B1 b1 hR => ⟨rs, ?_, hg, fun B2 b2 => ⟨rs, ?_, hg, hd, fun d H3 s3 hdn hA => ⟨Nat.zero_le _, fun kl hkl => ⟨Nat.zero_le _, fun ul hul => ?_⟩⟩⟩⟩⟩
 ·rw [hs, List.map_map] at hR
  rw [show txs rs = rs.map ((fun y => Txt.split y (Str.ofString " ")) ∘ Rw.line) from List.map_congr_left fun r hr => (line_split (hg.1 r hr).1 (hg.1 r hr).2).symm]
  exact hR
 ·rw [hs, List.map_map] at hR
  rw [show txs rs = rs.map ((fun y => Txt.split y (Str.ofString " ")) ∘ Rw.line) from List.map_congr_left fun r hr => (line_split (hg.1 r hr).1 (hg.1 r hr).2).symm]
  exact hR.same b2
 have hR2 : RowsAt B2 l (txs rs) := by
  rw [hs, List.map_map] at hR
  rw [show txs rs = rs.map ((fun y => Txt.split y (Str.ofString " ")) ∘ Rw.line) from List.map_congr_left fun r hr => (line_split (hg.1 r hr).1 (hg.1 r hr).2).symm]
  exact hR.same b2
 obtain ⟨ps, r1, r2, r3⟩ := hR2
 have s4 := same_new hkl (.lst [])
 have s5 := same_new hul (.lst [])
 have A5 := (((hA.away hkl).same s4).away hul).same s5
 have kd : d ≠ kl := by obtain ⟨kvs, h1, _⟩ := hA; exact ne_of_none h1 hkl
 have ud : d ≠ ul := by obtain ⟨kvs, h1, _⟩ := hA; exact ne_of_none (s4 _ _ h1) hul
 have uk : kl ≠ ul := ne_of_none upd_same hul
 have Bkl : B2 kl = none := s3.free hkl
 have Bu : B2 ul = none := (s3.trans s4).free hul
 have S5 := s3.trans (s4.trans s5)
 obtain ⟨P1, eP1⟩ : ∃ P1 : Nat → L2.St → Hp → Prop, ∀ i σ H', P1 i σ H' ↔ ∃ v5 v6 v7 ra, σ = [some (.str z), some (.ref l), some (.ref d), some (.ref kl), some (.ref ul), v5, v6, v7] ∧ Same B2 H' ∧ DA (fun a => (B2 a = none ∧ a ≠ kl) ∧ a ≠ ul) H' d 100 (fun y => if y ∈ rulesR rs ∧ y ∉ rulesR (rs.take i) then some (deedsR rs y) else none) ∧ H' kl = some (.lst ((kindsR (rs.take i)).map V.str)) ∧ H' ul = some (.lst (ra.map V.ref)) ∧ RulesAt H' ra (rulesD rs [] (rs.take i)) := ⟨_, fun _ _ _ => Iff.rfl⟩
 refine ⟨⟨_, SqL.of (S5 _ _ r1)⟩, forW_list (xs := ps.map V.ref) P1 ((eP1 _ _ _).mpr ⟨none, none, none, [], rfl, S5, A5.ext (fun y => ?_) (Nat.le_refl _), s5 _ _ upd_same, upd_same, RulesAt.nil _⟩) (fun i σ H' _ h => ?_) ?_ ?_⟩
 ·by_cases c : y ∈ rulesR rs
  ·rw [if_pos c, if_pos ⟨c, fun h => by cases h⟩]
  ·rw [if_neg c, if_neg fun h => c h.1]
 ·obtain ⟨_, _, _, _, _, s, _⟩ := (eP1 _ _ _).mp h
  exact SqL.of (s _ _ r1)
 ·clear S5 A5 s5 s4 hkl hul s3 hA H3
  rintro i x σ H1 hx hh
  obtain ⟨v5, v6, v7, ra, rfl, s1, hA, hk, hu1, hr⟩ := (eP1 _ _ _).mp hh
  clear hh
  obtain ⟨p, hp, rfl⟩ := refs_get hx
  have hi : i < rs.length := by
   have := (List.getElem?_eq_some_iff.mp hp).1
   rw [r2] at this
   unfold txs at this
   rwa [List.length_map] at this
  have hri : rs[i]? = some rs[i] := List.getElem?_eq_getElem hi
  have et : rs.take (i + 1) = rs.take i ++ [rs[i]] := by rw [List.take_add_one, hri]; rfl
  obtain ⟨n, a, _, h1, h2⟩ := r3 i p _ hp (by unfold txs; rw [List.getElem?_map, hri]; rfl)
  obtain ⟨ok, fu⟩ := hg.1 _ (List.getElem_mem hi)
  have hm := List.getElem_mem hi
  generalize rs[i] = r at h2 ok fu et hm
  have g1 : H1 p = some (.tup [.int n, .ref a]) := s1 _ _ h1
  have g2 : H1 a = some (.lst ((r.tx.map textV).map V.str)) := s1 _ _ h2
  have l1 : 0 < (r.tx.map textV).length := by rw [List.length_map]; exact (Rw.txl ok).1
  have rle := rulesD_len (all := rs) (q := rs.take i) (s := [])
  have kle : (kindsR (rs.take i)).length ≤ (rs.take i).length := List.length_filterMap_le _ _
  have tle : (rs.take i).length ≤ rs.length := by rw [List.length_take]; omega
  obtain ⟨M, eM⟩ : ∃ M : L2.St → Hp → Prop, ∀ σ H', M σ H' ↔ σ = [some (.str z), some (.ref l), some (.ref d), some (.ref kl), some (.ref ul), some (.int n), some (.ref a), v7] ∧ Same B2 H' ∧ DA (fun a => (B2 a = none ∧ a ≠ kl) ∧ a ≠ ul) H' d 100 (fun y => if y ∈ rulesR rs ∧ y ∉ rulesR (rs.take i) then some (deedsR rs y) else none) ∧ H' kl = some (.lst ((kindsR (rs.take (i + 1))).map V.str)) ∧ H' ul = some (.lst (ra.map V.ref)) ∧ RulesAt H' ra (rulesD rs [] (rs.take i)) := ⟨_, fun _ _ => Iff.rfl⟩
  refine gTup2_ok g1 rfl (tMid_of M ?_ ?_)
  ·push_cast [and_true]
   refine rIxL_ok g2 (str_at (k := 0) l1) ⟨rfl, ?_⟩
   cases r with
   | kind m =>
    refine ifY (show V.str ("kind" : Str) = V.str "kind" from rfl) ⟨tyV_list hk, rIxL_ok g2 (str_at (k := 1) (by show 1 < (2 : Nat); decide)) (append_ok (K := K) hk (by rw [List.length_map]; omega) ((eM _ _).mpr ⟨rfl, s1.upd Bkl _, hA.upd (fun a h => h.1.2) kd (fun xs e => by rw [hk] at e; cases e) _, ?_, by rw [upd_ne uk.symm]; exact hu1, hr.keep (Tk.upd (Tk.refl _) fun xs e => by rw [hk] at e; cases e)⟩)).2⟩
    rw [upd_same, et, kinds_kind, List.map_append]
    rfl
   | rule m k' p' ws => exact ifN (show ¬ V.str ("rule" : Str) = V.str "kind" by decide +kernel) ((eM _ _).mpr ⟨rfl, s1, hA, by rw [et, kinds_rule]; exact hk, hu1, hr⟩)
   | does m d' => exact ifN (show ¬ V.str ("does" : Str) = V.str "kind" by decide +kernel) ((eM _ _).mpr ⟨rfl, s1, hA, by rw [et, kinds_does]; exact hk, hu1, hr⟩)
   | none => cases fu
  ·clear hk hu1 hr hA g1 g2 s1 hx
   rintro σ H2 hh
   obtain ⟨rfl, s1, hA, hk, hu1, hr⟩ := (eM _ _).mp hh
   clear hh
   have g2 : H2 a = some (.lst ((r.tx.map textV).map V.str)) := s1 _ _ h2
   push_cast [spReadWs]
   refine rIxL_ok g2 (str_at (k := 0) l1) ⟨rfl, ?_⟩
   rw [et] at hk
   cases r with
   | kind m =>
    refine ifN (show ¬ V.str ("kind" : Str) = V.str "rule" by decide +kernel) ((eP1 _ _ _).mpr ⟨_, _, _, ra, rfl, s1, hA.ext (fun y => by rw [et, rules_kind]) (Nat.le_refl _), by rw [et]; exact hk, hu1, ?_⟩)
    rw [et, rulesD_app, show rulesD rs ([] ++ rulesR (rs.take i)) [Rw.kind m] = [] from rfl, List.append_nil]
    exact hr
   | does m d' =>
    refine ifN (show ¬ V.str ("does" : Str) = V.str "rule" by decide +kernel) ((eP1 _ _ _).mpr ⟨_, _, _, ra, rfl, s1, hA.ext (fun y => by rw [et, rules_does]) (Nat.le_refl _), by rw [et]; exact hk, hu1, ?_⟩)
    rw [et, rulesD_app, show rulesD rs ([] ++ rulesR (rs.take i)) [Rw.does m d'] = [] from rfl, List.append_nil]
    exact hr
   | none => cases fu
   | rule m k' p' ws =>
    obtain ⟨o1, o2, o3, o4, o5, o6, o7⟩ := ok
    have tl0 : ((Rw.rule m k' p' ws).tx.map textV).length = ws.length + 5 := by rw [List.length_map]; rfl
    have hmr : m ∈ rulesR rs := List.mem_filterMap.mpr ⟨_, hm, rfl⟩
    have pn : p'.natAbs < 10 ^ 60 := Nat.lt_of_le_of_lt (show p'.natAbs ≤ 999999 by omega) (by decide +kernel)
    obtain ⟨kvs, hkv⟩ : ∃ kvs, H2 d = some (.dK kvs) := let ⟨kvs, h, _⟩ := hA; ⟨kvs, h⟩
    refine ifY (show V.str ("rule" : Str) = V.str "rule" from rfl) (dpop_by (fun b H5 => ∃ as, H5 b = some (.lst (as.map V.ref)) ∧ TupsAt H5 as (if m ∈ rulesR (rs.take i) then [] else deedsR rs m) ∧ Same B2 H5 ∧ DA (fun a => (B2 a = none ∧ a ≠ kl) ∧ a ≠ ul) H5 d 100 (fun y => if y ∈ rulesR rs ∧ y ∉ rulesR (rs.take i) ++ [m] then some (deedsR rs y) else none) ∧ H5 kl = some (.lst ((kindsR (rs.take i ++ [Rw.rule m k' p' ws])).map V.str)) ∧ H5 ul = some (.lst (ra.map V.ref)) ∧ RulesAt H5 ra (rulesD rs [] (rs.take i))) rfl rfl g2 (str_at (k := 1) (by omega)) hkv ?_ ?_ ?_)
    ·intro v e he hv
     have fs : (fun y => if y ∈ rulesR rs ∧ y ∉ rulesR (rs.take i) then some (deedsR rs y) else none) m ≠ none := fun h => by
      obtain ⟨kvs', e1, e2⟩ := hA.none (z := m) h
      cases e1.symm.trans hkv
      have hv : valV kvs (Sum.inr m) = some v := hv
      rw [e2] at hv
      cases hv
     have hni : m ∉ rulesR (rs.take i) := fun h => fs (by show (if m ∈ rulesR rs ∧ m ∉ rulesR (rs.take i) then some (deedsR rs m) else none) = none; rw [if_neg fun x => x.2 h])
     have se := same_new he (.lst [])
     obtain ⟨kvs', b, as, k0, k1, k2, k3, k4, _, k6⟩ := (hA.same se).get (z := m) (ts := deedsR rs m) (by rw [if_pos ⟨hmr, hni⟩])
     cases k1.symm.trans (se _ _ hkv)
     have hv : valV kvs (Sum.inr m) = some v := hv
     rw [k2] at hv
     cases hv
     have nbd : b ≠ d := ne_of k3 k1 (by intro h; cases h)
     have tk : Tk (upd H2 e (.lst [])) (upd (upd H2 e (.lst [])) d (.dK (dropK kvs (.inr m)))) := Tk.upd (Tk.refl _) fun xs e => by rw [k1] at e; cases e
     refine ⟨b, rfl, as, by rw [upd_ne nbd]; exact k3, by rw [if_neg hni]; exact k4.keep tk, (s1.trans se).upd hdn _, k6.ext (fun y => ?_) (Nat.le_refl _), by rw [upd_ne kd.symm]; exact se _ _ hk, by rw [upd_ne ud.symm]; exact se _ _ hu1, hr.keep ((Tk.of se).trans tk)⟩
     by_cases c : y = m
     ·rw [if_pos c, if_neg fun h => h.2 (by rw [c]; exact List.mem_append_right _ List.mem_cons_self)]
     ·rw [if_neg c]
      by_cases c2 : y ∈ rulesR rs ∧ y ∉ rulesR (rs.take i)
      ·rw [if_pos c2, if_pos ⟨c2.1, fun h => (List.mem_append.mp h).elim c2.2 fun h => c (List.mem_singleton.mp h)⟩]
      ·rw [if_neg c2, if_neg fun h => c2 ⟨h.1, fun h2 => h.2 (List.mem_append_left _ h2)⟩]
    ·intro e he hv
     have hin : m ∈ rulesR (rs.take i) := by
      refine Classical.byContradiction fun hni => ?_
      obtain ⟨kvs', b, as, k0, k1, k2, _⟩ := hA.get (z := m) (ts := deedsR rs m) (by rw [if_pos ⟨hmr, hni⟩])
      cases k1.symm.trans hkv
      have hv : valV kvs (Sum.inr m) = none := hv
      rw [k2] at hv
      cases hv
     have se := same_new he (.lst [])
     refine ⟨[], upd_same, by rw [if_pos hin]; exact TupsAt.nil _, s1.trans se, (hA.same se).ext (fun y => ?_) (Nat.le_refl _), se _ _ hk, se _ _ hu1, hr.keep (Tk.of se)⟩
     by_cases c2 : y ∈ rulesR rs ∧ y ∉ rulesR (rs.take i)
     ·rw [if_pos c2, if_pos ⟨c2.1, fun h => (List.mem_append.mp h).elim c2.2 fun h => c2.2 (by rw [List.mem_singleton.mp h]; exact hin)⟩]
     ·rw [if_neg c2, if_neg fun h => c2 ⟨h.1, fun h2 => h.2 (List.mem_append_left _ h2)⟩]
    ·clear hA hk hu1 hr
     rintro b H5 ⟨as, j1, j2, s5, hA, hk, hu1, hr⟩
     refine ⟨_, .inl ⟨SqL.of j1, fun da hda => ?_⟩⟩
     have s6 := same_new hda (.tup (as.map V.ref))
     have g6 : upd H5 da (.tup (as.map V.ref)) a = some (.lst (((Rw.rule m k' p' ws).tx.map textV).map V.str)) := (s5.trans s6) _ _ h2
     refine ⟨tyV_list (s6 _ _ hu1), rIxL_ok g6 (str_at (k := 1) (by omega)) (rIxL_ok g6 (str_at (k := 2) (by omega)) (rIxL_ok g6 (str_at (k := 3) (by omega)) ⟨_, rfl, p', (read_int pn).2.1, by have := (read_int pn).2.2; show (textV (.int p')).length ≤ 640; omega, _, SqL.of g6, fun c hc => ⟨ws, ?_, fun v hv => sh_wd (o7 v hv), by omega, fun t H7 s7 _ ht => ⟨by show (5 : Nat) ≤ sizeLine; decide, fun u hu => ?_⟩⟩⟩))⟩
     ·rw [show cutV (((Rw.rule m k' p' ws).tx.map textV).map V.str) (some 5) none = (ws.map textV).map V.str from cut_drop _ 5]
      exact upd_same
     have s67 := s6.trans ((same_new hc _).trans s7)
     have s8 := same_new hu (.tup [V.str m, V.str k', V.int p', V.ref t, V.ref da])
     have s68 := s67.trans s8
     have tkU : ∀ (H9 : Hp) (o : HO), H9 ul = some (.lst (ra.map V.ref)) → Tk H9 (upd H9 ul o) := fun H9 o h => Tk.upd (Tk.refl _) fun xs e => by rw [h] at e; cases e
     have hl8 := s68 _ _ hu1
     refine ⟨ul, _, _, rfl, rfl, hl8, by rw [List.length_map, hr.1]; omega, (eP1 _ _ _).mpr ⟨_, _, _, ra ++ [u], rfl, (s5.trans s68).upd Bu _, ((hA.same s68).upd (fun a h => h.2) ud (fun xs e => by rw [hl8] at e; cases e) _).ext (fun y => by rw [et, rules_rule]) (Nat.le_refl _), by rw [upd_ne uk, et]; exact s68 _ _ hk, by rw [upd_same, List.map_append]; rfl, ?_⟩⟩
     rw [et, rulesD_app, show rulesD rs ([] ++ rulesR (rs.take i)) [Rw.rule m k' p' ws] = [⟨m, k', p', ws, if m ∈ [] ++ rulesR (rs.take i) then [] else deedsR rs m⟩] from rfl]
     refine ((hr.keep (Tk.of s68)).keep (tkU _ _ hl8)).snoc ?_
     exact Rd5At.keep ⟨t, da, as, upd_same, s8 _ _ ht, ((same_new hc _).trans (s7.trans s8)) _ _ upd_same, j2.keep (Tk.of s68)⟩ (tkU _ _ hl8)
 ·rintro σ H1 hh
  obtain ⟨v5, v6, v7, ra, rfl, s1, hA, hk, hu1, hr⟩ := (eP1 _ _ _).mp hh
  clear hh
  rw [List.length_map, r2, show (txs rs).length = rs.length from List.length_map _, List.take_length] at hk hr
  push_cast [and_true]
  refine ⟨_, .inl ⟨SqL.of hk, fun t1 ht1 => ⟨_, .inl ⟨SqL.of (same_new ht1 _ _ _ hu1), fun t2 ht2 => ⟨by show (2 : Nat) ≤ sizeLine; decide, fun b hb => ?_⟩⟩⟩⟩⟩
  have S := (same_new ht1 (.tup ((kindsR rs).map V.str))).trans ((same_new ht2 (.tup (ra.map V.ref))).trans (same_new hb (.tup [V.ref t1, V.ref t2])))
  exact q b _ ((b1.trans (b2.trans s1)).trans S) ⟨t1, t2, ra, upd_same, same_new hb _ _ _ (same_new ht2 _ _ _ upd_same), same_new hb _ _ _ upd_same, hr.keep (Tk.of S)⟩
noncomputable abbrev sHand : Stmt := top 41
theorem scHand : FnScope ["cell", "k"] ["cell", "k"] (defScope sHand) := ⟨rfl, rfl, rfl, by decide +kernel, rfl, by decide +kernel, by decide +kernel⟩
theorem hasHand (G : Gs w K mg) (D : Def K mg "_law_hand" sHand ["cell", "k"]) : Has P w K mg base (k + 1) "_law_hand" ["cell", "k"] spHand := by
 refine D.has scHand (fun vs H Q E h => ?_) (fun f cdv A outer s H vs Q E hr h => ?_)
 ·obtain ⟨_, _, rfl, _, _⟩ := h
  rfl
 have nd := scHand.nd
 have hu := hu_of hr
 have hu0 := Nat.lt_of_succ_lt hu
 obtain ⟨c, k, rfl, hk, q⟩ := h
 refine ⟨_, (@pss_one _ _ _ (@ps_ret _ _ _ _ (@pe_lst _ _ _ _ (@pa_cons _ _ _ _ _ (@pe_int _ _ _ _) (@pa_cons _ _ _ _ _ (@pe_op _ _ _ _ _ _ _ _ (@op_modD _) (@pe_op _ _ _ _ _ _ _ _ (@op_mulD _) (@pe_op _ _ _ _ _ _ _ _ (@op_addD _) (@pe_op _ _ _ _ _ _ _ _ (@op_addD _) (@pe_op _ _ _ _ _ _ _ _ (@op_modD _) (@pvD _ 0 _ _ (by rfl) (by first | exact Or.inl rfl | exact Or.inr (Or.inl rfl) | exact Or.inr (Or.inr rfl)) (by decide) (by decide)) (@pe_int _ _ _ _)) (@pe_op _ _ _ _ _ _ _ _ (@op_mulD _) (@pe_int _ _ _ _) (@pvD _ 1 _ _ (by rfl) (by first | exact Or.inl rfl | exact Or.inr (Or.inl rfl) | exact Or.inr (Or.inr rfl)) (by decide) (by decide)))) (@pe_int _ _ _ _)) (@pe_int _ _ _ _)) (@pe_int _ _ _ _)) (@pa_cons _ _ _ _ _ (@pvD _ 0 _ _ (by rfl) (by first | exact Or.inl rfl | exact Or.inr (Or.inl rfl) | exact Or.inr (Or.inr rfl)) (by decide) (by decide)) (@pa_nil _) (by rfl)) (by rfl)) (by rfl))))), ?_⟩
 rw [show start ["cell", "k"] [.int c, .int (k : Int)] = [some (.int c), some (.int (k : Int))] from rfl]
 clear hu hu0 nd hr
 push_cast [and_true]
 have e0 : 0 ≤ c % 1000000007 := Int.emod_nonneg _ (by decide)
 have e1 : c % 1000000007 < 1000000007 := Int.emod_lt_of_pos _ (by decide)
 refine ⟨.inl ⟨by decide, by decide⟩, .inr ⟨by decide, by decide⟩, by show (3 : Nat) ≤ sizeLine; decide, fun p hp => q p _ (same_new hp _) hp ⟨_, _, _, upd_same, Int.le_refl _, Int.le_refl _, Int.emod_nonneg _ (by decide), Int.emod_lt_of_pos _ (by decide)⟩⟩
noncomputable abbrev sDraw : Stmt := top 42
theorem scDraw : FnScope ["hand", "limit", "found"] ["hand", "limit"] (defScope sDraw) := ⟨rfl, rfl, rfl, by decide +kernel, rfl, by decide +kernel, by decide +kernel⟩
theorem hasDraw (G : Gs w K mg) (D : Def K mg "_law_draw" sDraw ["hand", "limit"]) : Has P w K mg base (k + 1) "_law_draw" ["hand", "limit"] spDraw := by
 refine D.has scDraw (fun vs H Q E h => ?_) (fun f cdv A outer s H vs Q E hr h => ?_)
 ·obtain ⟨_, _, _, rfl, _, _, _, _, _⟩ := h
  rfl
 have nd := scDraw.nd
 have hu := hu_of hr
 have hu0 := Nat.lt_of_succ_lt hu
 obtain ⟨h, m, n, rfl, hh, hn, hm, hb, q⟩ := h
 refine ⟨_, (@pss_cons _ _ _ _ _ (@ps_if _ _ _ _ _ _ _ _ (@PW.pt _ _ _ (@pw_or _ _ _ _ _ _ _ (@pt_cmpRD _ _ _ _ _ _ _ _ (@op_geD _) (@pe_ix _ _ _ _ _ _ _ (@ix_list _) (@pvD _ 0 _ _ (by rfl) (by first | exact Or.inl rfl | exact Or.inr (Or.inl rfl) | exact Or.inr (Or.inr rfl)) (by decide) (by decide)) (@pe_int _ _ _ _) (fun _ _ => rfl)) (@pe_int _ _ _ _) (@nomark _ _ (by decide) (by decide))) (@pw_or1 _ _ _ _ (@pt_cmpRD _ _ _ _ _ _ _ _ (@op_ltD _) (@pe_ix _ _ _ _ _ _ _ (@ix_list _) (@pvD _ 0 _ _ (by rfl) (by first | exact Or.inl rfl | exact Or.inr (Or.inl rfl) | exact Or.inr (Or.inr rfl)) (by decide) (by decide)) (@pe_int _ _ _ _) (fun _ _ => rfl)) (@pe_un _ _ _ _ _ _ (@un_negD _) (@pe_int _ _ _ _)) (@nomark _ _ (by decide) (by decide)))))) (@pss_cons _ _ _ _ _ (@ps_set _ _ 2 _ _ _ _ nd rfl (by first | exact Or.inl rfl | exact Or.inr rfl) (@pe_op _ _ _ _ _ _ _ _ (@op_modD _) (@pe_ix _ _ _ _ _ _ _ (@ix_list _) (@pvD _ 0 _ _ (by rfl) (by first | exact Or.inl rfl | exact Or.inr (Or.inl rfl) | exact Or.inr (Or.inr rfl)) (by decide) (by decide)) (@pe_int _ _ _ _) (fun _ _ => rfl)) (@pvD _ 1 _ _ (by rfl) (by first | exact Or.inl rfl | exact Or.inr (Or.inl rfl) | exact Or.inr (Or.inr rfl)) (by decide) (by decide))) (by rfl) (by first | exact .inl rfl | exact .inr rfl | assumption)) (@pss_cons _ _ _ _ _ (@ps_asg _ _ _ _ _ _ (@pe_op _ _ _ _ _ _ _ _ (@op_fdivB _) (@pe_ix _ _ _ _ _ _ _ (@ix_list _) (@pvD _ 0 _ _ (by rfl) (by first | exact Or.inl rfl | exact Or.inr (Or.inl rfl) | exact Or.inr (Or.inr rfl)) (by decide) (by decide)) (@pe_int _ _ _ _) (fun _ _ => rfl)) (@pvD _ 1 _ _ (by rfl) (by first | exact Or.inl rfl | exact Or.inr (Or.inl rfl) | exact Or.inr (Or.inr rfl)) (by decide) (by decide))) (@pg_sub _ _ _ _ _ _ _ (@pvD _ 0 _ _ (by rfl) (by first | exact Or.inl rfl | exact Or.inr (Or.inl rfl) | exact Or.inr (Or.inr rfl)) (by decide) (by decide)) (@pe_int _ _ _ _) (@set_list _) (by intro _; rfl)) (by rfl) (by rfl) (by rfl)) (@pss_one _ _ _ (@ps_ret _ _ _ _ (@pvD _ 2 _ _ (by rfl) (by first | exact Or.inl rfl | exact Or.inr (Or.inl rfl) | exact Or.inr (Or.inr rfl)) (by decide) (by decide)))))) (@pss_nil _)) (@pss_cons _ _ _ _ _ (@ps_asg _ _ _ _ _ _ (@pe_op _ _ _ _ _ _ _ _ (@op_addD _) (@pe_ix _ _ _ _ _ _ _ (@ix_list _) (@pvD _ 0 _ _ (by rfl) (by first | exact Or.inl rfl | exact Or.inr (Or.inl rfl) | exact Or.inr (Or.inr rfl)) (by decide) (by decide)) (@pe_int _ _ _ _) (fun _ _ => rfl)) (@pe_int _ _ _ _)) (@pg_sub _ _ _ _ _ _ _ (@pvD _ 0 _ _ (by rfl) (by first | exact Or.inl rfl | exact Or.inr (Or.inl rfl) | exact Or.inr (Or.inr rfl)) (by decide) (by decide)) (@pe_int _ _ _ _) (@set_list _) (by intro _; rfl)) (by rfl) (by rfl) (by rfl)) (@pss_cons _ _ _ _ _ (@ps_asg _ _ _ _ _ _ (@pe_op _ _ _ _ _ _ _ _ (@op_modD _) (@pe_op _ _ _ _ _ _ _ _ (@op_addD _) (@pe_op _ _ _ _ _ _ _ _ (@op_addD _) (@pe_op _ _ _ _ _ _ _ _ (@op_mulB _) (@pe_ix _ _ _ _ _ _ _ (@ix_list _) (@pvD _ 0 _ _ (by rfl) (by first | exact Or.inl rfl | exact Or.inr (Or.inl rfl) | exact Or.inr (Or.inr rfl)) (by decide) (by decide)) (@pe_int _ _ _ _) (fun _ _ => rfl)) (@pe_ix _ _ _ _ _ _ _ (@ix_list _) (@pvD _ 0 _ _ (by rfl) (by first | exact Or.inl rfl | exact Or.inr (Or.inl rfl) | exact Or.inr (Or.inr rfl)) (by decide) (by decide)) (@pe_int _ _ _ _) (fun _ _ => rfl))) (@pe_op _ _ _ _ _ _ _ _ (@op_mulD _) (@pe_int _ _ _ _) (@pe_ix _ _ _ _ _ _ _ (@ix_list _) (@pvD _ 0 _ _ (by rfl) (by first | exact Or.inl rfl | exact Or.inr (Or.inl rfl) | exact Or.inr (Or.inr rfl)) (by decide) (by decide)) (@pe_int _ _ _ _) (fun _ _ => rfl)))) (@pe_int _ _ _ _)) (@pe_int _ _ _ _)) (@pg_sub _ _ _ _ _ _ _ (@pvD _ 0 _ _ (by rfl) (by first | exact Or.inl rfl | exact Or.inr (Or.inl rfl) | exact Or.inr (Or.inr rfl)) (by decide) (by decide)) (@pe_int _ _ _ _) (@set_list _) (by intro _; rfl)) (by rfl) (by rfl) (by rfl)) (@pss_one _ _ _ (@ps_ret _ _ _ _ (@pe_op _ _ _ _ _ _ _ _ (@op_modD _) (@pe_op _ _ _ _ _ _ _ _ (@op_fdivB _) (@pe_ix _ _ _ _ _ _ _ (@ix_list _) (@pvD _ 0 _ _ (by rfl) (by first | exact Or.inl rfl | exact Or.inr (Or.inl rfl) | exact Or.inr (Or.inr rfl)) (by decide) (by decide)) (@pe_int _ _ _ _) (fun _ _ => rfl)) (@pe_int _ _ _ _)) (@pvD _ 1 _ _ (by rfl) (by first | exact Or.inl rfl | exact Or.inr (Or.inl rfl) | exact Or.inr (Or.inr rfl)) (by decide) (by decide)))))))), ?_⟩
 rw [show start ["hand", "limit", "found"] [.ref h, .int m] = [some (.ref h), some (.int m), none] from rfl]
 clear hu hu0 nd hr
 push_cast [gSub, rSetL]
 obtain ⟨a, b, c, h1, a0, an, b0, b1⟩ := hh
 refine rIxL_ok h1 rfl ?_
 push_cast [and_true]
 have x0 : 0 ≤ c % m := Int.emod_nonneg _ (by omega)
 have x1 : c % m < m := Int.emod_lt_of_pos _ hm
 have one : rIxL K (V.ref h) (V.int 2) H fun x H1 => (match x, V.int m with | V.int i, V.int j => 0 < j ∧ rIxL K (V.ref h) (V.int 2) H1 fun x H1 => ∃ i_1, x = V.int i_1 ∧ CDivB i_1 m ∧ ∃ x, H1 h = some (HO.lst x) ∧ ∃ x_1, ixN x.length 2 = some x_1 ∧ Q (V.int (i % j)) (upd H1 h (HO.lst (x.set x_1 (V.int (i_1 / m))))) | x, x_1 => False) :=
  rIxL_ok h1 rfl ⟨hm, rIxL_ok h1 rfl ⟨c, rfl, ⟨hm, hb⟩, _, h1, 2, rfl, q _ _ (fun b o nb ho => by rw [upd_ne nb]; exact ho) ⟨a, b, c / m, upd_same, a0, by omega, b0, b1⟩ x0 x1⟩⟩
 refine ite2 (fun _ => one) fun _ => rIxL_ok h1 rfl ?_
 push_cast [and_true]
 refine ite2 (fun _ => one) fun _ => rIxL_ok h1 rfl ?_
 have bb : b.natAbs < 2 ^ 40 := Nat.lt_of_lt_of_le (show b.natAbs < 1000000007 by omega) (by decide)
 refine ⟨_, h1, 0, rfl, rIxL_ok upd_same rfl (rIxL_ok upd_same rfl ⟨b, rfl, b, rfl, ⟨⟨40, by decide, bb⟩, ⟨40, by decide, bb⟩⟩, rIxL_ok upd_same rfl ⟨.inl ⟨by decide, by decide⟩, _, upd_same, 1, rfl, rIxL_ok upd_same rfl ⟨_, rfl, ⟨by decide, by decide +kernel⟩, hm, ?_⟩⟩⟩)⟩
 refine q _ _ (fun b' o nb ho => by rw [upd_ne nb, upd_ne nb]; exact ho) ⟨_, _, _, upd_same, ?_, ?_, Int.emod_nonneg _ (by decide), Int.emod_lt_of_pos _ (by decide)⟩ (Int.emod_nonneg _ (by omega)) (Int.emod_lt_of_pos _ hm)
 ·omega
 ·omega
noncomputable abbrev sNamesL : Stmt := top 43
theorem scNamesL : FnScope ["hand", "size", "letters", "base", "at", "shift", "names", "k", "middle", "name"] ["hand", "size"] (defScope sNamesL) := ⟨rfl, rfl, rfl, by decide +kernel, rfl, by decide +kernel, by decide +kernel⟩
theorem hasNamesL (G : Gs w K mg) (h_law_draw : Has P w K mg base k "_law_draw" ["hand", "limit"] spDraw) (D : Def K mg "_law_names" sNamesL ["hand", "size"]) : Has P w K mg base (k + 1) "_law_names" ["hand", "size"] spNamesL := by
 refine D.has scNamesL (fun vs H Q E h => ?_) (fun f cdv A outer s H vs Q E hr h => ?_)
 ·obtain ⟨_, rfl, _, _⟩ := h
  rfl
 have nd := scNamesL.nd
 have hu := hu_of hr
 have hu0 := Nat.lt_of_succ_lt hu
 obtain ⟨h, rfl, hh, q⟩ := h
 have m_len := G.m_len
 have m_range := G.m_range
 refine ⟨_, (@pss_cons _ _ _ _ _ (@ps_set _ _ 2 _ _ _ _ nd rfl (by first | exact Or.inl rfl | exact Or.inr rfl) (@pe_str _ _ _ _) (by rfl) (by first | exact .inl rfl | exact .inr rfl | assumption)) (@pss_cons _ _ _ _ _ (@ps_set _ _ 3 _ _ _ _ nd rfl (by first | exact Or.inl rfl | exact Or.inr rfl) (@pe_bm _ _ _ _ _ _ _ _ _ _ _ _ PySem.F.plainAttrs_str PySem.F.slot_str_join PySem.F.type_str_join (@mt_join _) (@pe_str _ _ _ _) (@pa_cons _ _ _ _ _ (@pe_lc _ _ _ _ _ _ _ _ _ _ _ _ _ _ _ (@ClOk.mk _ _ ["k"] ["letters", "hand"] [2, 0] _ rfl rfl rfl rfl (And.intro rfl (And.intro rfl trivial)) rfl (And.intro (And.intro rfl (And.intro rfl rfl)) (And.intro (And.intro rfl (And.intro rfl rfl)) trivial))) rfl (@pi_range1 _ _ _ _ _ _ rfl m_range (@pa_cons _ _ _ _ _ (@pe_has _ _ _ _ _ _ _ _ _ _ h_law_draw hr (@pa_cons _ _ _ _ _ (@pvD _ 0 _ _ (by rfl) (by first | exact Or.inl rfl | exact Or.inr (Or.inl rfl) | exact Or.inr (Or.inr rfl)) (by decide) (by decide)) (@pa_cons _ _ _ _ _ (@pe_int _ _ _ _) (@pa_nil _) (by rfl)) (by rfl)) (by rfl) (by decide +kernel) (by rfl) (by rfl)) (@pa_nil _) (by rfl)) (by rfl)) (fun _ _ _ => (@pg_name _ _ 0 _ (show List.Nodup (["k", "letters", "hand"] : List Str) by decide +kernel) rfl (Or.inl rfl) (by first | exact .inl rfl | exact .inr rfl | assumption))) (fun _ _ _ => (@pif0 _)) (fun _ _ _ => (@pe_ix _ _ _ _ _ _ _ (@ix_str _) (@pvD _ 1 _ _ (by rfl) (by first | exact Or.inl rfl | exact Or.inr (Or.inl rfl) | exact Or.inr (Or.inr rfl)) (by decide) (by decide)) (@pe_has _ _ _ _ _ _ _ _ _ _ h_law_draw hr (@pa_cons _ _ _ _ _ (@pvD _ 2 _ _ (by rfl) (by first | exact Or.inl rfl | exact Or.inr (Or.inl rfl) | exact Or.inr (Or.inr rfl)) (by decide) (by decide)) (@pa_cons _ _ _ _ _ (@pe_int _ _ _ _) (@pa_nil _) (by rfl)) (by rfl)) (by rfl) (by decide +kernel) (by rfl) (by rfl)) (fun _ _ => rfl))) (by intro _; rfl)) (@pa_nil _) (by rfl)) (by rfl) (by rfl) (by rfl) (by rfl) (by rfl)) (by rfl) (by first | exact .inl rfl | exact .inr rfl | assumption)) (@pss_cons _ _ _ _ _ (@ps_set _ _ 4 _ _ _ _ nd rfl (by first | exact Or.inl rfl | exact Or.inr rfl) (@pe_has _ _ _ _ _ _ _ _ _ _ h_law_draw hr (@pa_cons _ _ _ _ _ (@pvD _ 0 _ _ (by rfl) (by first | exact Or.inl rfl | exact Or.inr (Or.inl rfl) | exact Or.inr (Or.inr rfl)) (by decide) (by decide)) (@pa_cons _ _ _ _ _ (@pe_op _ _ _ _ _ _ _ _ (@op_addD _) (@pe_callB _ _ _ _ _ _ _ _ _ (@call_len_str _) rfl m_len b_len (@pa_cons _ _ _ _ _ (@pvD _ 3 _ _ (by rfl) (by first | exact Or.inl rfl | exact Or.inr (Or.inl rfl) | exact Or.inr (Or.inr rfl)) (by decide) (by decide)) (@pa_nil _) (by rfl)) (by decide) (by decide) (by rfl) (by rfl)) (@pe_int _ _ _ _)) (@pa_nil _) (by rfl)) (by rfl)) (by rfl) (by decide +kernel) (by rfl) (by rfl)) (by rfl) (by first | exact .inl rfl | exact .inr rfl | assumption)) (@pss_cons _ _ _ _ _ (@ps_set _ _ 5 _ _ _ _ nd rfl (by first | exact Or.inl rfl | exact Or.inr rfl) (@pe_has _ _ _ _ _ _ _ _ _ _ h_law_draw hr (@pa_cons _ _ _ _ _ (@pvD _ 0 _ _ (by rfl) (by first | exact Or.inl rfl | exact Or.inr (Or.inl rfl) | exact Or.inr (Or.inr rfl)) (by decide) (by decide)) (@pa_cons _ _ _ _ _ (@pe_int _ _ _ _) (@pa_nil _) (by rfl)) (by rfl)) (by rfl) (by decide +kernel) (by rfl) (by rfl)) (by rfl) (by first | exact .inl rfl | exact .inr rfl | assumption)) (@pss_cons _ _ _ _ _ (@ps_set _ _ 6 _ _ _ _ nd rfl (by first | exact Or.inl rfl | exact Or.inr rfl) (@pe_lst _ _ _ _ (@pa_nil _)) (by rfl) (by first | exact .inl rfl | exact .inr rfl | assumption)) (@pss_cons _ _ _ _ _ (@ps_for _ _ _ _ _ _ _ _ PassesOwn.never rfl (@pi_range1 _ _ _ _ _ _ rfl m_range (@pa_cons _ _ _ _ _ (@pvD _ 1 _ _ (by rfl) (by first | exact Or.inl rfl | exact Or.inr (Or.inl rfl) | exact Or.inr (Or.inr rfl)) (by decide) (by decide)) (@pa_nil _) (by rfl)) (by rfl)) (@pg_name _ _ 7 _ nd rfl (by first | exact Or.inl rfl | exact Or.inr rfl) (by first | exact .inl rfl | exact .inr rfl | assumption)) (@pss_cons _ _ _ _ _ (@ps_set _ _ 8 _ _ _ _ nd rfl (by first | exact Or.inl rfl | exact Or.inr rfl) (@pe_op _ _ _ _ _ _ _ _ (@op_add_str _) (@pe_ix _ _ _ _ _ _ _ (@ix_str _) (@pvD _ 2 _ _ (by rfl) (by first | exact Or.inl rfl | exact Or.inr (Or.inl rfl) | exact Or.inr (Or.inr rfl)) (by decide) (by decide)) (@pe_op _ _ _ _ _ _ _ _ (@op_modD _) (@pe_op _ _ _ _ _ _ _ _ (@op_addD _) (@pvD _ 7 _ _ (by rfl) (by first | exact Or.inl rfl | exact Or.inr (Or.inl rfl) | exact Or.inr (Or.inr rfl)) (by decide) (by decide)) (@pvD _ 5 _ _ (by rfl) (by first | exact Or.inl rfl | exact Or.inr (Or.inl rfl) | exact Or.inr (Or.inr rfl)) (by decide) (by decide))) (@pe_int _ _ _ _)) (fun _ _ => rfl)) (@pe_ix _ _ _ _ _ _ _ (@ix_str _) (@pvD _ 2 _ _ (by rfl) (by first | exact Or.inl rfl | exact Or.inr (Or.inl rfl) | exact Or.inr (Or.inr rfl)) (by decide) (by decide)) (@pe_op _ _ _ _ _ _ _ _ (@op_modD _) (@pe_op _ _ _ _ _ _ _ _ (@op_addD _) (@pe_op _ _ _ _ _ _ _ _ (@op_fdivD _) (@pvD _ 7 _ _ (by rfl) (by first | exact Or.inl rfl | exact Or.inr (Or.inl rfl) | exact Or.inr (Or.inr rfl)) (by decide) (by decide)) (@pe_int _ _ _ _)) (@pvD _ 5 _ _ (by rfl) (by first | exact Or.inl rfl | exact Or.inr (Or.inl rfl) | exact Or.inr (Or.inr rfl)) (by decide) (by decide))) (@pe_int _ _ _ _)) (fun _ _ => rfl))) (by rfl) (by first | exact .inl rfl | exact .inr rfl | assumption)) (@pss_cons _ _ _ _ _ (@ps_set _ _ 9 _ _ _ _ nd rfl (by first | exact Or.inl rfl | exact Or.inr rfl) (@pe_op _ _ _ _ _ _ _ _ (@op_add_str _) (@pe_op _ _ _ _ _ _ _ _ (@op_add_str _) (@pe_slice _ _ _ _ _ _ _ _ _ _ (@sl_str _) (@pvD _ 3 _ _ (by rfl) (by first | exact Or.inl rfl | exact Or.inr (Or.inl rfl) | exact Or.inr (Or.inr rfl)) (by decide) (by decide)) (@po_none _) (@po_someD _ _ _ (@pvD _ 4 _ _ (by rfl) (by first | exact Or.inl rfl | exact Or.inr (Or.inl rfl) | exact Or.inr (Or.inr rfl)) (by decide) (by decide)))) (@pvD _ 8 _ _ (by rfl) (by first | exact Or.inl rfl | exact Or.inr (Or.inl rfl) | exact Or.inr (Or.inr rfl)) (by decide) (by decide))) (@pe_slice _ _ _ _ _ _ _ _ _ _ (@sl_str _) (@pvD _ 3 _ _ (by rfl) (by first | exact Or.inl rfl | exact Or.inr (Or.inl rfl) | exact Or.inr (Or.inr rfl)) (by decide) (by decide)) (@po_someD _ _ _ (@pvD _ 4 _ _ (by rfl) (by first | exact Or.inl rfl | exact Or.inr (Or.inl rfl) | exact Or.inr (Or.inr rfl)) (by decide) (by decide))) (@po_none _))) (by rfl) (by first | exact .inl rfl | exact .inr rfl | assumption)) (@pss_mid _ _ _ _ _ (@ps_if _ _ _ _ _ _ _ _ (@pt_cmpRD _ _ _ _ _ _ _ _ (@op_in_seq _) (@pvD _ 9 _ _ (by rfl) (by first | exact Or.inl rfl | exact Or.inr (Or.inl rfl) | exact Or.inr (Or.inr rfl)) (by decide) (by decide)) (@pe_tup _ _ _ _ _ (@pa_const _ _ _ (@CsOk.str _ _ _ _ _ (@CsOk.str _ _ _ _ _ (@CsOk.str _ _ _ _ _ (@CsOk.str _ _ _ _ _ (@CsOk.str _ _ _ _ _ (@CsOk.str _ _ _ _ _ (@CsOk.str _ _ _ _ _ (@CsOk.str _ _ _ _ _ (@CsOk.str _ _ _ _ _ (@CsOk.nil)))))))))))) (by with_unfolding_all rfl)) (@pss_one _ _ _ (@ps_set _ _ 9 _ _ _ _ nd rfl (by first | exact Or.inl rfl | exact Or.inr rfl) (@pe_op _ _ _ _ _ _ _ _ (@op_add_str _) (@pvD _ 9 _ _ (by rfl) (by first | exact Or.inl rfl | exact Or.inr (Or.inl rfl) | exact Or.inr (Or.inr rfl)) (by decide) (by decide)) (@pe_str _ _ _ _)) (by rfl) (by first | exact .inl rfl | exact .inr rfl | assumption))) (@pss_nil _)) (@pss_one _ _ _ (@ps_expr _ _ _ _ (@pe_bm _ _ _ _ _ _ _ _ _ _ _ _ PySem.F.plainAttrs_list PySem.F.slot_list_append PySem.F.type_list_append (@mt_append _) (@pvD _ 6 _ _ (by rfl) (by first | exact Or.inl rfl | exact Or.inr (Or.inl rfl) | exact Or.inr (Or.inr rfl)) (by decide) (by decide)) (@pa_cons _ _ _ _ _ (@pvD _ 9 _ _ (by rfl) (by first | exact Or.inl rfl | exact Or.inr (Or.inl rfl) | exact Or.inr (Or.inr rfl)) (by decide) (by decide)) (@pa_nil _) (by rfl)) (by rfl) (by rfl) (by rfl) (by rfl) (by rfl)) (by rfl)))))) (by intro _; rfl)) (@pss_one _ _ _ (@ps_ret _ _ _ _ (@pvD _ 6 _ _ (by rfl) (by first | exact Or.inl rfl | exact Or.inr (Or.inl rfl) | exact Or.inr (Or.inr rfl)) (by decide) (by decide)))))))))), ?_⟩
 rw [show start ["hand", "size", "letters", "base", "at", "shift", "names", "k", "middle", "name"] [.ref h, .int 20] = [some (.ref h), some (.int 20), none, none, none, none, none, none, none, none] from rfl]
 clear hu hu0 nd hr
 push_cast [and_true]
 have sz := sizeLine_eq
 have ll : (Str.ofString "abcdefghijklmnopqrstuvwxyz").length ≤ sizeLine := by decide +kernel
 have la : ∀ a b : Str, (a ++ b).length = a.length + b.length := fun a b => Array.size_append
 have frH : ∀ {t : Addr} {H4 : Hp} {k : Nat}, HandAt H4 h k → SameB h H H4 → H4 t = none → H t = none := fun a s ht => by obtain ⟨_, _, _, h1, _⟩ := a; exact s.free h1 ht
 refine draw_ok hh (by omega) (by decide) (by decide +kernel) fun x H1 s1 hh1 x0 x7 => ⟨x, rfl, by omega, by omega, fun D hD => ?_⟩
 have HD := frH hh1 s1 hD
 have nD : D ≠ h := fun e => by obtain ⟨a, b, c, h1, _⟩ := hh1; rw [e, h1] at hD; cases hD
 refine lc_rngM (fun i ys H2 => (∃ zs : List Str, ys = zs.map V.str ∧ zs.length = i ∧ ∀ z ∈ zs, z.length = 1 ∧ ∀ c ∈ z.cps.toList, 97 ≤ c ∧ c ≤ 122) ∧ SameB h H H2 ∧ HandAt H2 h (1 + i)) (by omega) ⟨⟨[], rfl, rfl, fun _ h => nomatch h⟩, s1.upd HD _, hh1.same (same_new hD _)⟩ (fun i ys H2 G' K' hi hP hl hD2 hG hK => ?_) fun ys H2 hP hl hD2 => ?_
 ·obtain ⟨⟨zs, rfl, z1, z2⟩, s2, hh2⟩ := hP
  push_cast [and_true]
  refine draw_ok hh2 (by omega) (by decide) (by decide +kernel) fun y H3 s3 hh3 y0 y1 => ?_
  obtain ⟨c, hc, c0, c1⟩ := let_of y0 y1
  refine ⟨_, _, _, rfl, rfl, ll, hc, hK _ _ (s3 _ _ nD hD2) ⟨⟨zs ++ [⟨#[c]⟩], by rw [List.map_append]; rfl, by rw [List.length_append, z1]; rfl, fun z hz => ?_⟩, (s2.trans s3).upd HD _, ?_⟩⟩
  ·rcases List.mem_append.mp hz with m | m
   ·exact z2 z m
   ·rw [List.mem_singleton.mp m]
    exact ⟨rfl, fun c' hc' => by have e : c' = c := (by simpa using hc'); omega⟩
  ·obtain ⟨a, b, c', h1, r⟩ := hh3
   exact HandAt.le ⟨a, b, c', by rw [upd_ne nD.symm]; exact h1, r⟩ (by omega)
 obtain ⟨⟨zs, rfl, z1, z2⟩, s2, hh2⟩ := hP
 have e0 : (Str.ofString "").length = 0 := by decide +kernel
 have sum1 := sum_ones zs fun z hz => (z2 z hz).1
 have jl := join_le (Str.ofString "") zs
 rw [e0, Nat.mul_zero, Nat.add_zero, sum1] at jl
 have jc : ∀ c ∈ (Txt.join (Str.ofString "") zs).cps.toList, 97 ≤ c ∧ c ≤ 122 := fun c hc => by
  obtain ⟨z, hz, h⟩ := joined_mem hc
  exact (z2 z hz).2 c h
 refine ⟨zs, SqL.of hD2, by rw [e0, Nat.mul_zero, Nat.add_zero, sum1]; omega, by omega, ?_⟩
 generalize Txt.join (Str.ofString "") zs = bs at jl jc ⊢
 refine draw_ok hh2 (by omega) (by omega) ?_ fun y H3 s3 hh3 y0 y1 => draw_ok hh3 (by omega) (by decide) (by decide +kernel) fun sh H4 s4 hh4 sh0 sh1 => ⟨Nat.zero_le _, fun nl hnl => ?_⟩
 ·by_cases m00 : ((bs.length : Int) + 1).natAbs = 0
  ·omega
  ·exact Nat.lt_of_lt_of_le ((Nat.log2_lt m00).mpr (show ((bs.length : Int) + 1).natAbs < 2 ^ 20 from Nat.lt_of_le_of_lt (show ((bs.length : Int) + 1).natAbs ≤ 8 by omega) (by decide +kernel))) (by decide)
 have S4 := s2.trans (s3.trans s4)
 have HL := frH hh4 S4 hnl
 have bl : bs.length ≤ 6 := by omega
 clear hh hh1 hh2 hh3 hD2 z1 z2 sum1 s1 s2 s3 s4 hD x7 x0
 refine forW_range (lo := 0) (fun j σ H' => ∃ (zs : List Str) (v7 v8 v9 : Option V), σ = [some (.ref h), some (.int 20), some (.str (Str.ofString "abcdefghijklmnopqrstuvwxyz")), some (.str bs), some (.int y), some (.int sh), some (.ref nl), v7, v8, v9] ∧ SameB h H H' ∧ H' nl = some (.lst (zs.map V.str)) ∧ zs.length = j ∧ ∀ z ∈ zs, nameB z = true) ⟨[], none, none, none, rfl, S4.upd HL _, upd_same, rfl, fun _ h => nomatch h⟩ ?_ ?_
 ·rintro j σ H5 hj ⟨us, v7, v8, v9, rfl, s5, hl5, ul, un⟩
  push_cast [rIxS]
  obtain ⟨c, hc, c26⟩ := let_at (0 + (j : Int) + sh)
  obtain ⟨e, he, e26⟩ := let_at ((0 + (j : Int)) / 26 + sh)
  have hj : j < 20 := hj
  have k1 := cut_sum bs y
  have l1 := one_len (97 + c)
  have l2 := one_len (97 + e)
  refine ⟨ll, 97 + c, hc, ll, 97 + e, he, by omega, by omega, by rw [la]; omega, by omega, by rw [la, la]; omega, ?_⟩
  have zc : ∀ x ∈ (cutS bs none (some y) ++ ((⟨#[97 + c]⟩ : Str) ++ ⟨#[97 + e]⟩) ++ cutS bs (some y) none).cps.toList, 97 ≤ x ∧ x ≤ 122 := fun x hx => by
   simp only [Str.cps_append, Array.toList_append, List.mem_append] at hx
   rcases hx with (hx | hx | hx) | hx
   ·exact jc x (mem_cut hx)
   ·have hx : x = 97 + c := by simpa using hx
    omega
   ·have hx : x = 97 + e := by simpa using hx
    omega
   ·exact jc x (mem_cut hx)
  have zl : 1 ≤ (cutS bs none (some y) ++ ((⟨#[97 + c]⟩ : Str) ++ ⟨#[97 + e]⟩) ++ cutS bs (some y) none).length ∧ (cutS bs none (some y) ++ ((⟨#[97 + c]⟩ : Str) ++ ⟨#[97 + e]⟩) ++ cutS bs (some y) none).length ≤ 8 := by
   rw [la, la, la]
   omega
  generalize cutS bs none (some y) ++ ((⟨#[97 + c]⟩ : Str) ++ ⟨#[97 + e]⟩) ++ cutS bs (some y) none = z at zc zl ⊢
  obtain ⟨nx, nn⟩ := name_of zl.1 zl.2 zc
  refine tMid_of (fun σ' H' => ∃ u, σ' = [some (.ref h), some (.int 20), some (.str (Str.ofString "abcdefghijklmnopqrstuvwxyz")), some (.str bs), some (.int y), some (.int sh), some (.ref nl), some (.int (0 + (j : Int))), some (.str ((⟨#[97 + c]⟩ : Str) ++ ⟨#[97 + e]⟩)), some (.str u)] ∧ SameB h H H' ∧ H' nl = some (.lst (us.map V.str)) ∧ nameB u = true) ?_ ?_
  ·push_cast [rIn]
   refine ⟨by show (9 : Nat) ≤ sizeLine; decide, fun p hp => ⟨_, .inr (SqT.of upd_same), rfl, rfl, ?_⟩⟩
   have s6 := s5.trans (SameB.of (same_new hp (.tup keptV)))
   refine ite2 (fun c' => ⟨by rw [show (Str.ofString "x").length = 1 by decide +kernel]; omega, s6, same_new hp _ _ _ hl5, nx c'⟩) fun c' => ⟨s6, same_new hp _ _ _ hl5, nn (Bool.eq_false_iff.mpr c')⟩
  ·rintro σ' H6 ⟨u, rfl, s6, hl6, hu⟩
   push_cast [and_true]
   refine append_ok hl6 (by rw [List.length_map]; omega) ⟨s6.upd HL _, us ++ [u], by rw [upd_same, List.map_append]; rfl, by rw [List.length_append, ul]; rfl, fun z' hz' => ?_⟩
   rcases List.mem_append.mp hz' with m | m
   ·exact un z' m
   ·rw [List.mem_singleton.mp m]; exact hu
 ·rintro σ H5 ⟨us, v7, v8, v9, rfl, s5, hl5, ul, un⟩
  push_cast [and_true]
  exact q nl H5 s5 HL ⟨us, hl5, ul, un⟩
noncomputable abbrev sNumL : Stmt := top 44
theorem scNumL : FnScope ["hand", "style", "number"] ["hand"] (defScope sNumL) := ⟨rfl, rfl, rfl, by decide +kernel, rfl, by decide +kernel, by decide +kernel⟩
theorem hasNumL (G : Gs w K mg) (h_law_draw : Has P w K mg base k "_law_draw" ["hand", "limit"] spDraw) (D : Def K mg "_law_number" sNumL ["hand"]) : Has P w K mg base (k + 1) "_law_number" ["hand"] spNumL := by
 refine D.has scNumL (fun vs H Q E h => ?_) (fun f cdv A outer s H vs Q E hr h => ?_)
 ·obtain ⟨_, _, rfl, _, _, _⟩ := h
  rfl
 have nd := scNumL.nd
 have hu := hu_of hr
 have hu0 := Nat.lt_of_succ_lt hu
 obtain ⟨h, n, rfl, hh, hn, q⟩ := h
 refine ⟨_, (@pss_cons _ _ _ _ _ (@ps_set _ _ 1 _ _ _ _ nd rfl (by first | exact Or.inl rfl | exact Or.inr rfl) (@pe_has _ _ _ _ _ _ _ _ _ _ h_law_draw hr (@pa_cons _ _ _ _ _ (@pvD _ 0 _ _ (by rfl) (by first | exact Or.inl rfl | exact Or.inr (Or.inl rfl) | exact Or.inr (Or.inr rfl)) (by decide) (by decide)) (@pa_cons _ _ _ _ _ (@pe_int _ _ _ _) (@pa_nil _) (by rfl)) (by rfl)) (by rfl) (by decide +kernel) (by rfl) (by rfl)) (by rfl) (by first | exact .inl rfl | exact .inr rfl | assumption)) (@pss_cons _ _ _ _ _ (@ps_set _ _ 2 _ _ _ _ nd rfl (by first | exact Or.inl rfl | exact Or.inr rfl) (@pe_has _ _ _ _ _ _ _ _ _ _ h_law_draw hr (@pa_cons _ _ _ _ _ (@pvD _ 0 _ _ (by rfl) (by first | exact Or.inl rfl | exact Or.inr (Or.inl rfl) | exact Or.inr (Or.inr rfl)) (by decide) (by decide)) (@pa_cons _ _ _ _ _ (@pe_ix _ _ _ _ _ _ _ (@ix_list _) (@pe_lst _ _ _ _ (@pa_cons _ _ _ _ _ (@pe_int _ _ _ _) (@pa_cons _ _ _ _ _ (@pe_int _ _ _ _) (@pa_cons _ _ _ _ _ (@pe_op _ _ _ _ _ _ _ _ (@op_powD _) (@pe_int _ _ _ _) (@pe_int _ _ _ _)) (@pa_cons _ _ _ _ _ (@pe_op _ _ _ _ _ _ _ _ (@op_powD _) (@pe_int _ _ _ _) (@pe_int _ _ _ _)) (@pa_nil _) (by rfl)) (by rfl)) (by rfl)) (by rfl))) (@pe_op _ _ _ _ _ _ _ _ (@op_modD _) (@pvD _ 1 _ _ (by rfl) (by first | exact Or.inl rfl | exact Or.inr (Or.inl rfl) | exact Or.inr (Or.inr rfl)) (by decide) (by decide)) (@pe_int _ _ _ _)) (fun _ _ => rfl)) (@pa_nil _) (by rfl)) (by rfl)) (by rfl) (by decide +kernel) (by rfl) (by rfl)) (by rfl) (by first | exact .inl rfl | exact .inr rfl | assumption)) (@pss_one _ _ _ (@ps_ret _ _ _ _ (@pe_ix _ _ _ _ _ _ _ (@ix_list _) (@pe_lst _ _ _ _ (@pa_cons _ _ _ _ _ (@pvD _ 2 _ _ (by rfl) (by first | exact Or.inl rfl | exact Or.inr (Or.inl rfl) | exact Or.inr (Or.inr rfl)) (by decide) (by decide)) (@pa_cons _ _ _ _ _ (@pe_un _ _ _ _ _ _ (@un_negD _) (@pvD _ 2 _ _ (by rfl) (by first | exact Or.inl rfl | exact Or.inr (Or.inl rfl) | exact Or.inr (Or.inr rfl)) (by decide) (by decide))) (@pa_nil _) (by rfl)) (by rfl))) (@pe_op _ _ _ _ _ _ _ _ (@op_fdivD _) (@pvD _ 1 _ _ (by rfl) (by first | exact Or.inl rfl | exact Or.inr (Or.inl rfl) | exact Or.inr (Or.inr rfl)) (by decide) (by decide)) (@pe_int _ _ _ _)) (fun _ _ => rfl)))))), ?_⟩
 rw [show start ["hand", "style", "number"] [.ref h] = [some (.ref h), none, none] from rfl]
 clear hu hu0 nd hr
 push_cast [spDraw, CPow]
 have e12 : (10 : Int) ^ Int.toNat 12 = 1000000000000 := by decide +kernel
 have e60 : (10 : Int) ^ Int.toNat 60 = 1000000000000000000000000000000000000000000000000000000000000 := by decide +kernel
 have n60 : (10 : Nat) ^ 60 = 1000000000000000000000000000000000000000000000000000000000000 := by decide +kernel
 rw [e12, e60]
 rw [n60] at q
 refine ⟨n, hh, by omega, by decide +kernel, fun x H1 s1 hh1 x0 x8 => ⟨by decide, by decide, by show (4 : Nat) ≤ sizeLine; decide, fun p hp => ?_⟩⟩
 obtain ⟨y, hy, hm⟩ := atI_in [V.int 4, V.int 1000, V.int 1000000000000, V.int 1000000000000000000000000000000000000000000000000000000000000] (x % 4) (Int.emod_nonneg _ (by decide)) (by show x % 4 < 4; omega)
 obtain ⟨m, rfl, m0, m1⟩ : ∃ m : Int, y = .int m ∧ 0 < m ∧ m ≤ 1000000000000000000000000000000000000000000000000000000000000 := by
  simp only [List.mem_cons, List.not_mem_nil, or_false] at hm
  rcases hm with rfl | rfl | rfl | rfl <;> exact ⟨_, rfl, by decide, by decide⟩
 have s2 := same_new hp (.lst [V.int 4, V.int 1000, V.int 1000000000000, V.int 1000000000000000000000000000000000000000000000000000000000000])
 refine rIxL_ok upd_same hy ⟨m, rfl, n + 1, hh1.same s2, by omega, m0, ?_, fun z H2 s3 hh2 z0 z1 => ⟨by show (2 : Nat) ≤ sizeLine; decide, fun p2 hp2 => ?_⟩⟩
 ·by_cases m00 : m.natAbs = 0
  ·omega
  ·exact Nat.lt_of_lt_of_le ((Nat.log2_lt m00).mpr (show m.natAbs < 2 ^ 200 from Nat.lt_of_le_of_lt (show m.natAbs ≤ 1000000000000000000000000000000000000000000000000000000000000 by omega) (by decide +kernel))) (by decide)
 have hS : SameB h H2 (upd H2 p2 (.lst [V.int z, V.int (-z)])) := SameB.of (same_new hp2 _)
 have hT := (s1.trans ((SameB.of s2).trans (s3.trans hS)))
 obtain ⟨v, hv, hmv⟩ := atI_in [V.int z, V.int (-z)] (x / 4) (by omega) (by show x / 4 < 2; omega)
 simp only [List.mem_cons, List.not_mem_nil, or_false] at hmv
 refine rIxL_ok upd_same hv ?_
 rcases hmv with rfl | rfl
 ·exact q _ _ hT (hh2.same (same_new hp2 _)) (by omega)
 ·exact q _ _ hT (hh2.same (same_new hp2 _)) (by omega)
noncomputable abbrev sAnyWd : Stmt := top 45
theorem scAnyWd : FnScope ["hand", "names", "style"] ["hand", "names"] (defScope sAnyWd) := ⟨rfl, rfl, rfl, by decide +kernel, rfl, by decide +kernel, by decide +kernel⟩
theorem hasAnyWd (G : Gs w K mg) (h_law_draw : Has P w K mg base k "_law_draw" ["hand", "limit"] spDraw) (h_law_number : Has P w K mg base k "_law_number" ["hand"] spNumL) (D : Def K mg "_law_any_word" sAnyWd ["hand", "names"]) : Has P w K mg base (k + 1) "_law_any_word" ["hand", "names"] spAnyWd := by
 refine D.has scAnyWd (fun vs H Q E h => ?_) (fun f cdv A outer s H vs Q E hr h => ?_)
 ·obtain ⟨_, _, _, rfl, _, _, _, _⟩ := h
  rfl
 have nd := scAnyWd.nd
 have hu := hu_of hr
 have hu0 := Nat.lt_of_succ_lt hu
 obtain ⟨h, l, n, rfl, hh, hN, hn, q⟩ := h
 have m_len := G.m_len
 refine ⟨_, (@pss_cons _ _ _ _ _ (@ps_set _ _ 2 _ _ _ _ nd rfl (by first | exact Or.inl rfl | exact Or.inr rfl) (@pe_has _ _ _ _ _ _ _ _ _ _ h_law_draw hr (@pa_cons _ _ _ _ _ (@pvD _ 0 _ _ (by rfl) (by first | exact Or.inl rfl | exact Or.inr (Or.inl rfl) | exact Or.inr (Or.inr rfl)) (by decide) (by decide)) (@pa_cons _ _ _ _ _ (@pe_int _ _ _ _) (@pa_nil _) (by rfl)) (by rfl)) (by rfl) (by decide +kernel) (by rfl) (by rfl)) (by rfl) (by first | exact .inl rfl | exact .inr rfl | assumption)) (@pss_cons _ _ _ _ _ (@ps_if _ _ _ _ _ _ _ _ (@pt_cmpRD _ _ _ _ _ _ _ _ (@op_ltD _) (@pvD _ 2 _ _ (by rfl) (by first | exact Or.inl rfl | exact Or.inr (Or.inl rfl) | exact Or.inr (Or.inr rfl)) (by decide) (by decide)) (@pe_int _ _ _ _) (@nomark _ _ (by decide) (by decide))) (@pss_one _ _ _ (@ps_ret _ _ _ _ (@pe_ix _ _ _ _ _ _ _ (@ix_list _) (@pe_lst _ _ _ _ (@pa_const _ _ _ (@CsOk.str _ _ _ _ _ (@CsOk.str _ _ _ _ _ (@CsOk.str _ _ _ _ _ (@CsOk.str _ _ _ _ _ (@CsOk.str _ _ _ _ _ (@CsOk.str _ _ _ _ _ (@CsOk.nil))))))))) (@pvD _ 2 _ _ (by rfl) (by first | exact Or.inl rfl | exact Or.inr (Or.inl rfl) | exact Or.inr (Or.inr rfl)) (by decide) (by decide)) (fun _ _ => rfl)))) (@pss_nil _)) (@pss_cons _ _ _ _ _ (@ps_if _ _ _ _ _ _ _ _ (@pt_cmpRD _ _ _ _ _ _ _ _ (@op_eq _) (@pvD _ 2 _ _ (by rfl) (by first | exact Or.inl rfl | exact Or.inr (Or.inl rfl) | exact Or.inr (Or.inr rfl)) (by decide) (by decide)) (@pe_int _ _ _ _) (@nomark _ _ (by decide) (by decide))) (@pss_one _ _ _ (@ps_ret _ _ _ _ (@pe_has _ _ _ _ _ _ _ _ _ _ h_law_number hr (@pa_cons _ _ _ _ _ (@pvD _ 0 _ _ (by rfl) (by first | exact Or.inl rfl | exact Or.inr (Or.inl rfl) | exact Or.inr (Or.inr rfl)) (by decide) (by decide)) (@pa_nil _) (by rfl)) (by rfl) (by decide +kernel) (by rfl) (by rfl)))) (@pss_nil _)) (@pss_one _ _ _ (@ps_ret _ _ _ _ (@pe_ix _ _ _ _ _ _ _ (@ix_list _) (@pvD _ 1 _ _ (by rfl) (by first | exact Or.inl rfl | exact Or.inr (Or.inl rfl) | exact Or.inr (Or.inr rfl)) (by decide) (by decide)) (@pe_has _ _ _ _ _ _ _ _ _ _ h_law_draw hr (@pa_cons _ _ _ _ _ (@pvD _ 0 _ _ (by rfl) (by first | exact Or.inl rfl | exact Or.inr (Or.inl rfl) | exact Or.inr (Or.inr rfl)) (by decide) (by decide)) (@pa_cons _ _ _ _ _ (@pe_callB _ _ _ _ _ _ _ _ _ (@call_len_seqD _) rfl m_len b_len (@pa_cons _ _ _ _ _ (@pvD _ 1 _ _ (by rfl) (by first | exact Or.inl rfl | exact Or.inr (Or.inl rfl) | exact Or.inr (Or.inr rfl)) (by decide) (by decide)) (@pa_nil _) (by rfl)) (by decide) (by decide) (by rfl) (by rfl)) (@pa_nil _) (by rfl)) (by rfl)) (by rfl) (by decide +kernel) (by rfl) (by rfl)) (fun _ _ => rfl))))))), ?_⟩
 rw [show start ["hand", "names", "style"] [.ref h, .ref l] = [some (.ref h), some (.ref l), none] from rfl]
 clear hu hu0 nd hr
 push_cast [and_true]
 have hh0 := hh
 refine draw_ok hh (by omega) (by decide) (by decide +kernel) fun x H1 s1 hh1 x0 x9 => ite2 (fun c => ⟨by show (6 : Nat) ≤ sizeLine; decide, fun p hp => ?_⟩) fun c => ⟨rfl, ite2 (fun c1 => ⟨h, n + 1, rfl, hh1, by omega, fun i H2 s2 hh2 hi => q _ _ (s1.trans s2) hh2 (.inl hi)⟩) fun c1 => ?_⟩
 ·obtain ⟨v, hv, hm⟩ := atI_in [V.str (Str.ofString "add"), V.str (Str.ofString "sub"), V.str (Str.ofString "mul"), V.str (Str.ofString "neg"), V.str (Str.ofString "any"), V.str (Str.ofString "var")] x x0 (by show x < 6; omega)
  exact rIxL_ok upd_same hv (q _ _ (s1.trans (SameB.of (same_new hp _))) ((hh1.same (same_new hp _)).le (by omega)) (six_all v hm))
 ·obtain ⟨zs, h1, h2, h3⟩ := hN
  have nl := hh0.ne h1 (by rw [List.length_map]; omega)
  have g1 := s1 _ _ nl h1
  refine ⟨_, .inl (SqL.of g1), ?_⟩
  rw [List.length_map, h2]
  refine draw_ok hh1 (by omega) (by decide) (by decide +kernel) fun y H2 s2 hh2 y0 y1 => ?_
  obtain ⟨z, hz, hm⟩ := strs_at h2 y0 y1
  exact rIxL_ok (s2 _ _ nl g1) hz (q _ _ (s1.trans s2) (hh2.le (by omega)) (.inl (.inl (h3 z hm))))
noncomputable abbrev sDeedL : Stmt := top 46
theorem scDeedL : FnScope ["hand", "box", "some", "style", "word"] ["hand"] (defScope sDeedL) := ⟨rfl, rfl, rfl, by decide +kernel, rfl, by decide +kernel, by decide +kernel⟩
theorem hasDeedL (G : Gs w K mg) (h_law_draw : Has P w K mg base k "_law_draw" ["hand", "limit"] spDraw) (h_law_number : Has P w K mg base k "_law_number" ["hand"] spNumL) (D : Def K mg "_law_any_deed" sDeedL ["hand"]) : Has P w K mg base (k + 1) "_law_any_deed" ["hand"] spDeedL := by
 refine D.has scDeedL (fun vs H Q E h => ?_) (fun f cdv A outer s H vs Q E hr h => ?_)
 ·obtain ⟨_, _, rfl, _, _, _⟩ := h
  rfl
 have nd := scDeedL.nd
 have hu := hu_of hr
 have hu0 := Nat.lt_of_succ_lt hu
 obtain ⟨h, n, rfl, hh, hn, q⟩ := h
 have m_range := G.m_range
 have m_str := G.m_str
 refine ⟨_, (@pss_cons _ _ _ _ _ (@ps_set _ _ 1 _ _ _ _ nd rfl (by first | exact Or.inl rfl | exact Or.inr rfl) (@pe_ix _ _ _ _ _ _ _ (@ix_list _) (@pe_lst _ _ _ _ (@pa_const _ _ _ (@CsOk.str _ _ _ _ _ (@CsOk.str _ _ _ _ _ (@CsOk.str _ _ _ _ _ (@CsOk.str _ _ _ _ _ (@CsOk.nil))))))) (@pe_has _ _ _ _ _ _ _ _ _ _ h_law_draw hr (@pa_cons _ _ _ _ _ (@pvD _ 0 _ _ (by rfl) (by first | exact Or.inl rfl | exact Or.inr (Or.inl rfl) | exact Or.inr (Or.inr rfl)) (by decide) (by decide)) (@pa_cons _ _ _ _ _ (@pe_int _ _ _ _) (@pa_nil _) (by rfl)) (by rfl)) (by rfl) (by decide +kernel) (by rfl) (by rfl)) (fun _ _ => rfl)) (by rfl) (by first | exact .inl rfl | exact .inr rfl | assumption)) (@pss_cons _ _ _ _ _ (@ps_set _ _ 2 _ _ _ _ nd rfl (by first | exact Or.inl rfl | exact Or.inr rfl) (@pe_op _ _ _ _ _ _ _ _ (@op_cat _) (@pe_lst _ _ _ _ (@pa_const _ _ _ (@CsOk.str _ _ _ _ _ (@CsOk.str _ _ _ _ _ (@CsOk.str _ _ _ _ _ (@CsOk.str _ _ _ _ _ (@CsOk.nil))))))) (@pe_lc _ _ _ _ _ _ _ _ _ _ _ _ _ _ _ (@ClOk.mk _ _ ["k"] [] [] _ rfl rfl rfl rfl trivial rfl trivial) rfl (@pi_range2 _ _ _ _ _ _ _ rfl m_range (@pa_cons _ _ _ _ _ (@pe_int _ _ _ _) (@pa_cons _ _ _ _ _ (@pe_int _ _ _ _) (@pa_nil _) (by rfl)) (by rfl)) (by rfl) (by rfl)) (fun _ _ _ => (@pg_name _ _ 0 _ (show List.Nodup (["k"] : List Str) by decide +kernel) rfl (Or.inl rfl) (by first | exact .inl rfl | exact .inr rfl | assumption))) (fun _ _ _ => (@pif0 _)) (fun _ _ _ => (@pe_op _ _ _ _ _ _ _ _ (@op_add_str _) (@pe_str _ _ _ _) (@pe_callTy _ _ _ _ _ _ _ _ _ (@call_str_any _) rfl m_str b_str (@pa_cons _ _ _ _ _ (@pvD _ 0 _ _ (by rfl) (by first | exact Or.inl rfl | exact Or.inr (Or.inl rfl) | exact Or.inr (Or.inr rfl)) (by decide) (by decide)) (@pa_nil _) (by rfl)) (by decide) (by decide) (by rfl) (by rfl)))) (by intro _; rfl))) (by rfl) (by first | exact .inl rfl | exact .inr rfl | assumption)) (@pss_cons _ _ _ _ _ (@ps_set _ _ 3 _ _ _ _ nd rfl (by first | exact Or.inl rfl | exact Or.inr rfl) (@pe_has _ _ _ _ _ _ _ _ _ _ h_law_draw hr (@pa_cons _ _ _ _ _ (@pvD _ 0 _ _ (by rfl) (by first | exact Or.inl rfl | exact Or.inr (Or.inl rfl) | exact Or.inr (Or.inr rfl)) (by decide) (by decide)) (@pa_cons _ _ _ _ _ (@pe_int _ _ _ _) (@pa_nil _) (by rfl)) (by rfl)) (by rfl) (by decide +kernel) (by rfl) (by rfl)) (by rfl) (by first | exact .inl rfl | exact .inr rfl | assumption)) (@pss_cons _ _ _ _ _ (@ps_if _ _ _ _ _ _ _ _ (@pt_cmpRD _ _ _ _ _ _ _ _ (@op_eq _) (@pvD _ 3 _ _ (by rfl) (by first | exact Or.inl rfl | exact Or.inr (Or.inl rfl) | exact Or.inr (Or.inr rfl)) (by decide) (by decide)) (@pe_int _ _ _ _) (@nomark _ _ (by decide) (by decide))) (@pss_one _ _ _ (@ps_ret _ _ _ _ (@pe_tup _ _ _ _ _ (@pa_cons _ _ _ _ _ (@pe_str _ _ _ _) (@pa_cons _ _ _ _ _ (@pvD _ 1 _ _ (by rfl) (by first | exact Or.inl rfl | exact Or.inr (Or.inl rfl) | exact Or.inr (Or.inr rfl)) (by decide) (by decide)) (@pa_cons _ _ _ _ _ (@pe_has _ _ _ _ _ _ _ _ _ _ h_law_number hr (@pa_cons _ _ _ _ _ (@pvD _ 0 _ _ (by rfl) (by first | exact Or.inl rfl | exact Or.inr (Or.inl rfl) | exact Or.inr (Or.inr rfl)) (by decide) (by decide)) (@pa_nil _) (by rfl)) (by rfl) (by decide +kernel) (by rfl) (by rfl)) (@pa_nil _) (by rfl)) (by rfl)) (by rfl))))) (@pss_nil _)) (@pss_cons _ _ _ _ _ (@ps_if _ _ _ _ _ _ _ _ (@pt_cmpRD _ _ _ _ _ _ _ _ (@op_eq _) (@pvD _ 3 _ _ (by rfl) (by first | exact Or.inl rfl | exact Or.inr (Or.inl rfl) | exact Or.inr (Or.inr rfl)) (by decide) (by decide)) (@pe_int _ _ _ _) (@nomark _ _ (by decide) (by decide))) (@pss_one _ _ _ (@ps_ret _ _ _ _ (@pe_tup _ _ _ _ _ (@pa_cons _ _ _ _ _ (@pe_str _ _ _ _) (@pa_cons _ _ _ _ _ (@pvD _ 1 _ _ (by rfl) (by first | exact Or.inl rfl | exact Or.inr (Or.inl rfl) | exact Or.inr (Or.inr rfl)) (by decide) (by decide)) (@pa_cons _ _ _ _ _ (@pe_op _ _ _ _ _ _ _ _ (@op_add_str _) (@pe_str _ _ _ _) (@pe_callTy _ _ _ _ _ _ _ _ _ (@call_str_any _) rfl m_str b_str (@pa_cons _ _ _ _ _ (@pe_op _ _ _ _ _ _ _ _ (@op_addD _) (@pe_int _ _ _ _) (@pe_has _ _ _ _ _ _ _ _ _ _ h_law_draw hr (@pa_cons _ _ _ _ _ (@pvD _ 0 _ _ (by rfl) (by first | exact Or.inl rfl | exact Or.inr (Or.inl rfl) | exact Or.inr (Or.inr rfl)) (by decide) (by decide)) (@pa_cons _ _ _ _ _ (@pe_int _ _ _ _) (@pa_nil _) (by rfl)) (by rfl)) (by rfl) (by decide +kernel) (by rfl) (by rfl))) (@pa_nil _) (by rfl)) (by decide) (by decide) (by rfl) (by rfl))) (@pa_nil _) (by rfl)) (by rfl)) (by rfl))))) (@pss_nil _)) (@pss_cons _ _ _ _ _ (@ps_if _ _ _ _ _ _ _ _ (@pt_cmpRD _ _ _ _ _ _ _ _ (@op_eq _) (@pvD _ 3 _ _ (by rfl) (by first | exact Or.inl rfl | exact Or.inr (Or.inl rfl) | exact Or.inr (Or.inr rfl)) (by decide) (by decide)) (@pe_int _ _ _ _) (@nomark _ _ (by decide) (by decide))) (@pss_one _ _ _ (@ps_ret _ _ _ _ (@pe_tup _ _ _ _ _ (@pa_cons _ _ _ _ _ (@pe_str _ _ _ _) (@pa_cons _ _ _ _ _ (@pvD _ 1 _ _ (by rfl) (by first | exact Or.inl rfl | exact Or.inr (Or.inl rfl) | exact Or.inr (Or.inr rfl)) (by decide) (by decide)) (@pa_cons _ _ _ _ _ (@pe_op _ _ _ _ _ _ _ _ (@op_add_str _) (@pe_str _ _ _ _) (@pe_callTy _ _ _ _ _ _ _ _ _ (@call_str_any _) rfl m_str b_str (@pa_cons _ _ _ _ _ (@pe_op _ _ _ _ _ _ _ _ (@op_addD _) (@pe_int _ _ _ _) (@pe_has _ _ _ _ _ _ _ _ _ _ h_law_draw hr (@pa_cons _ _ _ _ _ (@pvD _ 0 _ _ (by rfl) (by first | exact Or.inl rfl | exact Or.inr (Or.inl rfl) | exact Or.inr (Or.inr rfl)) (by decide) (by decide)) (@pa_cons _ _ _ _ _ (@pe_int _ _ _ _) (@pa_nil _) (by rfl)) (by rfl)) (by rfl) (by decide +kernel) (by rfl) (by rfl))) (@pa_nil _) (by rfl)) (by decide) (by decide) (by rfl) (by rfl))) (@pa_nil _) (by rfl)) (by rfl)) (by rfl))))) (@pss_nil _)) (@pss_cons _ _ _ _ _ (@ps_if _ _ _ _ _ _ _ _ (@pt_cmpRD _ _ _ _ _ _ _ _ (@op_eq _) (@pvD _ 3 _ _ (by rfl) (by first | exact Or.inl rfl | exact Or.inr (Or.inl rfl) | exact Or.inr (Or.inr rfl)) (by decide) (by decide)) (@pe_int _ _ _ _) (@nomark _ _ (by decide) (by decide))) (@pss_one _ _ _ (@ps_ret _ _ _ _ (@pe_tup _ _ _ _ _ (@pa_cons _ _ _ _ _ (@pe_str _ _ _ _) (@pa_cons _ _ _ _ _ (@pvD _ 1 _ _ (by rfl) (by first | exact Or.inl rfl | exact Or.inr (Or.inl rfl) | exact Or.inr (Or.inr rfl)) (by decide) (by decide)) (@pa_cons _ _ _ _ _ (@pe_ix _ _ _ _ _ _ _ (@ix_list _) (@pvD _ 2 _ _ (by rfl) (by first | exact Or.inl rfl | exact Or.inr (Or.inl rfl) | exact Or.inr (Or.inr rfl)) (by decide) (by decide)) (@pe_has _ _ _ _ _ _ _ _ _ _ h_law_draw hr (@pa_cons _ _ _ _ _ (@pvD _ 0 _ _ (by rfl) (by first | exact Or.inl rfl | exact Or.inr (Or.inl rfl) | exact Or.inr (Or.inr rfl)) (by decide) (by decide)) (@pa_cons _ _ _ _ _ (@pe_int _ _ _ _) (@pa_nil _) (by rfl)) (by rfl)) (by rfl) (by decide +kernel) (by rfl) (by rfl)) (fun _ _ => rfl)) (@pa_nil _) (by rfl)) (by rfl)) (by rfl))))) (@pss_nil _)) (@pss_cons _ _ _ _ _ (@ps_set _ _ 4 _ _ _ _ nd rfl (by first | exact Or.inl rfl | exact Or.inr rfl) (@pe_ix _ _ _ _ _ _ _ (@ix_list _) (@pe_lst _ _ _ _ (@pa_const _ _ _ (@CsOk.str _ _ _ _ _ (@CsOk.str _ _ _ _ _ (@CsOk.str _ _ _ _ _ (@CsOk.nil)))))) (@pe_has _ _ _ _ _ _ _ _ _ _ h_law_draw hr (@pa_cons _ _ _ _ _ (@pvD _ 0 _ _ (by rfl) (by first | exact Or.inl rfl | exact Or.inr (Or.inl rfl) | exact Or.inr (Or.inr rfl)) (by decide) (by decide)) (@pa_cons _ _ _ _ _ (@pe_int _ _ _ _) (@pa_nil _) (by rfl)) (by rfl)) (by rfl) (by decide +kernel) (by rfl) (by rfl)) (fun _ _ => rfl)) (by rfl) (by first | exact .inl rfl | exact .inr rfl | assumption)) (@pss_one _ _ _ (@ps_ret _ _ _ _ (@pe_tup _ _ _ _ _ (@pa_cons _ _ _ _ _ (@pvD _ 4 _ _ (by rfl) (by first | exact Or.inl rfl | exact Or.inr (Or.inl rfl) | exact Or.inr (Or.inr rfl)) (by decide) (by decide)) (@pa_cons _ _ _ _ _ (@pvD _ 1 _ _ (by rfl) (by first | exact Or.inl rfl | exact Or.inr (Or.inl rfl) | exact Or.inr (Or.inr rfl)) (by decide) (by decide)) (@pa_cons _ _ _ _ _ (@pe_ix _ _ _ _ _ _ _ (@ix_list _) (@pvD _ 2 _ _ (by rfl) (by first | exact Or.inl rfl | exact Or.inr (Or.inl rfl) | exact Or.inr (Or.inr rfl)) (by decide) (by decide)) (@pe_has _ _ _ _ _ _ _ _ _ _ h_law_draw hr (@pa_cons _ _ _ _ _ (@pvD _ 0 _ _ (by rfl) (by first | exact Or.inl rfl | exact Or.inr (Or.inl rfl) | exact Or.inr (Or.inr rfl)) (by decide) (by decide)) (@pa_cons _ _ _ _ _ (@pe_int _ _ _ _) (@pa_nil _) (by rfl)) (by rfl)) (by rfl) (by decide +kernel) (by rfl) (by rfl)) (fun _ _ => rfl)) (@pa_cons _ _ _ _ _ (@pe_ix _ _ _ _ _ _ _ (@ix_list _) (@pvD _ 2 _ _ (by rfl) (by first | exact Or.inl rfl | exact Or.inr (Or.inl rfl) | exact Or.inr (Or.inr rfl)) (by decide) (by decide)) (@pe_has _ _ _ _ _ _ _ _ _ _ h_law_draw hr (@pa_cons _ _ _ _ _ (@pvD _ 0 _ _ (by rfl) (by first | exact Or.inl rfl | exact Or.inr (Or.inl rfl) | exact Or.inr (Or.inr rfl)) (by decide) (by decide)) (@pa_cons _ _ _ _ _ (@pe_int _ _ _ _) (@pa_nil _) (by rfl)) (by rfl)) (by rfl) (by decide +kernel) (by rfl) (by rfl)) (fun _ _ => rfl)) (@pa_nil _) (by rfl)) (by rfl)) (by rfl)) (by rfl))))))))))))), ?_⟩
 rw [show start ["hand", "box", "some", "style", "word"] [.ref h] = [some (.ref h), none, none, none, none] from rfl]
 clear hu hu0 nd hr
 push_cast [and_true]
 have sz := sizeLine_eq
 refine ⟨by show (4 : Nat) ≤ sizeLine; decide, fun p hp => draw_ok (hh.same (same_new hp _)) (by omega) (by decide) (by decide +kernel) fun x H1 s1 hh1 x0 x4 => ?_⟩
 have S1 := (SameB.of (d := h) (same_new hp (.lst [V.str (Str.ofString "out"), V.str (Str.ofString "t1"), V.str (Str.ofString "t2"), V.str (Str.ofString "t3")]))).trans s1
 obtain ⟨bx, hbx, hm⟩ := atI_in [V.str (Str.ofString "out"), V.str (Str.ofString "t1"), V.str (Str.ofString "t2"), V.str (Str.ofString "t3")] x x0 (by show x < 4; omega)
 have hb := box_all bx hm
 have hp1 := s1 p _ (fun e => by obtain ⟨a, b, c, h1, _⟩ := hh; rw [e, h1] at hp; cases hp) upd_same
 refine rIxL_ok hp1 hbx ⟨by show (4 : Nat) ≤ sizeLine; decide, fun p2 hp2 D hD => ?_⟩
 refine lc_range (fun i ys => ys = (List.range i).map fun k => V.str (leafS 104 (k + 1))) (by show (9 : Nat) < sizeLine; decide) hD rfl (fun i ys H2 G' K' hi hP hl2 hS hG hK => ?_) fun ys H2 hP hl2 hS hD2 => ?_
 ·push_cast [and_true]
  have e := (leaf_text ⟨i, by have : i < 9 := hi; omega⟩).2.2
  have e : Str.ofString "h" ++ textV (.int (1 + (i : Int))) = leafS 104 (i + 1) := e
  refine ⟨log_small (show (1 + (i : Int)).natAbs < 10 ^ 60 from Nat.lt_of_le_of_lt (show (1 + (i : Int)).natAbs ≤ 10 by have : i < 9 := hi; omega) (by decide +kernel)), ?_, hK _ _ (Same.refl _) ?_⟩
  ·rw [show (Str.ofString "h").length + (textV (.int (1 + (i : Int)))).length = (Str.ofString "h" ++ textV (.int (1 + (i : Int)))).length from (Array.size_append).symm, e]
   show (2 : Nat) ≤ sizeLine
   decide
  ·rw [e, hP, List.range_succ, List.map_append]
   rfl
 have hP : ys = (List.range 9).map fun k => V.str (leafS 104 (k + 1)) := hP
 subst hP
 have S2 := (SameB.of (d := h) (same_new hp2 (.lst [V.str (Str.ofString "out"), V.str (Str.ofString "t1"), V.str (Str.ofString "t2"), V.str (Str.ofString "t3")]))).trans (SameB.of hS)
 refine rCat_ok (hS _ _ upd_same) hD2 (by show (13 : Nat) ≤ sizeLine; decide) fun sl hsl => ?_
 have hh2 := ((hh1.same (same_new hp2 _)).same hS).same (same_new hsl (.lst fromL))
 have S3 := S1.trans (S2.trans (SameB.of (same_new hsl (.lst fromL))))
 have nsl : sl ≠ h := fun e => by obtain ⟨a, b, c, h1, _⟩ := hh1; have := hS _ _ (same_new hp2 _ _ _ h1); rw [e, this] at hsl; cases hsl
 have hs3 : upd H2 sl (.lst fromL) sl = some (.lst fromL) := upd_same
 show spDraw [.ref h, .int 6] (upd H2 sl (.lst fromL)) _ _
 have frH : ∀ {t : Addr} {H4 : Hp} {k : Nat}, HandAt H4 h k → SameB h H H4 → H4 t = none → H t = none := fun a s ht => by obtain ⟨_, _, _, h1, _⟩ := a; exact s.free h1 ht
 have ft : ∀ (H4 : Hp) (k : Nat) (x : Int), SameB h (upd H2 sl (.lst fromL)) H4 → 0 ≤ x → x < 13 → ∃ v, fromW v ∧ ∀ Q : VK, Q v H4 → rIxL K (.ref sl) (.int x) H4 Q := fun H4 k x s x0 x1 => by
  obtain ⟨v, hv, hm⟩ := atI_in fromL x x0 (by show x < 13; omega)
  exact ⟨v, from_all v hm, fun Q hQ => rIxL_ok (s _ _ nsl hs3) hv hQ⟩
 generalize upd H2 sl (.lst fromL) = H3 at hh2 S3 hs3 ft ⊢
 have wl : ∀ y : Int, 0 ≤ y → y < 9 → wordV (.int (1 + y)) := fun y y0 y1 => log_small (show (1 + y).natAbs < 10 ^ 60 from Nat.lt_of_le_of_lt (show (1 + y).natAbs ≤ 10 by omega) (by decide +kernel))
 have lt : ∀ y : Int, 0 ≤ y → y < 9 → (Str.ofString "n" ++ textV (.int (1 + y)) = leafS 110 (y.toNat + 1)) ∧ (Str.ofString "v" ++ textV (.int (1 + y)) = leafS 118 (y.toNat + 1)) := fun y y0 y1 => by
  have := leaf_text ⟨y.toNat, by omega⟩
  rw [show (((⟨y.toNat, by omega⟩ : _root_.Fin 9).val : Nat) : Int) = y by show ((y.toNat : Nat) : Int) = y; omega] at this
  exact ⟨this.1, this.2.1⟩
 refine draw_ok hh2 (by omega) (by decide) (by decide +kernel) fun st H4 s4 hh4 t0 t6 => ⟨rfl, ite2 (fun c => ⟨h, _, rfl, hh4, by omega, fun i H5 s5 hh5 hi => ⟨by show (3 : Nat) ≤ sizeLine; decide, fun t ht => ?_⟩⟩) fun c => ⟨rfl, ite2 (fun c => ?_) fun c => ⟨rfl, ite2 (fun c => ?_) fun c => ⟨rfl, ite2 (fun c => ?_) fun c => ?_⟩⟩⟩⟩
 ·have S5 := S3.trans (s4.trans s5)
  exact q t _ _ (S5.trans (SameB.of (same_new ht _))) (frH hh5 S5 ht) upd_same (.inl ⟨bx, _, rfl, hb, .inl ⟨i, rfl, hi⟩⟩)
 ·refine draw_ok hh4 (by omega) (by decide) (by decide +kernel) fun y H5 s5 hh5 y0 y1 => ⟨wl y y0 y1, ?_, by show (3 : Nat) ≤ sizeLine; decide, fun t ht => ?_⟩
  ·rw [show (Str.ofString "n").length + (textV (.int (1 + y))).length = (Str.ofString "n" ++ textV (.int (1 + y))).length from (Array.size_append).symm, (lt y y0 y1).1]
   show (2 : Nat) ≤ sizeLine
   decide
  ·have S5 := S3.trans (s4.trans s5)
   rw [(lt y y0 y1).1]
   exact q t _ _ (S5.trans (SameB.of (same_new ht _))) (frH hh5 S5 ht) upd_same (.inl ⟨bx, _, rfl, hb, .inr ⟨y.toNat + 1, by omega, by omega, rfl⟩⟩)
 ·refine draw_ok hh4 (by omega) (by decide) (by decide +kernel) fun y H5 s5 hh5 y0 y1 => ⟨wl y y0 y1, ?_, by show (3 : Nat) ≤ sizeLine; decide, fun t ht => ?_⟩
  ·rw [show (Str.ofString "v").length + (textV (.int (1 + y))).length = (Str.ofString "v" ++ textV (.int (1 + y))).length from (Array.size_append).symm, (lt y y0 y1).2]
   show (2 : Nat) ≤ sizeLine
   decide
  ·have S5 := S3.trans (s4.trans s5)
   rw [(lt y y0 y1).2]
   exact q t _ _ (S5.trans (SameB.of (same_new ht _))) (frH hh5 S5 ht) upd_same (.inr (.inl ⟨bx, _, rfl, hb, y.toNat + 1, by omega, by omega, rfl⟩))
 ·refine draw_ok hh4 (by omega) (by decide) (by decide +kernel) fun y H5 s5 hh5 y0 y1 => ?_
  obtain ⟨v, fv, hv⟩ := ft H5 0 y (s4.trans s5) y0 y1
  refine hv _ ⟨by show (3 : Nat) ≤ sizeLine; decide, fun t ht => ?_⟩
  have S5 := S3.trans (s4.trans s5)
  exact q t _ _ (S5.trans (SameB.of (same_new ht _))) (frH hh5 S5 ht) upd_same (.inr (.inr (.inl ⟨bx, v, rfl, hb, fv⟩)))
 ·refine ⟨by show (3 : Nat) ≤ sizeLine; decide, fun p3 hp3 => draw_ok (hh4.same (same_new hp3 _)) (by omega) (by decide) (by decide +kernel) fun y H5 s5 hh5 y0 y1 => ?_⟩
  have n3 : p3 ≠ h := fun e => by obtain ⟨a, b, c, h1, _⟩ := hh4; rw [e, h1] at hp3; cases hp3
  obtain ⟨o, ho, hm⟩ := atI_in [V.str (Str.ofString "add"), V.str (Str.ofString "sub"), V.str (Str.ofString "mul")] y y0 (by show y < 3; omega)
  obtain ⟨z, rfl, hz⟩ := bin_all o hm
  refine rIxL_ok (s5 _ _ n3 upd_same) ho (draw_ok hh5 (by omega) (by decide) (by decide +kernel) fun y1 H6 s6 hh6 y10 y11 => ?_)
  have S45 := s4.trans ((SameB.of (same_new hp3 (.lst [V.str (Str.ofString "add"), V.str (Str.ofString "sub"), V.str (Str.ofString "mul")]))).trans s5)
  obtain ⟨v1, fv1, hv1⟩ := ft H6 0 y1 (S45.trans s6) y10 y11
  refine hv1 _ (draw_ok hh6 (by omega) (by decide) (by decide +kernel) fun y2 H7 s7 hh7 y20 y21 => ?_)
  obtain ⟨v2, fv2, hv2⟩ := ft H7 0 y2 (S45.trans (s6.trans s7)) y20 y21
  refine hv2 _ ⟨by show (4 : Nat) ≤ sizeLine; decide, fun t ht => ?_⟩
  have S7 := S3.trans (S45.trans (s6.trans s7))
  exact q t _ _ (S7.trans (SameB.of (same_new ht _))) (frH hh7 S7 ht) upd_same (.inr (.inr (.inr ⟨z, bx, v1, v2, rfl, hz, hb, fv1, fv2⟩)))
noncomputable abbrev sRowL : Stmt := top 47
theorem scRowL : FnScope ["hand", "names", "style", "some", "price"] ["hand", "names"] (defScope sRowL) := ⟨rfl, rfl, rfl, by decide +kernel, rfl, by decide +kernel, by decide +kernel⟩
theorem hasRowL (G : Gs w K mg) (h_law_any_deed : Has P w K mg base k "_law_any_deed" ["hand"] spDeedL) (h_law_any_word : Has P w K mg base k "_law_any_word" ["hand", "names"] spAnyWd) (h_law_draw : Has P w K mg base k "_law_draw" ["hand", "limit"] spDraw) (D : Def K mg "_law_row" sRowL ["hand", "names"]) : Has P w K mg base (k + 1) "_law_row" ["hand", "names"] spRowL := by
 refine D.has scRowL (fun vs H Q E h => ?_) (fun f cdv A outer s H vs Q E hr h => ?_)
 ·obtain ⟨_, _, rfl, _, _, _⟩ := h
  rfl
 have nd := scRowL.nd
 have hu := hu_of hr
 have hu0 := Nat.lt_of_succ_lt hu
 obtain ⟨h, l, rfl, hh, hN, q⟩ := h
 have m_range := G.m_range
 have m_tuple := G.m_tuple
 refine ⟨_, (@pss_cons _ _ _ _ _ (@ps_set _ _ 2 _ _ _ _ nd rfl (by first | exact Or.inl rfl | exact Or.inr rfl) (@pe_has _ _ _ _ _ _ _ _ _ _ h_law_draw hr (@pa_cons _ _ _ _ _ (@pvD _ 0 _ _ (by rfl) (by first | exact Or.inl rfl | exact Or.inr (Or.inl rfl) | exact Or.inr (Or.inr rfl)) (by decide) (by decide)) (@pa_cons _ _ _ _ _ (@pe_int _ _ _ _) (@pa_nil _) (by rfl)) (by rfl)) (by rfl) (by decide +kernel) (by rfl) (by rfl)) (by rfl) (by first | exact .inl rfl | exact .inr rfl | assumption)) (@pss_cons _ _ _ _ _ (@ps_if _ _ _ _ _ _ _ _ (@pt_cmpRD _ _ _ _ _ _ _ _ (@op_eq _) (@pvD _ 2 _ _ (by rfl) (by first | exact Or.inl rfl | exact Or.inr (Or.inl rfl) | exact Or.inr (Or.inr rfl)) (by decide) (by decide)) (@pe_int _ _ _ _) (@nomark _ _ (by decide) (by decide))) (@pss_one _ _ _ (@ps_ret _ _ _ _ (@pe_tup _ _ _ _ _ (@pa_cons _ _ _ _ _ (@pe_str _ _ _ _) (@pa_cons _ _ _ _ _ (@pe_ix _ _ _ _ _ _ _ (@ix_list _) (@pvD _ 1 _ _ (by rfl) (by first | exact Or.inl rfl | exact Or.inr (Or.inl rfl) | exact Or.inr (Or.inr rfl)) (by decide) (by decide)) (@pe_has _ _ _ _ _ _ _ _ _ _ h_law_draw hr (@pa_cons _ _ _ _ _ (@pvD _ 0 _ _ (by rfl) (by first | exact Or.inl rfl | exact Or.inr (Or.inl rfl) | exact Or.inr (Or.inr rfl)) (by decide) (by decide)) (@pa_cons _ _ _ _ _ (@pe_int _ _ _ _) (@pa_nil _) (by rfl)) (by rfl)) (by rfl) (by decide +kernel) (by rfl) (by rfl)) (fun _ _ => rfl)) (@pa_nil _) (by rfl)) (by rfl))))) (@pss_nil _)) (@pss_cons _ _ _ _ _ (@ps_if _ _ _ _ _ _ _ _ (@pt_cmpRD _ _ _ _ _ _ _ _ (@op_ltD _) (@pvD _ 2 _ _ (by rfl) (by first | exact Or.inl rfl | exact Or.inr (Or.inl rfl) | exact Or.inr (Or.inr rfl)) (by decide) (by decide)) (@pe_int _ _ _ _) (@nomark _ _ (by decide) (by decide))) (@pss_cons _ _ _ _ _ (@ps_setlc _ _ _ _ _ _ _ _ _ _ _ _ _ _ _ 3 _ _ _ nd rfl (Or.inl rfl) (@ClOk.mk _ _ ["j"] ["hand", "names"] [0, 1] _ rfl rfl rfl rfl (And.intro rfl (And.intro rfl trivial)) rfl (And.intro (And.intro rfl (And.intro rfl rfl)) (And.intro (And.intro rfl (And.intro rfl rfl)) trivial))) rfl (@pi_range1 _ _ _ _ _ _ rfl m_range (@pa_cons _ _ _ _ _ (@pe_op _ _ _ _ _ _ _ _ (@op_addD _) (@pe_int _ _ _ _) (@pe_has _ _ _ _ _ _ _ _ _ _ h_law_draw hr (@pa_cons _ _ _ _ _ (@pvD _ 0 _ _ (by rfl) (by first | exact Or.inl rfl | exact Or.inr (Or.inl rfl) | exact Or.inr (Or.inr rfl)) (by decide) (by decide)) (@pa_cons _ _ _ _ _ (@pe_int _ _ _ _) (@pa_nil _) (by rfl)) (by rfl)) (by rfl) (by decide +kernel) (by rfl) (by rfl))) (@pa_nil _) (by rfl)) (by rfl)) (fun _ _ _ => (@pg_name _ _ 0 _ (show List.Nodup (["j", "hand", "names"] : List Str) by decide +kernel) rfl (Or.inl rfl) (by first | exact .inl rfl | exact .inr rfl | assumption))) (fun _ _ _ => (@pif0 _)) (fun _ _ _ => (@pe_has _ _ _ _ _ _ _ _ _ _ h_law_any_word hr (@pa_cons _ _ _ _ _ (@pvD _ 1 _ _ (by rfl) (by first | exact Or.inl rfl | exact Or.inr (Or.inl rfl) | exact Or.inr (Or.inr rfl)) (by decide) (by decide)) (@pa_cons _ _ _ _ _ (@pvD _ 2 _ _ (by rfl) (by first | exact Or.inl rfl | exact Or.inr (Or.inl rfl) | exact Or.inr (Or.inr rfl)) (by decide) (by decide)) (@pa_nil _) (by rfl)) (by rfl)) (by rfl) (by decide +kernel) (by rfl) (by rfl))) (by rfl) (by intro _; rfl) (by first | exact .inl rfl | exact .inr rfl | assumption)) (@pss_cons _ _ _ _ _ (@ps_set _ _ 4 _ _ _ _ nd rfl (by first | exact Or.inl rfl | exact Or.inr rfl) (@pe_ix _ _ _ _ _ _ _ (@ix_list _) (@pe_lst _ _ _ _ (@pa_cons _ _ _ _ _ (@pe_op _ _ _ _ _ _ _ _ (@op_addD _) (@pe_int _ _ _ _) (@pe_has _ _ _ _ _ _ _ _ _ _ h_law_draw hr (@pa_cons _ _ _ _ _ (@pvD _ 0 _ _ (by rfl) (by first | exact Or.inl rfl | exact Or.inr (Or.inl rfl) | exact Or.inr (Or.inr rfl)) (by decide) (by decide)) (@pa_cons _ _ _ _ _ (@pe_int _ _ _ _) (@pa_nil _) (by rfl)) (by rfl)) (by rfl) (by decide +kernel) (by rfl) (by rfl))) (@pa_cons _ _ _ _ _ (@pe_op _ _ _ _ _ _ _ _ (@op_addD _) (@pe_int _ _ _ _) (@pe_has _ _ _ _ _ _ _ _ _ _ h_law_draw hr (@pa_cons _ _ _ _ _ (@pvD _ 0 _ _ (by rfl) (by first | exact Or.inl rfl | exact Or.inr (Or.inl rfl) | exact Or.inr (Or.inr rfl)) (by decide) (by decide)) (@pa_cons _ _ _ _ _ (@pe_int _ _ _ _) (@pa_nil _) (by rfl)) (by rfl)) (by rfl) (by decide +kernel) (by rfl) (by rfl))) (@pa_cons _ _ _ _ _ (@pe_int _ _ _ _) (@pa_nil _) (by rfl)) (by rfl)) (by rfl))) (@pe_has _ _ _ _ _ _ _ _ _ _ h_law_draw hr (@pa_cons _ _ _ _ _ (@pvD _ 0 _ _ (by rfl) (by first | exact Or.inl rfl | exact Or.inr (Or.inl rfl) | exact Or.inr (Or.inr rfl)) (by decide) (by decide)) (@pa_cons _ _ _ _ _ (@pe_int _ _ _ _) (@pa_nil _) (by rfl)) (by rfl)) (by rfl) (by decide +kernel) (by rfl) (by rfl)) (fun _ _ => rfl)) (by rfl) (by first | exact .inl rfl | exact .inr rfl | assumption)) (@pss_one _ _ _ (@ps_ret _ _ _ _ (@pe_op _ _ _ _ _ _ _ _ (@op_catU _) (@pe_tup _ _ _ _ _ (@pa_cons _ _ _ _ _ (@pe_str _ _ _ _) (@pa_cons _ _ _ _ _ (@pe_ix _ _ _ _ _ _ _ (@ix_list _) (@pvD _ 1 _ _ (by rfl) (by first | exact Or.inl rfl | exact Or.inr (Or.inl rfl) | exact Or.inr (Or.inr rfl)) (by decide) (by decide)) (@pe_op _ _ _ _ _ _ _ _ (@op_addD _) (@pe_int _ _ _ _) (@pe_has _ _ _ _ _ _ _ _ _ _ h_law_draw hr (@pa_cons _ _ _ _ _ (@pvD _ 0 _ _ (by rfl) (by first | exact Or.inl rfl | exact Or.inr (Or.inl rfl) | exact Or.inr (Or.inr rfl)) (by decide) (by decide)) (@pa_cons _ _ _ _ _ (@pe_int _ _ _ _) (@pa_nil _) (by rfl)) (by rfl)) (by rfl) (by decide +kernel) (by rfl) (by rfl))) (fun _ _ => rfl)) (@pa_cons _ _ _ _ _ (@pe_ix _ _ _ _ _ _ _ (@ix_list _) (@pvD _ 1 _ _ (by rfl) (by first | exact Or.inl rfl | exact Or.inr (Or.inl rfl) | exact Or.inr (Or.inr rfl)) (by decide) (by decide)) (@pe_has _ _ _ _ _ _ _ _ _ _ h_law_draw hr (@pa_cons _ _ _ _ _ (@pvD _ 0 _ _ (by rfl) (by first | exact Or.inl rfl | exact Or.inr (Or.inl rfl) | exact Or.inr (Or.inr rfl)) (by decide) (by decide)) (@pa_cons _ _ _ _ _ (@pe_int _ _ _ _) (@pa_nil _) (by rfl)) (by rfl)) (by rfl) (by decide +kernel) (by rfl) (by rfl)) (fun _ _ => rfl)) (@pa_cons _ _ _ _ _ (@pvD _ 4 _ _ (by rfl) (by first | exact Or.inl rfl | exact Or.inr (Or.inl rfl) | exact Or.inr (Or.inr rfl)) (by decide) (by decide)) (@pa_nil _) (by rfl)) (by rfl)) (by rfl)) (by rfl))) (@pe_callTy _ _ _ _ _ _ _ _ _ (@call_tuple_ofD _) rfl m_tuple b_tuple (@pa_cons _ _ _ _ _ (@pvD _ 3 _ _ (by rfl) (by first | exact Or.inl rfl | exact Or.inr (Or.inl rfl) | exact Or.inr (Or.inr rfl)) (by decide) (by decide)) (@pa_nil _) (by rfl)) (by decide) (by decide) (by rfl) (by rfl))))))) (@pss_nil _)) (@pss_cons _ _ _ _ _ (@ps_if _ _ _ _ _ _ _ _ (@pt_cmpRD _ _ _ _ _ _ _ _ (@op_eq _) (@pvD _ 2 _ _ (by rfl) (by first | exact Or.inl rfl | exact Or.inr (Or.inl rfl) | exact Or.inr (Or.inr rfl)) (by decide) (by decide)) (@pe_int _ _ _ _) (@nomark _ _ (by decide) (by decide))) (@pss_one _ _ _ (@ps_ret _ _ _ _ (@pe_tup _ _ _ _ _ (@pa_cons _ _ _ _ _ (@pe_str _ _ _ _) (@pa_nil _) (by rfl))))) (@pss_nil _)) (@pss_one _ _ _ (@ps_ret _ _ _ _ (@pe_op _ _ _ _ _ _ _ _ (@op_catU _) (@pe_tup _ _ _ _ _ (@pa_cons _ _ _ _ _ (@pe_str _ _ _ _) (@pa_cons _ _ _ _ _ (@pe_has _ _ _ _ _ _ _ _ _ _ h_law_draw hr (@pa_cons _ _ _ _ _ (@pvD _ 0 _ _ (by rfl) (by first | exact Or.inl rfl | exact Or.inr (Or.inl rfl) | exact Or.inr (Or.inr rfl)) (by decide) (by decide)) (@pa_cons _ _ _ _ _ (@pe_int _ _ _ _) (@pa_nil _) (by rfl)) (by rfl)) (by rfl) (by decide +kernel) (by rfl) (by rfl)) (@pa_nil _) (by rfl)) (by rfl))) (@pe_has _ _ _ _ _ _ _ _ _ _ h_law_any_deed hr (@pa_cons _ _ _ _ _ (@pvD _ 0 _ _ (by rfl) (by first | exact Or.inl rfl | exact Or.inr (Or.inl rfl) | exact Or.inr (Or.inr rfl)) (by decide) (by decide)) (@pa_nil _) (by rfl)) (by rfl) (by decide +kernel) (by rfl) (by rfl))))))))), ?_⟩
 rw [show start ["hand", "names", "style", "some", "price"] [.ref h, .ref l] = [some (.ref h), some (.ref l), none, none, none] from rfl]
 clear hu hu0 nd hr
 push_cast [and_true]
 have sz := sizeLine_eq
 obtain ⟨zs, n1, n2, n3⟩ := id hN
 have nl := hh.ne n1 (by rw [List.length_map]; omega)
 have frH : ∀ {t : Addr} {H4 : Hp} {k : Nat}, HandAt H4 h k → SameB h H H4 → H4 t = none → H t = none := fun a s ht => by obtain ⟨_, _, _, h1, _⟩ := a; exact s.free h1 ht
 have nm : ∀ {x : Int} {H4 : Hp}, SameB h H H4 → 0 ≤ x → x < 20 → ∃ z, nameB z = true ∧ ∀ Q : VK, Q (.str z) H4 → rIxL K (.ref l) (.int x) H4 Q := fun s x0 x1 => by
  obtain ⟨z, hz, hm⟩ := strs_at n2 x0 x1
  exact ⟨z, n3 z hm, fun Q hQ => rIxL_ok (s _ _ nl n1) hz hQ⟩
 refine draw_ok hh (by omega) (by decide) (by decide +kernel) fun x H1 s1 hh1 x0 x8 => ⟨rfl, ite2 (fun c => draw_ok hh1 (by omega) (by decide) (by decide +kernel) fun y H2 s2 hh2 y0 y1 => ?_) fun c => ite2 (fun c => ?_) fun c => ⟨rfl, ite2 (fun c => ?_) fun c => ?_⟩⟩
 ·obtain ⟨z, hz, hq⟩ := nm (s1.trans s2) y0 y1
  refine hq _ ⟨by show (2 : Nat) ≤ sizeLine; decide, fun t ht => ?_⟩
  exact q t _ _ ((s1.trans s2).trans (SameB.of (same_new ht _))) upd_same (.inl ⟨z, rfl, hz⟩)
 ·refine draw_ok hh1 (by omega) (by decide) (by decide +kernel) fun y H2 s2 hh2 y0 y1 => ⟨by omega, by omega, fun D hD => ?_⟩
  have S2 := s1.trans s2
  have HD := frH hh2 S2 hD
  have nD : D ≠ h := fun e => by obtain ⟨a, b, c, h1, _⟩ := hh2; rw [e, h1] at hD; cases hD
  refine lc_rngM (fun i ys H3 => ys.length = i ∧ (∀ v ∈ ys, shW v) ∧ SameB h H H3 ∧ HandAt H3 h (2 + 3 * i)) (by omega) ⟨rfl, fun _ h => (nomatch h), S2.upd HD _, (hh2.same (same_new hD _)).le (by omega)⟩ (fun i ys H3 G' K' hi hP hl hD3 hG hK => ?_) fun ys H3 hP hl hD3 => ?_
  ·obtain ⟨y1', y2, s3, hh3⟩ := hP
   push_cast [and_true]
   refine ⟨h, l, _, rfl, hh3, ⟨zs, s3 _ _ nl n1, n2, n3⟩, by omega, fun v H4 s4 hh4 hv => hK _ _ (s4 _ _ nD hD3) ⟨by rw [List.length_append, y1']; rfl, fun u hu => ?_, (s3.trans s4).upd HD _, ?_⟩⟩
   ·rcases List.mem_append.mp hu with m | m
    ·exact y2 u m
    ·rw [List.mem_singleton.mp m]; exact hv
   ·obtain ⟨a, b, c', h1, r⟩ := hh4
    exact HandAt.le ⟨a, b, c', by rw [upd_ne nD.symm]; exact h1, r⟩ (by omega)
  obtain ⟨yl, yw, s3, hh3⟩ := hP
  refine draw_ok hh3 (by omega) (by decide) (by decide +kernel) fun p1 H4 s4 hh4 p10 p11 => draw_ok hh4 (by omega) (by decide) (by decide +kernel) fun p2 H5 s5 hh5 p20 p21 => ⟨by show (3 : Nat) ≤ sizeLine; decide, fun pl hpl => ?_⟩
  have npl : pl ≠ h := fun e => by obtain ⟨a, b, c, h1, _⟩ := hh5; rw [e, h1] at hpl; cases hpl
  refine draw_ok (hh5.same (same_new hpl _)) (by omega) (by decide) (by decide +kernel) fun p3 H6 s6 hh6 p30 p31 => ?_
  obtain ⟨pv, hpv, hpm⟩ := atI_in [V.int (1 + p1), V.int (1 + p2), V.int 999999] p3 p30 (by show p3 < 3; omega)
  obtain ⟨pr, rfl, pr1, pr2⟩ : ∃ pr : Int, pv = .int pr ∧ 1 ≤ pr ∧ pr ≤ 999999 := by
   simp only [List.mem_cons, List.not_mem_nil, or_false] at hpm
   rcases hpm with rfl | rfl | rfl
   ·exact ⟨_, rfl, by omega, by omega⟩
   ·exact ⟨_, rfl, by omega, by omega⟩
   ·exact ⟨_, rfl, by omega, by omega⟩
  have S6 := s4.trans (s5.trans ((SameB.of (same_new hpl (.lst [V.int (1 + p1), V.int (1 + p2), V.int 999999]))).trans s6))
  refine rIxL_ok (s6 _ _ npl upd_same) hpv (draw_ok hh6 (by omega) (by decide) (by decide +kernel) fun a1 H7 s7 hh7 a10 a11 => ?_)
  obtain ⟨z1, hz1, hq1⟩ := nm (x := 8 + a1) (s3.trans (S6.trans s7)) (by omega) (by omega)
  refine hq1 _ (draw_ok hh7 (by omega) (by decide) (by decide +kernel) fun a2 H8 s8 hh8 a20 a21 => ?_)
  have S8 := S6.trans (s7.trans s8)
  obtain ⟨z2, hz2, hq2⟩ := nm (s3.trans S8) a20 a21
  refine hq2 _ ⟨by show (4 : Nat) ≤ sizeLine; decide, fun t1 ht1 => ⟨_, .inl ⟨SqL.of (same_new ht1 _ _ _ (S8 _ _ nD hD3)), fun t2 ht2 => ?_⟩⟩⟩
  have yl : ys.length = 1 + y := by omega
  refine rCatU_ok (same_new ht2 _ _ _ upd_same) upd_same (by simp only [List.length_cons, List.length_nil]; omega) fun t H9 s9 ht => ?_
  have S9 := S8.trans ((SameB.of (same_new ht1 _)).trans ((SameB.of (same_new ht2 _)).trans (SameB.of s9)))
  exact q t _ _ (s3.trans S9) ht (.inr (.inl ⟨z1, z2, pr, ys, rfl, hz1, hz2, pr1, pr2, by omega, by omega, yw⟩))
 ·refine ⟨by show (1 : Nat) ≤ sizeLine; decide, fun t ht => ?_⟩
  exact q t _ _ (s1.trans (SameB.of (same_new ht _))) upd_same (.inr (.inr (.inl rfl)))
 ·refine draw_ok hh1 (by omega) (by decide) (by decide +kernel) fun y H2 s2 hh2 y0 y1 => ⟨by show (2 : Nat) ≤ sizeLine; decide, fun t1 ht1 => ⟨h, _, rfl, hh2.same (same_new ht1 _), by omega, fun t2 d H3 s3 hf2 ht2 hd => ?_⟩⟩
  have n1' : t1 ≠ h := fun e => by obtain ⟨a, b, c, h1, _⟩ := hh2; rw [e, h1] at ht1; cases ht1
  have dl := deed_len hd
  refine rCatU_ok (s3 _ _ n1' upd_same) ht2 (by simp only [List.length_cons, List.length_nil]; omega) fun t H4 s4 ht => ?_
  exact q t _ _ ((s1.trans s2).trans ((SameB.of (same_new ht1 _)).trans (s3.trans (SameB.of s4)))) ht (.inr (.inr (.inr ⟨y, d, rfl, hd, y0, y1⟩)))
noncomputable abbrev sSettled : Stmt := top 49
theorem scSettled : FnScope ["rows", "rules", "found", "many", "row", "name"] ["rows"] (defScope sSettled) := ⟨rfl, rfl, rfl, by decide +kernel, rfl, by decide +kernel, by decide +kernel⟩
theorem hasSettled (G : Gs w K mg) (D : Def K mg "_law_settled" sSettled ["rows"]) : Has P w K mg base (k + 1) "_law_settled" ["rows"] spSettled := by
 refine D.has scSettled (fun vs H Q E h => ?_) (fun f cdv A outer s H vs Q E hr h => ?_)
 ·obtain ⟨_, _, rfl, _, _, _, _⟩ := h
  rfl
 have nd := scSettled.nd
 have hu := hu_of hr
 have hu0 := Nat.lt_of_succ_lt hu
 obtain ⟨l, raws, rfl, hl, hw, hn, q⟩ := h
 have m_len := G.m_len
 refine ⟨_, (@pss_cons _ _ _ _ _ (@ps_setlc _ _ _ _ _ _ _ _ _ _ _ _ _ _ _ 1 _ _ _ nd rfl (Or.inl rfl) (@ClOk.mk _ _ ["row"] [] [] _ rfl rfl rfl rfl trivial rfl trivial) rfl (@pi_list _ _ _ _ (@pvD _ 0 _ _ (by rfl) (by first | exact Or.inl rfl | exact Or.inr (Or.inl rfl) | exact Or.inr (Or.inr rfl)) (by decide) (by decide))) (fun _ _ _ => (@pg_name _ _ 0 _ (show List.Nodup (["row"] : List Str) by decide +kernel) rfl (Or.inl rfl) (by first | exact .inl rfl | exact .inr rfl | assumption))) (fun _ _ _ => (@pif1 _ _ _ (@pt_cmpRD _ _ _ _ _ _ _ _ (@op_eq _) (@pe_ix _ _ _ _ _ _ _ (@ix_tupK _ K rfl) (@pvD _ 0 _ _ (by rfl) (by first | exact Or.inl rfl | exact Or.inr (Or.inl rfl) | exact Or.inr (Or.inr rfl)) (by decide) (by decide)) (@pe_int _ _ _ _) (fun _ _ => rfl)) (@pe_str _ _ _ _) (@nomark _ _ (by decide) (by decide))))) (fun _ _ _ => (@pe_ix _ _ _ _ _ _ _ (@ix_tupK _ K rfl) (@pvD _ 0 _ _ (by rfl) (by first | exact Or.inl rfl | exact Or.inr (Or.inl rfl) | exact Or.inr (Or.inr rfl)) (by decide) (by decide)) (@pe_int _ _ _ _) (fun _ _ => rfl))) (by rfl) (by intro _; rfl) (by first | exact .inl rfl | exact .inr rfl | assumption)) (@pss_cons _ _ _ _ _ (@ps_set _ _ 2 _ _ _ _ nd rfl (by first | exact Or.inl rfl | exact Or.inr rfl) (@pe_lst _ _ _ _ (@pa_nil _)) (by rfl) (by first | exact .inl rfl | exact .inr rfl | assumption)) (@pss_cons _ _ _ _ _ (@ps_set _ _ 3 _ _ _ _ nd rfl (by first | exact Or.inl rfl | exact Or.inr rfl) (@pe_dnewK _ _) (by rfl) (by first | exact .inl rfl | exact .inr rfl | assumption)) (@pss_cons _ _ _ _ _ (@ps_for _ _ _ _ _ _ _ _ PassesOwn.never rfl (@pi_list _ _ _ _ (@pvD _ 0 _ _ (by rfl) (by first | exact Or.inl rfl | exact Or.inr (Or.inl rfl) | exact Or.inr (Or.inr rfl)) (by decide) (by decide))) (@pg_name _ _ 4 _ nd rfl (by first | exact Or.inl rfl | exact Or.inr rfl) (by first | exact .inl rfl | exact .inr rfl | assumption)) (@pss_mid _ _ _ _ _ (@ps_if _ _ _ _ _ _ _ _ (@PW.pt _ _ _ (@pw_and _ _ _ _ _ _ _ (@pt_cmpRD _ _ _ _ _ _ _ _ (@op_eq _) (@pe_ix _ _ _ _ _ _ _ (@ix_tup _) (@pvD _ 4 _ _ (by rfl) (by first | exact Or.inl rfl | exact Or.inr (Or.inl rfl) | exact Or.inr (Or.inr rfl)) (by decide) (by decide)) (@pe_int _ _ _ _) (fun _ _ => rfl)) (@pe_str _ _ _ _) (@nomark _ _ (by decide) (by decide))) (@pw_and1 _ _ _ _ (@pt_cmpRD _ _ _ _ _ _ _ _ (@op_eq _) (@pe_callB _ _ _ _ _ _ _ _ _ (@call_len_seqD _) rfl m_len b_len (@pa_cons _ _ _ _ _ (@pvD _ 1 _ _ (by rfl) (by first | exact Or.inl rfl | exact Or.inr (Or.inl rfl) | exact Or.inr (Or.inr rfl)) (by decide) (by decide)) (@pa_nil _) (by rfl)) (by decide) (by decide) (by rfl) (by rfl)) (@pe_int _ _ _ _) (@nomark _ _ (by decide) (by decide)))))) (@pss_one _ _ _ (@ps_set _ _ 4 _ _ _ _ nd rfl (by first | exact Or.inl rfl | exact Or.inr rfl) (@pe_tup _ _ _ _ _ (@pa_cons _ _ _ _ _ (@pe_str _ _ _ _) (@pa_nil _) (by rfl))) (by rfl) (by first | exact .inl rfl | exact .inr rfl | assumption))) (@pss_nil _)) (@pss_mid _ _ _ _ _ (@ps_if _ _ _ _ _ _ _ _ (@pt_cmpRD _ _ _ _ _ _ _ _ (@op_eq _) (@pe_ix _ _ _ _ _ _ _ (@ix_tup _) (@pvD _ 4 _ _ (by rfl) (by first | exact Or.inl rfl | exact Or.inr (Or.inl rfl) | exact Or.inr (Or.inr rfl)) (by decide) (by decide)) (@pe_int _ _ _ _) (fun _ _ => rfl)) (@pe_str _ _ _ _) (@nomark _ _ (by decide) (by decide))) (@pss_cons _ _ _ _ _ (@ps_set _ _ 5 _ _ _ _ nd rfl (by first | exact Or.inl rfl | exact Or.inr rfl) (@pe_ix _ _ _ _ _ _ _ (@ix_list _) (@pvD _ 1 _ _ (by rfl) (by first | exact Or.inl rfl | exact Or.inr (Or.inl rfl) | exact Or.inr (Or.inr rfl)) (by decide) (by decide)) (@pe_op _ _ _ _ _ _ _ _ (@op_modD _) (@pe_ix _ _ _ _ _ _ _ (@ix_tup _) (@pvD _ 4 _ _ (by rfl) (by first | exact Or.inl rfl | exact Or.inr (Or.inl rfl) | exact Or.inr (Or.inr rfl)) (by decide) (by decide)) (@pe_int _ _ _ _) (fun _ _ => rfl)) (@pe_callB _ _ _ _ _ _ _ _ _ (@call_len_seqD _) rfl m_len b_len (@pa_cons _ _ _ _ _ (@pvD _ 1 _ _ (by rfl) (by first | exact Or.inl rfl | exact Or.inr (Or.inl rfl) | exact Or.inr (Or.inr rfl)) (by decide) (by decide)) (@pa_nil _) (by rfl)) (by decide) (by decide) (by rfl) (by rfl))) (fun _ _ => rfl)) (by rfl) (by first | exact .inl rfl | exact .inr rfl | assumption)) (@pss_cons _ _ _ _ _ (@ps_dput _ _ _ _ _ _ _ _ _ hu (@pvD _ 3 _ _ (by rfl) (by first | exact Or.inl rfl | exact Or.inr (Or.inl rfl) | exact Or.inr (Or.inr rfl)) (by decide) (by decide)) (@pvD _ 5 _ _ (by rfl) (by first | exact Or.inl rfl | exact Or.inr (Or.inl rfl) | exact Or.inr (Or.inr rfl)) (by decide) (by decide)) (@pe_op _ _ _ _ _ _ _ _ (@op_addD _) (@pe_bm _ _ _ _ _ _ _ _ _ _ _ _ PySem.F.plainAttrs_dict PySem.F.slot_dict_get PySem.F.type_dict_get (@mt_dget2 _ hu) (@pvD _ 3 _ _ (by rfl) (by first | exact Or.inl rfl | exact Or.inr (Or.inl rfl) | exact Or.inr (Or.inr rfl)) (by decide) (by decide)) (@pa_cons _ _ _ _ _ (@pvD _ 5 _ _ (by rfl) (by first | exact Or.inl rfl | exact Or.inr (Or.inl rfl) | exact Or.inr (Or.inr rfl)) (by decide) (by decide)) (@pa_cons _ _ _ _ _ (@pe_int _ _ _ _) (@pa_nil _) (by rfl)) (by rfl)) (by rfl) (by rfl) (by rfl) (by rfl) (by rfl)) (@pe_int _ _ _ _)) rfl) (@pss_cons _ _ _ _ _ (@ps_set _ _ 4 _ _ _ _ nd rfl (by first | exact Or.inl rfl | exact Or.inr rfl) (@pe_op _ _ _ _ _ _ _ _ (@op_catU _) (@pe_tup _ _ _ _ _ (@pa_cons _ _ _ _ _ (@pe_str _ _ _ _) (@pa_cons _ _ _ _ _ (@pvD _ 5 _ _ (by rfl) (by first | exact Or.inl rfl | exact Or.inr (Or.inl rfl) | exact Or.inr (Or.inr rfl)) (by decide) (by decide)) (@pa_nil _) (by rfl)) (by rfl))) (@pe_slice _ _ _ _ _ _ _ _ _ _ (@sl_tupU _) (@pvD _ 4 _ _ (by rfl) (by first | exact Or.inl rfl | exact Or.inr (Or.inl rfl) | exact Or.inr (Or.inr rfl)) (by decide) (by decide)) (@po_someD _ _ _ (@pe_int _ _ _ _)) (@po_none _))) (by rfl) (by first | exact .inl rfl | exact .inr rfl | assumption)) (@pss_one _ _ _ (@ps_if _ _ _ _ _ _ _ _ (@pt_cmpRD _ _ _ _ _ _ _ _ (@op_gtD _) (@pe_dget _ _ _ _ _ _ hu (@pvD _ 3 _ _ (by rfl) (by first | exact Or.inl rfl | exact Or.inr (Or.inl rfl) | exact Or.inr (Or.inr rfl)) (by decide) (by decide)) (@pvD _ 5 _ _ (by rfl) (by first | exact Or.inl rfl | exact Or.inr (Or.inl rfl) | exact Or.inr (Or.inr rfl)) (by decide) (by decide)) (fun _ _ => rfl)) (@pe_int _ _ _ _) (@nomark _ _ (by decide) (by decide))) (@pss_one _ _ _ (@ps_set _ _ 4 _ _ _ _ nd rfl (by first | exact Or.inl rfl | exact Or.inr rfl) (@pe_tup _ _ _ _ _ (@pa_cons _ _ _ _ _ (@pe_str _ _ _ _) (@pa_nil _) (by rfl))) (by rfl) (by first | exact .inl rfl | exact .inr rfl | assumption))) (@pss_nil _)))))) (@pss_nil _)) (@pss_one _ _ _ (@ps_expr _ _ _ _ (@pe_bm _ _ _ _ _ _ _ _ _ _ _ _ PySem.F.plainAttrs_list PySem.F.slot_list_append PySem.F.type_list_append (@mt_append _) (@pvD _ 2 _ _ (by rfl) (by first | exact Or.inl rfl | exact Or.inr (Or.inl rfl) | exact Or.inr (Or.inr rfl)) (by decide) (by decide)) (@pa_cons _ _ _ _ _ (@pvD _ 4 _ _ (by rfl) (by first | exact Or.inl rfl | exact Or.inr (Or.inl rfl) | exact Or.inr (Or.inr rfl)) (by decide) (by decide)) (@pa_nil _) (by rfl)) (by rfl) (by rfl) (by rfl) (by rfl) (by rfl)) (by rfl))))) (by intro _; rfl)) (@pss_one _ _ _ (@ps_ret _ _ _ _ (@pvD _ 2 _ _ (by rfl) (by first | exact Or.inl rfl | exact Or.inr (Or.inl rfl) | exact Or.inr (Or.inr rfl)) (by decide) (by decide)))))))), ?_⟩
 rw [show start ["rows", "rules", "found", "many", "row", "name"] [.ref l] = [some (.ref l), none, none, none, none, none] from rfl]
 clear hu hu0 nd hr
 push_cast [and_true]
 have sz := sizeLine_eq
 obtain ⟨qs, rfl, qok⟩ := raws_of hw
 obtain ⟨ps, p1, p2⟩ := hl
 rw [List.length_map] at hn
 have p2l : ps.length = qs.length := by rw [p2.1, List.length_map]
 refine ⟨⟨_, SqL.of p1⟩, fun rl hrl => lc_list (fun i ys => ys = (rrules (qs.take i)).map V.str) (SqL.of p1) (by rw [List.length_map]; omega) hrl rfl (fun i x ys H1 G' K' hx hP hl2 hS hG hK => ?_) fun ys H1 hP hl2 hS hD2 => ⟨Nat.zero_le _, fun fl hfl md hmd => ?_⟩⟩
 ·-- the rules' names
  obtain ⟨t, ht, rfl⟩ := refs_get hx
  have hi : i < qs.length := by
   have := (List.getElem?_eq_some_iff.mp ht).1
   omega
  have hqi : qs[i]? = some qs[i] := List.getElem?_eq_getElem hi
  have et : qs.take (i + 1) = qs.take i ++ [qs[i]] := by rw [List.take_add_one, hqi]; rfl
  have ht0 : H t = some (.tup qs[i].vs) := p2.2 i t _ ht (by rw [List.getElem?_map, hqi]; rfl)
  have ok := qok _ (List.getElem_mem hi)
  generalize qs[i] = q0 at et ht0 ok
  have ht1 := hS _ _ ht0
  push_cast [and_true]
  cases q0 with
  | dn k d => exact rIxT_ok ht1 (atI_nat (j := 0) rfl) ⟨rfl, ifN (show ¬ V.str ("does" : Str) = V.str "rule" by decide +kernel) (hG _ (Same.refl _) (by rw [hP, et, rr_dn]))⟩
  | it r =>
   cases r with
   | rule n k p ws => exact rIxT_ok ht1 (atI_nat (j := 0) rfl) ⟨rfl, ifY (show V.str ("rule" : Str) = V.str "rule" from rfl) (rIxT_ok ht1 (atI_nat (j := 1) rfl) (hK _ _ (Same.refl _) (by rw [hP, et, rr_rule, List.map_append]; rfl)))⟩
   | kind n => exact rIxT_ok ht1 (atI_nat (j := 0) rfl) ⟨rfl, ifN (show ¬ V.str ("kind" : Str) = V.str "rule" by decide +kernel) (hG _ (Same.refl _) (by rw [hP, et, rr_kind]))⟩
   | none => exact rIxT_ok ht1 (atI_nat (j := 0) rfl) ⟨rfl, ifN (show ¬ V.str ("" : Str) = V.str "rule" by decide +kernel) (hG _ (Same.refl _) (by rw [hP, et, rr_none]))⟩
   | does n d => exact absurd rfl (ok.2 n d)
 rw [List.length_map, p2l, List.take_length] at hP
 subst hP
 have HF : H fl = none := hS.free hfl
 have HM : H md = none := (hS.trans (same_new hfl (.lst []))).free hmd
 have HR : H rl = none := hrl
 have nfr : fl ≠ rl := (ne_of_none hD2 hfl).symm
 have nmr : md ≠ rl := (ne_of_none (same_new hfl (.lst []) _ _ hD2) hmd).symm
 have nmf : md ≠ fl := (ne_of_none upd_same hmd).symm
 have nl := rr_len qs
 obtain ⟨B, eB⟩ : ∃ B : Nat → List Addr → List Rw → Hp → Prop, ∀ i fs rs H', B i fs rs H' ↔ (Same H H' ∧ H' rl = some (.lst ((rrules qs).map V.str)) ∧ H' fl = some (.lst (fs.map V.ref)) ∧ TupsAt H' fs (rs.map Rw.vs) ∧ CntAt H' md i) := ⟨_, fun _ _ _ _ => Iff.rfl⟩
 have Bs : ∀ {i fs rs H1 H2}, B i fs rs H1 → Same H1 H2 → B i fs rs H2 := fun {i fs rs H1 H2} b s => by
  obtain ⟨a1, a2, a3, a4, a5⟩ := (eB _ _ _ _).mp b
  exact (eB _ _ _ _).mpr ⟨a1.trans s, s _ _ a2, s _ _ a3, a4.keep (Tk.of s), a5.same s⟩
 refine ⟨⟨_, SqL.of (((same_new hfl (.lst [])).trans (same_new hmd (.dK []))) _ _ (hS _ _ p1))⟩, forW_list (xs := ps.map V.ref) (fun i σ H' => ∃ (fs : List Addr) (rs : List Rw) (v4 v5 : Option V), σ = [some (.ref l), some (.ref rl), some (.ref fl), some (.ref md), v4, v5] ∧ B i fs rs H' ∧ rs.length = i ∧ rulesR rs = rrules (qs.take i) ∧ (∀ r ∈ rs, r.ok) ∧ ∀ n d, Rw.does n d ∈ rs → n ∈ rrules qs) ?_ (fun i σ H' _ h => ?_) ?_ ?_⟩
 ·refine ⟨[], [], none, none, rfl, (eB _ _ _ _).mpr ⟨hS.trans ((same_new hfl _).trans (same_new hmd _)), same_new hmd _ _ _ (same_new hfl _ _ _ hD2), same_new hmd _ _ _ upd_same, TupsAt.nil _, [], upd_same, Nat.le_refl _, fun _ _ h => by cases h⟩, rfl, rfl, (fun _ h => nomatch h), fun _ _ h => nomatch h⟩
 ·obtain ⟨_, _, _, _, _, b, _⟩ := h
  exact SqL.of (((eB _ _ _ _).mp b).1 _ _ p1)
 ·clear hD2 hfl hmd hS H1 hl2
  rintro i x σ H1 hx ⟨fs, rs, v4, v5, rfl, b1, rl1, rr1, ok1, ds1⟩
  obtain ⟨t, ht, rfl⟩ := refs_get hx
  have hi : i < qs.length := by
   have := (List.getElem?_eq_some_iff.mp ht).1
   omega
  have hqi : qs[i]? = some qs[i] := List.getElem?_eq_getElem hi
  have et : qs.take (i + 1) = qs.take i ++ [qs[i]] := by rw [List.take_add_one, hqi]; rfl
  have ht0 : H t = some (.tup qs[i].vs) := p2.2 i t _ ht (by rw [List.getElem?_map, hqi]; rfl)
  have ok := qok _ (List.getElem_mem hi)
  generalize qs[i] = q0 at et ht0 ok
  have ht1 : H1 t = some (.tup q0.vs) := ((eB _ _ _ _).mp b1).1 _ _ ht0
  obtain ⟨M1, eM1⟩ : ∃ M1 : L2.St → Hp → Prop, ∀ σ H', M1 σ H' ↔ ∃ t' q', σ = [some (.ref l), some (.ref rl), some (.ref fl), some (.ref md), some (.ref t'), v5] ∧ H' t' = some (.tup (Rr.vs q')) ∧ Rr.ok q' ∧ rrules [q'] = rrules [q0] ∧ ((∃ k d, q' = .dn k d) → rrules qs ≠ []) ∧ B i fs rs H' := ⟨_, fun _ _ => Iff.rfl⟩
  obtain ⟨M2, eM2⟩ : ∃ M2 : L2.St → Hp → Prop, ∀ σ H', M2 σ H' ↔ ∃ t' r v5, σ = [some (.ref l), some (.ref rl), some (.ref fl), some (.ref md), some (.ref t'), v5] ∧ H' t' = some (.tup (Rw.vs r)) ∧ Rw.ok r ∧ rulesR [r] = rrules [q0] ∧ (∀ n d, r = .does n d → n ∈ rrules qs) ∧ B (i + 1) fs rs H' := ⟨_, fun _ _ => Iff.rfl⟩
  refine tMid_of M1 ?_ fun σ H2 hm => tMid_of M2 ?_ fun σ2 H3 hm2 => ?_
  ·push_cast [and_true]
   cases q0 with
   | it r =>
    have out : M1 [some (.ref l), some (.ref rl), some (.ref fl), some (.ref md), some (.ref t), v5] H1 := (eM1 _ _).mpr ⟨t, _, rfl, ht1, ok, rfl, (fun ⟨_, _, e⟩ => by cases e), b1⟩
    cases r with
    | rule n k p ws => exact rIxT_ok ht1 (atI_nat (j := 0) rfl) ⟨rfl, ifN (show ¬ V.str ("rule" : Str) = V.str "does" by decide +kernel) out⟩
    | kind n => exact rIxT_ok ht1 (atI_nat (j := 0) rfl) ⟨rfl, ifN (show ¬ V.str ("kind" : Str) = V.str "does" by decide +kernel) out⟩
    | none => exact rIxT_ok ht1 (atI_nat (j := 0) rfl) ⟨rfl, ifN (show ¬ V.str ("" : Str) = V.str "does" by decide +kernel) out⟩
    | does n d => exact absurd rfl (ok.2 n d)
   | dn k d =>
    refine rIxT_ok ht1 (atI_nat (j := 0) rfl) ⟨rfl, ifY (show V.str ("does" : Str) = V.str "does" from rfl) ⟨_, .inl (SqL.of ((eB _ _ _ _).mp b1).2.1), rfl, ?_⟩⟩
    rw [List.length_map]
    refine ite2 (fun c => ⟨by show (1 : Nat) ≤ sizeLine; decide, fun p hp => (eM1 _ _).mpr ⟨p, .it .none, rfl, upd_same, ⟨trivial, fun _ _ e => by cases e⟩, rfl, (fun ⟨_, _, e⟩ => by cases e), Bs b1 (same_new hp _)⟩⟩) fun c => (eM1 _ _).mpr ⟨t, _, rfl, ht1, ok, rfl, (fun _ e => c (by rw [e]; rfl)), b1⟩
  ·obtain ⟨t', q', rfl, ht2, ok2, e2, nd2, b2⟩ := (eM1 _ _).mp hm
   push_cast [and_true]
   obtain ⟨a1, a2, a3, a4, a5⟩ := (eB _ _ _ _).mp b2
   cases q' with
   | it r =>
    have er : rulesR [r] = rrules [Rr.it r] := by cases r <;> rfl
    have out : M2 [some (.ref l), some (.ref rl), some (.ref fl), some (.ref md), some (.ref t'), v5] H2 := (eM2 _ _).mpr ⟨t', r, v5, rfl, ht2, ok2.1, er.trans e2, (fun n d e => absurd e (ok2.2 n d)), (eB _ _ _ _).mpr ⟨a1, a2, a3, a4, a5.le (Nat.le_succ _)⟩⟩
    cases r with
    | rule n k p ws => exact rIxT_ok ht2 (atI_nat (j := 0) rfl) ⟨rfl, ifN (show ¬ V.str ("rule" : Str) = V.str "does" by decide +kernel) out⟩
    | kind n => exact rIxT_ok ht2 (atI_nat (j := 0) rfl) ⟨rfl, ifN (show ¬ V.str ("kind" : Str) = V.str "does" by decide +kernel) out⟩
    | none => exact rIxT_ok ht2 (atI_nat (j := 0) rfl) ⟨rfl, ifN (show ¬ V.str ("" : Str) = V.str "does" by decide +kernel) out⟩
    | does n d => exact absurd rfl (ok2.2 n d)
   | dn k d =>
    have ne := nd2 ⟨k, d, rfl⟩
    have pos : 0 < (rrules qs).length := List.length_pos_iff.mpr ne
    obtain ⟨m, hm1, hm2⟩ := strs_at (zs := rrules qs) (k := k % ((rrules qs).length : Int)) rfl (Int.emod_nonneg _ (by omega)) (Int.emod_lt_of_pos _ (by omega))
    obtain ⟨kvs, k1, k2, k3⟩ := id a5
    refine rIxT_ok ht2 (atI_nat (j := 0) rfl) ⟨rfl, ifY (show V.str ("does" : Str) = V.str "does" from rfl) (rIxT_ok ht2 (atI_nat (j := 1) rfl) ⟨_, .inl (SqL.of a2), ?_⟩)⟩
    rw [List.length_map]
    refine ⟨by omega, rIxL_ok a2 hm1 ⟨tyV_dict k1, ?_⟩⟩
    obtain ⟨c, hc⟩ : ∃ c : Int, (valV kvs (Sum.inr m)).getD (.int 0) = .int c := by
     cases e : valV kvs (Sum.inr m) with
     | none => exact ⟨0, rfl⟩
     | some v => obtain ⟨c, rfl⟩ := k3 m v e; exact ⟨c, rfl⟩
    refine ⟨md, _, _, _, rfl, rfl, DGet.k (k := Sum.inr m) k1, ?_⟩
    rw [hc]
    have nt : t' ≠ md := ne_of ht2 k1 (by intro h; cases h)
    have A5 := a5.put (z := m) (i := c + 1) k1
    have tk : Tk H2 (upd H2 md (.dK (putK kvs (Sum.inr m) (.int (c + 1))))) := Tk.upd (Tk.refl _) fun xs e => by rw [k1] at e; cases e
    have B4 : B (i + 1) fs rs (upd H2 md (.dK (putK kvs (Sum.inr m) (.int (c + 1))))) := (eB _ _ _ _).mpr ⟨a1.upd HM _, by rw [upd_ne nmr.symm]; exact a2, by rw [upd_ne nmf.symm]; exact a3, a4.keep tk, A5⟩
    refine ⟨_, DPut.k (k := Sum.inr m) k1 (by omega), by show (2 : Nat) ≤ sizeLine; decide, fun p hp => ?_⟩
    have ht4 := tk _ _ ht2
    have hd4 : upd H2 md (.dK (putK kvs (Sum.inr m) (.int (c + 1)))) md = some (.dK (putK kvs (Sum.inr m) (.int (c + 1)))) := upd_same
    generalize upd H2 md (.dK (putK kvs (Sum.inr m) (.int (c + 1)))) = H4 at B4 ht4 hd4 hp ⊢
    have s5 := same_new hp (.tup [V.str (Str.ofString "does"), V.str m])
    have dl := deed_len ok2.1
    refine rSlU_ok (s5 _ _ ht4) fun y H6 s6 hy => ?_
    rw [show cutV (Rr.dn k d).vs (some 2) none = d from cut_tail (dsV :: .int k :: d) 2 0 (by show 2 + 0 ≤ d.length + 2; omega)] at hy
    refine rCatU_ok (s6 _ _ upd_same) hy (by simp only [List.length_cons, List.length_nil]; omega) fun t3 H7 s7 ht3 => ?_
    have S7 := s5.trans (s6.trans s7)
    have gd := DGet.k (k := Sum.inr m) (S7 _ _ hd4)
    rw [valV_put, if_pos rfl] at gd
    refine ⟨_, gd, ite2 (fun _ => ⟨by show (1 : Nat) ≤ sizeLine; decide, fun p8 hp8 => (eM2 _ _).mpr ⟨p8, .none, _, rfl, upd_same, trivial, e2, (fun _ _ e => by cases e), Bs B4 (S7.trans (same_new hp8 _))⟩⟩) fun _ => (eM2 _ _).mpr ⟨t3, .does m d, _, rfl, ht3, ⟨?_, ok2.1⟩, e2, (fun n d' e => by cases e; exact hm2), Bs B4 S7⟩⟩
    obtain ⟨q1, hq1, e1⟩ := List.mem_filterMap.mp hm2
    cases q1 with
    | dn _ _ => cases e1
    | it r1 =>
     cases r1 with
     | rule n' k' p' ws' =>
      cases e1
      exact (qok _ hq1).1.1
     | _ => cases e1
  ·obtain ⟨t', r, v5', rfl, ht3, ok3, e3, nd3, b3⟩ := (eM2 _ _).mp hm2
   push_cast [and_true]
   obtain ⟨a1, a2, a3, a4, a5⟩ := (eB _ _ _ _).mp b3
   have fl2 : fs.length = rs.length := by rw [a4.1, List.length_map]
   have tk : Tk H3 (upd H3 fl (.lst (fs.map V.ref ++ [.ref t']))) := Tk.upd (Tk.refl _) fun xs e => by rw [a3] at e; cases e
   refine append_ok a3 (by rw [List.length_map]; omega) ⟨fs ++ [t'], rs ++ [r], (eB _ _ _ _).mpr ⟨a1.upd HF _, by rw [upd_ne nfr.symm]; exact a2, by rw [upd_same, List.map_append]; rfl, ?_, ?_⟩, by rw [List.length_append, rl1]; rfl, ?_, ?_, ?_⟩
   ·rw [List.map_append]
    exact (a4.keep tk).snoc (tk _ _ ht3)
   ·obtain ⟨kvs, k1, k2⟩ := a5
    exact ⟨kvs, by rw [upd_ne nmf]; exact k1, k2⟩
   ·rw [et, show rulesR (rs ++ [r]) = rulesR rs ++ rulesR [r] from List.filterMap_append, show rrules (qs.take i ++ [q0]) = rrules (qs.take i) ++ rrules [q0] from List.filterMap_append, rr1, e3]
   ·exact fun r' hr' => (List.mem_append.mp hr').elim (ok1 r') fun h => by rw [List.mem_singleton.mp h]; exact ok3
   ·exact fun n d hr' => (List.mem_append.mp hr').elim (ds1 n d) fun h => nd3 n d (List.mem_singleton.mp h).symm
 ·rintro σ H1 ⟨fs, rs, v4, v5, rfl, b1, rl1, rr1, ok1, ds1⟩
  rw [List.length_map, p2l] at rl1 rr1
  rw [List.take_length] at rr1
  obtain ⟨a1, a2, a3, a4, a5⟩ := (eB _ _ _ _).mp b1
  push_cast [and_true]
  exact q fl rs H1 a1 ⟨fs, a3, a4⟩ ⟨ok1, by omega, fun n d h => by rw [rr1]; exact ds1 n d h⟩
noncomputable abbrev sRowsL : Stmt := top 48
theorem scRowsL : FnScope ["script", "names", "rows", "size", "counts", "k", "cell", "row", "cost"] ["script", "names"] (defScope sRowsL) := ⟨rfl, rfl, rfl, by decide +kernel, rfl, by decide +kernel, by decide +kernel⟩
theorem hasRowsL (G : Gs w K mg) (h_law_hand : Has P w K mg base k "_law_hand" ["cell", "k"] spHand) (h_law_row : Has P w K mg base k "_law_row" ["hand", "names"] spRowL) (h_law_settled : Has P w K mg base k "_law_settled" ["rows"] spSettled) (D : Def K mg "_law_rows" sRowsL ["script", "names"]) : Has P w K mg base (k + 1) "_law_rows" ["script", "names"] (spRowsL K) := by
 refine D.has scRowsL (fun vs H Q E h => ?_) (fun f cdv A outer s H vs Q E hr h => ?_)
 ·obtain ⟨_, _, _, rfl, _, _, _, _⟩ := h
  rfl
 have nd := scRowsL.nd
 have hu := hu_of hr
 have hu0 := Nat.lt_of_succ_lt hu
 obtain ⟨a, l, ns, rfl, ha, hn, hN, q⟩ := h
 have m_enumerate := G.m_enumerate
 have m_len := G.m_len
 have m_str := G.m_str
 have m_sum := G.m_sum
 refine ⟨_, (@pss_cons _ _ _ _ _ (@ps_set _ _ 2 _ _ _ _ nd rfl (by first | exact Or.inl rfl | exact Or.inr rfl) (@pe_lst _ _ _ _ (@pa_nil _)) (by rfl) (by first | exact .inl rfl | exact .inr rfl | assumption)) (@pss_cons _ _ _ _ _ (@ps_set _ _ 3 _ _ _ _ nd rfl (by first | exact Or.inl rfl | exact Or.inr rfl) (@pe_int _ _ _ _) (by rfl) (by first | exact .inl rfl | exact .inr rfl | assumption)) (@pss_cons _ _ _ _ _ (@ps_set _ _ 4 _ _ _ _ nd rfl (by first | exact Or.inl rfl | exact Or.inr rfl) (@pe_disp _ _ _ _ _ (@pps_cons _ _ _ _ _ _ _ _ _ (@pe_str _ _ _ _) (@pe_int _ _ _ _) (@pps_cons _ _ _ _ _ _ _ _ _ (@pe_str _ _ _ _) (@pe_int _ _ _ _) (@pps_cons _ _ _ _ _ _ _ _ _ (@pe_str _ _ _ _) (@pe_int _ _ _ _) (@pps_cons _ _ _ _ _ _ _ _ _ (@pe_str _ _ _ _) (@pe_int _ _ _ _) (@pps_nil _ _))))) rfl rfl (fun e => nomatch e) (by decide)) (by rfl) (by first | exact .inl rfl | exact .inr rfl | assumption)) (@pss_cons _ _ _ _ _ (@ps_for _ _ _ _ _ _ _ _ PassesOwn.never rfl (@pi_enum _ _ _ _ _ _ _ _ rfl m_enumerate (@pa_cons _ _ _ _ _ (@pe_slice _ _ _ _ _ _ _ _ _ _ (@sl_list _) (@pvD _ 0 _ _ (by rfl) (by first | exact Or.inl rfl | exact Or.inr (Or.inl rfl) | exact Or.inr (Or.inr rfl)) (by decide) (by decide)) (@po_none _) (@po_someD _ _ _ (@pe_int _ _ _ _))) (@pa_nil _) (by rfl)) (by rfl)) (@pg_tup _ _ _ _ _ _ rfl (@pgs_cons _ _ _ _ _ (@pg_name _ _ 5 _ nd rfl (by first | exact Or.inl rfl | exact Or.inr rfl) (by first | exact .inl rfl | exact .inr rfl | assumption)) (@pgs_cons _ _ _ _ _ (@pg_name _ _ 6 _ nd rfl (by first | exact Or.inl rfl | exact Or.inr rfl) (by first | exact .inl rfl | exact .inr rfl | assumption)) (@pgs_nil _) (by rfl)) (by rfl)) (by rfl) (by rfl)) (@pss_cons _ _ _ _ _ (@ps_set _ _ 7 _ _ _ _ nd rfl (by first | exact Or.inl rfl | exact Or.inr rfl) (@pe_has _ _ _ _ _ _ _ _ _ _ h_law_row hr (@pa_cons _ _ _ _ _ (@pe_has _ _ _ _ _ _ _ _ _ _ h_law_hand hr (@pa_cons _ _ _ _ _ (@pvD _ 6 _ _ (by rfl) (by first | exact Or.inl rfl | exact Or.inr (Or.inl rfl) | exact Or.inr (Or.inr rfl)) (by decide) (by decide)) (@pa_cons _ _ _ _ _ (@pvD _ 5 _ _ (by rfl) (by first | exact Or.inl rfl | exact Or.inr (Or.inl rfl) | exact Or.inr (Or.inr rfl)) (by decide) (by decide)) (@pa_nil _) (by rfl)) (by rfl)) (by rfl) (by decide +kernel) (by rfl) (by rfl)) (@pa_cons _ _ _ _ _ (@pvD _ 1 _ _ (by rfl) (by first | exact Or.inl rfl | exact Or.inr (Or.inl rfl) | exact Or.inr (Or.inr rfl)) (by decide) (by decide)) (@pa_nil _) (by rfl)) (by rfl)) (by rfl) (by decide +kernel) (by rfl) (by rfl)) (by rfl) (by first | exact .inl rfl | exact .inr rfl | assumption)) (@pss_cons _ _ _ _ _ (@ps_set _ _ 8 _ _ _ _ nd rfl (by first | exact Or.inl rfl | exact Or.inr rfl) (@pe_op _ _ _ _ _ _ _ _ (@op_addD _) (@pe_callB _ _ _ _ _ _ _ _ _ (@call_sum_list _ rfl) rfl m_sum b_sum (@pa_cons _ _ _ _ _ (@pe_lc _ _ _ _ _ _ _ _ _ _ _ _ _ _ _ (@ClOk.mk _ _ ["word"] [] [] _ rfl rfl rfl rfl trivial rfl trivial) rfl (@pi_tup _ _ _ _ (@pvD _ 7 _ _ (by rfl) (by first | exact Or.inl rfl | exact Or.inr (Or.inl rfl) | exact Or.inr (Or.inr rfl)) (by decide) (by decide))) (fun _ _ _ => (@pg_name _ _ 0 _ (show List.Nodup (["word"] : List Str) by decide +kernel) rfl (Or.inl rfl) (by first | exact .inl rfl | exact .inr rfl | assumption))) (fun _ _ _ => (@pif0 _)) (fun _ _ _ => (@pe_op _ _ _ _ _ _ _ _ (@op_addD _) (@pe_int _ _ _ _) (@pe_callB _ _ _ _ _ _ _ _ _ (@call_len_str _) rfl m_len b_len (@pa_cons _ _ _ _ _ (@pe_callTy _ _ _ _ _ _ _ _ _ (@call_str_any _) rfl m_str b_str (@pa_cons _ _ _ _ _ (@pvD _ 0 _ _ (by rfl) (by first | exact Or.inl rfl | exact Or.inr (Or.inl rfl) | exact Or.inr (Or.inr rfl)) (by decide) (by decide)) (@pa_nil _) (by rfl)) (by decide) (by decide) (by rfl) (by rfl)) (@pa_nil _) (by rfl)) (by decide) (by decide) (by rfl) (by rfl)))) (by intro _; rfl)) (@pa_nil _) (by rfl)) (by decide) (by decide) (by rfl) (by rfl)) (@pe_int _ _ _ _)) (by rfl) (by first | exact .inl rfl | exact .inr rfl | assumption)) (@pss_one _ _ _ (@ps_if _ _ _ _ _ _ _ _ (@PW.pt _ _ _ (@pw_and _ _ _ _ _ _ _ (@pt_cmpRD _ _ _ _ _ _ _ _ (@op_ltD _) (@pe_op _ _ _ _ _ _ _ _ (@op_addD _) (@pvD _ 3 _ _ (by rfl) (by first | exact Or.inl rfl | exact Or.inr (Or.inl rfl) | exact Or.inr (Or.inr rfl)) (by decide) (by decide)) (@pvD _ 8 _ _ (by rfl) (by first | exact Or.inl rfl | exact Or.inr (Or.inl rfl) | exact Or.inr (Or.inr rfl)) (by decide) (by decide))) (@pe_int _ _ _ _) (@nomark _ _ (by decide) (by decide))) (@pw_and1 _ _ _ _ (@pt_cmpRD _ _ _ _ _ _ _ _ (@op_ltD _) (@pe_dget _ _ _ _ _ _ hu (@pvD _ 4 _ _ (by rfl) (by first | exact Or.inl rfl | exact Or.inr (Or.inl rfl) | exact Or.inr (Or.inr rfl)) (by decide) (by decide)) (@pe_ix _ _ _ _ _ _ _ (@ix_tup _) (@pvD _ 7 _ _ (by rfl) (by first | exact Or.inl rfl | exact Or.inr (Or.inl rfl) | exact Or.inr (Or.inr rfl)) (by decide) (by decide)) (@pe_int _ _ _ _) (fun _ _ => rfl)) (fun _ _ => rfl)) (@pe_dget _ _ _ _ _ _ hu (@pe_disp _ _ _ _ _ (@pps_cons _ _ _ _ _ _ _ _ _ (@pe_str _ _ _ _) (@pe_int _ _ _ _) (@pps_cons _ _ _ _ _ _ _ _ _ (@pe_str _ _ _ _) (@pe_int _ _ _ _) (@pps_cons _ _ _ _ _ _ _ _ _ (@pe_str _ _ _ _) (@pe_int _ _ _ _) (@pps_cons _ _ _ _ _ _ _ _ _ (@pe_str _ _ _ _) (@pe_int _ _ _ _) (@pps_nil _ _))))) rfl rfl (fun e => nomatch e) (by decide)) (@pe_ix _ _ _ _ _ _ _ (@ix_tup _) (@pvD _ 7 _ _ (by rfl) (by first | exact Or.inl rfl | exact Or.inr (Or.inl rfl) | exact Or.inr (Or.inr rfl)) (by decide) (by decide)) (@pe_int _ _ _ _) (fun _ _ => rfl)) (fun _ _ => rfl)) (@nomark _ _ (by decide) (by decide)))))) (@pss_cons _ _ _ _ _ (@ps_expr _ _ _ _ (@pe_bm _ _ _ _ _ _ _ _ _ _ _ _ PySem.F.plainAttrs_list PySem.F.slot_list_append PySem.F.type_list_append (@mt_append _) (@pvD _ 2 _ _ (by rfl) (by first | exact Or.inl rfl | exact Or.inr (Or.inl rfl) | exact Or.inr (Or.inr rfl)) (by decide) (by decide)) (@pa_cons _ _ _ _ _ (@pvD _ 7 _ _ (by rfl) (by first | exact Or.inl rfl | exact Or.inr (Or.inl rfl) | exact Or.inr (Or.inr rfl)) (by decide) (by decide)) (@pa_nil _) (by rfl)) (by rfl) (by rfl) (by rfl) (by rfl) (by rfl)) (by rfl)) (@pss_cons _ _ _ _ _ (@ps_set _ _ 3 _ _ _ _ nd rfl (by first | exact Or.inl rfl | exact Or.inr rfl) (@pe_op _ _ _ _ _ _ _ _ (@op_addD _) (@pvD _ 3 _ _ (by rfl) (by first | exact Or.inl rfl | exact Or.inr (Or.inl rfl) | exact Or.inr (Or.inr rfl)) (by decide) (by decide)) (@pvD _ 8 _ _ (by rfl) (by first | exact Or.inl rfl | exact Or.inr (Or.inl rfl) | exact Or.inr (Or.inr rfl)) (by decide) (by decide))) (by rfl) (by first | exact .inl rfl | exact .inr rfl | assumption)) (@pss_one _ _ _ (@ps_dput _ _ _ _ _ _ _ _ _ hu (@pvD _ 4 _ _ (by rfl) (by first | exact Or.inl rfl | exact Or.inr (Or.inl rfl) | exact Or.inr (Or.inr rfl)) (by decide) (by decide)) (@pe_ix _ _ _ _ _ _ _ (@ix_tup _) (@pvD _ 7 _ _ (by rfl) (by first | exact Or.inl rfl | exact Or.inr (Or.inl rfl) | exact Or.inr (Or.inr rfl)) (by decide) (by decide)) (@pe_int _ _ _ _) (fun _ _ => rfl)) (@pe_op _ _ _ _ _ _ _ _ (@op_addD _) (@pe_dget _ _ _ _ _ _ hu (@pvD _ 4 _ _ (by rfl) (by first | exact Or.inl rfl | exact Or.inr (Or.inl rfl) | exact Or.inr (Or.inr rfl)) (by decide) (by decide)) (@pe_ix _ _ _ _ _ _ _ (@ix_tup _) (@pvD _ 7 _ _ (by rfl) (by first | exact Or.inl rfl | exact Or.inr (Or.inl rfl) | exact Or.inr (Or.inr rfl)) (by decide) (by decide)) (@pe_int _ _ _ _) (fun _ _ => rfl)) (fun _ _ => rfl)) (@pe_int _ _ _ _)) rfl)))) (@pss_nil _))))) (by intro _; rfl)) (@pss_one _ _ _ (@ps_ret _ _ _ _ (@pe_has _ _ _ _ _ _ _ _ _ _ h_law_settled hr (@pa_cons _ _ _ _ _ (@pvD _ 2 _ _ (by rfl) (by first | exact Or.inl rfl | exact Or.inr (Or.inl rfl) | exact Or.inr (Or.inr rfl)) (by decide) (by decide)) (@pa_nil _) (by rfl)) (by rfl) (by decide +kernel) (by rfl) (by rfl)))))))), ?_⟩
 rw [show start ["script", "names", "rows", "size", "counts", "k", "cell", "row", "cost"] [.ref a, .ref l] = [some (.ref a), some (.ref l), none, none, none, none, none, none, none] from rfl]
 clear hu hu0 nd hr
 push_cast [tDisp]
 have sz := sizeLine_eq
 refine ⟨Nat.zero_le _, fun p hp cd hcd => ?_⟩
 push_cast [tPairs, iEnum]
 have hcp : cd ≠ p := fun e => by rw [e, upd_same] at hcd; cases hcd
 refine ⟨upd_same, k4 0 0 0 0, rfl, by show (4 : Nat) ≤ 15; decide, ?_⟩
 have S2 : Same H (upd (upd (upd H p (.lst [])) cd (.dK [])) cd (.dK (mergeK [] (k4 0 0 0 0)))) := ((same_new hp _).trans (same_new hcd _)).upd ((same_new hp _).free hcd) _
 have c2 : C4 (upd (upd (upd H p (.lst [])) cd (.dK [])) cd (.dK (mergeK [] (k4 0 0 0 0)))) cd := ⟨0, 0, 0, 0, by rw [upd_same]; rfl⟩
 have hp2 : upd (upd (upd H p (.lst [])) cd (.dK [])) cd (.dK (mergeK [] (k4 0 0 0 0))) p = some (.lst []) := by rw [upd_ne hcp.symm, upd_ne hcp.symm]; exact upd_same
 have HC : H cd = none := (same_new hp _).free hcd
 generalize upd (upd (upd H p (.lst [])) cd (.dK [])) cd (.dK (mergeK [] (k4 0 0 0 0))) = H2 at S2 c2 hp2 ⊢
 refine ⟨_, S2.seq ha, fun sl hsl => ⟨⟨_, SqL.of upd_same⟩, ?_⟩⟩
 obtain ⟨ms, em, ml⟩ := cut_ints ns none (some 63)
 rw [em]
 have HS : H sl = none := S2.free hsl
 have nsp : sl ≠ p := (ne_of_none hp2 hsl).symm
 have nsc : sl ≠ cd := by obtain ⟨_, _, _, _, e⟩ := c2; exact (ne_of_none e hsl).symm
 obtain ⟨P1, eP1⟩ : ∃ P1 : Nat → L2.St → Hp → Prop, ∀ i σ H', P1 i σ H' ↔ ∃ (raws : List (List V)) (ps : List Addr) (size : Int) (v5 v6 v7 v8 : Option V), σ = [some (.ref a), some (.ref l), some (.ref p), some (.int size), some (.ref cd), v5, v6, v7, v8] ∧ Same H H' ∧ H' sl = some (.lst (ms.map V.int)) ∧ C4 H' cd ∧ H' p = some (.lst (ps.map V.ref)) ∧ TupsAt H' ps raws ∧ (∀ r ∈ raws, RawOk r) ∧ raws.length ≤ i := ⟨_, fun _ _ _ => Iff.rfl⟩
 refine forW_enum (xs := ms.map V.int) P1 ((eP1 _ _ _).mpr ⟨[], [], 0, none, none, none, none, rfl, S2.trans (same_new hsl _), upd_same, c2.same (same_new hsl _), same_new hsl _ _ _ hp2, TupsAt.nil _, (fun _ h => nomatch h), Nat.le_refl _⟩) (fun i σ H' _ h => ?_) ?_ ?_
 ·obtain ⟨_, _, _, _, _, _, _, _, _, h, _⟩ := (eP1 _ _ _).mp h
  exact SqL.of h
 ·clear c2 hp2 hsl S2 em hcd
  rintro i x σ H3 t hx hh ht
  obtain ⟨raws, ps, size, v5, v6, v7, v8, rfl, s3, hsl3, c3, hp3, tp3, ro3, rl3⟩ := (eP1 _ _ _).mp hh
  clear hh
  rw [List.getElem?_map] at hx
  obtain ⟨cell, hce, rfl⟩ := Option.map_eq_some_iff.mp hx
  have hi : i < ms.length := (List.getElem?_eq_some_iff.mp hce).1
  have s4 := same_new ht (.tup [.int (i : Nat), .int cell])
  refine gTup2_ok upd_same rfl ?_
  push_cast [and_true]
  refine ⟨cell, i, rfl, by omega, fun h H5 s5 hf5 hh5 => ⟨h, l, rfl, hh5, hN.same ((s3.trans s4).trans s5), fun u r H6 s6 hu ro => ?_⟩⟩
  have S6 : Same H3 H6 := s4.trans (SameB.fresh (s5.sameB_of s6) hf5)
  obtain ⟨rw1, rl, z, rs, rfl, hz⟩ := raw_wd ro
  refine ⟨u, rfl, ⟨_, SqT.of hu⟩, fun D hD => lc_tup (fun i ys => ∃ xs : List Int, ys = xs.map V.int) (SqT.of hu) (by omega) hD ⟨[], rfl⟩ (fun i x ys H7 G' K' hx hP hl2 hS hG hK => ?_) fun ys H7 hP hl2 hS hD2 => ?_⟩
  ·push_cast [and_true]
   obtain ⟨xs, rfl⟩ := hP
   have := rw1 x (List.mem_of_getElem? hx)
   exact ⟨this.1, by omega, hK _ _ (Same.refl _) ⟨xs ++ [_], by rw [List.map_append]; rfl⟩⟩
  obtain ⟨xs, rfl⟩ := hP
  refine ⟨xs, SqL.of hD2, ?_⟩
  have S7 := S6.trans hS
  have hu7 := hS _ _ hu
  have c7 := c3.same S7
  have ns : ∀ {H9 : Hp} {w5 w6 w7 w8 : Option V} {sz' : Int}, Same H3 H9 → P1 (i + 1) [some (.ref a), some (.ref l), some (.ref p), some (.int sz'), some (.ref cd), w5, w6, w7, w8] H9 := fun s => (eP1 _ _ _).mpr ⟨raws, ps, _, _, _, _, _, rfl, s3.trans s, s _ _ hsl3, c3.same s, s _ _ hp3, tp3.keep (Tk.of s), ro3, Nat.le_succ_of_le rl3⟩
  refine ite2 (fun _ => ?_) fun _ => ns S7
  obtain ⟨g0, hg0⟩ := c7.get hz
  refine rIxT_ok hu7 (atI_nat (j := 0) rfl) ⟨_, hg0, fun d2 hd2 => ?_⟩
  push_cast [tPairs]
  have S8 : Same H7 (upd (upd H7 d2 (.dK [])) d2 (.dK (mergeK [] (k4 8 40 60 60)))) := (same_new hd2 _).upd hd2 _
  have c8 : C4 (upd (upd H7 d2 (.dK [])) d2 (.dK (mergeK [] (k4 8 40 60 60)))) d2 := ⟨8, 40, 60, 60, by rw [upd_same]; rfl⟩
  refine ⟨upd_same, k4 8 40 60 60, rfl, by show (4 : Nat) ≤ 15; decide, ?_⟩
  generalize upd (upd H7 d2 (.dK [])) d2 (.dK (mergeK [] (k4 8 40 60 60))) = H8 at S8 c8 ⊢
  obtain ⟨g1, hg1⟩ := c8.get hz
  have hv8 := S8 _ _ hu7
  refine rIxT_ok hv8 (atI_nat (j := 0) rfl) ⟨_, hg1, ?_⟩
  have S9 := S7.trans S8
  push_cast [and_true]
  refine ite2 (fun _ => ?_) fun _ => ns S9
  have hp9 := S9 _ _ hp3
  have pl : ps.length ≤ 63 := by rw [tp3.1]; omega
  refine append_ok hp9 (by rw [List.length_map]; omega) ?_
  have tk : Tk H8 (upd H8 p (.lst (ps.map V.ref ++ [.ref u]))) := Tk.upd (Tk.refl _) fun xs e => by rw [hp9] at e; cases e
  have c9 : C4 (upd H8 p (.lst (ps.map V.ref ++ [.ref u]))) cd := by
   obtain ⟨x1, x2, x3, x4, e⟩ := c3.same S9
   exact ⟨x1, x2, x3, x4, by rw [upd_ne hcp]; exact e⟩
  have hv9 := tk _ _ hv8
  have s9 : Same H (upd H8 p (.lst (ps.map V.ref ++ [.ref u]))) := (s3.trans S9).upd hp _
  have sl9 : upd H8 p (.lst (ps.map V.ref ++ [.ref u])) sl = some (.lst (ms.map V.int)) := by rw [upd_ne nsp]; exact S9 _ _ hsl3
  have tp9 := ((tp3.keep (Tk.of S9)).keep tk).snoc hv9
  have pp9 : upd H8 p (.lst (ps.map V.ref ++ [.ref u])) p = some (.lst ((ps ++ [u]).map V.ref)) := by rw [upd_same, List.map_append]; rfl
  generalize upd H8 p (.lst (ps.map V.ref ++ [.ref u])) = H9 at c9 hv9 s9 sl9 tp9 pp9 tk ⊢
  obtain ⟨g2, hg2⟩ := c9.get hz
  refine rIxT_ok hv9 (atI_nat (j := 0) rfl) ⟨_, hg2, ?_⟩
  obtain ⟨kvs, k1, k2⟩ := c9.put hz (g2 + 1)
  refine rIxT_ok hv9 (atI_nat (j := 0) rfl) ⟨_, k1, (eP1 _ _ _).mpr ⟨raws ++ [_], ps ++ [u], _, _, _, _, _, rfl, s9.upd HC _, by rw [upd_ne nsc]; exact sl9, k2, by rw [upd_ne hcp.symm]; exact pp9, tp9.keep (Tk.upd (Tk.refl _) fun xs e => by obtain ⟨x1, x2, x3, x4, e2⟩ := c9; rw [e2] at e; cases e), fun r hr => (List.mem_append.mp hr).elim (ro3 r) fun h => by rw [List.mem_singleton.mp h]; exact ro, by rw [List.length_append, List.length_singleton]; omega⟩⟩
 ·rintro σ H3 hh
  obtain ⟨raws, ps, size, v5, v6, v7, v8, rfl, s3, hsl3, c3, hp3, tp3, ro3, rl3⟩ := (eP1 _ _ _).mp hh
  rw [List.length_map] at rl3
  push_cast [and_true]
  exact ⟨p, raws, rfl, ⟨ps, hp3, tp3⟩, ro3, by omega, fun l' rs H4 s4 hl4 hT => q l' rs H4 (s3.trans s4) hl4 hT⟩
noncomputable abbrev sLine : Stmt := top 50
theorem scLine : FnScope ["row", "words"] ["row"] (defScope sLine) := ⟨rfl, rfl, rfl, by decide +kernel, rfl, by decide +kernel, by decide +kernel⟩
theorem hasLine (G : Gs w K mg) (D : Def K mg "_law_line" sLine ["row"]) : Has P w K mg base (k + 1) "_law_line" ["row"] spLine := by
 refine D.has scLine (fun vs H Q E h => ?_) (fun f cdv A outer s H vs Q E hr h => ?_)
 ·obtain ⟨_, _, rfl, _, _, _⟩ := h
  rfl
 have nd := scLine.nd
 have hu := hu_of hr
 have hu0 := Nat.lt_of_succ_lt hu
 obtain ⟨t, r, rfl, ht, ok, q⟩ := h
 have m_str := G.m_str
 refine ⟨_, (@pss_cons _ _ _ _ _ (@ps_setlc _ _ _ _ _ _ _ _ _ _ _ _ _ _ _ 1 _ _ _ nd rfl (Or.inl rfl) (@ClOk.mk _ _ ["word"] [] [] _ rfl rfl rfl rfl trivial rfl trivial) rfl (@pi_tup _ _ _ _ (@pvD _ 0 _ _ (by rfl) (by first | exact Or.inl rfl | exact Or.inr (Or.inl rfl) | exact Or.inr (Or.inr rfl)) (by decide) (by decide))) (fun _ _ _ => (@pg_name _ _ 0 _ (show List.Nodup (["word"] : List Str) by decide +kernel) rfl (Or.inl rfl) (by first | exact .inl rfl | exact .inr rfl | assumption))) (fun _ _ _ => (@pif0 _)) (fun _ _ _ => (@pe_callTy _ _ _ _ _ _ _ _ _ (@call_str_any _) rfl m_str b_str (@pa_cons _ _ _ _ _ (@pvD _ 0 _ _ (by rfl) (by first | exact Or.inl rfl | exact Or.inr (Or.inl rfl) | exact Or.inr (Or.inr rfl)) (by decide) (by decide)) (@pa_nil _) (by rfl)) (by decide) (by decide) (by rfl) (by rfl))) (by rfl) (by intro _; rfl) (by first | exact .inl rfl | exact .inr rfl | assumption)) (@pss_mid _ _ _ _ _ (@ps_if _ _ _ _ _ _ _ _ (@pt_cmpRD _ _ _ _ _ _ _ _ (@op_eq _) (@pe_ix _ _ _ _ _ _ _ (@ix_tup _) (@pvD _ 0 _ _ (by rfl) (by first | exact Or.inl rfl | exact Or.inr (Or.inl rfl) | exact Or.inr (Or.inr rfl)) (by decide) (by decide)) (@pe_int _ _ _ _) (fun _ _ => rfl)) (@pe_str _ _ _ _) (@nomark _ _ (by decide) (by decide))) (@pss_one _ _ _ (@ps_set _ _ 1 _ _ _ _ nd rfl (by first | exact Or.inl rfl | exact Or.inr rfl) (@pe_op _ _ _ _ _ _ _ _ (@op_cat _) (@pe_op _ _ _ _ _ _ _ _ (@op_cat _) (@pe_slice _ _ _ _ _ _ _ _ _ _ (@sl_list _) (@pvD _ 1 _ _ (by rfl) (by first | exact Or.inl rfl | exact Or.inr (Or.inl rfl) | exact Or.inr (Or.inr rfl)) (by decide) (by decide)) (@po_none _) (@po_someD _ _ _ (@pe_int _ _ _ _))) (@pe_lst _ _ _ _ (@pa_cons _ _ _ _ _ (@pe_str _ _ _ _) (@pa_nil _) (by rfl)))) (@pe_slice _ _ _ _ _ _ _ _ _ _ (@sl_list _) (@pvD _ 1 _ _ (by rfl) (by first | exact Or.inl rfl | exact Or.inr (Or.inl rfl) | exact Or.inr (Or.inr rfl)) (by decide) (by decide)) (@po_someD _ _ _ (@pe_int _ _ _ _)) (@po_none _))) (by rfl) (by first | exact .inl rfl | exact .inr rfl | assumption))) (@pss_nil _)) (@pss_one _ _ _ (@ps_ret _ _ _ _ (@pe_bm _ _ _ _ _ _ _ _ _ _ _ _ PySem.F.plainAttrs_str PySem.F.slot_str_join PySem.F.type_str_join (@mt_join _) (@pe_str _ _ _ _) (@pa_cons _ _ _ _ _ (@pvD _ 1 _ _ (by rfl) (by first | exact Or.inl rfl | exact Or.inr (Or.inl rfl) | exact Or.inr (Or.inr rfl)) (by decide) (by decide)) (@pa_nil _) (by rfl)) (by rfl) (by rfl) (by rfl) (by rfl) (by rfl)))))), ?_⟩
 rw [show start ["row", "words"] [.ref t] = [some (.ref t), none] from rfl]
 clear hu hu0 nd hr
 push_cast [and_true]
 have sz := sizeLine_eq
 have vl : r.vs.length ≤ 17 := by
  have := (Rw.txl ok).2
  cases r with
  | rule n k p ws => simp only [Rw.tx, Rw.vs, List.length_cons] at this ⊢; omega
  | _ => exact this
 have vw : ∀ v ∈ r.vs, wordV v := by
  cases r with
  | none => intro v hv; rw [List.mem_singleton.mp hv]; exact True.intro
  | rule n k p ws =>
   intro v hv
   refine (Rw.wd ok rfl v ?_).word
   simp only [Rw.vs, Rw.tx, List.mem_cons] at hv ⊢
   rcases hv with h | h | h | h | h
   ·exact .inl h
   ·exact .inr (.inl h)
   ·exact .inr (.inr (.inl h))
   ·exact .inr (.inr (.inr (.inl h)))
   ·exact .inr (.inr (.inr (.inr (.inr h))))
  | kind n => exact fun v hv => (Rw.wd ok rfl v hv).word
  | does n d => exact fun v hv => (Rw.wd ok rfl v hv).word
 refine ⟨⟨_, SqT.of ht⟩, fun l hl => lc_tup (fun i ys => ys = (r.vs.take i).map fun v => V.str (textV v)) (SqT.of ht) (by omega) hl rfl (fun i x ys H1 G' K' hx hP hl2 hS hG hK => ?_) fun ys H1 hP hl2 hS hD2 => ?_⟩
 ·push_cast [and_true]
  refine ⟨vw x (List.mem_of_getElem? hx), hK _ _ (Same.refl _) ?_⟩
  rw [hP, List.take_add_one, hx, List.map_append]
  rfl
 rw [List.take_length] at hP
 subst hP
 refine tMid_of (fun σ H2 => ∃ l2, σ = [some (.ref t), some (.ref l2)] ∧ Same H H2 ∧ H2 l2 = some (.lst ((r.tx.map textV).map V.str))) ?_ ?_
 ·push_cast [and_true]
  have g := hS _ _ ht
  cases r with
  | rule n k p ws =>
   refine rIxT_ok g (atI_nat (j := 0) rfl) ⟨rfl, ifY (show V.str ("rule" : Str) = V.str "rule" from rfl) ⟨_, SqL.of hD2, fun p1 h1 => ⟨by show (1 : Nat) ≤ sizeLine; decide, fun p2 h2 => ?_⟩⟩⟩
   have ey : ((Rw.rule n k p ws).vs.map fun v => V.str (textV v)) = (((Rw.rule n k p ws).vs.map textV).map V.str) := by rw [List.map_map]; rfl
   have e1 : cutV ((Rw.rule n k p ws).vs.map fun v => V.str (textV v)) none (some 4) = [V.str "rule", V.str n, V.str k, V.str (textV (.int p))] := cut_head _ 4 (by rw [List.length_map]; show 4 ≤ ws.length + 4; omega)
   have e2 : cutV ((Rw.rule n k p ws).vs.map fun v => V.str (textV v)) (some 4) none = (ws.map textV).map V.str := by rw [ey]; exact cut_drop _ 4
   rw [e1]
   have wl : ws.length ≤ 12 := ok.2.2.2.2.2.1
   refine rCat_ok (same_new h2 _ _ _ upd_same) upd_same (by show (5 : Nat) ≤ sizeLine; decide) fun p3 h3 => ?_
   have S3 := (same_new h1 (.lst [V.str "rule", V.str n, V.str k, V.str (textV (.int p))])).trans ((same_new h2 (.lst [V.str (Str.ofString "=")])).trans (same_new h3 (.lst ([V.str "rule", V.str n, V.str k, V.str (textV (.int p))] ++ [V.str (Str.ofString "=")]))))
   refine ⟨_, SqL.of (S3 _ _ hD2), fun p4 h4 => ?_⟩
   rw [e2]
   refine rCat_ok (same_new h4 _ _ _ upd_same) upd_same (by first | (simp only [List.length_append, List.length_cons, List.length_nil, List.length_map]; omega) | (rw [e1]; simp only [List.length_append, List.length_cons, List.length_nil, List.length_map]; omega)) fun p5 h5 => ⟨p5, rfl, (hS.trans S3).trans ((same_new h4 _).trans (same_new h5 _)), ?_⟩
   rw [upd_same]
   rfl
  | kind n => exact rIxT_ok g (atI_nat (j := 0) rfl) ⟨rfl, ifN (show ¬ V.str ("kind" : Str) = V.str "rule" by decide +kernel) ⟨hS, by rw [hD2, List.map_map]; rfl⟩⟩
  | does n d => exact rIxT_ok g (atI_nat (j := 0) rfl) ⟨rfl, ifN (show ¬ V.str ("does" : Str) = V.str "rule" by decide +kernel) ⟨hS, by rw [hD2, List.map_map]; rfl⟩⟩
  | none => exact rIxT_ok g (atI_nat (j := 0) rfl) ⟨rfl, ifN (show ¬ V.str ("" : Str) = V.str "rule" by decide +kernel) ⟨hS, by rw [hD2, List.map_map]; rfl⟩⟩
 ·rintro σ H2 ⟨l2, rfl, s2, h2⟩
  push_cast [and_true]
  refine ⟨r.tx.map textV, SqL.of h2, ?_, q H2 s2⟩
  have tl := (Rw.txl ok).2
  by_cases f : r.full = true
  ·have := (join_len (Rw.wd ok f)).2
   omega
  ·have e : r = .none := by cases r <;> first | rfl | exact absurd rfl f
   rw [e]
   decide +kernel
noncomputable abbrev sDue : Stmt := top 51
theorem scDue : FnScope ["rows", "kinds", "rules", "seen", "row", "deeds"] ["rows"] (defScope sDue) := ⟨rfl, rfl, rfl, by decide +kernel, rfl, by decide +kernel, by decide +kernel⟩
theorem hasDue (G : Gs w K mg) (D : Def K mg "_law_due" sDue ["rows"]) : Has P w K mg base (k + 1) "_law_due" ["rows"] spDue := by
 refine D.has scDue (fun vs H Q E h => ?_) (fun f cdv A outer s H vs Q E hr h => ?_)
 ·obtain ⟨_, _, rfl, _, _, _⟩ := h
  rfl
 have nd := scDue.nd
 have hu := hu_of hr
 have hu0 := Nat.lt_of_succ_lt hu
 obtain ⟨l, rs, rfl, hl, hT, q⟩ := h
 have m_tuple := G.m_tuple
 refine ⟨_, (@pss_cons _ _ _ _ _ (@ps_set _ _ 1 _ _ _ _ nd rfl (by first | exact Or.inl rfl | exact Or.inr rfl) (@pe_callTy _ _ _ _ _ _ _ _ _ (@call_tuple_ofD _) rfl m_tuple b_tuple (@pa_cons _ _ _ _ _ (@pe_lc _ _ _ _ _ _ _ _ _ _ _ _ _ _ _ (@ClOk.mk _ _ ["row"] [] [] _ rfl rfl rfl rfl trivial rfl trivial) rfl (@pi_list _ _ _ _ (@pvD _ 0 _ _ (by rfl) (by first | exact Or.inl rfl | exact Or.inr (Or.inl rfl) | exact Or.inr (Or.inr rfl)) (by decide) (by decide))) (fun _ _ _ => (@pg_name _ _ 0 _ (show List.Nodup (["row"] : List Str) by decide +kernel) rfl (Or.inl rfl) (by first | exact .inl rfl | exact .inr rfl | assumption))) (fun _ _ _ => (@pif1 _ _ _ (@pt_cmpRD _ _ _ _ _ _ _ _ (@op_eq _) (@pe_ix _ _ _ _ _ _ _ (@ix_tupK _ K rfl) (@pvD _ 0 _ _ (by rfl) (by first | exact Or.inl rfl | exact Or.inr (Or.inl rfl) | exact Or.inr (Or.inr rfl)) (by decide) (by decide)) (@pe_int _ _ _ _) (fun _ _ => rfl)) (@pe_str _ _ _ _) (@nomark _ _ (by decide) (by decide))))) (fun _ _ _ => (@pe_ix _ _ _ _ _ _ _ (@ix_tupK _ K rfl) (@pvD _ 0 _ _ (by rfl) (by first | exact Or.inl rfl | exact Or.inr (Or.inl rfl) | exact Or.inr (Or.inr rfl)) (by decide) (by decide)) (@pe_int _ _ _ _) (fun _ _ => rfl))) (by intro _; rfl)) (@pa_nil _) (by rfl)) (by decide) (by decide) (by rfl) (by rfl)) (by rfl) (by first | exact .inl rfl | exact .inr rfl | assumption)) (@pss_cons _ _ _ _ _ (@ps_set _ _ 2 _ _ _ _ nd rfl (by first | exact Or.inl rfl | exact Or.inr rfl) (@pe_lst _ _ _ _ (@pa_nil _)) (by rfl) (by first | exact .inl rfl | exact .inr rfl | assumption)) (@pss_cons _ _ _ _ _ (@ps_set _ _ 3 _ _ _ _ nd rfl (by first | exact Or.inl rfl | exact Or.inr rfl) (@pe_lst _ _ _ _ (@pa_nil _)) (by rfl) (by first | exact .inl rfl | exact .inr rfl | assumption)) (@pss_cons _ _ _ _ _ (@ps_for _ _ _ _ _ _ _ _ PassesOwn.never rfl (@pi_list _ _ _ _ (@pvD _ 0 _ _ (by rfl) (by first | exact Or.inl rfl | exact Or.inr (Or.inl rfl) | exact Or.inr (Or.inr rfl)) (by decide) (by decide))) (@pg_name _ _ 4 _ nd rfl (by first | exact Or.inl rfl | exact Or.inr rfl) (by first | exact .inl rfl | exact .inr rfl | assumption)) (@pss_one _ _ _ (@ps_if _ _ _ _ _ _ _ _ (@pt_cmpRD _ _ _ _ _ _ _ _ (@op_eq _) (@pe_ix _ _ _ _ _ _ _ (@ix_tup _) (@pvD _ 4 _ _ (by rfl) (by first | exact Or.inl rfl | exact Or.inr (Or.inl rfl) | exact Or.inr (Or.inr rfl)) (by decide) (by decide)) (@pe_int _ _ _ _) (fun _ _ => rfl)) (@pe_str _ _ _ _) (@nomark _ _ (by decide) (by decide))) (@pss_cons _ _ _ _ _ (@ps_set _ _ 5 _ _ _ _ nd rfl (by first | exact Or.inl rfl | exact Or.inr rfl) (@pe_tup _ _ _ _ _ (@pa_nil _)) (by rfl) (by first | exact .inl rfl | exact .inr rfl | assumption)) (@pss_mid _ _ _ _ _ (@ps_if _ _ _ _ _ _ _ _ (@pt_cmpRD _ _ _ _ _ _ _ _ (@op_notIn_seq _) (@pe_ix _ _ _ _ _ _ _ (@ix_tup _) (@pvD _ 4 _ _ (by rfl) (by first | exact Or.inl rfl | exact Or.inr (Or.inl rfl) | exact Or.inr (Or.inr rfl)) (by decide) (by decide)) (@pe_int _ _ _ _) (fun _ _ => rfl)) (@pvD _ 3 _ _ (by rfl) (by first | exact Or.inl rfl | exact Or.inr (Or.inl rfl) | exact Or.inr (Or.inr rfl)) (by decide) (by decide)) (by with_unfolding_all rfl)) (@pss_one _ _ _ (@ps_set _ _ 5 _ _ _ _ nd rfl (by first | exact Or.inl rfl | exact Or.inr rfl) (@pe_callTy _ _ _ _ _ _ _ _ _ (@call_tuple_ofD _) rfl m_tuple b_tuple (@pa_cons _ _ _ _ _ (@pe_lc _ _ _ _ _ _ _ _ _ _ _ _ _ _ _ (@ClOk.mk _ _ ["other"] ["row"] [4] _ rfl rfl rfl rfl (And.intro rfl trivial) rfl (And.intro (And.intro rfl (And.intro rfl rfl)) trivial)) rfl (@pi_list _ _ _ _ (@pvD _ 0 _ _ (by rfl) (by first | exact Or.inl rfl | exact Or.inr (Or.inl rfl) | exact Or.inr (Or.inr rfl)) (by decide) (by decide))) (fun _ _ _ => (@pg_name _ _ 0 _ (show List.Nodup (["other", "row"] : List Str) by decide +kernel) rfl (Or.inl rfl) (by first | exact .inl rfl | exact .inr rfl | assumption))) (fun _ _ _ => (@pif1 _ _ _ (@PW.pt _ _ _ (@pw_and _ _ _ _ _ _ _ (@pt_cmpRD _ _ _ _ _ _ _ _ (@op_eq _) (@pe_ix _ _ _ _ _ _ _ (@ix_tupK _ K rfl) (@pvD _ 0 _ _ (by rfl) (by first | exact Or.inl rfl | exact Or.inr (Or.inl rfl) | exact Or.inr (Or.inr rfl)) (by decide) (by decide)) (@pe_int _ _ _ _) (fun _ _ => rfl)) (@pe_str _ _ _ _) (@nomark _ _ (by decide) (by decide))) (@pw_and1 _ _ _ _ (@pt_cmpRD _ _ _ _ _ _ _ _ (@op_eq _) (@pe_ix _ _ _ _ _ _ _ (@ix_tupK _ K rfl) (@pvD _ 0 _ _ (by rfl) (by first | exact Or.inl rfl | exact Or.inr (Or.inl rfl) | exact Or.inr (Or.inr rfl)) (by decide) (by decide)) (@pe_int _ _ _ _) (fun _ _ => rfl)) (@pe_ix _ _ _ _ _ _ _ (@ix_tupK _ K rfl) (@pvD _ 1 _ _ (by rfl) (by first | exact Or.inl rfl | exact Or.inr (Or.inl rfl) | exact Or.inr (Or.inr rfl)) (by decide) (by decide)) (@pe_int _ _ _ _) (fun _ _ => rfl)) (@nomark _ _ (by decide) (by decide)))))))) (fun _ _ _ => (@pe_slice _ _ _ _ _ _ _ _ _ _ (@sl_tupU _) (@pvD _ 0 _ _ (by rfl) (by first | exact Or.inl rfl | exact Or.inr (Or.inl rfl) | exact Or.inr (Or.inr rfl)) (by decide) (by decide)) (@po_someD _ _ _ (@pe_int _ _ _ _)) (@po_none _))) (by intro _; rfl)) (@pa_nil _) (by rfl)) (by decide) (by decide) (by rfl) (by rfl)) (by rfl) (by first | exact .inl rfl | exact .inr rfl | assumption))) (@pss_nil _)) (@pss_cons _ _ _ _ _ (@ps_expr _ _ _ _ (@pe_bm _ _ _ _ _ _ _ _ _ _ _ _ PySem.F.plainAttrs_list PySem.F.slot_list_append PySem.F.type_list_append (@mt_append _) (@pvD _ 3 _ _ (by rfl) (by first | exact Or.inl rfl | exact Or.inr (Or.inl rfl) | exact Or.inr (Or.inr rfl)) (by decide) (by decide)) (@pa_cons _ _ _ _ _ (@pe_ix _ _ _ _ _ _ _ (@ix_tup _) (@pvD _ 4 _ _ (by rfl) (by first | exact Or.inl rfl | exact Or.inr (Or.inl rfl) | exact Or.inr (Or.inr rfl)) (by decide) (by decide)) (@pe_int _ _ _ _) (fun _ _ => rfl)) (@pa_nil _) (by rfl)) (by rfl) (by rfl) (by rfl) (by rfl) (by rfl)) (by rfl)) (@pss_one _ _ _ (@ps_expr _ _ _ _ (@pe_bm _ _ _ _ _ _ _ _ _ _ _ _ PySem.F.plainAttrs_list PySem.F.slot_list_append PySem.F.type_list_append (@mt_append _) (@pvD _ 2 _ _ (by rfl) (by first | exact Or.inl rfl | exact Or.inr (Or.inl rfl) | exact Or.inr (Or.inr rfl)) (by decide) (by decide)) (@pa_cons _ _ _ _ _ (@pe_op _ _ _ _ _ _ _ _ (@op_catU _) (@pe_slice _ _ _ _ _ _ _ _ _ _ (@sl_tupU _) (@pvD _ 4 _ _ (by rfl) (by first | exact Or.inl rfl | exact Or.inr (Or.inl rfl) | exact Or.inr (Or.inr rfl)) (by decide) (by decide)) (@po_someD _ _ _ (@pe_int _ _ _ _)) (@po_someD _ _ _ (@pe_int _ _ _ _))) (@pe_tup _ _ _ _ _ (@pa_cons _ _ _ _ _ (@pe_slice _ _ _ _ _ _ _ _ _ _ (@sl_tupU _) (@pvD _ 4 _ _ (by rfl) (by first | exact Or.inl rfl | exact Or.inr (Or.inl rfl) | exact Or.inr (Or.inr rfl)) (by decide) (by decide)) (@po_someD _ _ _ (@pe_int _ _ _ _)) (@po_none _)) (@pa_cons _ _ _ _ _ (@pvD _ 5 _ _ (by rfl) (by first | exact Or.inl rfl | exact Or.inr (Or.inl rfl) | exact Or.inr (Or.inr rfl)) (by decide) (by decide)) (@pa_nil _) (by rfl)) (by rfl)))) (@pa_nil _) (by rfl)) (by rfl) (by rfl) (by rfl) (by rfl) (by rfl)) (by rfl)))))) (@pss_nil _))) (by intro _; rfl)) (@pss_one _ _ _ (@ps_ret _ _ _ _ (@pe_tup _ _ _ _ _ (@pa_cons _ _ _ _ _ (@pvD _ 1 _ _ (by rfl) (by first | exact Or.inl rfl | exact Or.inr (Or.inl rfl) | exact Or.inr (Or.inr rfl)) (by decide) (by decide)) (@pa_cons _ _ _ _ _ (@pe_callTy _ _ _ _ _ _ _ _ _ (@call_tuple_ofD _) rfl m_tuple b_tuple (@pa_cons _ _ _ _ _ (@pvD _ 2 _ _ (by rfl) (by first | exact Or.inl rfl | exact Or.inr (Or.inl rfl) | exact Or.inr (Or.inr rfl)) (by decide) (by decide)) (@pa_nil _) (by rfl)) (by decide) (by decide) (by rfl) (by rfl)) (@pa_nil _) (by rfl)) (by rfl))))))))), ?_⟩
 rw [show start ["rows", "kinds", "rules", "seen", "row", "deeds"] [.ref l] = [some (.ref l), none, none, none, none, none] from rfl]
 clear hu hu0 nd hr
 push_cast [and_true]
 have sz := sizeLine_eq
 obtain ⟨ps, p1, p2⟩ := hl
 have rn := hT.2.1
 have p2l : ps.length = rs.length := by rw [p2.1, List.length_map]
 refine ⟨⟨_, SqL.of p1⟩, fun D hD => lc_list (fun i ys => ys = (kindsR (rs.take i)).map V.str) (SqL.of p1) (by rw [List.length_map]; omega) hD rfl (fun i x ys H1 G' K' hx hP hl2 hS hG hK => ?_) fun ys H1 hP hl2 hS hD2 => ⟨_, .inl ⟨SqL.of hD2, fun kt hkt => ⟨Nat.zero_le _, fun ul hul => ⟨Nat.zero_le _, fun sl hsl => ?_⟩⟩⟩⟩⟩
 ·-- the kinds
  obtain ⟨t, ht, rfl⟩ := refs_get hx
  have hi : i < rs.length := by
   have := (List.getElem?_eq_some_iff.mp ht).1
   omega
  have hri : rs[i]? = some rs[i] := List.getElem?_eq_getElem hi
  have et : rs.take (i + 1) = rs.take i ++ [rs[i]] := by rw [List.take_add_one, hri]; rfl
  have ht0 : H t = some (.tup rs[i].vs) := p2.2 i t _ ht (by rw [List.getElem?_map, hri]; rfl)
  have ok := hT.1 _ (List.getElem_mem hi)
  have hm := List.getElem_mem hi
  generalize rs[i] = r at et ht0 ok hm
  have ht1 := hS _ _ ht0
  push_cast [and_true]
  cases r with
  | kind n => exact rIxT_ok ht1 (atI_nat (j := 0) rfl) ⟨rfl, ifY (show V.str ("kind" : Str) = V.str "kind" from rfl) (rIxT_ok ht1 (atI_nat (j := 1) rfl) (hK _ _ (Same.refl _) (by rw [hP, et, kinds_kind, List.map_append]; rfl)))⟩
  | rule n k p ws => exact rIxT_ok ht1 (atI_nat (j := 0) rfl) ⟨rfl, ifN (show ¬ V.str ("rule" : Str) = V.str "kind" by decide +kernel) (hG _ (Same.refl _) (by rw [hP, et, kinds_rule]))⟩
  | does n d => exact rIxT_ok ht1 (atI_nat (j := 0) rfl) ⟨rfl, ifN (show ¬ V.str ("does" : Str) = V.str "kind" by decide +kernel) (hG _ (Same.refl _) (by rw [hP, et, kinds_does]))⟩
  | none => exact rIxT_ok ht1 (atI_nat (j := 0) rfl) ⟨rfl, ifN (show ¬ V.str ("" : Str) = V.str "kind" by decide +kernel) (hG _ (Same.refl _) (by rw [hP, et, kinds_none]))⟩
 rw [List.length_map, p2l, List.take_length] at hP
 subst hP
 have s1 := same_new hkt (.tup ((kindsR rs).map V.str))
 have s2 := same_new hul (.lst [])
 have s3 := same_new hsl (.lst [])
 have S3 := hS.trans (s1.trans (s2.trans s3))
 have HU : H ul = none := (hS.trans s1).free hul
 have HL : H sl = none := (hS.trans (s1.trans s2)).free hsl
 have nku : kt ≠ ul := ne_of_none upd_same hul
 have nks : kt ≠ sl := ne_of_none (s2 _ _ upd_same) hsl
 have nus : ul ≠ sl := ne_of_none upd_same hsl
 obtain ⟨P1, eP1⟩ : ∃ P1 : Nat → L2.St → Hp → Prop, ∀ i σ H', P1 i σ H' ↔ ∃ (ra : List Addr) (v4 v5 : Option V), σ = [some (.ref l), some (.ref kt), some (.ref ul), some (.ref sl), v4, v5] ∧ Same H H' ∧ H' kt = some (.tup ((kindsR rs).map V.str)) ∧ H' ul = some (.lst (ra.map V.ref)) ∧ H' sl = some (.lst ((rulesR (rs.take i)).map V.str)) ∧ RulesAt H' ra (rulesD rs [] (rs.take i)) := ⟨_, fun _ _ _ => Iff.rfl⟩
 refine ⟨⟨_, SqL.of (S3 _ _ p1)⟩, forW_list (xs := ps.map V.ref) P1 ((eP1 _ _ _).mpr ⟨[], none, none, rfl, S3, (s2.trans s3) _ _ upd_same, s3 _ _ upd_same, upd_same, RulesAt.nil _⟩) (fun i σ H' _ h => ?_) ?_ ?_⟩
 ·obtain ⟨_, _, _, _, s, _⟩ := (eP1 _ _ _).mp h
  exact SqL.of (s _ _ p1)
 ·clear s1 s2 s3 S3 hkt hul hsl hD2 hl2 hS H1
  rintro i x σ H1 hx hh
  obtain ⟨ra, v4, v5, rfl, s1, hk1, hu1, hs1, hR1⟩ := (eP1 _ _ _).mp hh
  clear hh
  obtain ⟨t, ht, rfl⟩ := refs_get hx
  have hi : i < rs.length := by
   have := (List.getElem?_eq_some_iff.mp ht).1
   omega
  have hri : rs[i]? = some rs[i] := List.getElem?_eq_getElem hi
  have et : rs.take (i + 1) = rs.take i ++ [rs[i]] := by rw [List.take_add_one, hri]; rfl
  have ht0 : H t = some (.tup rs[i].vs) := p2.2 i t _ ht (by rw [List.getElem?_map, hri]; rfl)
  have ok := hT.1 _ (List.getElem_mem hi)
  have hm := List.getElem_mem hi
  generalize rs[i] = r at et ht0 ok hm
  have ht1 := s1 _ _ ht0
  push_cast [and_true]
  cases r with
  | kind n =>
   refine rIxT_ok ht1 (atI_nat (j := 0) rfl) ⟨rfl, ifN (show ¬ V.str ("kind" : Str) = V.str "rule" by decide +kernel) ((eP1 _ _ _).mpr ⟨ra, _, _, rfl, s1, hk1, hu1, by rw [et, rules_kind]; exact hs1, ?_⟩)⟩
   rw [et, rulesD_app, show rulesD rs ([] ++ rulesR (rs.take i)) [Rw.kind n] = [] from rfl, List.append_nil]
   exact hR1
  | does n d =>
   refine rIxT_ok ht1 (atI_nat (j := 0) rfl) ⟨rfl, ifN (show ¬ V.str ("does" : Str) = V.str "rule" by decide +kernel) ((eP1 _ _ _).mpr ⟨ra, _, _, rfl, s1, hk1, hu1, by rw [et, rules_does]; exact hs1, ?_⟩)⟩
   rw [et, rulesD_app, show rulesD rs ([] ++ rulesR (rs.take i)) [Rw.does n d] = [] from rfl, List.append_nil]
   exact hR1
  | none =>
   refine rIxT_ok ht1 (atI_nat (j := 0) rfl) ⟨rfl, ifN (show ¬ V.str ("" : Str) = V.str "rule" by decide +kernel) ((eP1 _ _ _).mpr ⟨ra, _, _, rfl, s1, hk1, hu1, by rw [et, rules_none]; exact hs1, ?_⟩)⟩
   rw [et, rulesD_app, show rulesD rs ([] ++ rulesR (rs.take i)) [Rw.none] = [] from rfl, List.append_nil]
   exact hR1
  | rule m k' p' ws =>
   refine rIxT_ok ht1 (atI_nat (j := 0) rfl) ⟨rfl, ifY (show V.str ("rule" : Str) = V.str "rule" from rfl) ⟨Nat.zero_le _, fun e0 he0 => ?_⟩⟩
   obtain ⟨M, eM⟩ : ∃ M : L2.St → Hp → Prop, ∀ σ H', M σ H' ↔ ∃ da as, σ = [some (.ref l), some (.ref kt), some (.ref ul), some (.ref sl), some (.ref t), some (.ref da)] ∧ Same H1 H' ∧ H' da = some (.tup (as.map V.ref)) ∧ TupsAt H' as (if m ∈ rulesR (rs.take i) then [] else deedsR rs m) := ⟨_, fun _ _ => Iff.rfl⟩
   have se := same_new he0 (.tup [])
   refine tMid_of M ?_ ?_
   ·push_cast [rIn, tVals]
    refine rIxT_ok (se _ _ ht1) (atI_nat (j := 1) rfl) ⟨_, .inl (SqL.of (se _ _ hs1)), rfl, List.all_eq_true.mpr (fun x hx => by obtain ⟨z, _, rfl⟩ := List.mem_map.mp hx; rfl), ?_⟩
    refine ite2 (fun c => ?_) fun c => (eM _ _).mpr ⟨e0, [], rfl, se, upd_same, ?_⟩
    ·have hni : m ∉ rulesR (rs.take i) := fun h => by
      rw [inV_mem (xs := (rulesR (rs.take i)).map V.str) (List.mem_map.mpr ⟨m, h, rfl⟩)] at c
      exact absurd c (by decide)
     refine ⟨⟨_, SqL.of ((s1.trans se) _ _ p1)⟩, fun D' hD' => lc_listH (fun j ys H' => ∃ as, ys = as.map V.ref ∧ TupsAt H' as (deedsR (rs.take j) m)) (fun j ys H2 H3 k hh => by obtain ⟨as, e, h⟩ := hh; exact ⟨as, e, h.keep k⟩) (SqL.of ((s1.trans se) _ _ p1)) (by rw [List.length_map]; omega) hD' ⟨[], rfl, TupsAt.nil _⟩ (fun j x ys H2 G' K' hx hP hl2 hS hG hK => ?_) fun ys H2 hP hl2 hS hD2 => ?_⟩
     ·obtain ⟨as, rfl, ha⟩ := hP
      obtain ⟨t2, ht2, rfl⟩ := refs_get hx
      have hj : j < rs.length := by
       have := (List.getElem?_eq_some_iff.mp ht2).1
       omega
      have hrj : rs[j]? = some rs[j] := List.getElem?_eq_getElem hj
      have et2 : rs.take (j + 1) = rs.take j ++ [rs[j]] := by rw [List.take_add_one, hrj]; rfl
      have g2 := (s1.trans (se.trans hS)) _ _ (p2.2 j t2 _ ht2 (by rw [List.getElem?_map, hrj]; rfl))
      have ok2 := hT.1 _ (List.getElem_mem hj)
      generalize rs[j] = r2 at et2 g2 ok2
      have g1 := (se.trans hS) _ _ ht1
      push_cast [and_true]
      cases r2 with
      | kind n => exact rIxT_ok g2 (atI_nat (j := 0) rfl) ⟨rfl, ifN (show ¬ V.str ("kind" : Str) = V.str "does" by decide +kernel) (hG _ (Same.refl _) ⟨as, rfl, by rw [et2, deeds_kind]; exact ha⟩)⟩
      | rule n k p ws => exact rIxT_ok g2 (atI_nat (j := 0) rfl) ⟨rfl, ifN (show ¬ V.str ("rule" : Str) = V.str "does" by decide +kernel) (hG _ (Same.refl _) ⟨as, rfl, by rw [et2, deeds_rule]; exact ha⟩)⟩
      | none => exact rIxT_ok g2 (atI_nat (j := 0) rfl) ⟨rfl, ifN (show ¬ V.str ("" : Str) = V.str "does" by decide +kernel) (hG _ (Same.refl _) ⟨as, rfl, by rw [et2, deeds_none]; exact ha⟩)⟩
      | does n d =>
       refine rIxT_ok g2 (atI_nat (j := 0) rfl) ⟨rfl, ifY (show V.str ("does" : Str) = V.str "does" from rfl) (rIxT_ok g2 (atI_nat (j := 1) rfl) (rIxT_ok g1 (atI_nat (j := 1) rfl) ⟨rfl, ite2 (fun c2 => rSlU_ok g2 fun y H3 s3 hy => hK _ _ s3 ⟨as ++ [y], by rw [List.map_append]; rfl, ?_⟩) fun c2 => hG _ (Same.refl _) ⟨as, rfl, ?_⟩⟩))⟩
       ·have e : n = m := V.str.inj c2
        rw [show cutV (Rw.does n d).vs (some 2) none = d from cut_tail (dsV :: .str n :: d) 2 0 (by show 2 + 0 ≤ d.length + 2; omega)] at hy
        rw [et2, deeds_does, if_pos e]
        exact (ha.keep (Tk.of s3)).snoc hy
       ·rw [et2, deeds_does, if_neg fun e => c2 (congrArg V.str e)]
        exact ha
     ·obtain ⟨as, rfl, ha⟩ := hP
      rw [List.length_map, p2l, List.take_length] at ha
      refine ⟨_, .inl ⟨SqL.of hD2, fun da hda => (eM _ _).mpr ⟨da, as, rfl, se.trans (hS.trans (same_new hda _)), upd_same, ?_⟩⟩⟩
      rw [if_neg hni]
      exact ha.keep (Tk.of (same_new hda _))
    ·have hin : m ∈ rulesR (rs.take i) := by
      have h : inV (.str m) ((rulesR (rs.take i)).map V.str) = true := by
       cases e : inV (.str m) ((rulesR (rs.take i)).map V.str) with
       | true => rfl
       | false => rw [show inV (V.str m) ((rulesR (rs.take i)).map V.str) = false from e] at c; exact absurd rfl c
      obtain ⟨z, hz, e⟩ := List.mem_map.mp (inV_str h)
      cases e
      exact hz
     rw [if_pos hin]
     exact TupsAt.nil _
   ·rintro σ H2 hh
    obtain ⟨da, as, rfl, s2, hda, hts⟩ := (eM _ _).mp hh
    clear hh
    push_cast [and_true]
    have ht2 := s2 _ _ ht1
    have hs2 := s2 _ _ hs1
    have hu2 := s2 _ _ hu1
    have rle := rules_len (rs.take i)
    have tle : (rs.take i).length ≤ rs.length := by rw [List.length_take]; omega
    have dle := rulesD_len (all := rs) (q := rs.take i) (s := [])
    refine ⟨tyV_list hs2, rIxT_ok ht2 (atI_nat (j := 1) rfl) (append_ok (K := K) hs2 (by rw [List.length_map]; omega) ?_).2⟩
    have tk : Tk H2 (upd H2 sl (.lst ((rulesR (rs.take i)).map V.str ++ [V.str m]))) := Tk.upd (Tk.refl _) fun xs e => by rw [hs2] at e; cases e
    have s3 : Same H (upd H2 sl (.lst ((rulesR (rs.take i)).map V.str ++ [V.str m]))) := (s1.trans s2).upd HL _
    have ht3 := tk _ _ ht2
    have hk3 := tk _ _ (s2 _ _ hk1)
    have hu3 : upd H2 sl (.lst ((rulesR (rs.take i)).map V.str ++ [V.str m])) ul = some (.lst (ra.map V.ref)) := by rw [upd_ne nus]; exact hu2
    have hs3 : upd H2 sl (.lst ((rulesR (rs.take i)).map V.str ++ [V.str m])) sl = some (.lst ((rulesR (rs.take i) ++ [m]).map V.str)) := by rw [upd_same, List.map_append]; rfl
    have hd3 := tk _ _ hda
    have hts3 := hts.keep tk
    have hR3 := (hR1.keep (Tk.of s2)).keep tk
    generalize upd H2 sl (.lst ((rulesR (rs.take i)).map V.str ++ [V.str m])) = H3 at s3 ht3 hk3 hu3 hs3 hd3 hts3 hR3 ⊢
    refine ⟨tyV_list hu3, rSlU_ok ht3 fun y1 H4 s4 hy1 => rSlU_ok (s4 _ _ ht3) fun y2 H5 s5 hy2 => ⟨by show (2 : Nat) ≤ sizeLine; decide, fun y3 hy3 => ?_⟩⟩
    rw [show cutV (Rw.rule m k' p' ws).vs (some 1) (some 4) = [V.str m, V.str k', V.int p'] from cut_part (rlV :: .str m :: .str k' :: .int p' :: ws) 1 3 (by show 1 + 3 ≤ ws.length + 4; omega)] at hy1
    rw [show cutV (Rw.rule m k' p' ws).vs (some 4) none = ws from cut_tail (rlV :: .str m :: .str k' :: .int p' :: ws) 4 0 (by show 4 + 0 ≤ ws.length + 4; omega)] at hy2
    have s6 := same_new hy3 (.tup [V.ref y2, V.ref da])
    refine rCatU_ok ((s5.trans s6) _ _ hy1) upd_same (by show (5 : Nat) ≤ sizeLine; decide) fun u H7 s7 hu7 => ?_
    have S7 := s4.trans (s5.trans (s6.trans s7))
    have hl7 := S7 _ _ hu3
    have tk7 : Tk H7 (upd H7 ul (.lst (ra.map V.ref ++ [.ref u]))) := Tk.upd (Tk.refl _) fun xs e => by rw [hl7] at e; cases e
    refine ⟨ul, _, _, rfl, rfl, hl7, by rw [List.length_map, hR1.1]; omega, (eP1 _ _ _).mpr ⟨ra ++ [u], _, _, rfl, (s3.trans S7).upd HU _, tk7 _ _ (S7 _ _ hk3), by rw [upd_same, List.map_append]; rfl, by rw [upd_ne nus.symm, et, rules_rule]; exact S7 _ _ hs3, ?_⟩⟩
    rw [et, rulesD_app, show rulesD rs ([] ++ rulesR (rs.take i)) [Rw.rule m k' p' ws] = [⟨m, k', p', ws, if m ∈ [] ++ rulesR (rs.take i) then [] else deedsR rs m⟩] from rfl]
    refine ((hR3.keep (Tk.of S7)).keep tk7).snoc (Rd5At.keep ⟨y2, da, as, hu7, (s6.trans s7) _ _ hy2, S7 _ _ hd3, hts3.keep (Tk.of S7)⟩ tk7)
 ·rintro σ H1 hh
  obtain ⟨ra, v4, v5, rfl, s1, hk1, hu1, hs1, hR1⟩ := (eP1 _ _ _).mp hh
  rw [List.length_map, p2l, List.take_length] at hR1
  push_cast [and_true]
  refine ⟨_, .inl ⟨SqL.of hu1, fun rt hrt => ⟨by show (2 : Nat) ≤ sizeLine; decide, fun b hb => ?_⟩⟩⟩
  have S := (same_new hrt (.tup (ra.map V.ref))).trans (same_new hb (.tup [V.ref kt, V.ref rt]))
  exact q b _ (s1.trans S) ⟨kt, rt, ra, upd_same, S _ _ hk1, same_new hb _ _ _ upd_same, hR1.keep (Tk.of S)⟩
noncomputable abbrev sSame0 : Stmt := top 52
theorem scSame0 : FnScope ["found", "due"] ["found", "due"] (defScope sSame0) := ⟨rfl, rfl, rfl, by decide +kernel, rfl, by decide +kernel, by decide +kernel⟩
theorem hasSame0 (G : Gs w K mg) (h_law_same : Has P w K mg base k "_law_same" ["found", "due"] spNever) (D : Def K mg "_law_same" sSame0 ["found", "due"]) : Has P w K mg base (k + 1) "_law_same" ["found", "due"] (spAlt 0) := by
 refine D.has scSame0 (fun vs H Q E h => ?_) (fun f cdv A outer s H vs Q E hr h => ?_)
 ·obtain ⟨_, _, rfl, _, _⟩ := h
  rfl
 have nd := scSame0.nd
 have hu := hu_of hr
 have hu0 := Nat.lt_of_succ_lt hu
 obtain ⟨x, y, rfl, hv, q⟩ := h
 have m_all := G.m_all
 have m_bool := G.m_bool
 have m_int := G.m_int
 have m_isinstance := G.m_isinstance
 have m_len := G.m_len
 have m_range := G.m_range
 have m_str := G.m_str
 have m_tuple := G.m_tuple
 refine ⟨_, (@pss_cons _ _ _ _ _ (@ps_if _ _ _ _ _ _ _ _ (@pt_valD _ _ _ (@pe_callB _ _ _ _ _ _ _ _ _ (@call_isinst _) rfl m_isinstance b_isinstance (@pa_cons _ _ _ _ _ (@pvD _ 1 _ _ (by rfl) (by first | exact Or.inl rfl | exact Or.inr (Or.inl rfl) | exact Or.inr (Or.inr rfl)) (by decide) (by decide)) (@pa_cons _ _ _ _ _ (@pe_gty _ _ _ _ m_tuple b_tuple (by rfl) (by decide +kernel) (by decide +kernel)) (@pa_nil _) (by rfl)) (by rfl)) (by decide) (by decide) (by rfl) (by rfl)) (by intro _; rfl)) (@pss_cons _ _ _ _ _ (@ps_if _ _ _ _ _ _ _ _ (@PW.pt _ _ _ (@pw_or _ _ _ _ _ _ _ (@pt_not _ _ _ _ (@pt_valD _ _ _ (@pe_callB _ _ _ _ _ _ _ _ _ (@call_isinst _) rfl m_isinstance b_isinstance (@pa_cons _ _ _ _ _ (@pvD _ 0 _ _ (by rfl) (by first | exact Or.inl rfl | exact Or.inr (Or.inl rfl) | exact Or.inr (Or.inr rfl)) (by decide) (by decide)) (@pa_cons _ _ _ _ _ (@pe_gty _ _ _ _ m_tuple b_tuple (by rfl) (by decide +kernel) (by decide +kernel)) (@pa_nil _) (by rfl)) (by rfl)) (by decide) (by decide) (by rfl) (by rfl)) (by intro _; rfl))) (@pw_or1 _ _ _ _ (@pt_cmpRD _ _ _ _ _ _ _ _ (@op_ne _) (@pe_callB _ _ _ _ _ _ _ _ _ (@call_len_seqD _) rfl m_len b_len (@pa_cons _ _ _ _ _ (@pvD _ 0 _ _ (by rfl) (by first | exact Or.inl rfl | exact Or.inr (Or.inl rfl) | exact Or.inr (Or.inr rfl)) (by decide) (by decide)) (@pa_nil _) (by rfl)) (by decide) (by decide) (by rfl) (by rfl)) (@pe_callB _ _ _ _ _ _ _ _ _ (@call_len_seqD _) rfl m_len b_len (@pa_cons _ _ _ _ _ (@pvD _ 1 _ _ (by rfl) (by first | exact Or.inl rfl | exact Or.inr (Or.inl rfl) | exact Or.inr (Or.inr rfl)) (by decide) (by decide)) (@pa_nil _) (by rfl)) (by decide) (by decide) (by rfl) (by rfl)) (@nomark _ _ (by decide) (by decide)))))) (@pss_one _ _ _ (@ps_ret _ _ _ _ (@pe_bl _ _ _ _))) (@pss_nil _)) (@pss_one _ _ _ (@ps_ret _ _ _ _ (@pe_callB _ _ _ _ _ _ _ _ _ (@call_all_list _ rfl) rfl m_all b_all (@pa_cons _ _ _ _ _ (@pe_lc _ _ _ _ _ _ _ _ _ _ _ _ _ _ _ (@ClOk.mk _ _ ["k"] ["found", "due"] [0, 1] _ rfl rfl rfl rfl (And.intro rfl (And.intro rfl trivial)) rfl (And.intro (And.intro rfl (And.intro rfl rfl)) (And.intro (And.intro rfl (And.intro rfl rfl)) trivial))) rfl (@pi_range1 _ _ _ _ _ _ rfl m_range (@pa_cons _ _ _ _ _ (@pe_callB _ _ _ _ _ _ _ _ _ (@call_len_seqD _) rfl m_len b_len (@pa_cons _ _ _ _ _ (@pvD _ 1 _ _ (by rfl) (by first | exact Or.inl rfl | exact Or.inr (Or.inl rfl) | exact Or.inr (Or.inr rfl)) (by decide) (by decide)) (@pa_nil _) (by rfl)) (by decide) (by decide) (by rfl) (by rfl)) (@pa_nil _) (by rfl)) (by rfl)) (fun _ _ _ => (@pg_name _ _ 0 _ (show List.Nodup (["k", "found", "due"] : List Str) by decide +kernel) rfl (Or.inl rfl) (by first | exact .inl rfl | exact .inr rfl | assumption))) (fun _ _ _ => (@pif0 _)) (fun _ _ _ => (@pe_has _ _ _ _ _ _ _ _ _ _ h_law_same hr (@pa_cons _ _ _ _ _ (@pe_ix _ _ _ _ _ _ _ (@ix_tupK _ K rfl) (@pvD _ 1 _ _ (by rfl) (by first | exact Or.inl rfl | exact Or.inr (Or.inl rfl) | exact Or.inr (Or.inr rfl)) (by decide) (by decide)) (@pvD _ 0 _ _ (by rfl) (by first | exact Or.inl rfl | exact Or.inr (Or.inl rfl) | exact Or.inr (Or.inr rfl)) (by decide) (by decide)) (fun _ _ => rfl)) (@pa_cons _ _ _ _ _ (@pe_ix _ _ _ _ _ _ _ (@ix_tupK _ K rfl) (@pvD _ 2 _ _ (by rfl) (by first | exact Or.inl rfl | exact Or.inr (Or.inl rfl) | exact Or.inr (Or.inr rfl)) (by decide) (by decide)) (@pvD _ 0 _ _ (by rfl) (by first | exact Or.inl rfl | exact Or.inr (Or.inl rfl) | exact Or.inr (Or.inr rfl)) (by decide) (by decide)) (fun _ _ => rfl)) (@pa_nil _) (by rfl)) (by rfl)) (by rfl) (by decide +kernel) (by rfl) (by rfl))) (by intro _; rfl)) (@pa_nil _) (by rfl)) (by decide) (by decide) (by rfl) (by rfl))))) (@pss_nil _)) (@pss_cons _ _ _ _ _ (@ps_if _ _ _ _ _ _ _ _ (@pt_valD _ _ _ (@pe_callB _ _ _ _ _ _ _ _ _ (@call_isinst _) rfl m_isinstance b_isinstance (@pa_cons _ _ _ _ _ (@pvD _ 1 _ _ (by rfl) (by first | exact Or.inl rfl | exact Or.inr (Or.inl rfl) | exact Or.inr (Or.inr rfl)) (by decide) (by decide)) (@pa_cons _ _ _ _ _ (@pe_gty _ _ _ _ m_str b_str (by rfl) (by decide +kernel) (by decide +kernel)) (@pa_nil _) (by rfl)) (by rfl)) (by decide) (by decide) (by rfl) (by rfl)) (by intro _; rfl)) (@pss_one _ _ _ (@ps_ret _ _ _ _ (@pe_and _ _ _ _ _ _ _ (@pe_callB _ _ _ _ _ _ _ _ _ (@call_isinst _) rfl m_isinstance b_isinstance (@pa_cons _ _ _ _ _ (@pvD _ 0 _ _ (by rfl) (by first | exact Or.inl rfl | exact Or.inr (Or.inl rfl) | exact Or.inr (Or.inr rfl)) (by decide) (by decide)) (@pa_cons _ _ _ _ _ (@pe_gty _ _ _ _ m_str b_str (by rfl) (by decide +kernel) (by decide +kernel)) (@pa_nil _) (by rfl)) (by rfl)) (by decide) (by decide) (by rfl) (by rfl)) (@pe_one _ _ _ _ _ (@pe_cmpR _ _ _ _ _ _ _ _ (@op_eq _) (@pvD _ 0 _ _ (by rfl) (by first | exact Or.inl rfl | exact Or.inr (Or.inl rfl) | exact Or.inr (Or.inr rfl)) (by decide) (by decide)) (@pvD _ 1 _ _ (by rfl) (by first | exact Or.inl rfl | exact Or.inr (Or.inl rfl) | exact Or.inr (Or.inr rfl)) (by decide) (by decide)) (@nomark _ _ (by decide) (by decide))))))) (@pss_nil _)) (@pss_one _ _ _ (@ps_ret _ _ _ _ (@pe_and _ _ _ _ _ _ _ (@pe_callB _ _ _ _ _ _ _ _ _ (@call_isinst _) rfl m_isinstance b_isinstance (@pa_cons _ _ _ _ _ (@pvD _ 0 _ _ (by rfl) (by first | exact Or.inl rfl | exact Or.inr (Or.inl rfl) | exact Or.inr (Or.inr rfl)) (by decide) (by decide)) (@pa_cons _ _ _ _ _ (@pe_gty _ _ _ _ m_int b_int (by rfl) (by decide +kernel) (by decide +kernel)) (@pa_nil _) (by rfl)) (by rfl)) (by decide) (by decide) (by rfl) (by rfl)) (@pe_and _ _ _ _ _ _ _ (@pe_not _ _ _ _ (@pe_callB _ _ _ _ _ _ _ _ _ (@call_isinst _) rfl m_isinstance b_isinstance (@pa_cons _ _ _ _ _ (@pvD _ 0 _ _ (by rfl) (by first | exact Or.inl rfl | exact Or.inr (Or.inl rfl) | exact Or.inr (Or.inr rfl)) (by decide) (by decide)) (@pa_cons _ _ _ _ _ (@pe_gty _ _ _ _ m_bool b_bool (by rfl) (by decide +kernel) (by decide +kernel)) (@pa_nil _) (by rfl)) (by rfl)) (by decide) (by decide) (by rfl) (by rfl))) (@pe_one _ _ _ _ _ (@pe_cmpR _ _ _ _ _ _ _ _ (@op_eq _) (@pvD _ 0 _ _ (by rfl) (by first | exact Or.inl rfl | exact Or.inr (Or.inl rfl) | exact Or.inr (Or.inr rfl)) (by decide) (by decide)) (@pvD _ 1 _ _ (by rfl) (by first | exact Or.inl rfl | exact Or.inr (Or.inl rfl) | exact Or.inr (Or.inr rfl)) (by decide) (by decide)) (@nomark _ _ (by decide) (by decide)))))))))), ?_⟩
 rw [show start ["found", "due"] [x, y] = [some (x), some (y)] from rfl]
 clear hu hu0 nd hr
 push_cast [and_true]
 obtain ⟨⟨k', rfl⟩, rfl⟩ := hv
 cases k' with
 | inl i => exact ⟨_, .int i, false, rfl, iteF ⟨_, .int i, false, rfl, iteF ⟨_, .int i, true, rfl, iteT ⟨_, .int i, false, rfl, iteT ⟨rfl, by rw [decide_eq_true rfl]; exact q H (Same.refl _)⟩⟩⟩⟩⟩
 | inr z => exact ⟨_, .str z, false, rfl, iteF ⟨_, .str z, true, rfl, iteT ⟨_, .str z, true, rfl, iteT ⟨rfl, by rw [decide_eq_true rfl]; exact q H (Same.refl _)⟩⟩⟩⟩
noncomputable abbrev sSameS : Stmt := top 52
theorem scSameS : FnScope ["found", "due"] ["found", "due"] (defScope sSameS) := ⟨rfl, rfl, rfl, by decide +kernel, rfl, by decide +kernel, by decide +kernel⟩
theorem hasSameS (G : Gs w K mg) (h_law_same : Has P w K mg base k "_law_same" ["found", "due"] (spAlt n)) (D : Def K mg "_law_same" sSameS ["found", "due"]) : Has P w K mg base (k + 1) "_law_same" ["found", "due"] (spAlt (n + 1)) := by
 refine D.has scSameS (fun vs H Q E h => ?_) (fun f cdv A outer s H vs Q E hr h => ?_)
 ·obtain ⟨_, _, rfl, _, _⟩ := h
  rfl
 have nd := scSameS.nd
 have hu := hu_of hr
 have hu0 := Nat.lt_of_succ_lt hu
 obtain ⟨x, y, rfl, hv, q⟩ := h
 have m_all := G.m_all
 have m_bool := G.m_bool
 have m_int := G.m_int
 have m_isinstance := G.m_isinstance
 have m_len := G.m_len
 have m_range := G.m_range
 have m_str := G.m_str
 have m_tuple := G.m_tuple
 refine ⟨_, (@pss_cons _ _ _ _ _ (@ps_if _ _ _ _ _ _ _ _ (@pt_valD _ _ _ (@pe_callB _ _ _ _ _ _ _ _ _ (@call_isinst _) rfl m_isinstance b_isinstance (@pa_cons _ _ _ _ _ (@pvD _ 1 _ _ (by rfl) (by first | exact Or.inl rfl | exact Or.inr (Or.inl rfl) | exact Or.inr (Or.inr rfl)) (by decide) (by decide)) (@pa_cons _ _ _ _ _ (@pe_gty _ _ _ _ m_tuple b_tuple (by rfl) (by decide +kernel) (by decide +kernel)) (@pa_nil _) (by rfl)) (by rfl)) (by decide) (by decide) (by rfl) (by rfl)) (by intro _; rfl)) (@pss_cons _ _ _ _ _ (@ps_if _ _ _ _ _ _ _ _ (@PW.pt _ _ _ (@pw_or _ _ _ _ _ _ _ (@pt_not _ _ _ _ (@pt_valD _ _ _ (@pe_callB _ _ _ _ _ _ _ _ _ (@call_isinst _) rfl m_isinstance b_isinstance (@pa_cons _ _ _ _ _ (@pvD _ 0 _ _ (by rfl) (by first | exact Or.inl rfl | exact Or.inr (Or.inl rfl) | exact Or.inr (Or.inr rfl)) (by decide) (by decide)) (@pa_cons _ _ _ _ _ (@pe_gty _ _ _ _ m_tuple b_tuple (by rfl) (by decide +kernel) (by decide +kernel)) (@pa_nil _) (by rfl)) (by rfl)) (by decide) (by decide) (by rfl) (by rfl)) (by intro _; rfl))) (@pw_or1 _ _ _ _ (@pt_cmpRD _ _ _ _ _ _ _ _ (@op_ne _) (@pe_callB _ _ _ _ _ _ _ _ _ (@call_len_seqD _) rfl m_len b_len (@pa_cons _ _ _ _ _ (@pvD _ 0 _ _ (by rfl) (by first | exact Or.inl rfl | exact Or.inr (Or.inl rfl) | exact Or.inr (Or.inr rfl)) (by decide) (by decide)) (@pa_nil _) (by rfl)) (by decide) (by decide) (by rfl) (by rfl)) (@pe_callB _ _ _ _ _ _ _ _ _ (@call_len_seqD _) rfl m_len b_len (@pa_cons _ _ _ _ _ (@pvD _ 1 _ _ (by rfl) (by first | exact Or.inl rfl | exact Or.inr (Or.inl rfl) | exact Or.inr (Or.inr rfl)) (by decide) (by decide)) (@pa_nil _) (by rfl)) (by decide) (by decide) (by rfl) (by rfl)) (@nomark _ _ (by decide) (by decide)))))) (@pss_one _ _ _ (@ps_ret _ _ _ _ (@pe_bl _ _ _ _))) (@pss_nil _)) (@pss_one _ _ _ (@ps_ret _ _ _ _ (@pe_callB _ _ _ _ _ _ _ _ _ (@call_all_list _ rfl) rfl m_all b_all (@pa_cons _ _ _ _ _ (@pe_lc _ _ _ _ _ _ _ _ _ _ _ _ _ _ _ (@ClOk.mk _ _ ["k"] ["found", "due"] [0, 1] _ rfl rfl rfl rfl (And.intro rfl (And.intro rfl trivial)) rfl (And.intro (And.intro rfl (And.intro rfl rfl)) (And.intro (And.intro rfl (And.intro rfl rfl)) trivial))) rfl (@pi_range1 _ _ _ _ _ _ rfl m_range (@pa_cons _ _ _ _ _ (@pe_callB _ _ _ _ _ _ _ _ _ (@call_len_seqD _) rfl m_len b_len (@pa_cons _ _ _ _ _ (@pvD _ 1 _ _ (by rfl) (by first | exact Or.inl rfl | exact Or.inr (Or.inl rfl) | exact Or.inr (Or.inr rfl)) (by decide) (by decide)) (@pa_nil _) (by rfl)) (by decide) (by decide) (by rfl) (by rfl)) (@pa_nil _) (by rfl)) (by rfl)) (fun _ _ _ => (@pg_name _ _ 0 _ (show List.Nodup (["k", "found", "due"] : List Str) by decide +kernel) rfl (Or.inl rfl) (by first | exact .inl rfl | exact .inr rfl | assumption))) (fun _ _ _ => (@pif0 _)) (fun _ _ _ => (@pe_has _ _ _ _ _ _ _ _ _ _ h_law_same hr (@pa_cons _ _ _ _ _ (@pe_ix _ _ _ _ _ _ _ (@ix_tupK _ K rfl) (@pvD _ 1 _ _ (by rfl) (by first | exact Or.inl rfl | exact Or.inr (Or.inl rfl) | exact Or.inr (Or.inr rfl)) (by decide) (by decide)) (@pvD _ 0 _ _ (by rfl) (by first | exact Or.inl rfl | exact Or.inr (Or.inl rfl) | exact Or.inr (Or.inr rfl)) (by decide) (by decide)) (fun _ _ => rfl)) (@pa_cons _ _ _ _ _ (@pe_ix _ _ _ _ _ _ _ (@ix_tupK _ K rfl) (@pvD _ 2 _ _ (by rfl) (by first | exact Or.inl rfl | exact Or.inr (Or.inl rfl) | exact Or.inr (Or.inr rfl)) (by decide) (by decide)) (@pvD _ 0 _ _ (by rfl) (by first | exact Or.inl rfl | exact Or.inr (Or.inl rfl) | exact Or.inr (Or.inr rfl)) (by decide) (by decide)) (fun _ _ => rfl)) (@pa_nil _) (by rfl)) (by rfl)) (by rfl) (by decide +kernel) (by rfl) (by rfl))) (by intro _; rfl)) (@pa_nil _) (by rfl)) (by decide) (by decide) (by rfl) (by rfl))))) (@pss_nil _)) (@pss_cons _ _ _ _ _ (@ps_if _ _ _ _ _ _ _ _ (@pt_valD _ _ _ (@pe_callB _ _ _ _ _ _ _ _ _ (@call_isinst _) rfl m_isinstance b_isinstance (@pa_cons _ _ _ _ _ (@pvD _ 1 _ _ (by rfl) (by first | exact Or.inl rfl | exact Or.inr (Or.inl rfl) | exact Or.inr (Or.inr rfl)) (by decide) (by decide)) (@pa_cons _ _ _ _ _ (@pe_gty _ _ _ _ m_str b_str (by rfl) (by decide +kernel) (by decide +kernel)) (@pa_nil _) (by rfl)) (by rfl)) (by decide) (by decide) (by rfl) (by rfl)) (by intro _; rfl)) (@pss_one _ _ _ (@ps_ret _ _ _ _ (@pe_and _ _ _ _ _ _ _ (@pe_callB _ _ _ _ _ _ _ _ _ (@call_isinst _) rfl m_isinstance b_isinstance (@pa_cons _ _ _ _ _ (@pvD _ 0 _ _ (by rfl) (by first | exact Or.inl rfl | exact Or.inr (Or.inl rfl) | exact Or.inr (Or.inr rfl)) (by decide) (by decide)) (@pa_cons _ _ _ _ _ (@pe_gty _ _ _ _ m_str b_str (by rfl) (by decide +kernel) (by decide +kernel)) (@pa_nil _) (by rfl)) (by rfl)) (by decide) (by decide) (by rfl) (by rfl)) (@pe_one _ _ _ _ _ (@pe_cmpR _ _ _ _ _ _ _ _ (@op_eq _) (@pvD _ 0 _ _ (by rfl) (by first | exact Or.inl rfl | exact Or.inr (Or.inl rfl) | exact Or.inr (Or.inr rfl)) (by decide) (by decide)) (@pvD _ 1 _ _ (by rfl) (by first | exact Or.inl rfl | exact Or.inr (Or.inl rfl) | exact Or.inr (Or.inr rfl)) (by decide) (by decide)) (@nomark _ _ (by decide) (by decide))))))) (@pss_nil _)) (@pss_one _ _ _ (@ps_ret _ _ _ _ (@pe_and _ _ _ _ _ _ _ (@pe_callB _ _ _ _ _ _ _ _ _ (@call_isinst _) rfl m_isinstance b_isinstance (@pa_cons _ _ _ _ _ (@pvD _ 0 _ _ (by rfl) (by first | exact Or.inl rfl | exact Or.inr (Or.inl rfl) | exact Or.inr (Or.inr rfl)) (by decide) (by decide)) (@pa_cons _ _ _ _ _ (@pe_gty _ _ _ _ m_int b_int (by rfl) (by decide +kernel) (by decide +kernel)) (@pa_nil _) (by rfl)) (by rfl)) (by decide) (by decide) (by rfl) (by rfl)) (@pe_and _ _ _ _ _ _ _ (@pe_not _ _ _ _ (@pe_callB _ _ _ _ _ _ _ _ _ (@call_isinst _) rfl m_isinstance b_isinstance (@pa_cons _ _ _ _ _ (@pvD _ 0 _ _ (by rfl) (by first | exact Or.inl rfl | exact Or.inr (Or.inl rfl) | exact Or.inr (Or.inr rfl)) (by decide) (by decide)) (@pa_cons _ _ _ _ _ (@pe_gty _ _ _ _ m_bool b_bool (by rfl) (by decide +kernel) (by decide +kernel)) (@pa_nil _) (by rfl)) (by rfl)) (by decide) (by decide) (by rfl) (by rfl))) (@pe_one _ _ _ _ _ (@pe_cmpR _ _ _ _ _ _ _ _ (@op_eq _) (@pvD _ 0 _ _ (by rfl) (by first | exact Or.inl rfl | exact Or.inr (Or.inl rfl) | exact Or.inr (Or.inr rfl)) (by decide) (by decide)) (@pvD _ 1 _ _ (by rfl) (by first | exact Or.inl rfl | exact Or.inr (Or.inl rfl) | exact Or.inr (Or.inr rfl)) (by decide) (by decide)) (@nomark _ _ (by decide) (by decide)))))))))), ?_⟩
 rw [show start ["found", "due"] [x, y] = [some (x), some (y)] from rfl]
 clear hu hu0 nd hr
 push_cast [and_true]
 have sz := sizeLine_eq
 rcases hv with hv | ⟨a, b, xs, ys, rfl, rfl, hF, hD, hl, hm, hr⟩
 ·obtain ⟨⟨k', rfl⟩, rfl⟩ := hv
  cases k' with
  | inl i => exact ⟨_, .int i, false, rfl, iteF ⟨_, .int i, false, rfl, iteF ⟨_, .int i, true, rfl, iteT ⟨_, .int i, false, rfl, iteT ⟨rfl, by rw [decide_eq_true rfl]; exact q H (Same.refl _)⟩⟩⟩⟩⟩
  | inr z => exact ⟨_, .str z, false, rfl, iteF ⟨_, .str z, true, rfl, iteT ⟨_, .str z, true, rfl, iteT ⟨rfl, by rw [decide_eq_true rfl]; exact q H (Same.refl _)⟩⟩⟩⟩
 refine ⟨_, .tup hD, true, rfl, iteT ⟨_, .tup hF, true, rfl, iteF ⟨xs, .inr (SqT.of hF), ys, .inr (SqT.of hD), rfl, ?_⟩⟩⟩
 rw [decide_eq_true (show (xs.length : Int) = (ys.length : Int) by omega)]
 refine iteF ⟨ys, .inr (SqT.of hD), by omega, by omega, fun L hL => ?_⟩
 refine lc_range (fun j zs => zs = List.replicate j (V.bl true)) (by omega) hL rfl (fun j zs H1 G' K' hj hP hl2 hS hG hK => ?_) fun zs H3 hP hl2 hS hL2 => ?_
 ·push_cast [and_true]
  have hj' : j < ys.length := by omega
  have hat : ∀ {us : List V} (h : j < us.length), atI us (0 + (j : Int)) = some us[j] := fun h => by
   rw [show (0 + (j : Int)) = ((j : Nat) : Int) by omega]
   exact atI_nat (List.getElem?_eq_getElem h)
  exact rIxT_ok (hS _ _ hF) (hat (by omega)) (rIxT_ok (hS _ _ hD) (hat hj') ⟨_, _, rfl, (hr j _ _ (List.getElem?_eq_getElem (by omega)) (List.getElem?_eq_getElem hj')).keep (Tk.of hS), fun H' s' => hK _ _ s' (by rw [hP, ← List.replicate_succ'])⟩)
 ·refine ⟨List.replicate ((ys.length : Nat) : Int).toNat true, SqL.of (by rw [hL2, hP, List.map_replicate]), ?_⟩
  rw [show (List.replicate ((ys.length : Nat) : Int).toNat true).all id = true by simp]
  exact q _ hS
noncomputable abbrev sSame : Stmt := sSameS
theorem scSame : FnScope ["found", "due"] ["found", "due"] (defScope sSame) := scSameS
theorem hasNever (D : Def K mg "_law_same" sSameS ["found", "due"]) : Has P w K mg base (k + 1) "_law_same" ["found", "due"] spNever := D.has scSameS (fun vs H Q E h => h.elim) (fun f cdv A outer s H vs Q E hr h => h.elim)
theorem hasSame (G : Gs w K mg) (D : Def K mg "_law_same" sSameS ["found", "due"]) : Has P w K mg base (k + 7) "_law_same" ["found", "due"] (spAlt 5) := hasSameS G (hasSameS G (hasSameS G (hasSameS G (hasSameS G (hasSame0 G (hasNever D) D) D) D) D) D) D
noncomputable abbrev sShownT : Stmt := top 16
theorem scShownT : FnScope ["words"] ["words"] (defScope sShownT) := ⟨rfl, rfl, rfl, by decide +kernel, rfl, by decide +kernel, by decide +kernel⟩
theorem hasShownT (G : Gs w K mg) (D : Def K mg "shown_term" sShownT ["words"]) : Has P w K mg base (k + 1) "shown_term" ["words"] spShownT := by
 refine D.has scShownT (fun vs H Q E h => ?_) (fun f cdv A outer s H vs Q E hr h => ?_)
 ·obtain ⟨_, _, rfl, _, _, _, _⟩ := h
  rfl
 have nd := scShownT.nd
 have hu := hu_of hr
 have hu0 := Nat.lt_of_succ_lt hu
 obtain ⟨t, ws, rfl, ht, hw, hl, q⟩ := h
 have m_str := G.m_str
 refine ⟨_, (@pss_one _ _ _ (@ps_ret _ _ _ _ (@pe_bm _ _ _ _ _ _ _ _ _ _ _ _ PySem.F.plainAttrs_str PySem.F.slot_str_join PySem.F.type_str_join (@mt_join _) (@pe_str _ _ _ _) (@pa_cons _ _ _ _ _ (@pe_lc _ _ _ _ _ _ _ _ _ _ _ _ _ _ _ (@ClOk.mk _ _ ["word"] [] [] _ rfl rfl rfl rfl trivial rfl trivial) rfl (@pi_tup _ _ _ _ (@pvD _ 0 _ _ (by rfl) (by first | exact Or.inl rfl | exact Or.inr (Or.inl rfl) | exact Or.inr (Or.inr rfl)) (by decide) (by decide))) (fun _ _ _ => (@pg_name _ _ 0 _ (show List.Nodup (["word"] : List Str) by decide +kernel) rfl (Or.inl rfl) (by first | exact .inl rfl | exact .inr rfl | assumption))) (fun _ _ _ => (@pif0 _)) (fun _ _ _ => (@pe_callTy _ _ _ _ _ _ _ _ _ (@call_str_any _) rfl m_str b_str (@pa_cons _ _ _ _ _ (@pvD _ 0 _ _ (by rfl) (by first | exact Or.inl rfl | exact Or.inr (Or.inl rfl) | exact Or.inr (Or.inr rfl)) (by decide) (by decide)) (@pa_nil _) (by rfl)) (by decide) (by decide) (by rfl) (by rfl))) (by intro _; rfl)) (@pa_nil _) (by rfl)) (by rfl) (by rfl) (by rfl) (by rfl) (by rfl)))), ?_⟩
 rw [show start ["words"] [.ref t] = [some (.ref t)] from rfl]
 clear hu hu0 nd hr
 push_cast [and_true]
 have sz := sizeLine_eq
 refine ⟨⟨_, SqT.of ht⟩, fun D hD => lc_tup (fun i ys => ys = (ws.take i).map fun v => V.str (textV v)) (SqT.of ht) (by omega) hD rfl (fun i x ys H1 G' K' hx hP hl2 hS hG hK => ?_) fun ys H1 hP hl2 hS hD2 => ⟨ws.map textV, ?_, ?_, q H1 hS⟩⟩
 ·push_cast [and_true]
  refine ⟨(hw x (List.mem_of_getElem? hx)).word, hK _ _ (Same.refl _) ?_⟩
  rw [hP, List.take_add_one, hx, List.map_append]
  rfl
 ·rw [List.take_length] at hP
  exact SqL.of (by rw [hD2, hP, List.map_map]; rfl)
 ·have := (join_len hw).2
  omega
noncomputable abbrev sShownB : Stmt := top 39
theorem scShownB : FnScope ["book", "rows", "name", "kind", "price", "shape", "deeds"] ["book"] (defScope sShownB) := ⟨rfl, rfl, rfl, by decide +kernel, rfl, by decide +kernel, by decide +kernel⟩
theorem hasShownB (G : Gs w K mg) (h_shown_term : Has P w K mg base k "shown_term" ["words"] spShownT) (D : Def K mg "shown_book" sShownB ["book"]) : Has P w K mg base (k + 1) "shown_book" ["book"] spShownB := by
 refine D.has scShownB (fun vs H Q E h => ?_) (fun f cdv A outer s H vs Q E hr h => ?_)
 ·obtain ⟨_, _, _, rfl, _, _, _⟩ := h
  rfl
 have nd := scShownB.nd
 have hu := hu_of hr
 have hu0 := Nat.lt_of_succ_lt hu
 obtain ⟨b, ks, rs, rfl, hb, hT, q⟩ := h
 refine ⟨_, (@pss_cons _ _ _ _ _ (@ps_setlc _ _ _ _ _ _ _ _ _ _ _ _ _ _ _ 1 _ _ _ nd rfl (Or.inl rfl) (@ClOk.mk _ _ ["kind"] [] [] _ rfl rfl rfl rfl trivial rfl trivial) rfl (@pi_tup _ _ _ _ (@pe_ix _ _ _ _ _ _ _ (@ix_tup _) (@pvD _ 0 _ _ (by rfl) (by first | exact Or.inl rfl | exact Or.inr (Or.inl rfl) | exact Or.inr (Or.inr rfl)) (by decide) (by decide)) (@pe_int _ _ _ _) (fun _ _ => rfl))) (fun _ _ _ => (@pg_name _ _ 0 _ (show List.Nodup (["kind"] : List Str) by decide +kernel) rfl (Or.inl rfl) (by first | exact .inl rfl | exact .inr rfl | assumption))) (fun _ _ _ => (@pif0 _)) (fun _ _ _ => (@pe_tup _ _ _ _ _ (@pa_cons _ _ _ _ _ (@pe_str _ _ _ _) (@pa_cons _ _ _ _ _ (@pvD _ 0 _ _ (by rfl) (by first | exact Or.inl rfl | exact Or.inr (Or.inl rfl) | exact Or.inr (Or.inr rfl)) (by decide) (by decide)) (@pa_nil _) (by rfl)) (by rfl)))) (by rfl) (by intro _; rfl) (by first | exact .inl rfl | exact .inr rfl | assumption)) (@pss_cons _ _ _ _ _ (@ps_for _ _ _ _ _ _ _ _ PassesOwn.never rfl (@pi_tup _ _ _ _ (@pe_ix _ _ _ _ _ _ _ (@ix_tup _) (@pvD _ 0 _ _ (by rfl) (by first | exact Or.inl rfl | exact Or.inr (Or.inl rfl) | exact Or.inr (Or.inr rfl)) (by decide) (by decide)) (@pe_int _ _ _ _) (fun _ _ => rfl))) (@pg_tup _ _ _ _ _ _ rfl (@pgs_cons _ _ _ _ _ (@pg_name _ _ 2 _ nd rfl (by first | exact Or.inl rfl | exact Or.inr rfl) (by first | exact .inl rfl | exact .inr rfl | assumption)) (@pgs_cons _ _ _ _ _ (@pg_name _ _ 3 _ nd rfl (by first | exact Or.inl rfl | exact Or.inr rfl) (by first | exact .inl rfl | exact .inr rfl | assumption)) (@pgs_cons _ _ _ _ _ (@pg_name _ _ 4 _ nd rfl (by first | exact Or.inl rfl | exact Or.inr rfl) (by first | exact .inl rfl | exact .inr rfl | assumption)) (@pgs_cons _ _ _ _ _ (@pg_name _ _ 5 _ nd rfl (by first | exact Or.inl rfl | exact Or.inr rfl) (by first | exact .inl rfl | exact .inr rfl | assumption)) (@pgs_cons _ _ _ _ _ (@pg_name _ _ 6 _ nd rfl (by first | exact Or.inl rfl | exact Or.inr rfl) (by first | exact .inl rfl | exact .inr rfl | assumption)) (@pgs_nil _) (by rfl)) (by rfl)) (by rfl)) (by rfl)) (by rfl)) (by rfl) (by rfl)) (@pss_cons _ _ _ _ _ (@ps_expr _ _ _ _ (@pe_bm _ _ _ _ _ _ _ _ _ _ _ _ PySem.F.plainAttrs_list PySem.F.slot_list_append PySem.F.type_list_append (@mt_append _) (@pvD _ 1 _ _ (by rfl) (by first | exact Or.inl rfl | exact Or.inr (Or.inl rfl) | exact Or.inr (Or.inr rfl)) (by decide) (by decide)) (@pa_cons _ _ _ _ _ (@pe_op _ _ _ _ _ _ _ _ (@op_catU _) (@pe_tup _ _ _ _ _ (@pa_cons _ _ _ _ _ (@pe_str _ _ _ _) (@pa_cons _ _ _ _ _ (@pvD _ 2 _ _ (by rfl) (by first | exact Or.inl rfl | exact Or.inr (Or.inl rfl) | exact Or.inr (Or.inr rfl)) (by decide) (by decide)) (@pa_cons _ _ _ _ _ (@pvD _ 3 _ _ (by rfl) (by first | exact Or.inl rfl | exact Or.inr (Or.inl rfl) | exact Or.inr (Or.inr rfl)) (by decide) (by decide)) (@pa_cons _ _ _ _ _ (@pvD _ 4 _ _ (by rfl) (by first | exact Or.inl rfl | exact Or.inr (Or.inl rfl) | exact Or.inr (Or.inr rfl)) (by decide) (by decide)) (@pa_cons _ _ _ _ _ (@pe_str _ _ _ _) (@pa_nil _) (by rfl)) (by rfl)) (by rfl)) (by rfl)) (by rfl))) (@pvD _ 5 _ _ (by rfl) (by first | exact Or.inl rfl | exact Or.inr (Or.inl rfl) | exact Or.inr (Or.inr rfl)) (by decide) (by decide))) (@pa_nil _) (by rfl)) (by rfl) (by rfl) (by rfl) (by rfl) (by rfl)) (by rfl)) (@pss_one _ _ _ (@ps_expr _ _ _ _ (@pe_bm _ _ _ _ _ _ _ _ _ _ _ _ PySem.F.plainAttrs_list PySem.F.slot_list_extend PySem.F.type_list_extend (@mt_extend _) (@pvD _ 1 _ _ (by rfl) (by first | exact Or.inl rfl | exact Or.inr (Or.inl rfl) | exact Or.inr (Or.inr rfl)) (by decide) (by decide)) (@pa_cons _ _ _ _ _ (@pe_lc _ _ _ _ _ _ _ _ _ _ _ _ _ _ _ (@ClOk.mk _ _ ["deed"] ["name"] [2] _ rfl rfl rfl rfl (And.intro rfl trivial) rfl (And.intro (And.intro rfl (And.intro rfl rfl)) trivial)) rfl (@pi_tup _ _ _ _ (@pvD _ 6 _ _ (by rfl) (by first | exact Or.inl rfl | exact Or.inr (Or.inl rfl) | exact Or.inr (Or.inr rfl)) (by decide) (by decide))) (fun _ _ _ => (@pg_name _ _ 0 _ (show List.Nodup (["deed", "name"] : List Str) by decide +kernel) rfl (Or.inl rfl) (by first | exact .inl rfl | exact .inr rfl | assumption))) (fun _ _ _ => (@pif0 _)) (fun _ _ _ => (@pe_op _ _ _ _ _ _ _ _ (@op_catU _) (@pe_tup _ _ _ _ _ (@pa_cons _ _ _ _ _ (@pe_str _ _ _ _) (@pa_cons _ _ _ _ _ (@pvD _ 1 _ _ (by rfl) (by first | exact Or.inl rfl | exact Or.inr (Or.inl rfl) | exact Or.inr (Or.inr rfl)) (by decide) (by decide)) (@pa_nil _) (by rfl)) (by rfl))) (@pvD _ 0 _ _ (by rfl) (by first | exact Or.inl rfl | exact Or.inr (Or.inl rfl) | exact Or.inr (Or.inr rfl)) (by decide) (by decide)))) (by intro _; rfl)) (@pa_nil _) (by rfl)) (by rfl) (by rfl) (by rfl) (by rfl) (by rfl)) (by rfl)))) (by intro _; rfl)) (@pss_one _ _ _ (@ps_ret _ _ _ _ (@pe_bm _ _ _ _ _ _ _ _ _ _ _ _ PySem.F.plainAttrs_str PySem.F.slot_str_join PySem.F.type_str_join (@mt_join _) (@pe_str _ _ _ _) (@pa_cons _ _ _ _ _ (@pe_lc _ _ _ _ _ _ _ _ _ _ _ _ _ _ _ (@ClOk.mk _ _ ["row"] [] [] _ rfl rfl rfl rfl trivial rfl trivial) rfl (@pi_list _ _ _ _ (@pvD _ 1 _ _ (by rfl) (by first | exact Or.inl rfl | exact Or.inr (Or.inl rfl) | exact Or.inr (Or.inr rfl)) (by decide) (by decide))) (fun _ _ _ => (@pg_name _ _ 0 _ (show List.Nodup (["row"] : List Str) by decide +kernel) rfl (Or.inl rfl) (by first | exact .inl rfl | exact .inr rfl | assumption))) (fun _ _ _ => (@pif0 _)) (fun _ _ _ => (@pe_has _ _ _ _ _ _ _ _ _ _ h_shown_term hr (@pa_cons _ _ _ _ _ (@pvD _ 0 _ _ (by rfl) (by first | exact Or.inl rfl | exact Or.inr (Or.inl rfl) | exact Or.inr (Or.inr rfl)) (by decide) (by decide)) (@pa_nil _) (by rfl)) (by rfl) (by decide +kernel) (by rfl) (by rfl))) (by intro _; rfl)) (@pa_nil _) (by rfl)) (by rfl) (by rfl) (by rfl) (by rfl) (by rfl)))))), ?_⟩
 rw [show start ["book", "rows", "name", "kind", "price", "shape", "deeds"] [.ref b] = [some (.ref b), none, none, none, none, none, none] from rfl]
 clear hu hu0 nd hr
 push_cast [and_true]
 have sz := sizeLine_eq
 obtain ⟨kt, rt, ra, b0, bk, br, bra⟩ := hb
 have sl := hT.2.1
 have kl : ks.length ≤ 63 := by unfold Bk.shown at sl; rw [List.length_append, List.length_map] at sl; omega
 refine rIxT_ok b0 (atI_nat (j := 0) rfl) ⟨kt, rfl, ⟨_, SqT.of bk⟩, fun l hl => lc_tupK (fun i ys H' => ∃ as, ys = as.map V.ref ∧ TupsAt H' as (((ks.take i).map Rw.kind).map Rw.tx)) (fun j ys H2 H3 k hh => by obtain ⟨as, e, h⟩ := hh; exact ⟨as, e, h.keep k⟩) (SqT.of bk) (by rw [List.length_map]; omega) hl ⟨[], rfl, TupsAt.nil _⟩ (fun i x ys H1 G' K' hx hP hl2 hS hG hK => ?_) fun ys H1 hP hl2 hS hD2 => ?_⟩
 ·obtain ⟨as, rfl, ha⟩ := hP
  rw [List.getElem?_map] at hx
  obtain ⟨z, hz, rfl⟩ := Option.map_eq_some_iff.mp hx
  push_cast [and_true]
  refine ⟨by show (2 : Nat) ≤ sizeLine; decide, fun p hp => hK _ _ (same_new hp _) ⟨as ++ [p], by rw [List.map_append]; rfl, ?_⟩⟩
  rw [List.take_add_one, hz, List.map_append, List.map_append]
  exact (ha.keep (Tk.of (same_new hp _))).snoc upd_same
 obtain ⟨as, rfl, ha⟩ := hP
 rw [List.length_map, List.take_length] at ha
 refine rIxT_ok (hS _ _ b0) (atI_nat (j := 1) rfl) ⟨rt, rfl, ⟨_, SqT.of (hS _ _ br)⟩, ?_⟩
 obtain ⟨P1, eP1⟩ : ∃ P1 : Nat → L2.St → Hp → Prop, ∀ i σ H', P1 i σ H' ↔ ∃ (as : List Addr) (v2 v3 v4 v5 v6 : Option V), σ = [some (.ref b), some (.ref l), v2, v3, v4, v5, v6] ∧ Same H H' ∧ H' l = some (.lst (as.map V.ref)) ∧ TupsAt H' as ((shown ks (rs.take i)).map Rw.tx) := ⟨_, fun _ _ _ => Iff.rfl⟩
 refine forW_tup (xs := ra.map V.ref) P1 ((eP1 _ _ _).mpr ⟨as, none, none, none, none, none, rfl, hS, hD2, ?_⟩) (fun i σ H' _ h => ?_) ?_ ?_
 ·rw [show shown ks (rs.take 0) = ks.map Rw.kind from List.append_nil _]
  exact ha
 ·obtain ⟨_, _, _, _, _, _, _, s, _⟩ := (eP1 _ _ _).mp h
  exact SqT.of (s _ _ br)
 ·clear hS hD2 ha as H1 hl2
  rintro i x σ H1 hx hh
  obtain ⟨as, v2, v3, v4, v5, v6, rfl, s1, h1, ha⟩ := (eP1 _ _ _).mp hh
  clear hh
  obtain ⟨t, ht, rfl⟩ := refs_get hx
  have hi : i < rs.length := by rw [← bra.1]; exact (List.getElem?_eq_some_iff.mp ht).1
  have hri : rs[i]? = some rs[i] := List.getElem?_eq_getElem hi
  have et : rs.take (i + 1) = rs.take i ++ [rs[i]] := by rw [List.take_add_one, hri]; rfl
  obtain ⟨sa, da, ds, r1, r2, r3, r4⟩ := bra.2 i t _ ht hri
  have ln := shown_cut (ks := ks) hi
  have es := shown_take (ks := ks) hi
  have sh : (Rw.rule rs[i].name rs[i].kind rs[i].price rs[i].shape).ok := hT.1 _ (List.mem_append_right _ (List.mem_flatten.mpr ⟨_, List.mem_map.mpr ⟨_, List.getElem_mem hi, rfl⟩, List.mem_cons_self⟩))
  have hD5 : ∀ d ∈ rs[i].deeds, (Rw.does rs[i].name d).ok := fun d hd => hT.1 _ (List.mem_append_right _ (List.mem_flatten.mpr ⟨_, List.mem_map.mpr ⟨_, List.getElem_mem hi, rfl⟩, List.mem_cons_of_mem _ (List.mem_map.mpr ⟨d, hd, rfl⟩)⟩))
  generalize rs[i] = r at r1 r2 r3 r4 ln es sh hD5
  have al := ha.1
  rw [List.length_map] at al
  have wl : r.shape.length ≤ 12 := sh.2.2.2.2.2.1
  refine gTup5_ok (s1 _ _ r1) rfl ?_
  push_cast [and_true]
  refine ⟨tyV_list h1, by show (5 : Nat) ≤ sizeLine; decide, fun p hp => ?_⟩
  have s2 := same_new hp (.tup [V.str (Str.ofString "rule"), V.str r.name, V.str r.kind, V.int r.price, V.str (Str.ofString "=")])
  refine rCatU_ok upd_same (s2 _ _ (s1 _ _ r2)) (by simp only [List.length_cons, List.length_nil]; omega) fun u H3 s3 hu => ?_
  have S3 := s2.trans s3
  have l3 := S3 _ _ h1
  have L1 : (shownR r).length = r.deeds.length + 1 := by unfold shownR; rw [List.length_cons, List.length_map]
  refine ⟨l, _, _, rfl, rfl, l3, by rw [List.length_map]; omega, ?_⟩
  have tk : Tk H3 (upd H3 l (.lst (as.map V.ref ++ [.ref u]))) := Tk.upd (Tk.refl _) fun xs e => by rw [l3] at e; cases e
  have s4 : Same H (upd H3 l (.lst (as.map V.ref ++ [.ref u]))) := (s1.trans S3).upd hl _
  have hu4 := tk _ _ hu
  have ha4 := (ha.keep (Tk.of S3)).keep tk
  have l4 : upd H3 l (.lst (as.map V.ref ++ [.ref u])) l = some (.lst ((as ++ [u]).map V.ref)) := by rw [upd_same, List.map_append]; rfl
  generalize upd H3 l (.lst (as.map V.ref ++ [.ref u])) = H4 at s4 hu4 ha4 l4 tk ⊢
  refine ⟨tyV_list l4, ⟨_, SqT.of (s4 _ _ r3)⟩, fun D hD => lc_tupK (fun j ys H' => ∃ bs, ys = bs.map V.ref ∧ TupsAt H' bs (((r.deeds.take j).map (Rw.does r.name)).map Rw.tx)) (fun j ys H2 H3 k hh => by obtain ⟨as, e, h⟩ := hh; exact ⟨as, e, h.keep k⟩) (SqT.of (s4 _ _ r3)) (by rw [List.length_map, r4.1]; omega) hD ⟨[], rfl, TupsAt.nil _⟩ (fun j x ys H5 G' K' hx hP hl2 hS hG hK => ?_) fun ys H5 hP hl2 hS hD2 => ?_⟩
  ·obtain ⟨bs, rfl, hbs⟩ := hP
   obtain ⟨t2, ht2, rfl⟩ := refs_get hx
   have hj : j < r.deeds.length := by rw [← r4.1]; exact (List.getElem?_eq_some_iff.mp ht2).1
   have hdj : r.deeds[j]? = some r.deeds[j] := List.getElem?_eq_getElem hj
   have g2 := (s4.trans hS) _ _ (r4.2 j t2 _ ht2 hdj)
   have dl : (r.deeds[j]).length ≤ 1000 := by
    have : (Rw.does r.name r.deeds[j]).ok := hD5 _ (List.getElem_mem hj)
    exact Nat.le_trans (deed_len this.2).2 (by decide)
   push_cast [and_true]
   refine ⟨by show (2 : Nat) ≤ sizeLine; decide, fun p5 hp5 => rCatU_ok upd_same (same_new hp5 _ _ _ g2) (by simp only [List.length_cons, List.length_nil]; omega) fun u5 H6 s6 hu6 => hK _ _ ((same_new hp5 _).trans s6) ⟨bs ++ [u5], by rw [List.map_append]; rfl, ?_⟩⟩
   rw [List.take_add_one, hdj, List.map_append, List.map_append]
   exact (hbs.keep (Tk.of ((same_new hp5 _).trans s6))).snoc hu6
  ·obtain ⟨bs, rfl, hbs⟩ := hP
   rw [List.length_map, r4.1, List.take_length] at hbs
   have l5 := hS _ _ l4
   have bl := hbs.1
   rw [List.length_map, List.length_map] at bl
   have tk6 : Tk H5 (upd H5 l (.lst ((as ++ [u]).map V.ref ++ bs.map V.ref))) := Tk.upd (Tk.refl _) fun xs e => by rw [l5] at e; cases e
   refine ⟨l, D, _, _, rfl, rfl, l5, hD2, by rw [List.length_map, List.length_map, List.length_append, List.length_singleton]; omega, (eP1 _ _ _).mpr ⟨as ++ [u] ++ bs, _, _, _, _, _, rfl, (s4.trans hS).upd hl _, by rw [upd_same, List.map_append (l₁ := as ++ [u])], ?_⟩⟩
   rw [es, show ((Bk.shown ks (rs.take i) ++ shownR r).map Rw.tx) = (Bk.shown ks (rs.take i)).map Rw.tx ++ (shownR r).map Rw.tx from List.map_append]
   have h6 := ((ha4.snoc hu4).keep (Tk.of hS)).keep tk6
   have e6 : (shownR r).map Rw.tx = [(Rw.rule r.name r.kind r.price r.shape).tx] ++ (r.deeds.map (Rw.does r.name)).map Rw.tx := rfl
   rw [e6, ← List.append_assoc]
   exact tups_app h6 (hbs.keep tk6)
 ·rintro σ H1 hh
  obtain ⟨as, v2, v3, v4, v5, v6, rfl, s1, h1, ha⟩ := (eP1 _ _ _).mp hh
  rw [List.length_map, bra.1, List.take_length] at ha
  have al := ha.1
  rw [List.length_map] at al
  push_cast [and_true]
  refine ⟨⟨_, SqL.of h1⟩, fun D hD => lc_list (fun i ys => ys = (((shown ks rs).take i).map Rw.line).map V.str) (SqL.of h1) (by rw [List.length_map]; omega) hD rfl (fun i x ys H4 G' K' hx hP hl2 hS hG hK => ?_) fun ys H4 hP hl2 hS hD2 => ?_⟩
  ·obtain ⟨t, ht, rfl⟩ := refs_get hx
   have hi : i < (shown ks rs).length := by rw [← al]; exact (List.getElem?_eq_some_iff.mp ht).1
   have hri : (shown ks rs)[i]? = some (shown ks rs)[i] := List.getElem?_eq_getElem hi
   have ok := hT.1 _ (List.getElem_mem hi)
   have fu := shown_full _ (List.getElem_mem hi)
   push_cast [and_true]
   refine ⟨t, (shown ks rs)[i].tx, rfl, hS _ _ (ha.2 i t _ ht (by rw [List.getElem?_map, hri]; rfl)), Rw.wd ok fu, by have := (Rw.txl ok).2; omega, fun H5 s5 => hK _ _ s5 ?_⟩
   rw [hP, List.take_add_one, hri, List.map_append, List.map_append]
   rfl
  ·rw [List.length_map, al, List.take_length] at hP
   exact ⟨_, SqL.of (by rw [hD2, hP]), (told_text hT).sum, q H4 (s1.trans hS)⟩
noncomputable abbrev sTextL : Stmt := top 53
theorem scTextL : FnScope ["book", "lines", "name", "kind", "price", "shape", "deeds", "deed"] ["book"] (defScope sTextL) := ⟨rfl, rfl, rfl, by decide +kernel, rfl, by decide +kernel, by decide +kernel⟩
theorem hasTextL (G : Gs w K mg) (h_law_line : Has P w K mg base k "_law_line" ["row"] spLine) (D : Def K mg "_law_text" sTextL ["book"]) : Has P w K mg base (k + 1) "_law_text" ["book"] spShownB := by
 refine D.has scTextL (fun vs H Q E h => ?_) (fun f cdv A outer s H vs Q E hr h => ?_)
 ·obtain ⟨_, _, _, rfl, _, _, _⟩ := h
  rfl
 have nd := scTextL.nd
 have hu := hu_of hr
 have hu0 := Nat.lt_of_succ_lt hu
 obtain ⟨b, ks, rs, rfl, hb, hT, q⟩ := h
 refine ⟨_, (@pss_cons _ _ _ _ _ (@ps_setlc _ _ _ _ _ _ _ _ _ _ _ _ _ _ _ 1 _ _ _ nd rfl (Or.inl rfl) (@ClOk.mk _ _ ["kind"] [] [] _ rfl rfl rfl rfl trivial rfl trivial) rfl (@pi_tup _ _ _ _ (@pe_ix _ _ _ _ _ _ _ (@ix_tup _) (@pvD _ 0 _ _ (by rfl) (by first | exact Or.inl rfl | exact Or.inr (Or.inl rfl) | exact Or.inr (Or.inr rfl)) (by decide) (by decide)) (@pe_int _ _ _ _) (fun _ _ => rfl))) (fun _ _ _ => (@pg_name _ _ 0 _ (show List.Nodup (["kind"] : List Str) by decide +kernel) rfl (Or.inl rfl) (by first | exact .inl rfl | exact .inr rfl | assumption))) (fun _ _ _ => (@pif0 _)) (fun _ _ _ => (@pe_op _ _ _ _ _ _ _ _ (@op_add_str _) (@pe_str _ _ _ _) (@pvD _ 0 _ _ (by rfl) (by first | exact Or.inl rfl | exact Or.inr (Or.inl rfl) | exact Or.inr (Or.inr rfl)) (by decide) (by decide)))) (by rfl) (by intro _; rfl) (by first | exact .inl rfl | exact .inr rfl | assumption)) (@pss_cons _ _ _ _ _ (@ps_for _ _ _ _ _ _ _ _ PassesOwn.never rfl (@pi_tup _ _ _ _ (@pe_ix _ _ _ _ _ _ _ (@ix_tup _) (@pvD _ 0 _ _ (by rfl) (by first | exact Or.inl rfl | exact Or.inr (Or.inl rfl) | exact Or.inr (Or.inr rfl)) (by decide) (by decide)) (@pe_int _ _ _ _) (fun _ _ => rfl))) (@pg_tup _ _ _ _ _ _ rfl (@pgs_cons _ _ _ _ _ (@pg_name _ _ 2 _ nd rfl (by first | exact Or.inl rfl | exact Or.inr rfl) (by first | exact .inl rfl | exact .inr rfl | assumption)) (@pgs_cons _ _ _ _ _ (@pg_name _ _ 3 _ nd rfl (by first | exact Or.inl rfl | exact Or.inr rfl) (by first | exact .inl rfl | exact .inr rfl | assumption)) (@pgs_cons _ _ _ _ _ (@pg_name _ _ 4 _ nd rfl (by first | exact Or.inl rfl | exact Or.inr rfl) (by first | exact .inl rfl | exact .inr rfl | assumption)) (@pgs_cons _ _ _ _ _ (@pg_name _ _ 5 _ nd rfl (by first | exact Or.inl rfl | exact Or.inr rfl) (by first | exact .inl rfl | exact .inr rfl | assumption)) (@pgs_cons _ _ _ _ _ (@pg_name _ _ 6 _ nd rfl (by first | exact Or.inl rfl | exact Or.inr rfl) (by first | exact .inl rfl | exact .inr rfl | assumption)) (@pgs_nil _) (by rfl)) (by rfl)) (by rfl)) (by rfl)) (by rfl)) (by rfl) (by rfl)) (@pss_cons _ _ _ _ _ (@ps_expr _ _ _ _ (@pe_bm _ _ _ _ _ _ _ _ _ _ _ _ PySem.F.plainAttrs_list PySem.F.slot_list_append PySem.F.type_list_append (@mt_append _) (@pvD _ 1 _ _ (by rfl) (by first | exact Or.inl rfl | exact Or.inr (Or.inl rfl) | exact Or.inr (Or.inr rfl)) (by decide) (by decide)) (@pa_cons _ _ _ _ _ (@pe_has _ _ _ _ _ _ _ _ _ _ h_law_line hr (@pa_cons _ _ _ _ _ (@pe_op _ _ _ _ _ _ _ _ (@op_catU _) (@pe_tup _ _ _ _ _ (@pa_cons _ _ _ _ _ (@pe_str _ _ _ _) (@pa_cons _ _ _ _ _ (@pvD _ 2 _ _ (by rfl) (by first | exact Or.inl rfl | exact Or.inr (Or.inl rfl) | exact Or.inr (Or.inr rfl)) (by decide) (by decide)) (@pa_cons _ _ _ _ _ (@pvD _ 3 _ _ (by rfl) (by first | exact Or.inl rfl | exact Or.inr (Or.inl rfl) | exact Or.inr (Or.inr rfl)) (by decide) (by decide)) (@pa_cons _ _ _ _ _ (@pvD _ 4 _ _ (by rfl) (by first | exact Or.inl rfl | exact Or.inr (Or.inl rfl) | exact Or.inr (Or.inr rfl)) (by decide) (by decide)) (@pa_nil _) (by rfl)) (by rfl)) (by rfl)) (by rfl))) (@pvD _ 5 _ _ (by rfl) (by first | exact Or.inl rfl | exact Or.inr (Or.inl rfl) | exact Or.inr (Or.inr rfl)) (by decide) (by decide))) (@pa_nil _) (by rfl)) (by rfl) (by decide +kernel) (by rfl) (by rfl)) (@pa_nil _) (by rfl)) (by rfl) (by rfl) (by rfl) (by rfl) (by rfl)) (by rfl)) (@pss_one _ _ _ (@ps_for _ _ _ _ _ _ _ _ PassesOwn.never rfl (@pi_tup _ _ _ _ (@pvD _ 6 _ _ (by rfl) (by first | exact Or.inl rfl | exact Or.inr (Or.inl rfl) | exact Or.inr (Or.inr rfl)) (by decide) (by decide))) (@pg_name _ _ 7 _ nd rfl (by first | exact Or.inl rfl | exact Or.inr rfl) (by first | exact .inl rfl | exact .inr rfl | assumption)) (@pss_one _ _ _ (@ps_expr _ _ _ _ (@pe_bm _ _ _ _ _ _ _ _ _ _ _ _ PySem.F.plainAttrs_list PySem.F.slot_list_append PySem.F.type_list_append (@mt_append _) (@pvD _ 1 _ _ (by rfl) (by first | exact Or.inl rfl | exact Or.inr (Or.inl rfl) | exact Or.inr (Or.inr rfl)) (by decide) (by decide)) (@pa_cons _ _ _ _ _ (@pe_has _ _ _ _ _ _ _ _ _ _ h_law_line hr (@pa_cons _ _ _ _ _ (@pe_op _ _ _ _ _ _ _ _ (@op_catU _) (@pe_tup _ _ _ _ _ (@pa_cons _ _ _ _ _ (@pe_str _ _ _ _) (@pa_cons _ _ _ _ _ (@pvD _ 2 _ _ (by rfl) (by first | exact Or.inl rfl | exact Or.inr (Or.inl rfl) | exact Or.inr (Or.inr rfl)) (by decide) (by decide)) (@pa_nil _) (by rfl)) (by rfl))) (@pvD _ 7 _ _ (by rfl) (by first | exact Or.inl rfl | exact Or.inr (Or.inl rfl) | exact Or.inr (Or.inr rfl)) (by decide) (by decide))) (@pa_nil _) (by rfl)) (by rfl) (by decide +kernel) (by rfl) (by rfl)) (@pa_nil _) (by rfl)) (by rfl) (by rfl) (by rfl) (by rfl) (by rfl)) (by rfl))) (by intro _; rfl)))) (by intro _; rfl)) (@pss_one _ _ _ (@ps_ret _ _ _ _ (@pe_bm _ _ _ _ _ _ _ _ _ _ _ _ PySem.F.plainAttrs_str PySem.F.slot_str_join PySem.F.type_str_join (@mt_join _) (@pe_str _ _ _ _) (@pa_cons _ _ _ _ _ (@pvD _ 1 _ _ (by rfl) (by first | exact Or.inl rfl | exact Or.inr (Or.inl rfl) | exact Or.inr (Or.inr rfl)) (by decide) (by decide)) (@pa_nil _) (by rfl)) (by rfl) (by rfl) (by rfl) (by rfl) (by rfl)))))), ?_⟩
 rw [show start ["book", "lines", "name", "kind", "price", "shape", "deeds", "deed"] [.ref b] = [some (.ref b), none, none, none, none, none, none, none] from rfl]
 clear hu hu0 nd hr
 push_cast [and_true]
 have sz := sizeLine_eq
 obtain ⟨kt, rt, ra, b0, bk, br, bra⟩ := hb
 have sl := hT.2.1
 have kl : ks.length ≤ 63 := by unfold Bk.shown at sl; rw [List.length_append, List.length_map] at sl; omega
 refine rIxT_ok b0 (atI_nat (j := 0) rfl) ⟨kt, rfl, ⟨_, SqT.of bk⟩, fun l hl => lc_tup (fun i ys => ys = (((ks.take i).map Rw.kind).map Rw.line).map V.str) (SqT.of bk) (by rw [List.length_map]; omega) hl rfl (fun i x ys H1 G' K' hx hP hl2 hS hG hK => ?_) fun ys H1 hP hl2 hS hD2 => ?_⟩
 ·rw [List.getElem?_map] at hx
  obtain ⟨z, hz, rfl⟩ := Option.map_eq_some_iff.mp hx
  have zk : (Rw.kind z).ok := hT.1 _ (List.mem_append_left _ (List.mem_map.mpr ⟨z, List.mem_of_getElem? hz, rfl⟩))
  have zl := (name_codes zk).2.1
  push_cast [and_true]
  refine ⟨by rw [show (Str.ofString "kind ").length = 5 by decide +kernel]; omega, hK _ _ (Same.refl _) ?_⟩
  rw [hP, List.take_add_one, hz, List.map_append, List.map_append, List.map_append, line_kind]
  rfl
 rw [List.length_map, List.take_length] at hP
 subst hP
 refine rIxT_ok (hS _ _ b0) (atI_nat (j := 1) rfl) ⟨rt, rfl, ⟨_, SqT.of (hS _ _ br)⟩, ?_⟩
 obtain ⟨P1, eP1⟩ : ∃ P1 : Nat → L2.St → Hp → Prop, ∀ i σ H', P1 i σ H' ↔ ∃ (v2 v3 v4 v5 v6 v7 : Option V), σ = [some (.ref b), some (.ref l), v2, v3, v4, v5, v6, v7] ∧ Same H H' ∧ H' l = some (.lst (((Bk.shown ks (rs.take i)).map Rw.line).map V.str)) := ⟨_, fun _ _ _ => Iff.rfl⟩
 refine forW_tup (xs := ra.map V.ref) P1 ((eP1 _ _ _).mpr ⟨none, none, none, none, none, none, rfl, hS, ?_⟩) (fun i σ H' _ h => ?_) ?_ ?_
 ·rw [show Bk.shown ks (rs.take 0) = ks.map Rw.kind from List.append_nil _]
  exact hD2
 ·obtain ⟨_, _, _, _, _, _, _, s, _⟩ := (eP1 _ _ _).mp h
  exact SqT.of (s _ _ br)
 ·clear hS hD2 H1 hl2
  rintro i x σ H1 hx hh
  obtain ⟨v2, v3, v4, v5, v6, v7, rfl, s1, h1⟩ := (eP1 _ _ _).mp hh
  clear hh
  obtain ⟨t, ht, rfl⟩ := refs_get hx
  have hi : i < rs.length := by rw [← bra.1]; exact (List.getElem?_eq_some_iff.mp ht).1
  obtain ⟨sa, da, ds, r1, r2, r3, r4⟩ := bra.2 i t _ ht (List.getElem?_eq_getElem hi)
  have ln := shown_cut (ks := ks) hi
  have es := shown_take (ks := ks) hi
  have sh : (Rw.rule rs[i].name rs[i].kind rs[i].price rs[i].shape).ok := hT.1 _ (List.mem_append_right _ (List.mem_flatten.mpr ⟨_, List.mem_map.mpr ⟨_, List.getElem_mem hi, rfl⟩, List.mem_cons_self⟩))
  have hD5 : ∀ d ∈ rs[i].deeds, (Rw.does rs[i].name d).ok := fun d hd => hT.1 _ (List.mem_append_right _ (List.mem_flatten.mpr ⟨_, List.mem_map.mpr ⟨_, List.getElem_mem hi, rfl⟩, List.mem_cons_of_mem _ (List.mem_map.mpr ⟨d, hd, rfl⟩)⟩))
  generalize rs[i] = r at r1 r2 r3 r4 ln es sh hD5
  have wl : r.shape.length ≤ 12 := sh.2.2.2.2.2.1
  have L1 : (shownR r).length = r.deeds.length + 1 := by unfold shownR; rw [List.length_cons, List.length_map]
  refine gTup5_ok (s1 _ _ r1) rfl ?_
  push_cast [and_true]
  refine ⟨tyV_list h1, by show (4 : Nat) ≤ sizeLine; decide, fun p hp => ?_⟩
  have s2 := same_new hp (.tup [V.str (Str.ofString "rule"), V.str r.name, V.str r.kind, V.int r.price])
  refine rCatU_ok upd_same (s2 _ _ (s1 _ _ r2)) (by simp only [List.length_cons, List.length_nil]; omega) fun u H3 s3 hu => ⟨u, .rule r.name r.kind r.price r.shape, rfl, hu, sh, fun H4 s4 => ?_⟩
  have S4 := s2.trans (s3.trans s4)
  have l4 := S4 _ _ h1
  refine ⟨l, _, _, rfl, rfl, l4, by rw [List.length_map, List.length_map]; omega, ?_⟩
  have s5 : Same H (upd H4 l (.lst (((Bk.shown ks (rs.take i)).map Rw.line).map V.str ++ [V.str (Rw.rule r.name r.kind r.price r.shape).line]))) := (s1.trans S4).upd hl _
  have l5 : upd H4 l (.lst (((Bk.shown ks (rs.take i)).map Rw.line).map V.str ++ [V.str (Rw.rule r.name r.kind r.price r.shape).line])) l = some (.lst (((Bk.shown ks (rs.take i) ++ [Rw.rule r.name r.kind r.price r.shape]).map Rw.line).map V.str)) := by rw [upd_same, List.map_append, List.map_append]; rfl
  generalize upd H4 l (.lst (((Bk.shown ks (rs.take i)).map Rw.line).map V.str ++ [V.str (Rw.rule r.name r.kind r.price r.shape).line])) = H5 at s5 l5 ⊢
  refine ⟨⟨_, SqT.of (s5 _ _ r3)⟩, forW_tup (xs := ds.map V.ref) (fun j σ H' => ∃ v7, σ = [some (.ref b), some (.ref l), some (.str r.name), some (.str r.kind), some (.int r.price), some (.ref sa), some (.ref da), v7] ∧ Same H H' ∧ H' l = some (.lst (((Bk.shown ks (rs.take i) ++ [Rw.rule r.name r.kind r.price r.shape] ++ (r.deeds.take j).map (Rw.does r.name)).map Rw.line).map V.str))) ⟨v7, rfl, s5, by rw [l5, show (r.deeds.take 0).map (Rw.does r.name) = [] from rfl, List.append_nil]⟩ (fun j σ H' _ h => ?_) ?_ ?_⟩
  ·obtain ⟨_, _, s, _⟩ := h
   exact SqT.of (s _ _ r3)
  ·rintro j x σ H6 hx ⟨v7, rfl, s6, l6⟩
   obtain ⟨t2, ht2, rfl⟩ := refs_get hx
   have hj : j < r.deeds.length := by rw [← r4.1]; exact (List.getElem?_eq_some_iff.mp ht2).1
   have hdj : r.deeds[j]? = some r.deeds[j] := List.getElem?_eq_getElem hj
   have g2 := s6 _ _ (r4.2 j t2 _ ht2 hdj)
   have dk := hD5 _ (List.getElem_mem hj)
   have dl := (deed_len dk.2).2
   push_cast [and_true]
   refine ⟨tyV_list l6, by show (2 : Nat) ≤ sizeLine; decide, fun p7 hp7 => rCatU_ok upd_same (same_new hp7 _ _ _ g2) (by simp only [List.length_cons, List.length_nil]; omega) fun u7 H7 s7 hu7 => ⟨u7, .does r.name r.deeds[j], rfl, hu7, dk, fun H8 s8 => ?_⟩⟩
   have S8 := (same_new hp7 (.tup [V.str (Str.ofString "does"), V.str r.name])).trans (s7.trans s8)
   have l8 := S8 _ _ l6
   refine ⟨l, _, _, rfl, rfl, l8, ?_, (s6.trans S8).upd hl _, ?_⟩
   ·rw [List.length_map, List.length_map, List.length_append, List.length_append, List.length_map, List.length_take, List.length_singleton]
    omega
   ·rw [upd_same, List.take_add_one, hdj]
    simp only [List.map_append, Option.toList, List.map_cons, List.map_nil, List.append_assoc]
  ·rintro σ H6 ⟨v7, rfl, s6, l6⟩
   rw [List.length_map, r4.1, List.take_length] at l6
   refine (eP1 _ _ _).mpr ⟨_, _, _, _, _, _, rfl, s6, ?_⟩
   rw [l6, es, List.append_assoc]
   rfl
 ·rintro σ H1 hh
  obtain ⟨v2, v3, v4, v5, v6, v7, rfl, s1, h1⟩ := (eP1 _ _ _).mp hh
  rw [List.length_map, bra.1, List.take_length] at h1
  push_cast [and_true]
  exact ⟨_, SqL.of h1, (told_text hT).sum, q H1 s1⟩
noncomputable abbrev sLaw : Stmt := top 54
theorem scLaw : FnScope ["script", "rows", "book", "text", "found", "moved", "told"] ["script"] (defScope sLaw) := ⟨rfl, rfl, rfl, by decide +kernel, rfl, by decide +kernel, by decide +kernel⟩
theorem hasLaw {f : Addr} {fd : FuncData} (G : Gs w K mg) (h_law_due : Has P w K mg base k "_law_due" ["rows"] spDue) (h_law_hand : Has P w K mg base k "_law_hand" ["cell", "k"] spHand) (h_law_line : Has P w K mg base k "_law_line" ["row"] spLine) (h_law_names : Has P w K mg base k "_law_names" ["hand", "size"] spNamesL) (h_law_rows : Has P w K mg base k "_law_rows" ["script", "names"] (spRowsL K)) (h_law_same : Has P w K mg base k "_law_same" ["found", "due"] (spAlt 5)) (h_law_text : Has P w K mg base k "_law_text" ["book"] spShownB) (h_read_book : Has P w K mg base k "read_book" ["text"] spReadBk) (h_shown_book : Has P w K mg base k "shown_book" ["book"] spShownB) (F : Fun K "law" "law" sLaw f fd) : FnOk P w K mg base CX0 (k + 1) f fd ["script"] (spLaw K) := by
 refine F.ok scLaw (fun vs H Q E h => ?_) (fun cdv A outer s H vs Q E hr h => ?_)
 ·obtain ⟨_, _, rfl, _, _, _⟩ := h
  rfl
 have nd := scLaw.nd
 have hu := hu_of hr
 have hu0 := Nat.lt_of_succ_lt hu
 obtain ⟨a, ns, rfl, ha, hn, q⟩ := h
 have m_isinstance := G.m_isinstance
 have m_str := G.m_str
 have m_sum := G.m_sum
 refine ⟨_, (@pss_cons _ _ _ _ _ (@ps_set _ _ 1 _ _ _ _ nd rfl (by first | exact Or.inl rfl | exact Or.inr rfl) (@pe_has _ _ _ _ _ _ _ _ _ _ h_law_rows hr (@pa_cons _ _ _ _ _ (@pvD _ 0 _ _ (by rfl) (by first | exact Or.inl rfl | exact Or.inr (Or.inl rfl) | exact Or.inr (Or.inr rfl)) (by decide) (by decide)) (@pa_cons _ _ _ _ _ (@pe_has _ _ _ _ _ _ _ _ _ _ h_law_names hr (@pa_cons _ _ _ _ _ (@pe_has _ _ _ _ _ _ _ _ _ _ h_law_hand hr (@pa_cons _ _ _ _ _ (@pe_callB _ _ _ _ _ _ _ _ _ (@call_sum_list _ rfl) rfl m_sum b_sum (@pa_cons _ _ _ _ _ (@pvD _ 0 _ _ (by rfl) (by first | exact Or.inl rfl | exact Or.inr (Or.inl rfl) | exact Or.inr (Or.inr rfl)) (by decide) (by decide)) (@pa_nil _) (by rfl)) (by decide) (by decide) (by rfl) (by rfl)) (@pa_cons _ _ _ _ _ (@pe_int _ _ _ _) (@pa_nil _) (by rfl)) (by rfl)) (by rfl) (by decide +kernel) (by rfl) (by rfl)) (@pa_cons _ _ _ _ _ (@pe_int _ _ _ _) (@pa_nil _) (by rfl)) (by rfl)) (by rfl) (by decide +kernel) (by rfl) (by rfl)) (@pa_nil _) (by rfl)) (by rfl)) (by rfl) (by decide +kernel) (by rfl) (by rfl)) (by rfl) (by first | exact .inl rfl | exact .inr rfl | assumption)) (@pss_cons _ _ _ _ _ (@ps_set _ _ 2 _ _ _ _ nd rfl (by first | exact Or.inl rfl | exact Or.inr rfl) (@pe_has _ _ _ _ _ _ _ _ _ _ h_law_due hr (@pa_cons _ _ _ _ _ (@pvD _ 1 _ _ (by rfl) (by first | exact Or.inl rfl | exact Or.inr (Or.inl rfl) | exact Or.inr (Or.inr rfl)) (by decide) (by decide)) (@pa_nil _) (by rfl)) (by rfl) (by decide +kernel) (by rfl) (by rfl)) (by rfl) (by first | exact .inl rfl | exact .inr rfl | assumption)) (@pss_cons _ _ _ _ _ (@ps_set _ _ 3 _ _ _ _ nd rfl (by first | exact Or.inl rfl | exact Or.inr rfl) (@pe_has _ _ _ _ _ _ _ _ _ _ h_law_text hr (@pa_cons _ _ _ _ _ (@pvD _ 2 _ _ (by rfl) (by first | exact Or.inl rfl | exact Or.inr (Or.inl rfl) | exact Or.inr (Or.inr rfl)) (by decide) (by decide)) (@pa_nil _) (by rfl)) (by rfl) (by decide +kernel) (by rfl) (by rfl)) (by rfl) (by first | exact .inl rfl | exact .inr rfl | assumption)) (@pss_cons _ _ _ _ _ (@ps_set _ _ 4 _ _ _ _ nd rfl (by first | exact Or.inl rfl | exact Or.inr rfl) (@pe_has _ _ _ _ _ _ _ _ _ _ h_shown_book hr (@pa_cons _ _ _ _ _ (@pvD _ 2 _ _ (by rfl) (by first | exact Or.inl rfl | exact Or.inr (Or.inl rfl) | exact Or.inr (Or.inr rfl)) (by decide) (by decide)) (@pa_nil _) (by rfl)) (by rfl) (by decide +kernel) (by rfl) (by rfl)) (by rfl) (by first | exact .inl rfl | exact .inr rfl | assumption)) (@pss_cons _ _ _ _ _ (@ps_if _ _ _ _ _ _ _ _ (@PW.pt _ _ _ (@pw_or _ _ _ _ _ _ _ (@pt_not _ _ _ _ (@pt_valD _ _ _ (@pe_callB _ _ _ _ _ _ _ _ _ (@call_isinst _) rfl m_isinstance b_isinstance (@pa_cons _ _ _ _ _ (@pvD _ 4 _ _ (by rfl) (by first | exact Or.inl rfl | exact Or.inr (Or.inl rfl) | exact Or.inr (Or.inr rfl)) (by decide) (by decide)) (@pa_cons _ _ _ _ _ (@pe_gty _ _ _ _ m_str b_str (by rfl) (by decide +kernel) (by decide +kernel)) (@pa_nil _) (by rfl)) (by rfl)) (by decide) (by decide) (by rfl) (by rfl)) (by intro _; rfl))) (@pw_or _ _ _ _ _ _ _ (@pt_cmpRD _ _ _ _ _ _ _ _ (@op_ne _) (@pvD _ 4 _ _ (by rfl) (by first | exact Or.inl rfl | exact Or.inr (Or.inl rfl) | exact Or.inr (Or.inr rfl)) (by decide) (by decide)) (@pvD _ 3 _ _ (by rfl) (by first | exact Or.inl rfl | exact Or.inr (Or.inl rfl) | exact Or.inr (Or.inr rfl)) (by decide) (by decide)) (@nomark _ _ (by decide) (by decide))) (@pw_or1 _ _ _ _ (@pt_not _ _ _ _ (@pt_valD _ _ _ (@pe_has _ _ _ _ _ _ _ _ _ _ h_law_same hr (@pa_cons _ _ _ _ _ (@pe_has _ _ _ _ _ _ _ _ _ _ h_read_book hr (@pa_cons _ _ _ _ _ (@pvD _ 4 _ _ (by rfl) (by first | exact Or.inl rfl | exact Or.inr (Or.inl rfl) | exact Or.inr (Or.inr rfl)) (by decide) (by decide)) (@pa_nil _) (by rfl)) (by rfl) (by decide +kernel) (by rfl) (by rfl)) (@pa_cons _ _ _ _ _ (@pvD _ 2 _ _ (by rfl) (by first | exact Or.inl rfl | exact Or.inr (Or.inl rfl) | exact Or.inr (Or.inr rfl)) (by decide) (by decide)) (@pa_nil _) (by rfl)) (by rfl)) (by rfl) (by decide +kernel) (by rfl) (by rfl)) (by intro _; rfl))))))) (@pss_one _ _ _ (@ps_ret _ _ _ _ (@pe_bl _ _ _ _))) (@pss_nil _)) (@pss_cons _ _ _ _ _ (@ps_set _ _ 5 _ _ _ _ nd rfl (by first | exact Or.inl rfl | exact Or.inr rfl) (@pe_op _ _ _ _ _ _ _ _ (@op_cat _) (@pe_lc _ _ _ _ _ _ _ _ _ _ _ _ _ _ _ (@ClOk.mk _ _ ["row"] [] [] _ rfl rfl rfl rfl trivial rfl trivial) rfl (@pi_list _ _ _ _ (@pvD _ 1 _ _ (by rfl) (by first | exact Or.inl rfl | exact Or.inr (Or.inl rfl) | exact Or.inr (Or.inr rfl)) (by decide) (by decide))) (fun _ _ _ => (@pg_name _ _ 0 _ (show List.Nodup (["row"] : List Str) by decide +kernel) rfl (Or.inl rfl) (by first | exact .inl rfl | exact .inr rfl | assumption))) (fun _ _ _ => (@pif1 _ _ _ (@pt_cmpRD _ _ _ _ _ _ _ _ (@op_eq _) (@pe_ix _ _ _ _ _ _ _ (@ix_tupK _ K rfl) (@pvD _ 0 _ _ (by rfl) (by first | exact Or.inl rfl | exact Or.inr (Or.inl rfl) | exact Or.inr (Or.inr rfl)) (by decide) (by decide)) (@pe_int _ _ _ _) (fun _ _ => rfl)) (@pe_str _ _ _ _) (@nomark _ _ (by decide) (by decide))))) (fun _ _ _ => (@pvD _ 0 _ _ (by rfl) (by first | exact Or.inl rfl | exact Or.inr (Or.inl rfl) | exact Or.inr (Or.inr rfl)) (by decide) (by decide))) (by intro _; rfl)) (@pe_lc _ _ _ _ _ _ _ _ _ _ _ _ _ _ _ (@ClOk.mk _ _ ["row"] [] [] _ rfl rfl rfl rfl trivial rfl trivial) rfl (@pi_list _ _ _ _ (@pvD _ 1 _ _ (by rfl) (by first | exact Or.inl rfl | exact Or.inr (Or.inl rfl) | exact Or.inr (Or.inr rfl)) (by decide) (by decide))) (fun _ _ _ => (@pg_name _ _ 0 _ (show List.Nodup (["row"] : List Str) by decide +kernel) rfl (Or.inl rfl) (by first | exact .inl rfl | exact .inr rfl | assumption))) (fun _ _ _ => (@pif1 _ _ _ (@pt_cmpRD _ _ _ _ _ _ _ _ (@op_ne _) (@pe_ix _ _ _ _ _ _ _ (@ix_tupK _ K rfl) (@pvD _ 0 _ _ (by rfl) (by first | exact Or.inl rfl | exact Or.inr (Or.inl rfl) | exact Or.inr (Or.inr rfl)) (by decide) (by decide)) (@pe_int _ _ _ _) (fun _ _ => rfl)) (@pe_str _ _ _ _) (@nomark _ _ (by decide) (by decide))))) (fun _ _ _ => (@pvD _ 0 _ _ (by rfl) (by first | exact Or.inl rfl | exact Or.inr (Or.inl rfl) | exact Or.inr (Or.inr rfl)) (by decide) (by decide))) (by intro _; rfl))) (by rfl) (by first | exact .inl rfl | exact .inr rfl | assumption)) (@pss_cons _ _ _ _ _ (@ps_set _ _ 6 _ _ _ _ nd rfl (by first | exact Or.inl rfl | exact Or.inr rfl) (@pe_has _ _ _ _ _ _ _ _ _ _ h_read_book hr (@pa_cons _ _ _ _ _ (@pe_bm _ _ _ _ _ _ _ _ _ _ _ _ PySem.F.plainAttrs_str PySem.F.slot_str_join PySem.F.type_str_join (@mt_join _) (@pe_str _ _ _ _) (@pa_cons _ _ _ _ _ (@pe_lc _ _ _ _ _ _ _ _ _ _ _ _ _ _ _ (@ClOk.mk _ _ ["row"] [] [] _ rfl rfl rfl rfl trivial rfl trivial) rfl (@pi_list _ _ _ _ (@pvD _ 5 _ _ (by rfl) (by first | exact Or.inl rfl | exact Or.inr (Or.inl rfl) | exact Or.inr (Or.inr rfl)) (by decide) (by decide))) (fun _ _ _ => (@pg_name _ _ 0 _ (show List.Nodup (["row"] : List Str) by decide +kernel) rfl (Or.inl rfl) (by first | exact .inl rfl | exact .inr rfl | assumption))) (fun _ _ _ => (@pif0 _)) (fun _ _ _ => (@pe_has _ _ _ _ _ _ _ _ _ _ h_law_line hr (@pa_cons _ _ _ _ _ (@pvD _ 0 _ _ (by rfl) (by first | exact Or.inl rfl | exact Or.inr (Or.inl rfl) | exact Or.inr (Or.inr rfl)) (by decide) (by decide)) (@pa_nil _) (by rfl)) (by rfl) (by decide +kernel) (by rfl) (by rfl))) (by intro _; rfl)) (@pa_nil _) (by rfl)) (by rfl) (by rfl) (by rfl) (by rfl) (by rfl)) (@pa_nil _) (by rfl)) (by rfl) (by decide +kernel) (by rfl) (by rfl)) (by rfl) (by first | exact .inl rfl | exact .inr rfl | assumption)) (@pss_one _ _ _ (@ps_ret _ _ _ _ (@pe_and _ _ _ _ _ _ _ (@pe_has _ _ _ _ _ _ _ _ _ _ h_law_same hr (@pa_cons _ _ _ _ _ (@pvD _ 6 _ _ (by rfl) (by first | exact Or.inl rfl | exact Or.inr (Or.inl rfl) | exact Or.inr (Or.inr rfl)) (by decide) (by decide)) (@pa_cons _ _ _ _ _ (@pvD _ 2 _ _ (by rfl) (by first | exact Or.inl rfl | exact Or.inr (Or.inl rfl) | exact Or.inr (Or.inr rfl)) (by decide) (by decide)) (@pa_nil _) (by rfl)) (by rfl)) (by rfl) (by decide +kernel) (by rfl) (by rfl)) (@pe_and _ _ _ _ _ _ _ (@pe_cmpR _ _ _ _ _ _ _ _ (@op_eq _) (@pe_has _ _ _ _ _ _ _ _ _ _ h_shown_book hr (@pa_cons _ _ _ _ _ (@pvD _ 6 _ _ (by rfl) (by first | exact Or.inl rfl | exact Or.inr (Or.inl rfl) | exact Or.inr (Or.inr rfl)) (by decide) (by decide)) (@pa_nil _) (by rfl)) (by rfl) (by decide +kernel) (by rfl) (by rfl)) (@pvD _ 3 _ _ (by rfl) (by first | exact Or.inl rfl | exact Or.inr (Or.inl rfl) | exact Or.inr (Or.inr rfl)) (by decide) (by decide)) (@nomark _ _ (by decide) (by decide))) (@pe_one _ _ _ _ _ (@pe_cmpR _ _ _ _ _ _ _ _ (@op_eq _) (@pe_has _ _ _ _ _ _ _ _ _ _ h_shown_book hr (@pa_cons _ _ _ _ _ (@pe_tup _ _ _ _ _ (@pa_cons _ _ _ _ _ (@pe_tup _ _ _ _ _ (@pa_nil _)) (@pa_cons _ _ _ _ _ (@pe_tup _ _ _ _ _ (@pa_nil _)) (@pa_nil _) (by rfl)) (by rfl))) (@pa_nil _) (by rfl)) (by rfl) (by decide +kernel) (by rfl) (by rfl)) (@pe_str _ _ _ _) (@nomark _ _ (by decide) (by decide))))))))))))))), ?_⟩
 rw [show start ["script", "rows", "book", "text", "found", "moved", "told"] [.ref a] = [some (.ref a), none, none, none, none, none, none] from rfl]
 clear hu hu0 nd hr
 push_cast [and_true]
 have sz := sizeLine_eq
 refine ⟨ns, ha, ns.sum, 0, rfl, by omega, fun h H1 s1 hh1 hA => ⟨h, rfl, hA, fun nl H2 s2 hnl hN => ?_⟩⟩
 have S2 : Same H H2 := SameB.fresh (s1.sameB_of s2) hh1
 refine ⟨a, nl, ns, rfl, S2.seq ha, hn, hN, fun l rs H3 s3 hl hT => ⟨l, rs, rfl, hl, hT, fun b H4 s4 hb => ?_⟩⟩
 obtain ⟨ps, p1, p2⟩ := id hl
 have p2l : ps.length = rs.length := by rw [p2.1, List.length_map]
 have rn := hT.2.1
 have sT := shown_told hT
 have sB := shown_book (ks := kindsR rs) (rulesD_once (all := rs) (q := rs) (s := []))
 have fit := told_fit hT
 have kl : (kindsR rs).length ≤ 1000 := Nat.le_trans (List.length_filterMap_le _ _) (by omega)
 have dl : (rulesD rs [] rs).length ≤ 1000 := Nat.le_trans rulesD_len (by omega)
 have rb : ∀ {rows : List Rw} {z : Str} {H6 : Hp} {QQ : VK} {E : XK}, Told rows → Tx rows z → kindsR rows = kindsR rs → rulesD rows [] rows = rulesD rs [] rs → Same H4 H6 → (∀ b' H7, Same H6 H7 → BkAt H7 b' (kindsR rs) (rulesD rs [] rs) → alt 5 H7 (.ref b') (.ref b) → QQ (.ref b') H7) → spReadBk [.str z] H6 QQ E := fun {rows z H6 QQ E} hW tx e1 e2 s6 k => ⟨z, rows.filter Rw.full, rfl, tx.len, tx.cnt, tx.each, tx.rows, told_good hW, told_does hW, fun b' H7 s7 hb' => by
  rw [kindsR_full, rulesD_full, e1, e2] at hb'
  exact k b' H7 s7 hb' (alt_book hb' (hb.keep ((Tk.of s6).trans (Tk.of s7))) kl dl fit)⟩
 refine ⟨b, _, _, rfl, hb, sT, fun H5 s5 => ⟨b, _, _, rfl, hb.keep (Tk.of s5), sT, fun H6 s6 => ⟨_, .str _, true, rfl, iteF ⟨rfl, ?_⟩⟩⟩⟩
 rw [decide_eq_true rfl]
 refine iteF (rb sT (told_text sT).plain sB.1 sB.2 (s5.trans s6) fun b1 H7 s7 _ a7 => ⟨_, _, rfl, a7, fun H8 s8 => iteF ⟨l, rfl, ?_⟩⟩)
 have S8 := s5.trans (s6.trans (s7.trans s8))
 have q8 := tups_same p2 (s4.trans S8)
 have l8 := (s4.trans S8) _ _ p1
 refine ⟨⟨_, SqL.of l8⟩, fun D1 hD1 => lc_list (fun i ys => ∃ as, ys = as.map V.ref ∧ TupsAt H8 as (((rs.take i).filter isDoes).map Rw.vs)) (SqL.of l8) (by rw [List.length_map]; omega) hD1 ⟨[], rfl, TupsAt.nil _⟩ (fun i x ys H9 G' K' hx hP hl2 hS hG hK => ?_) fun ys H9 hP hl2 hS9 hD9 => ?_⟩
 ·obtain ⟨as, rfl, has⟩ := hP
  obtain ⟨t, ht, rfl⟩ := refs_get hx
  have hi : i < rs.length := by
   have := (List.getElem?_eq_some_iff.mp ht).1
   omega
  have hri : rs[i]? = some rs[i] := List.getElem?_eq_getElem hi
  have et : (rs.take (i + 1)).filter isDoes = (rs.take i).filter isDoes ++ [rs[i]].filter isDoes := by rw [List.take_add_one, hri, List.filter_append]; rfl
  have g8 := q8.2 i t _ ht (by rw [List.getElem?_map, hri]; rfl)
  have ok := hT.1 _ (List.getElem_mem hi)
  generalize rs[i] = r at et g8 ok
  obtain ⟨z, s', ez, ed⟩ := head_does ok
  have g9 := hS _ _ g8
  rw [ez] at g9
  push_cast [and_true]
  refine rIxT_ok g9 (atI_nat (j := 0) rfl) ⟨rfl, ite2 (fun c => hK _ _ (Same.refl _) ⟨as ++ [t], by rw [List.map_append]; rfl, ?_⟩) fun c => hG _ (Same.refl _) ⟨as, rfl, ?_⟩⟩
  ·have c : z = "does" := V.str.inj c
   rw [decide_eq_true c] at ed
   rw [et, show [r].filter isDoes = [r] by rw [List.filter_cons, if_pos ed.symm]; rfl, List.map_append]
   exact has.snoc g8
  ·have c : ¬ z = "does" := fun e => c (congrArg V.str e)
   rw [decide_eq_false c] at ed
   rw [et, show [r].filter isDoes = [] by rw [List.filter_cons, if_neg (by rw [← ed]; decide)]; rfl, List.append_nil]
   exact has
 obtain ⟨as1, rfl, h1⟩ := hP
 rw [List.length_map, p2l, List.take_length] at h1
 have l9 := hS9 _ _ l8
 refine ⟨l, rfl, ⟨_, SqL.of l9⟩, fun D2 hD2 => lc_list (fun i ys => ∃ as, ys = as.map V.ref ∧ TupsAt H8 as (((rs.take i).filter notDoes).map Rw.vs)) (SqL.of l9) (by rw [List.length_map]; omega) hD2 ⟨[], rfl, TupsAt.nil _⟩ (fun i x ys H10 G' K' hx hP hl2 hS hG hK => ?_) fun ys H10 hP hl2 hS10 hD10 => ?_⟩
 ·obtain ⟨as, rfl, has⟩ := hP
  obtain ⟨t, ht, rfl⟩ := refs_get hx
  have hi : i < rs.length := by
   have := (List.getElem?_eq_some_iff.mp ht).1
   omega
  have hri : rs[i]? = some rs[i] := List.getElem?_eq_getElem hi
  have et : (rs.take (i + 1)).filter notDoes = (rs.take i).filter notDoes ++ [rs[i]].filter notDoes := by rw [List.take_add_one, hri, List.filter_append]; rfl
  have g8 := q8.2 i t _ ht (by rw [List.getElem?_map, hri]; rfl)
  have ok := hT.1 _ (List.getElem_mem hi)
  generalize rs[i] = r at et g8 ok
  obtain ⟨z, s', ez, ed⟩ := head_does ok
  have g9 := (hS9.trans hS) _ _ g8
  rw [ez] at g9
  have nd := not_does r
  push_cast [and_true]
  refine rIxT_ok g9 (atI_nat (j := 0) rfl) ⟨rfl, ite2 (fun c => hK _ _ (Same.refl _) ⟨as ++ [t], by rw [List.map_append]; rfl, ?_⟩) fun c => hG _ (Same.refl _) ⟨as, rfl, ?_⟩⟩
  ·have c : ¬ z = "does" := fun e => by rw [e] at c; simp at c
   rw [decide_eq_false c] at ed
   rw [← ed] at nd
   rw [et, show [r].filter notDoes = [r] by rw [List.filter_cons, if_pos (show notDoes r = true from nd)]; rfl, List.map_append]
   exact has.snoc g8
  ·have c : z = "does" := by simpa using c
   rw [decide_eq_true c] at ed
   rw [← ed] at nd
   rw [et, show [r].filter notDoes = [] by rw [List.filter_cons, if_neg (by rw [nd]; decide)]; rfl, List.append_nil]
   exact has
 obtain ⟨as2, rfl, h2⟩ := hP
 rw [List.length_map, p2l, List.take_length] at h2
 have mT := moved_told hT
 have hm := tups_app h1 h2
 rw [← List.map_append, show rs.filter isDoes ++ rs.filter notDoes = moved rs from rfl] at hm
 have ml := hm.1
 rw [List.length_map, List.length_append] at ml
 have mn := mT.2.1
 have mb := told_text mT
 refine rCat_ok (hS10 _ _ hD9) hD10 (by rw [List.length_map, List.length_map]; omega) fun M hM => ⟨M, rfl, ⟨_, SqL.of upd_same⟩, fun D hD => lc_list (fun i ys => ys = (((moved rs).take i).map Rw.line).map V.str) (SqL.of upd_same) (by rw [List.length_append, List.length_map, List.length_map]; omega) hD rfl (fun i x ys H11 G' K' hx hP hl2 hS hG hK => ?_) fun ys H11 hP hl2 hS11 hD11 => ?_⟩
 ·rw [← List.map_append] at hx
  obtain ⟨t, ht, rfl⟩ := refs_get hx
  have hi : i < (moved rs).length := by
   have := (List.getElem?_eq_some_iff.mp ht).1
   rw [List.length_append] at this
   omega
  have hri : (moved rs)[i]? = some (moved rs)[i] := List.getElem?_eq_getElem hi
  push_cast [and_true]
  refine ⟨t, (moved rs)[i], rfl, (hS9.trans (hS10.trans ((same_new hM _).trans hS))) _ _ (hm.2 i t _ ht (by rw [List.getElem?_map, hri]; rfl)), mT.1 _ (List.getElem_mem hi), fun H5 s5 => hK _ _ s5 ?_⟩
  rw [hP, List.take_add_one, hri, List.map_append, List.map_append]
  rfl
 rw [List.length_append, List.length_map, List.length_map, ml, List.take_length] at hP
 subst hP
 have S11 := S8.trans (hS9.trans (hS10.trans ((same_new hM (.lst (as1.map V.ref ++ as2.map V.ref))).trans hS11)))
 refine ⟨_, SqL.of hD11, mb.sum, rb mT mb.plain (kinds_moved rs) (rulesD_moved rs) S11 fun b2 H12 s12 hb12 a12 => ⟨_, _, rfl, a12, fun H13 s13 => ⟨true, rfl, iteT ⟨b2, _, _, rfl, hb12.keep (Tk.of s13), sT, fun H14 s14 => ⟨rfl, ifY rfl ⟨Nat.zero_le _, fun t1 ht1 => ⟨Nat.zero_le _, fun t2 ht2 => ⟨by show (2 : Nat) ≤ sizeLine; decide, fun t3 ht3 => ?_⟩⟩⟩⟩⟩⟩⟩⟩
 have hb4 : BkAt (upd (upd (upd H14 t1 (.tup [])) t2 (.tup [])) t3 (.tup [V.ref t1, V.ref t2])) t3 [] [] := ⟨t1, t2, [], upd_same, same_new ht3 _ _ _ (same_new ht2 _ _ _ upd_same), same_new ht3 _ _ _ upd_same, RulesAt.nil _⟩
 refine ⟨t3, [], [], rfl, hb4, told_nil, fun H15 s15 => ⟨rfl, ?_⟩⟩
 rw [text_nil, decide_eq_true rfl]
 exact q H15
end
end K33
namespace K33
open PySem PySem.Spec L2 PyProof.Rows Pc Bk
theorem all_mk {l : PySem.W.OpenLaw} {w : World} {K : PySem.W.Frag} {h : Heap} {mg : Str → Option Value} {fa : Addr} (X : K.In h) (G : h.Ns mainGlobals mg) (hfa : mg "law" = some (.ref fa))
  {f0 f1 f2 f3 f4 f5 f6 f7 f8 f9 f10 f11 f12 f13 f14 f15 f16 f17 f18 f19 f20 f21 f22 f23 f24 f25 f26 f27 f28 f29 f30 f31 f32 f33 f34 f35 f36 g4 g5 g6 : Addr} {od0 an0 od1 an1 od2 an2 od3 an3 od4 an4 od5 an5 od6 an6 od7 an7 od8 an8 od9 an9 od10 an10 od11 an11 od12 an12 od13 an13 od14 an14 od15 an15 od16 an16 od17 an17 od18 an18 od19 an19 od20 an20 od21 an21 od22 an22 od23 an23 od24 an24 od25 an25 od26 an26 od27 an27 od28 an28 od29 an29 od30 an30 od31 an31 od32 an32 od33 an33 od34 an34 od35 an35 od36 an36 gd4 gd6 : Option Addr} {sl0 sl1 sl2 sl3 sl4 sl5 sl6 sl7 sl8 sl9 sl10 sl11 sl12 sl13 sl14 sl15 sl16 sl17 sl18 sl19 sl20 sl21 sl22 sl23 sl24 sl25 sl26 sl27 sl28 sl29 sl30 sl31 sl32 sl33 sl34 sl35 sl36 gs4 gs6 : Array (Option Value)} {oc0 kV0 dc0 pm0 cd0 ct0 oc1 kV1 dc1 pm1 cd1 ct1 oc2 kV2 dc2 pm2 cd2 ct2 oc3 kV3 dc3 pm3 cd3 ct3 oc4 kV4 dc4 pm4 cd4 ct4 oc5 kV5 dc5 pm5 cd5 ct5 oc6 kV6 dc6 pm6 cd6 ct6 oc7 kV7 dc7 pm7 cd7 ct7 oc8 kV8 dc8 pm8 cd8 ct8 oc9 kV9 dc9 pm9 cd9 ct9 oc10 kV10 dc10 pm10 cd10 ct10 oc11 kV11 dc11 pm11 cd11 ct11 oc12 kV12 dc12 pm12 cd12 ct12 oc13 kV13 dc13 pm13 cd13 ct13 oc14 kV14 dc14 pm14 cd14 ct14 oc15 kV15 dc15 pm15 cd15 ct15 oc16 kV16 dc16 pm16 cd16 ct16 oc17 kV17 dc17 pm17 cd17 ct17 oc18 kV18 dc18 pm18 cd18 ct18 oc19 kV19 dc19 pm19 cd19 ct19 oc20 kV20 dc20 pm20 cd20 ct20 oc21 kV21 dc21 pm21 cd21 ct21 oc22 kV22 dc22 pm22 cd22 ct22 oc23 kV23 dc23 pm23 cd23 ct23 oc24 kV24 dc24 pm24 cd24 ct24 oc25 kV25 dc25 pm25 cd25 ct25 oc26 kV26 dc26 pm26 cd26 ct26 oc27 kV27 dc27 pm27 cd27 ct27 oc28 kV28 dc28 pm28 cd28 ct28 oc29 kV29 dc29 pm29 cd29 ct29 oc30 kV30 dc30 pm30 cd30 ct30 oc31 kV31 dc31 pm31 cd31 ct31 oc32 kV32 dc32 pm32 cd32 ct32 oc33 kV33 dc33 pm33 cd33 ct33 oc34 kV34 dc34 pm34 cd34 ct34 oc35 kV35 dc35 pm35 cd35 ct35 oc36 kV36 dc36 pm36 cd36 ct36 : Value} {tk0 tk1 tk2 tk3 gt4x0 gt4x1 gt4x2 gt4x3 gt4x4 gt4x5 gt4x6 gt4x7 gt4x8 gn4 dt5x0 dt5x1 dt5x2 dt5x3 du5x0 du5x1 du5x2 du5x3 dp5 gt6x0 gt6x1 gt6x2 gt6x3 gn6 tk7 tk8 tk9 tk10 : Nat} {dh5x0 dh5x1 dh5x2 dh5x3 : Int}
  (a0 : PySem.W.nsIn K mainGlobals "made_of" = some (some (.ref f0)))
  (l0 : K.lookup f0 = some ⟨oc0, od0, .func (PySem.W.fnOf "made_of" "made_of" (defArgs sMade) (defBody sMade) (defScope sMade) .none kV0 dc0 pm0 an0 cd0 ct0), sl0⟩)
  (c0 : PySem.W.codeIn K cd0 "made_of" = true)
  (k0 : PySem.W.keepIn K (.ref f0) = true)
  (a1 : PySem.W.nsIn K mainGlobals "is_name" = some (some (.ref f1)))
  (l1 : K.lookup f1 = some ⟨oc1, od1, .func (PySem.W.fnOf "is_name" "is_name" (defArgs sName) (defBody sName) (defScope sName) .none kV1 dc1 pm1 an1 cd1 ct1), sl1⟩)
  (c1 : PySem.W.codeIn K cd1 "is_name" = true)
  (k1 : PySem.W.keepIn K (.ref f1) = true)
  (a2 : PySem.W.nsIn K mainGlobals "is_number" = some (some (.ref f2)))
  (l2 : K.lookup f2 = some ⟨oc2, od2, .func (PySem.W.fnOf "is_number" "is_number" (defArgs sNum) (defBody sNum) (defScope sNum) .none kV2 dc2 pm2 an2 cd2 ct2), sl2⟩)
  (c2 : PySem.W.codeIn K cd2 "is_number" = true)
  (k2 : PySem.W.keepIn K (.ref f2) = true)
  (a3 : PySem.W.nsIn K mainGlobals "how_many_below" = some (some (.ref f3)))
  (l3 : K.lookup f3 = some ⟨oc3, od3, .func (PySem.W.fnOf "how_many_below" "how_many_below" (defArgs sHow) (defBody sHow) (defScope sHow) .none kV3 dc3 pm3 an3 cd3 ct3), sl3⟩)
  (c3 : PySem.W.codeIn K cd3 "how_many_below" = true)
  (k3 : PySem.W.keepIn K (.ref f3) = true)
  (a4 : PySem.W.nsIn K mainGlobals "is_term_word" = some (some (.ref f4)))
  (l4 : K.lookup f4 = some ⟨oc4, od4, .func (PySem.W.fnOf "is_term_word" "is_term_word" (defArgs sTermW) (defBody sTermW) (defScope sTermW) .none kV4 dc4 pm4 an4 cd4 ct4), sl4⟩)
  (c4 : PySem.W.codeIn K cd4 "is_term_word" = true)
  (k4 : PySem.W.keepIn K (.ref f4) = true)
  (a5 : PySem.W.nsIn K mainGlobals "number_or_text" = some (some (.ref f5)))
  (l5 : K.lookup f5 = some ⟨oc5, od5, .func (PySem.W.fnOf "number_or_text" "number_or_text" (defArgs sNumT) (defBody sNumT) (defScope sNumT) .none kV5 dc5 pm5 an5 cd5 ct5), sl5⟩)
  (c5 : PySem.W.codeIn K cd5 "number_or_text" = true)
  (k5 : PySem.W.keepIn K (.ref f5) = true)
  (a6 : PySem.W.nsIn K mainGlobals "is_shape_word" = some (some (.ref f6)))
  (l6 : K.lookup f6 = some ⟨oc6, od6, .func (PySem.W.fnOf "is_shape_word" "is_shape_word" (defArgs sShB) (defBody sShB) (defScope sShB) .none kV6 dc6 pm6 an6 cd6 ct6), sl6⟩)
  (c6 : PySem.W.codeIn K cd6 "is_shape_word" = true)
  (k6 : PySem.W.keepIn K (.ref f6) = true)
  (a7 : PySem.W.nsIn K mainGlobals "is_leaf_name" = some (some (.ref f7)))
  (l7 : K.lookup f7 = some ⟨oc7, od7, .func (PySem.W.fnOf "is_leaf_name" "is_leaf_name" (defArgs sLeafN) (defBody sLeafN) (defScope sLeafN) .none kV7 dc7 pm7 an7 cd7 ct7), sl7⟩)
  (c7 : PySem.W.codeIn K cd7 "is_leaf_name" = true)
  (k7 : PySem.W.keepIn K (.ref f7) = true)
  (a8 : PySem.W.nsIn K mainGlobals "is_from" = some (some (.ref f8)))
  (l8 : K.lookup f8 = some ⟨oc8, od8, .func (PySem.W.fnOf "is_from" "is_from" (defArgs sFrom) (defBody sFrom) (defScope sFrom) .none kV8 dc8 pm8 an8 cd8 ct8), sl8⟩)
  (c8 : PySem.W.codeIn K cd8 "is_from" = true)
  (k8 : PySem.W.keepIn K (.ref f8) = true)
  (a9 : PySem.W.nsIn K mainGlobals "is_source" = some (some (.ref f9)))
  (l9 : K.lookup f9 = some ⟨oc9, od9, .func (PySem.W.fnOf "is_source" "is_source" (defArgs sSrc) (defBody sSrc) (defScope sSrc) .none kV9 dc9 pm9 an9 cd9 ct9), sl9⟩)
  (c9 : PySem.W.codeIn K cd9 "is_source" = true)
  (k9 : PySem.W.keepIn K (.ref f9) = true)
  (a10 : PySem.W.nsIn K mainGlobals "how_many_sources" = some (some (.ref f10)))
  (l10 : K.lookup f10 = some ⟨oc10, od10, .func (PySem.W.fnOf "how_many_sources" "how_many_sources" (defArgs sHowS) (defBody sHowS) (defScope sHowS) .none kV10 dc10 pm10 an10 cd10 ct10), sl10⟩)
  (c10 : PySem.W.codeIn K cd10 "how_many_sources" = true)
  (k10 : PySem.W.keepIn K (.ref f10) = true)
  (a11 : PySem.W.nsIn K mainGlobals "is_deed" = some (some (.ref f11)))
  (l11 : K.lookup f11 = some ⟨oc11, od11, .func (PySem.W.fnOf "is_deed" "is_deed" (defArgs sDeedB) (defBody sDeedB) (defScope sDeedB) .none kV11 dc11 pm11 an11 cd11 ct11), sl11⟩)
  (c11 : PySem.W.codeIn K cd11 "is_deed" = true)
  (k11 : PySem.W.keepIn K (.ref f11) = true)
  (a12 : PySem.W.nsIn K mainGlobals "is_price" = some (some (.ref f12)))
  (l12 : K.lookup f12 = some ⟨oc12, od12, .func (PySem.W.fnOf "is_price" "is_price" (defArgs sPrB) (defBody sPrB) (defScope sPrB) .none kV12 dc12 pm12 an12 cd12 ct12), sl12⟩)
  (c12 : PySem.W.codeIn K cd12 "is_price" = true)
  (k12 : PySem.W.keepIn K (.ref f12) = true)
  (a13 : PySem.W.nsIn K mainGlobals "is_kind_row" = some (some (.ref f13)))
  (l13 : K.lookup f13 = some ⟨oc13, od13, .func (PySem.W.fnOf "is_kind_row" "is_kind_row" (defArgs sKindB) (defBody sKindB) (defScope sKindB) .none kV13 dc13 pm13 an13 cd13 ct13), sl13⟩)
  (c13 : PySem.W.codeIn K cd13 "is_kind_row" = true)
  (k13 : PySem.W.keepIn K (.ref f13) = true)
  (a14 : PySem.W.nsIn K mainGlobals "is_does_row" = some (some (.ref f14)))
  (l14 : K.lookup f14 = some ⟨oc14, od14, .func (PySem.W.fnOf "is_does_row" "is_does_row" (defArgs sDoesB) (defBody sDoesB) (defScope sDoesB) .none kV14 dc14 pm14 an14 cd14 ct14), sl14⟩)
  (c14 : PySem.W.codeIn K cd14 "is_does_row" = true)
  (k14 : PySem.W.keepIn K (.ref f14) = true)
  (a15 : PySem.W.nsIn K mainGlobals "is_rule_row" = some (some (.ref f15)))
  (l15 : K.lookup f15 = some ⟨oc15, od15, .func (PySem.W.fnOf "is_rule_row" "is_rule_row" (defArgs sRuleB) (defBody sRuleB) (defScope sRuleB) .none kV15 dc15 pm15 an15 cd15 ct15), sl15⟩)
  (c15 : PySem.W.codeIn K cd15 "is_rule_row" = true)
  (k15 : PySem.W.keepIn K (.ref f15) = true)
  (a16 : PySem.W.nsIn K mainGlobals "rows_in" = some (some (.ref f16)))
  (l16 : K.lookup f16 = some ⟨oc16, od16, .func (PySem.W.fnOf "rows_in" "rows_in" (defArgs sRowsIn) (defBody sRowsIn) (defScope sRowsIn) .none kV16 dc16 pm16 an16 cd16 ct16), sl16⟩)
  (c16 : PySem.W.codeIn K cd16 "rows_in" = true)
  (k16 : PySem.W.keepIn K (.ref f16) = true)
  (a17 : PySem.W.nsIn K mainGlobals "refuse_other_rows" = some (some (.ref f17)))
  (l17 : K.lookup f17 = some ⟨oc17, od17, .func (PySem.W.fnOf "refuse_other_rows" "refuse_other_rows" (defArgs sRefuse) (defBody sRefuse) (defScope sRefuse) .none kV17 dc17 pm17 an17 cd17 ct17), sl17⟩)
  (c17 : PySem.W.codeIn K cd17 "refuse_other_rows" = true)
  (k17 : PySem.W.keepIn K (.ref f17) = true)
  (a18 : PySem.W.nsIn K mainGlobals "read_words" = some (some (.ref f18)))
  (l18 : K.lookup f18 = some ⟨oc18, od18, .func (PySem.W.fnOf "read_words" "read_words" (defArgs sReadWs) (defBody sReadWs) (defScope sReadWs) .none kV18 dc18 pm18 an18 cd18 ct18), sl18⟩)
  (c18 : PySem.W.codeIn K cd18 "read_words" = true)
  (k18 : PySem.W.keepIn K (.ref f18) = true)
  (a19 : PySem.W.nsIn K mainGlobals "deeds_by_rule" = some (some (.ref f19)))
  (l19 : K.lookup f19 = some ⟨oc19, od19, .func (PySem.W.fnOf "deeds_by_rule" "deeds_by_rule" (defArgs sDeedsBy) (defBody sDeedsBy) (defScope sDeedsBy) .none kV19 dc19 pm19 an19 cd19 ct19), sl19⟩)
  (c19 : PySem.W.codeIn K cd19 "deeds_by_rule" = true)
  (k19 : PySem.W.keepIn K (.ref f19) = true)
  (a20 : PySem.W.nsIn K mainGlobals "read_book" = some (some (.ref f20)))
  (l20 : K.lookup f20 = some ⟨oc20, od20, .func (PySem.W.fnOf "read_book" "read_book" (defArgs sReadBk) (defBody sReadBk) (defScope sReadBk) .none kV20 dc20 pm20 an20 cd20 ct20), sl20⟩)
  (c20 : PySem.W.codeIn K cd20 "read_book" = true)
  (k20 : PySem.W.keepIn K (.ref f20) = true)
  (a21 : PySem.W.nsIn K mainGlobals "_law_hand" = some (some (.ref f21)))
  (l21 : K.lookup f21 = some ⟨oc21, od21, .func (PySem.W.fnOf "_law_hand" "_law_hand" (defArgs sHand) (defBody sHand) (defScope sHand) .none kV21 dc21 pm21 an21 cd21 ct21), sl21⟩)
  (c21 : PySem.W.codeIn K cd21 "_law_hand" = true)
  (k21 : PySem.W.keepIn K (.ref f21) = true)
  (a22 : PySem.W.nsIn K mainGlobals "_law_draw" = some (some (.ref f22)))
  (l22 : K.lookup f22 = some ⟨oc22, od22, .func (PySem.W.fnOf "_law_draw" "_law_draw" (defArgs sDraw) (defBody sDraw) (defScope sDraw) .none kV22 dc22 pm22 an22 cd22 ct22), sl22⟩)
  (c22 : PySem.W.codeIn K cd22 "_law_draw" = true)
  (k22 : PySem.W.keepIn K (.ref f22) = true)
  (a23 : PySem.W.nsIn K mainGlobals "_law_names" = some (some (.ref f23)))
  (l23 : K.lookup f23 = some ⟨oc23, od23, .func (PySem.W.fnOf "_law_names" "_law_names" (defArgs sNamesL) (defBody sNamesL) (defScope sNamesL) .none kV23 dc23 pm23 an23 cd23 ct23), sl23⟩)
  (c23 : PySem.W.codeIn K cd23 "_law_names" = true)
  (k23 : PySem.W.keepIn K (.ref f23) = true)
  (a24 : PySem.W.nsIn K mainGlobals "_law_number" = some (some (.ref f24)))
  (l24 : K.lookup f24 = some ⟨oc24, od24, .func (PySem.W.fnOf "_law_number" "_law_number" (defArgs sNumL) (defBody sNumL) (defScope sNumL) .none kV24 dc24 pm24 an24 cd24 ct24), sl24⟩)
  (c24 : PySem.W.codeIn K cd24 "_law_number" = true)
  (k24 : PySem.W.keepIn K (.ref f24) = true)
  (a25 : PySem.W.nsIn K mainGlobals "_law_any_word" = some (some (.ref f25)))
  (l25 : K.lookup f25 = some ⟨oc25, od25, .func (PySem.W.fnOf "_law_any_word" "_law_any_word" (defArgs sAnyWd) (defBody sAnyWd) (defScope sAnyWd) .none kV25 dc25 pm25 an25 cd25 ct25), sl25⟩)
  (c25 : PySem.W.codeIn K cd25 "_law_any_word" = true)
  (k25 : PySem.W.keepIn K (.ref f25) = true)
  (a26 : PySem.W.nsIn K mainGlobals "_law_any_deed" = some (some (.ref f26)))
  (l26 : K.lookup f26 = some ⟨oc26, od26, .func (PySem.W.fnOf "_law_any_deed" "_law_any_deed" (defArgs sDeedL) (defBody sDeedL) (defScope sDeedL) .none kV26 dc26 pm26 an26 cd26 ct26), sl26⟩)
  (c26 : PySem.W.codeIn K cd26 "_law_any_deed" = true)
  (k26 : PySem.W.keepIn K (.ref f26) = true)
  (a27 : PySem.W.nsIn K mainGlobals "_law_row" = some (some (.ref f27)))
  (l27 : K.lookup f27 = some ⟨oc27, od27, .func (PySem.W.fnOf "_law_row" "_law_row" (defArgs sRowL) (defBody sRowL) (defScope sRowL) .none kV27 dc27 pm27 an27 cd27 ct27), sl27⟩)
  (c27 : PySem.W.codeIn K cd27 "_law_row" = true)
  (k27 : PySem.W.keepIn K (.ref f27) = true)
  (a28 : PySem.W.nsIn K mainGlobals "_law_settled" = some (some (.ref f28)))
  (l28 : K.lookup f28 = some ⟨oc28, od28, .func (PySem.W.fnOf "_law_settled" "_law_settled" (defArgs sSettled) (defBody sSettled) (defScope sSettled) .none kV28 dc28 pm28 an28 cd28 ct28), sl28⟩)
  (c28 : PySem.W.codeIn K cd28 "_law_settled" = true)
  (k28 : PySem.W.keepIn K (.ref f28) = true)
  (a29 : PySem.W.nsIn K mainGlobals "_law_rows" = some (some (.ref f29)))
  (l29 : K.lookup f29 = some ⟨oc29, od29, .func (PySem.W.fnOf "_law_rows" "_law_rows" (defArgs sRowsL) (defBody sRowsL) (defScope sRowsL) .none kV29 dc29 pm29 an29 cd29 ct29), sl29⟩)
  (c29 : PySem.W.codeIn K cd29 "_law_rows" = true)
  (k29 : PySem.W.keepIn K (.ref f29) = true)
  (a30 : PySem.W.nsIn K mainGlobals "_law_line" = some (some (.ref f30)))
  (l30 : K.lookup f30 = some ⟨oc30, od30, .func (PySem.W.fnOf "_law_line" "_law_line" (defArgs sLine) (defBody sLine) (defScope sLine) .none kV30 dc30 pm30 an30 cd30 ct30), sl30⟩)
  (c30 : PySem.W.codeIn K cd30 "_law_line" = true)
  (k30 : PySem.W.keepIn K (.ref f30) = true)
  (a31 : PySem.W.nsIn K mainGlobals "_law_due" = some (some (.ref f31)))
  (l31 : K.lookup f31 = some ⟨oc31, od31, .func (PySem.W.fnOf "_law_due" "_law_due" (defArgs sDue) (defBody sDue) (defScope sDue) .none kV31 dc31 pm31 an31 cd31 ct31), sl31⟩)
  (c31 : PySem.W.codeIn K cd31 "_law_due" = true)
  (k31 : PySem.W.keepIn K (.ref f31) = true)
  (a32 : PySem.W.nsIn K mainGlobals "_law_same" = some (some (.ref f32)))
  (l32 : K.lookup f32 = some ⟨oc32, od32, .func (PySem.W.fnOf "_law_same" "_law_same" (defArgs sSame) (defBody sSame) (defScope sSame) .none kV32 dc32 pm32 an32 cd32 ct32), sl32⟩)
  (c32 : PySem.W.codeIn K cd32 "_law_same" = true)
  (k32 : PySem.W.keepIn K (.ref f32) = true)
  (a33 : PySem.W.nsIn K mainGlobals "shown_term" = some (some (.ref f33)))
  (l33 : K.lookup f33 = some ⟨oc33, od33, .func (PySem.W.fnOf "shown_term" "shown_term" (defArgs sShownT) (defBody sShownT) (defScope sShownT) .none kV33 dc33 pm33 an33 cd33 ct33), sl33⟩)
  (c33 : PySem.W.codeIn K cd33 "shown_term" = true)
  (k33 : PySem.W.keepIn K (.ref f33) = true)
  (a34 : PySem.W.nsIn K mainGlobals "shown_book" = some (some (.ref f34)))
  (l34 : K.lookup f34 = some ⟨oc34, od34, .func (PySem.W.fnOf "shown_book" "shown_book" (defArgs sShownB) (defBody sShownB) (defScope sShownB) .none kV34 dc34 pm34 an34 cd34 ct34), sl34⟩)
  (c34 : PySem.W.codeIn K cd34 "shown_book" = true)
  (k34 : PySem.W.keepIn K (.ref f34) = true)
  (a35 : PySem.W.nsIn K mainGlobals "_law_text" = some (some (.ref f35)))
  (l35 : K.lookup f35 = some ⟨oc35, od35, .func (PySem.W.fnOf "_law_text" "_law_text" (defArgs sTextL) (defBody sTextL) (defScope sTextL) .none kV35 dc35 pm35 an35 cd35 ct35), sl35⟩)
  (c35 : PySem.W.codeIn K cd35 "_law_text" = true)
  (k35 : PySem.W.keepIn K (.ref f35) = true)
  (a36 : PySem.W.nsIn K mainGlobals "law" = some (some (.ref f36)))
  (l36 : K.lookup f36 = some ⟨oc36, od36, .func (PySem.W.fnOf "law" "law" (defArgs sLaw) (defBody sLaw) (defScope sLaw) .none kV36 dc36 pm36 an36 cd36 ct36), sl36⟩)
  (c36 : PySem.W.codeIn K cd36 "law" = true)
  (k36 : PySem.W.keepIn K (.ref f36) = true)
  (z0 : PySem.W.nsIn K mainGlobals "all" = some none)
  (z1 : PySem.W.nsIn K mainGlobals "bool" = some none)
  (z2 : PySem.W.nsIn K mainGlobals "enumerate" = some none)
  (z3 : PySem.W.nsIn K mainGlobals "int" = some none)
  (z4 : PySem.W.nsIn K mainGlobals "isinstance" = some none)
  (z5 : PySem.W.nsIn K mainGlobals "len" = some none)
  (z6 : PySem.W.nsIn K mainGlobals "range" = some none)
  (z7 : PySem.W.nsIn K mainGlobals "str" = some none)
  (z8 : PySem.W.nsIn K mainGlobals "sum" = some none)
  (z9 : PySem.W.nsIn K mainGlobals "tuple" = some none)
  (y0 : PySem.W.nsIn K mainGlobals "LETTERS" = some (some (.str "abcdefghijklmnopqrstuvwxyz" tk0)))
  (y1 : PySem.W.nsIn K mainGlobals "FIGURES" = some (some (.str "0123456789" tk1)))
  (y2 : PySem.W.nsIn K mainGlobals "MOST_LETTERS" = some (some (.int 8 tk2)))
  (y3 : PySem.W.nsIn K mainGlobals "MOST_FIGURES" = some (some (.int 60 tk3)))
  (y4 : PySem.W.nsIn K mainGlobals "KEPT_WORDS" = some (some (.ref g4)))
  (x4 : K.lookup g4 = some ⟨.type "tuple", gd4, .seq #[.str "add" gt4x0, .str "sub" gt4x1, .str "mul" gt4x2, .str "neg" gt4x3, .str "any" gt4x4, .str "var" gt4x5, .str "put" gt4x6, .str "load" gt4x7, .str "out" gt4x8] gn4, gs4⟩)
  (y5 : PySem.W.nsIn K mainGlobals "PARTS_BELOW" = some (some (.ref g5)))
  (x5 : K.lookup g5 = some ⟨.type "dict", none, .dict #[⟨dh5x0, .str "add" dt5x0, .int 2 du5x0⟩, ⟨dh5x1, .str "sub" dt5x1, .int 2 du5x1⟩, ⟨dh5x2, .str "mul" dt5x2, .int 2 du5x2⟩, ⟨dh5x3, .str "neg" dt5x3, .int 1 du5x3⟩] dp5, #[]⟩)
  (hh5x0 : dh5x0 = hashStr w "add")
  (hh5x1 : dh5x1 = hashStr w "sub")
  (hh5x2 : dh5x2 = hashStr w "mul")
  (hh5x3 : dh5x3 = hashStr w "neg")
  (ha5 : (g5 == sysModules) = false)
  (y6 : PySem.W.nsIn K mainGlobals "BOXES" = some (some (.ref g6)))
  (x6 : K.lookup g6 = some ⟨.type "tuple", gd6, .seq #[.str "out" gt6x0, .str "t1" gt6x1, .str "t2" gt6x2, .str "t3" gt6x3] gn6, gs6⟩)
  (y7 : PySem.W.nsIn K mainGlobals "LEAF_NUMBERS" = some (some (.str "123456789" tk7)))
  (y8 : PySem.W.nsIn K mainGlobals "MOST_PRICE" = some (some (.int 999999 tk8)))
  (y9 : PySem.W.nsIn K mainGlobals "MOST_SHAPE_WORDS" = some (some (.int 12 tk9)))
  (y10 : PySem.W.nsIn K mainGlobals "SHAPE_START" = some (some (.int 5 tk10))) :
  ∃ fd : FuncData, (∀ (s : Shared) (v : Value), BindsTo s fd ⟨[v], []⟩ [("script", v)]) ∧ ∀ base : Heap, K.In base → base.Ns mainGlobals mg → FnOk l.prog w K mg base CX0 8 fa fd ["script"] (spLaw K) := by
 have e := hfa.symm.trans (PySem.W.mg_of X G a36)
 cases e
 have G0 : Gs w K mg := ⟨PySem.W.mg_none_of X G z0, PySem.W.mg_none_of X G z1, PySem.W.mg_none_of X G z2, PySem.W.mg_none_of X G z3, PySem.W.mg_none_of X G z4, PySem.W.mg_none_of X G z5, PySem.W.mg_none_of X G z6, PySem.W.mg_none_of X G z7, PySem.W.mg_none_of X G z8, PySem.W.mg_none_of X G z9, ⟨_, PySem.W.mg_of X G y0⟩, ⟨_, PySem.W.mg_of X G y1⟩, ⟨_, PySem.W.mg_of X G y2⟩, ⟨_, PySem.W.mg_of X G y3⟩, ⟨g4, PySem.W.mg_of X G y4, fun H => .inr ⟨_, _, _, x4, rfl, rfl, (by show (9 : Nat) ≤ sizeLine; decide), (.cons ⟨_, rfl⟩ (.cons ⟨_, rfl⟩ (.cons ⟨_, rfl⟩ (.cons ⟨_, rfl⟩ (.cons ⟨_, rfl⟩ (.cons ⟨_, rfl⟩ (.cons ⟨_, rfl⟩ (.cons ⟨_, rfl⟩ (.cons ⟨_, rfl⟩ .nil)))))))))⟩⟩, ⟨g5, PySem.W.mg_of X G y5, modD_mk [(dh5x0, "add", dt5x0, 2, du5x0), (dh5x1, "sub", dt5x1, 2, du5x1), (dh5x2, "mul", dt5x2, 2, du5x2), (dh5x3, "neg", dt5x3, 1, du5x3)] x5 ha5 (by intro e he; simp only [List.mem_cons, List.not_mem_nil, or_false] at he; rcases he with rfl | rfl | rfl | rfl <;> assumption) (by show List.Nodup ([Sum.inr "add", Sum.inr "sub", Sum.inr "mul", Sum.inr "neg"] : List Key); decide +kernel)⟩, ⟨g6, PySem.W.mg_of X G y6, fun H => .inr ⟨_, _, _, x6, rfl, rfl, (by show (4 : Nat) ≤ sizeLine; decide), (.cons ⟨_, rfl⟩ (.cons ⟨_, rfl⟩ (.cons ⟨_, rfl⟩ (.cons ⟨_, rfl⟩ .nil))))⟩⟩, ⟨_, PySem.W.mg_of X G y7⟩, ⟨_, PySem.W.mg_of X G y8⟩, ⟨_, PySem.W.mg_of X G y9⟩, ⟨_, PySem.W.mg_of X G y10⟩⟩
 have F0 := fun_mk (st := sMade) l0 c0 k0
 have D0 : Def K mg "made_of" sMade ["text", "signs"] := ⟨f0, _, F0, F0.binds (ps := ["text", "signs"]) (fun _ _ _ _ _ _ us hl => by refine us2 (P := fun us => bindArgs _ ⟨us, []⟩ = pure (List.zip _ us)) hl ?_; intros; rfl), PySem.W.mg_of X G a0⟩
 have F1 := fun_mk (st := sName) l1 c1 k1
 have D1 : Def K mg "is_name" sName ["word"] := ⟨f1, _, F1, F1.binds (ps := ["word"]) (fun _ _ _ _ _ _ us hl => by refine us1 (P := fun us => bindArgs _ ⟨us, []⟩ = pure (List.zip _ us)) hl ?_; intros; rfl), PySem.W.mg_of X G a1⟩
 have F2 := fun_mk (st := sNum) l2 c2 k2
 have D2 : Def K mg "is_number" sNum ["word"] := ⟨f2, _, F2, F2.binds (ps := ["word"]) (fun _ _ _ _ _ _ us hl => by refine us1 (P := fun us => bindArgs _ ⟨us, []⟩ = pure (List.zip _ us)) hl ?_; intros; rfl), PySem.W.mg_of X G a2⟩
 have F3 := fun_mk (st := sHow) l3 c3 k3
 have D3 : Def K mg "how_many_below" sHow ["word"] := ⟨f3, _, F3, F3.binds (ps := ["word"]) (fun _ _ _ _ _ _ us hl => by refine us1 (P := fun us => bindArgs _ ⟨us, []⟩ = pure (List.zip _ us)) hl ?_; intros; rfl), PySem.W.mg_of X G a3⟩
 have F4 := fun_mk (st := sTermW) l4 c4 k4
 have D4 : Def K mg "is_term_word" sTermW ["word"] := ⟨f4, _, F4, F4.binds (ps := ["word"]) (fun _ _ _ _ _ _ us hl => by refine us1 (P := fun us => bindArgs _ ⟨us, []⟩ = pure (List.zip _ us)) hl ?_; intros; rfl), PySem.W.mg_of X G a4⟩
 have F5 := fun_mk (st := sNumT) l5 c5 k5
 have D5 : Def K mg "number_or_text" sNumT ["word"] := ⟨f5, _, F5, F5.binds (ps := ["word"]) (fun _ _ _ _ _ _ us hl => by refine us1 (P := fun us => bindArgs _ ⟨us, []⟩ = pure (List.zip _ us)) hl ?_; intros; rfl), PySem.W.mg_of X G a5⟩
 have F6 := fun_mk (st := sShB) l6 c6 k6
 have D6 : Def K mg "is_shape_word" sShB ["word"] := ⟨f6, _, F6, F6.binds (ps := ["word"]) (fun _ _ _ _ _ _ us hl => by refine us1 (P := fun us => bindArgs _ ⟨us, []⟩ = pure (List.zip _ us)) hl ?_; intros; rfl), PySem.W.mg_of X G a6⟩
 have F7 := fun_mk (st := sLeafN) l7 c7 k7
 have D7 : Def K mg "is_leaf_name" sLeafN ["word", "letter"] := ⟨f7, _, F7, F7.binds (ps := ["word", "letter"]) (fun _ _ _ _ _ _ us hl => by refine us2 (P := fun us => bindArgs _ ⟨us, []⟩ = pure (List.zip _ us)) hl ?_; intros; rfl), PySem.W.mg_of X G a7⟩
 have F8 := fun_mk (st := sFrom) l8 c8 k8
 have D8 : Def K mg "is_from" sFrom ["word"] := ⟨f8, _, F8, F8.binds (ps := ["word"]) (fun _ _ _ _ _ _ us hl => by refine us1 (P := fun us => bindArgs _ ⟨us, []⟩ = pure (List.zip _ us)) hl ?_; intros; rfl), PySem.W.mg_of X G a8⟩
 have F9 := fun_mk (st := sSrc) l9 c9 k9
 have D9 : Def K mg "is_source" sSrc ["deed", "word"] := ⟨f9, _, F9, F9.binds (ps := ["deed", "word"]) (fun _ _ _ _ _ _ us hl => by refine us2 (P := fun us => bindArgs _ ⟨us, []⟩ = pure (List.zip _ us)) hl ?_; intros; rfl), PySem.W.mg_of X G a9⟩
 have F10 := fun_mk (st := sHowS) l10 c10 k10
 have D10 : Def K mg "how_many_sources" sHowS ["deed"] := ⟨f10, _, F10, F10.binds (ps := ["deed"]) (fun _ _ _ _ _ _ us hl => by refine us1 (P := fun us => bindArgs _ ⟨us, []⟩ = pure (List.zip _ us)) hl ?_; intros; rfl), PySem.W.mg_of X G a10⟩
 have F11 := fun_mk (st := sDeedB) l11 c11 k11
 have D11 : Def K mg "is_deed" sDeedB ["words"] := ⟨f11, _, F11, F11.binds (ps := ["words"]) (fun _ _ _ _ _ _ us hl => by refine us1 (P := fun us => bindArgs _ ⟨us, []⟩ = pure (List.zip _ us)) hl ?_; intros; rfl), PySem.W.mg_of X G a11⟩
 have F12 := fun_mk (st := sPrB) l12 c12 k12
 have D12 : Def K mg "is_price" sPrB ["word"] := ⟨f12, _, F12, F12.binds (ps := ["word"]) (fun _ _ _ _ _ _ us hl => by refine us1 (P := fun us => bindArgs _ ⟨us, []⟩ = pure (List.zip _ us)) hl ?_; intros; rfl), PySem.W.mg_of X G a12⟩
 have F13 := fun_mk (st := sKindB) l13 c13 k13
 have D13 : Def K mg "is_kind_row" sKindB ["words"] := ⟨f13, _, F13, F13.binds (ps := ["words"]) (fun _ _ _ _ _ _ us hl => by refine us1 (P := fun us => bindArgs _ ⟨us, []⟩ = pure (List.zip _ us)) hl ?_; intros; rfl), PySem.W.mg_of X G a13⟩
 have F14 := fun_mk (st := sDoesB) l14 c14 k14
 have D14 : Def K mg "is_does_row" sDoesB ["words"] := ⟨f14, _, F14, F14.binds (ps := ["words"]) (fun _ _ _ _ _ _ us hl => by refine us1 (P := fun us => bindArgs _ ⟨us, []⟩ = pure (List.zip _ us)) hl ?_; intros; rfl), PySem.W.mg_of X G a14⟩
 have F15 := fun_mk (st := sRuleB) l15 c15 k15
 have D15 : Def K mg "is_rule_row" sRuleB ["words"] := ⟨f15, _, F15, F15.binds (ps := ["words"]) (fun _ _ _ _ _ _ us hl => by refine us1 (P := fun us => bindArgs _ ⟨us, []⟩ = pure (List.zip _ us)) hl ?_; intros; rfl), PySem.W.mg_of X G a15⟩
 have F16 := fun_mk (st := sRowsIn) l16 c16 k16
 have D16 : Def K mg "rows_in" sRowsIn ["text"] := ⟨f16, _, F16, F16.binds (ps := ["text"]) (fun _ _ _ _ _ _ us hl => by refine us1 (P := fun us => bindArgs _ ⟨us, []⟩ = pure (List.zip _ us)) hl ?_; intros; rfl), PySem.W.mg_of X G a16⟩
 have F17 := fun_mk (st := sRefuse) l17 c17 k17
 have D17 : Def K mg "refuse_other_rows" sRefuse ["rows"] := ⟨f17, _, F17, F17.binds (ps := ["rows"]) (fun _ _ _ _ _ _ us hl => by refine us1 (P := fun us => bindArgs _ ⟨us, []⟩ = pure (List.zip _ us)) hl ?_; intros; rfl), PySem.W.mg_of X G a17⟩
 have F18 := fun_mk (st := sReadWs) l18 c18 k18
 have D18 : Def K mg "read_words" sReadWs ["words"] := ⟨f18, _, F18, F18.binds (ps := ["words"]) (fun _ _ _ _ _ _ us hl => by refine us1 (P := fun us => bindArgs _ ⟨us, []⟩ = pure (List.zip _ us)) hl ?_; intros; rfl), PySem.W.mg_of X G a18⟩
 have F19 := fun_mk (st := sDeedsBy) l19 c19 k19
 have D19 : Def K mg "deeds_by_rule" sDeedsBy ["rows"] := ⟨f19, _, F19, F19.binds (ps := ["rows"]) (fun _ _ _ _ _ _ us hl => by refine us1 (P := fun us => bindArgs _ ⟨us, []⟩ = pure (List.zip _ us)) hl ?_; intros; rfl), PySem.W.mg_of X G a19⟩
 have F20 := fun_mk (st := sReadBk) l20 c20 k20
 have D20 : Def K mg "read_book" sReadBk ["text"] := ⟨f20, _, F20, F20.binds (ps := ["text"]) (fun _ _ _ _ _ _ us hl => by refine us1 (P := fun us => bindArgs _ ⟨us, []⟩ = pure (List.zip _ us)) hl ?_; intros; rfl), PySem.W.mg_of X G a20⟩
 have F21 := fun_mk (st := sHand) l21 c21 k21
 have D21 : Def K mg "_law_hand" sHand ["cell", "k"] := ⟨f21, _, F21, F21.binds (ps := ["cell", "k"]) (fun _ _ _ _ _ _ us hl => by refine us2 (P := fun us => bindArgs _ ⟨us, []⟩ = pure (List.zip _ us)) hl ?_; intros; rfl), PySem.W.mg_of X G a21⟩
 have F22 := fun_mk (st := sDraw) l22 c22 k22
 have D22 : Def K mg "_law_draw" sDraw ["hand", "limit"] := ⟨f22, _, F22, F22.binds (ps := ["hand", "limit"]) (fun _ _ _ _ _ _ us hl => by refine us2 (P := fun us => bindArgs _ ⟨us, []⟩ = pure (List.zip _ us)) hl ?_; intros; rfl), PySem.W.mg_of X G a22⟩
 have F23 := fun_mk (st := sNamesL) l23 c23 k23
 have D23 : Def K mg "_law_names" sNamesL ["hand", "size"] := ⟨f23, _, F23, F23.binds (ps := ["hand", "size"]) (fun _ _ _ _ _ _ us hl => by refine us2 (P := fun us => bindArgs _ ⟨us, []⟩ = pure (List.zip _ us)) hl ?_; intros; rfl), PySem.W.mg_of X G a23⟩
 have F24 := fun_mk (st := sNumL) l24 c24 k24
 have D24 : Def K mg "_law_number" sNumL ["hand"] := ⟨f24, _, F24, F24.binds (ps := ["hand"]) (fun _ _ _ _ _ _ us hl => by refine us1 (P := fun us => bindArgs _ ⟨us, []⟩ = pure (List.zip _ us)) hl ?_; intros; rfl), PySem.W.mg_of X G a24⟩
 have F25 := fun_mk (st := sAnyWd) l25 c25 k25
 have D25 : Def K mg "_law_any_word" sAnyWd ["hand", "names"] := ⟨f25, _, F25, F25.binds (ps := ["hand", "names"]) (fun _ _ _ _ _ _ us hl => by refine us2 (P := fun us => bindArgs _ ⟨us, []⟩ = pure (List.zip _ us)) hl ?_; intros; rfl), PySem.W.mg_of X G a25⟩
 have F26 := fun_mk (st := sDeedL) l26 c26 k26
 have D26 : Def K mg "_law_any_deed" sDeedL ["hand"] := ⟨f26, _, F26, F26.binds (ps := ["hand"]) (fun _ _ _ _ _ _ us hl => by refine us1 (P := fun us => bindArgs _ ⟨us, []⟩ = pure (List.zip _ us)) hl ?_; intros; rfl), PySem.W.mg_of X G a26⟩
 have F27 := fun_mk (st := sRowL) l27 c27 k27
 have D27 : Def K mg "_law_row" sRowL ["hand", "names"] := ⟨f27, _, F27, F27.binds (ps := ["hand", "names"]) (fun _ _ _ _ _ _ us hl => by refine us2 (P := fun us => bindArgs _ ⟨us, []⟩ = pure (List.zip _ us)) hl ?_; intros; rfl), PySem.W.mg_of X G a27⟩
 have F28 := fun_mk (st := sSettled) l28 c28 k28
 have D28 : Def K mg "_law_settled" sSettled ["rows"] := ⟨f28, _, F28, F28.binds (ps := ["rows"]) (fun _ _ _ _ _ _ us hl => by refine us1 (P := fun us => bindArgs _ ⟨us, []⟩ = pure (List.zip _ us)) hl ?_; intros; rfl), PySem.W.mg_of X G a28⟩
 have F29 := fun_mk (st := sRowsL) l29 c29 k29
 have D29 : Def K mg "_law_rows" sRowsL ["script", "names"] := ⟨f29, _, F29, F29.binds (ps := ["script", "names"]) (fun _ _ _ _ _ _ us hl => by refine us2 (P := fun us => bindArgs _ ⟨us, []⟩ = pure (List.zip _ us)) hl ?_; intros; rfl), PySem.W.mg_of X G a29⟩
 have F30 := fun_mk (st := sLine) l30 c30 k30
 have D30 : Def K mg "_law_line" sLine ["row"] := ⟨f30, _, F30, F30.binds (ps := ["row"]) (fun _ _ _ _ _ _ us hl => by refine us1 (P := fun us => bindArgs _ ⟨us, []⟩ = pure (List.zip _ us)) hl ?_; intros; rfl), PySem.W.mg_of X G a30⟩
 have F31 := fun_mk (st := sDue) l31 c31 k31
 have D31 : Def K mg "_law_due" sDue ["rows"] := ⟨f31, _, F31, F31.binds (ps := ["rows"]) (fun _ _ _ _ _ _ us hl => by refine us1 (P := fun us => bindArgs _ ⟨us, []⟩ = pure (List.zip _ us)) hl ?_; intros; rfl), PySem.W.mg_of X G a31⟩
 have F32 := fun_mk (st := sSame) l32 c32 k32
 have D32 : Def K mg "_law_same" sSame ["found", "due"] := ⟨f32, _, F32, F32.binds (ps := ["found", "due"]) (fun _ _ _ _ _ _ us hl => by refine us2 (P := fun us => bindArgs _ ⟨us, []⟩ = pure (List.zip _ us)) hl ?_; intros; rfl), PySem.W.mg_of X G a32⟩
 have F33 := fun_mk (st := sShownT) l33 c33 k33
 have D33 : Def K mg "shown_term" sShownT ["words"] := ⟨f33, _, F33, F33.binds (ps := ["words"]) (fun _ _ _ _ _ _ us hl => by refine us1 (P := fun us => bindArgs _ ⟨us, []⟩ = pure (List.zip _ us)) hl ?_; intros; rfl), PySem.W.mg_of X G a33⟩
 have F34 := fun_mk (st := sShownB) l34 c34 k34
 have D34 : Def K mg "shown_book" sShownB ["book"] := ⟨f34, _, F34, F34.binds (ps := ["book"]) (fun _ _ _ _ _ _ us hl => by refine us1 (P := fun us => bindArgs _ ⟨us, []⟩ = pure (List.zip _ us)) hl ?_; intros; rfl), PySem.W.mg_of X G a34⟩
 have F35 := fun_mk (st := sTextL) l35 c35 k35
 have D35 : Def K mg "_law_text" sTextL ["book"] := ⟨f35, _, F35, F35.binds (ps := ["book"]) (fun _ _ _ _ _ _ us hl => by refine us1 (P := fun us => bindArgs _ ⟨us, []⟩ = pure (List.zip _ us)) hl ?_; intros; rfl), PySem.W.mg_of X G a35⟩
 have F36 := fun_mk (st := sLaw) l36 c36 k36
 refine ⟨PySem.W.fnOf "law" "law" (defArgs sLaw) (defBody sLaw) (defScope sLaw) .none kV36 dc36 pm36 an36 cd36 ct36, fun s v => .of_eq rfl, fun base _ _ => ?_⟩
 have H0 : Has l.prog w K mg base 1 "made_of" ["text", "signs"] spMade := hasMade (k := 0) G0   D0
 have H1 : Has l.prog w K mg base 2 "is_name" ["word"] spName := hasName (k := 1) G0 (H0.up (by decide))  D1
 have H2 : Has l.prog w K mg base 2 "is_number" ["word"] spNum := hasNum (k := 1) G0 (H0.up (by decide))  D2
 have H3 : Has l.prog w K mg base 1 "how_many_below" ["word"] spHow := hasHow (k := 0) G0   D3
 have H4 : Has l.prog w K mg base 3 "is_term_word" ["word"] spTW := hasTermW (k := 2) G0 (H1.up (by decide)) (H2.up (by decide))  D4
 have H5 : Has l.prog w K mg base 3 "number_or_text" ["word"] spNumT := hasNumT (k := 2) G0 (H2.up (by decide))  D5
 have H6 : Has l.prog w K mg base 4 "is_shape_word" ["word"] spShB := hasShB (k := 3) G0 (H4.up (by decide))  D6
 have H7 : Has l.prog w K mg base 1 "is_leaf_name" ["word", "letter"] spLeafN := hasLeafN (k := 0) G0   D7
 have H8 : Has l.prog w K mg base 2 "is_from" ["word"] spFrom := hasFrom (k := 1) G0 (H7.up (by decide))  D8
 have H9 : Has l.prog w K mg base 3 "is_source" ["deed", "word"] spSrc := hasSrc (k := 2) G0 (H8.up (by decide)) (H7.up (by decide)) (H2.up (by decide))  D9
 have H10 : Has l.prog w K mg base 2 "how_many_sources" ["deed"] spHowS := hasHowS (k := 1) G0 (H3.up (by decide))  D10
 have H11 : Has l.prog w K mg base 4 "is_deed" ["words"] spDeedB := hasDeedB (k := 3) G0 (H10.up (by decide)) (H9.up (by decide))  D11
 have H12 : Has l.prog w K mg base 3 "is_price" ["word"] spPrB := hasPrB (k := 2) G0 (H2.up (by decide))  D12
 have H13 : Has l.prog w K mg base 3 "is_kind_row" ["words"] spKindB := hasKindB (k := 2) G0 (H1.up (by decide))  D13
 have H14 : Has l.prog w K mg base 5 "is_does_row" ["words"] spDoesB := hasDoesB (k := 4) G0 (H11.up (by decide)) (H1.up (by decide))  D14
 have H15 : Has l.prog w K mg base 5 "is_rule_row" ["words"] spRuleB := hasRuleB (k := 4) G0 (H1.up (by decide)) (H12.up (by decide)) (H6.up (by decide))  D15
 have H16 : Has l.prog w K mg base 1 "rows_in" ["text"] spRowsIn := hasRowsIn (k := 0) G0   D16
 have H17 : Has l.prog w K mg base 6 "refuse_other_rows" ["rows"] spRefuse := hasRefuse (k := 5) G0 (H14.up (by decide)) (H13.up (by decide)) (H15.up (by decide))  D17
 have H18 : Has l.prog w K mg base 4 "read_words" ["words"] spReadWs := hasReadWs (k := 3) G0 (H5.up (by decide))  D18
 have H19 : Has l.prog w K mg base 5 "deeds_by_rule" ["rows"] spDeedsBy := hasDeedsBy (k := 4) G0 (H18.up (by decide))  D19
 have H20 : Has l.prog w K mg base 7 "read_book" ["text"] spReadBk := hasReadBk (k := 6) G0 (H19.up (by decide)) (H18.up (by decide)) (H17.up (by decide)) (H16.up (by decide))  D20
 have H21 : Has l.prog w K mg base 1 "_law_hand" ["cell", "k"] spHand := hasHand (k := 0) G0   D21
 have H22 : Has l.prog w K mg base 1 "_law_draw" ["hand", "limit"] spDraw := hasDraw (k := 0) G0   D22
 have H23 : Has l.prog w K mg base 2 "_law_names" ["hand", "size"] spNamesL := hasNamesL (k := 1) G0 (H22.up (by decide))  D23
 have H24 : Has l.prog w K mg base 2 "_law_number" ["hand"] spNumL := hasNumL (k := 1) G0 (H22.up (by decide))  D24
 have H25 : Has l.prog w K mg base 3 "_law_any_word" ["hand", "names"] spAnyWd := hasAnyWd (k := 2) G0 (H22.up (by decide)) (H24.up (by decide))  D25
 have H26 : Has l.prog w K mg base 3 "_law_any_deed" ["hand"] spDeedL := hasDeedL (k := 2) G0 (H22.up (by decide)) (H24.up (by decide))  D26
 have H27 : Has l.prog w K mg base 4 "_law_row" ["hand", "names"] spRowL := hasRowL (k := 3) G0 (H26.up (by decide)) (H25.up (by decide)) (H22.up (by decide))  D27
 have H28 : Has l.prog w K mg base 1 "_law_settled" ["rows"] spSettled := hasSettled (k := 0) G0   D28
 have H29 : Has l.prog w K mg base 5 "_law_rows" ["script", "names"] (spRowsL K) := hasRowsL (k := 4) G0 (H21.up (by decide)) (H27.up (by decide)) (H28.up (by decide))  D29
 have H30 : Has l.prog w K mg base 1 "_law_line" ["row"] spLine := hasLine (k := 0) G0   D30
 have H31 : Has l.prog w K mg base 1 "_law_due" ["rows"] spDue := hasDue (k := 0) G0   D31
 have H32 : Has l.prog w K mg base 7 "_law_same" ["found", "due"] (spAlt 5) := hasSame (k := 0) G0   D32
 have H33 : Has l.prog w K mg base 1 "shown_term" ["words"] spShownT := hasShownT (k := 0) G0   D33
 have H34 : Has l.prog w K mg base 2 "shown_book" ["book"] spShownB := hasShownB (k := 1) G0 (H33.up (by decide))  D34
 have H35 : Has l.prog w K mg base 2 "_law_text" ["book"] spShownB := hasTextL (k := 1) G0 (H30.up (by decide))  D35
 exact hasLaw (k := 7) G0 (H31.up (by decide)) (H21.up (by decide)) (H30.up (by decide)) (H23.up (by decide)) (H29.up (by decide)) (H32.up (by decide)) (H35.up (by decide)) (H20.up (by decide)) (H34.up (by decide))  F36
theorem walk {l : PySem.W.OpenLaw} {q : Program} {loose : List Str} {XP : (Str → Option Value) → Heap → Prop} {YP : World → Heap → Prop} {d : DefRec} {K : Params → PySem.W.Frag} (hn : l.most = some 63) (hdf : d.params.defaults = [])
  (hY : ∀ (w : World) (h : Heap), YP w h → (K w.params).In h)
  (F : ∀ (w : World) (mg : Str → Option Value) (fa : Addr) (h : Heap), (K w.params).In h → h.Ns mainGlobals mg → mg d.name = some (.ref fa) →
   ∃ fd : FuncData, (∀ (s : Shared) (u : Value), BindsTo s fd ⟨[u], []⟩ [("script", u)]) ∧ ∀ base : Heap, (K w.params).In base → base.Ns mainGlobals mg → FnOk l.prog w (K w.params) mg base CX0 8 fa fd ["script"] (spLaw (K w.params))) :
  PySem.W.WalkO q loose XP YP l.row.toRowW d [] (fun f vs => PySem.call f vs) :=
 L2.walk_of (n := 63) (k := 8) (x := "script") (CX := fun _ => CX0) (sp := fun w => spLaw (K w.params)) hn (by decide) hdf ⟨rfl, by decide, by decide⟩ hY F (fun _ _ a ns hl _ hS => ⟨a, ns, rfl, hS, hl, fun _ => rfl⟩) fun _ _ _ _ _ z => z
end K33
open PySem PySem.W PyProof.Rows
set_option maxRecDepth 100000 in
set_option maxHeartbeats 0 in
theorem PySem.Challenge.cw_pricecover_k33_whole_shown_and_read_holds : PySem.Challenge.rw_pricecover_k33_whole_shown_and_read.Holds := by
 w_on; o_law; k_head; (case hw => w_witness2)
 k_fill
 refine K33.walk (l := PySem.Challenge.rw_pricecover_k33_whole_shown_and_read) rfl rfl (fun w h Y => PySem.W.kIn_of Y) ?F
 case F =>
  intro w mg fa h KX G hmg
  refine' K33.all_mk KX G hmg ?a0 ?l0 ?c0 ?k0 ?a1 ?l1 ?c1 ?k1 ?a2 ?l2 ?c2 ?k2 ?a3 ?l3 ?c3 ?k3 ?a4 ?l4 ?c4 ?k4 ?a5 ?l5 ?c5 ?k5 ?a6 ?l6 ?c6 ?k6 ?a7 ?l7 ?c7 ?k7 ?a8 ?l8 ?c8 ?k8 ?a9 ?l9 ?c9 ?k9 ?a10 ?l10 ?c10 ?k10 ?a11 ?l11 ?c11 ?k11 ?a12 ?l12 ?c12 ?k12 ?a13 ?l13 ?c13 ?k13 ?a14 ?l14 ?c14 ?k14 ?a15 ?l15 ?c15 ?k15 ?a16 ?l16 ?c16 ?k16 ?a17 ?l17 ?c17 ?k17 ?a18 ?l18 ?c18 ?k18 ?a19 ?l19 ?c19 ?k19 ?a20 ?l20 ?c20 ?k20 ?a21 ?l21 ?c21 ?k21 ?a22 ?l22 ?c22 ?k22 ?a23 ?l23 ?c23 ?k23 ?a24 ?l24 ?c24 ?k24 ?a25 ?l25 ?c25 ?k25 ?a26 ?l26 ?c26 ?k26 ?a27 ?l27 ?c27 ?k27 ?a28 ?l28 ?c28 ?k28 ?a29 ?l29 ?c29 ?k29 ?a30 ?l30 ?c30 ?k30 ?a31 ?l31 ?c31 ?k31 ?a32 ?l32 ?c32 ?k32 ?a33 ?l33 ?c33 ?k33 ?a34 ?l34 ?c34 ?k34 ?a35 ?l35 ?c35 ?k35 ?a36 ?l36 ?c36 ?k36 ?z0 ?z1 ?z2 ?z3 ?z4 ?z5 ?z6 ?z7 ?z8 ?z9 ?y0 ?y1 ?y2 ?y3 ?y4 ?x4 ?y5 ?x5 ?hh5x0 ?hh5x1 ?hh5x2 ?hh5x3 ?ha5 ?y6 ?x6 ?y7 ?y8 ?y9 ?y10
  (case a0 => k_is)
  (case l0 => k_is)
  (case c0 => k_is)
  (case k0 => k_is)
  (case a1 => k_is)
  (case l1 => k_is)
  (case c1 => k_is)
  (case k1 => k_is)
  (case a2 => k_is)
  (case l2 => k_is)
  (case c2 => k_is)
  (case k2 => k_is)
  (case a3 => k_is)
  (case l3 => k_is)
  (case c3 => k_is)
  (case k3 => k_is)
  (case a4 => k_is)
  (case l4 => k_is)
  (case c4 => k_is)
  (case k4 => k_is)
  (case a5 => k_is)
  (case l5 => k_is)
  (case c5 => k_is)
  (case k5 => k_is)
  (case a6 => k_is)
  (case l6 => k_is)
  (case c6 => k_is)
  (case k6 => k_is)
  (case a7 => k_is)
  (case l7 => k_is)
  (case c7 => k_is)
  (case k7 => k_is)
  (case a8 => k_is)
  (case l8 => k_is)
  (case c8 => k_is)
  (case k8 => k_is)
  (case a9 => k_is)
  (case l9 => k_is)
  (case c9 => k_is)
  (case k9 => k_is)
  (case a10 => k_is)
  (case l10 => k_is)
  (case c10 => k_is)
  (case k10 => k_is)
  (case a11 => k_is)
  (case l11 => k_is)
  (case c11 => k_is)
  (case k11 => k_is)
  (case a12 => k_is)
  (case l12 => k_is)
  (case c12 => k_is)
  (case k12 => k_is)
  (case a13 => k_is)
  (case l13 => k_is)
  (case c13 => k_is)
  (case k13 => k_is)
  (case a14 => k_is)
  (case l14 => k_is)
  (case c14 => k_is)
  (case k14 => k_is)
  (case a15 => k_is)
  (case l15 => k_is)
  (case c15 => k_is)
  (case k15 => k_is)
  (case a16 => k_is)
  (case l16 => k_is)
  (case c16 => k_is)
  (case k16 => k_is)
  (case a17 => k_is)
  (case l17 => k_is)
  (case c17 => k_is)
  (case k17 => k_is)
  (case a18 => k_is)
  (case l18 => k_is)
  (case c18 => k_is)
  (case k18 => k_is)
  (case a19 => k_is)
  (case l19 => k_is)
  (case c19 => k_is)
  (case k19 => k_is)
  (case a20 => k_is)
  (case l20 => k_is)
  (case c20 => k_is)
  (case k20 => k_is)
  (case a21 => k_is)
  (case l21 => k_is)
  (case c21 => k_is)
  (case k21 => k_is)
  (case a22 => k_is)
  (case l22 => k_is)
  (case c22 => k_is)
  (case k22 => k_is)
  (case a23 => k_is)
  (case l23 => k_is)
  (case c23 => k_is)
  (case k23 => k_is)
  (case a24 => k_is)
  (case l24 => k_is)
  (case c24 => k_is)
  (case k24 => k_is)
  (case a25 => k_is)
  (case l25 => k_is)
  (case c25 => k_is)
  (case k25 => k_is)
  (case a26 => k_is)
  (case l26 => k_is)
  (case c26 => k_is)
  (case k26 => k_is)
  (case a27 => k_is)
  (case l27 => k_is)
  (case c27 => k_is)
  (case k27 => k_is)
  (case a28 => k_is)
  (case l28 => k_is)
  (case c28 => k_is)
  (case k28 => k_is)
  (case a29 => k_is)
  (case l29 => k_is)
  (case c29 => k_is)
  (case k29 => k_is)
  (case a30 => k_is)
  (case l30 => k_is)
  (case c30 => k_is)
  (case k30 => k_is)
  (case a31 => k_is)
  (case l31 => k_is)
  (case c31 => k_is)
  (case k31 => k_is)
  (case a32 => k_is)
  (case l32 => k_is)
  (case c32 => k_is)
  (case k32 => k_is)
  (case a33 => k_is)
  (case l33 => k_is)
  (case c33 => k_is)
  (case k33 => k_is)
  (case a34 => k_is)
  (case l34 => k_is)
  (case c34 => k_is)
  (case k34 => k_is)
  (case a35 => k_is)
  (case l35 => k_is)
  (case c35 => k_is)
  (case k35 => k_is)
  (case a36 => k_is)
  (case l36 => k_is)
  (case c36 => k_is)
  (case k36 => k_is)
  (case z0 => k_is)
  (case z1 => k_is)
  (case z2 => k_is)
  (case z3 => k_is)
  (case z4 => k_is)
  (case z5 => k_is)
  (case z6 => k_is)
  (case z7 => k_is)
  (case z8 => k_is)
  (case z9 => k_is)
  (case y0 => k_is)
  (case y1 => k_is)
  (case y2 => k_is)
  (case y3 => k_is)
  (case y4 => k_is)
  (case x4 => k_is)
  (case y5 => k_is)
  (case x5 => k_is)
  (case hh5x0 => first | rfl | k_is)
  (case hh5x1 => first | rfl | k_is)
  (case hh5x2 => first | rfl | k_is)
  (case hh5x3 => first | rfl | k_is)
  (case ha5 => first | rfl | decide | k_is)
  (case y6 => k_is)
  (case x6 => k_is)
  (case y7 => k_is)
  (case y8 => k_is)
  (case y9 => k_is)
  (case y10 => k_is)
#print axioms PySem.Challenge.cw_pricecover_k33_whole_shown_and_read_holds
