import PyProof.Rows.All
import Wide.All
import OpenK.AllK
import Wide.FinOn
import Lean
import PyProof.EqAt
import PyProof.EqKinds
import PyProof.TupleCall
import KE.KSortTup
import PyProof.EnumMake
import PyProof.EnumStmt
import PyProof.ListRange
import KE.KDictList
import PyProof.DictItems
import PyProof.DictIter
import PyProof.Rows.TupDisplay
import KE.KRevIter
import PyProof.ZipIter
import PyProof.DictUpdate
import PyProof.TupleIter
import PyProof.AttrMiss
import PyProof.ListNew
import PyProof.FactsAll.dict_1
import KE.KDictOf
import PyProof.Rows.ZipGen
import PySem.Challenge.RW_pricecover_k15_whole_alike_or_parted
set_option Elab.async false
set_option linter.all false
set_option maxRecDepth 100000
set_option maxHeartbeats 4000000
namespace L2
open PySem PySem.Spec PyProof.Rows
abbrev Key := Sum Int Str
def keyIs : Key → Value → Bool
  | .inl k, v => Value.isInt k v
  | .inr x, v => Value.isStrOf x v
def keyH (w : World) : Key → Int
  | .inl k => hashInt k
  | .inr x => hashStr w x
theorem keyIs_shape : ∀ {k : Key} {v : Value}, keyIs k v = true → (∃ i t, k = Sum.inl i ∧ v = Value.int i t) ∨ (∃ x t, k = Sum.inr x ∧ v = Value.str x t)
  | .inl i, v, h => by
    obtain ⟨t, e⟩ := Value.isInt_shape (k := i) (v := v) h
    exact .inl ⟨i, t, rfl, e⟩
  | .inr x, v, h => by
    obtain ⟨t, e⟩ := Value.isStrOf_shape (x := x) (v := v) h
    exact .inr ⟨x, t, rfl, e⟩
theorem keyIs_int (i : Int) (t : Tok) : keyIs (.inl i) (.int i t) = true := by simp [keyIs, Value.isInt]
theorem keyIs_str (x : Str) (t : Tok) : keyIs (.inr x) (.str x t) = true := by simp [keyIs, Value.isStrOf]
theorem key_ll (a b : Int) : decide ((Sum.inl a : Key) = Sum.inl b) = (a == b) := by
  by_cases e : a = b
  · subst e; simp
  · have h : ¬ (Sum.inl a : Key) = Sum.inl b := fun q => e (Sum.inl.inj q)
    rw [decide_eq_false h]
    exact (beq_eq_false_iff_ne.mpr e).symm
theorem key_rr (a b : Str) : decide ((Sum.inr a : Key) = Sum.inr b) = decide (a = b) := by
  by_cases e : a = b
  · subst e; simp
  · have h : ¬ (Sum.inr a : Key) = Sum.inr b := fun q => e (Sum.inr.inj q)
    rw [decide_eq_false h, decide_eq_false e]
theorem key_lr (a : Int) (b : Str) : decide ((Sum.inl a : Key) = Sum.inr b) = false := decide_eq_false (fun q => nomatch q)
theorem key_rl (a : Str) (b : Int) : decide ((Sum.inr a : Key) = Sum.inl b) = false := decide_eq_false (fun q => nomatch q)
def mixKind (prog : Program) (w : World) : PySem.KeyKind prog w Key where
  is := keyIs
  hash := keyH w
  inj := fun v a b ha hb => by
    rcases keyIs_shape ha with ⟨i, t, rfl, rfl⟩ | ⟨x, t, rfl, rfl⟩
    · rcases keyIs_shape hb with ⟨j, u, rfl, e⟩ | ⟨y, u, rfl, e⟩
      · injection e with e1 _; rw [e1]
      · exact nomatch e
    · rcases keyIs_shape hb with ⟨j, u, rfl, e⟩ | ⟨y, u, rfl, e⟩
      · exact nomatch e
      · injection e with e1 _; rw [e1]
  byValue := fun k v h => by
    rcases keyIs_shape h with ⟨i, t, rfl, rfl⟩ | ⟨x, t, rfl, rfl⟩ <;> rfl
  pyHash := fun hv h => by
    rcases keyIs_shape hv with ⟨i, t, rfl, rfl⟩ | ⟨x, t, rfl, rfl⟩
    · exact wpAny_pyHash_int h
    · exact wpAny_pyHash_str h
  eqBool := fun hu hv h => by
    rcases keyIs_shape hu with ⟨i, t, rfl, rfl⟩ | ⟨x, t, rfl, rfl⟩
    · rcases keyIs_shape hv with ⟨j, u, rfl, rfl⟩ | ⟨y, u, rfl, rfl⟩
      · rw [key_ll] at h; exact wpAny_eqBool_int h
      · rw [key_lr] at h; exact SeqAt.EqAt.int_str i t y u _ _ _ _ h
    · rcases keyIs_shape hv with ⟨j, u, rfl, rfl⟩ | ⟨y, u, rfl, rfl⟩
      · rw [key_rl] at h; exact SeqAt.EqAt.str_int x t j u _ _ _ _ h
      · rw [key_rr] at h; exact wpAny_eqBool_str h
  «strs» := fun k x t v h => by
    rcases keyIs_shape h with ⟨i, u, rfl, e⟩ | ⟨y, u, rfl, e⟩
    · exact nomatch e
    · injection e with e1 _
      subst e1
      cases v <;> rfl
theorem mixKind_int (prog : Program) (w : World) (i : Int) (t : Tok) : (mixKind prog w).is (.inl i) (.int i t) = true := keyIs_int i t
theorem mixKind_str (prog : Program) (w : World) (x : Str) (t : Tok) : (mixKind prog w).is (.inr x) (.str x t) = true := keyIs_str x t
end L2
namespace L2
open PySem PySem.Spec PyProof.Rows
inductive V where
  | non | bl (b : Bool) | int (i : Int) | str (x : Str) | byt (b : Array UInt8) | flt (b : UInt64) | ref (a : Addr) | ty (n : String)
  deriving DecidableEq
def RelV : V → Value → Prop
  | .non, u => u = Value.none
  | .bl b, u => u = Value.bool b
  | .int i, u => ∃ t, u = Value.int i t
  | .str x, u => ∃ t, u = Value.str x t
  | .byt b, u => ∃ t, u = Value.bytes b t
  | .flt b, u => ∃ t, u = Value.float b t
  | .ref a, u => u = Value.ref a
  | .ty n, u => u = Value.type n
abbrev Vals : List V → List Value → Prop := Paired RelV
theorem Vals.length {xs : List V} {us : List Value} (r : Vals xs us) : xs.length = us.length := Paired.length r
theorem Vals.get : ∀ {xs : List V} {us : List Value} {i : Nat} {x : V}, Vals xs us → xs[i]? = some x → ∃ u, us[i]? = some u ∧ RelV x u
  | _, _, _, _, .nil, e => by simp at e
  | _, _, 0, _, .cons r _, e => by simp at e; subst e; exact ⟨_, rfl, r⟩
  | _, _, i + 1, x, .cons _ t, e => by
    obtain ⟨u, h1, h2⟩ := Vals.get (i := i) (x := x) t (by simpa using e)
    exact ⟨u, by simpa using h1, h2⟩
theorem Vals.set {x : V} {u : Value} (r : RelV x u) : ∀ {xs : List V} {us : List Value} (i : Nat), Vals xs us → Vals (xs.set i x) (us.set i u)
  | _, _, _, .nil => .nil
  | _, _, 0, .cons _ t => .cons r t
  | _, _, i + 1, .cons q t => .cons q (Vals.set r i t)
theorem Vals.append : ∀ {xs ys : List V} {us ws : List Value}, Vals xs us → Vals ys ws → Vals (xs ++ ys) (us ++ ws)
  | _, _, _, _, .nil, s => s
  | _, _, _, _, .cons r t, s => .cons r (Vals.append t s)
theorem Vals.take : ∀ {xs : List V} {us : List Value} (n : Nat), Vals xs us → Vals (xs.take n) (us.take n)
  | _, _, 0, _ => .nil
  | _, _, _ + 1, .nil => .nil
  | _, _, n + 1, .cons r t => .cons r (Vals.take n t)
theorem Vals.drop : ∀ {xs : List V} {us : List Value} (n : Nat), Vals xs us → Vals (xs.drop n) (us.drop n)
  | _, _, 0, r => r
  | _, _, _ + 1, .nil => .nil
  | _, _, n + 1, .cons _ t => Vals.drop n t
def RelO : Option V → Option Value → Prop
  | some v, some u => RelV v u
  | none, none => True
  | _, _ => False
def KV {κ : Type} : List (κ × V) → List (κ × Value) → Prop := Paired fun (p : κ × V) (q : κ × Value) => p.1 = q.1 ∧ RelV p.2 q.2
def kV : Key → V
  | .inl i => .int i
  | .inr x => .str x
inductive HO where
    | lst (xs : List V)
    | tup (xs : List V)
    | dK (kvs : List (Key × V)) | dT (kvs : List (List Key × V))
    | set (S : Int → Bool) (n : Nat)
    | ins (C dx : Addr) (fs : List (Str × V))
    | own (x : Addr)
    | xd (fs : List (Str × V))
    | met (f x : Addr)
    | rng (lo hi : Int)
    | frz (o : Obj) (u : HO)
    | tbl (ps : Array Value)
    | ext (φ : Heap → Prop)
abbrev Hp := Addr → Option HO
def upd (H : Hp) (a : Addr) (o : HO) : Hp := fun b => if b = a then some o else H b
theorem upd_same {H : Hp} {a : Addr} {o : HO} : upd H a o a = some o := by unfold upd; rw [if_pos rfl]
theorem upd_ne {H : Hp} {a b : Addr} {o : HO} (h : b ≠ a) : upd H a o b = H b := by unfold upd; rw [if_neg h]
theorem ne_of {H : Hp} {a b : Addr} {o u : HO} (h : H a = some o) (h' : H b = some u) (d : o ≠ u) : a ≠ b := by
  intro e; subst e; rw [h] at h'; exact d (Option.some.inj h')
theorem ne_of_none {H : Hp} {a b : Addr} {o : HO} (h : H a = some o) (h' : H b = none) : a ≠ b := by
  intro e; subst e; rw [h] at h'; cases h'
section
variable (P : Program) (w : World)
def IsTupD (h : Heap) (a : Addr) (its : Array Value) : Prop := ∃ o, h.get? a = some o ∧ o.cls = .type "tuple" ∧ ∃ n, o.data = .seq its n ∧ o.dict = none
theorem IsTupD.tup {h : Heap} {a : Addr} {its : Array Value} (x : IsTupD h a its) : IsTup h a its := let ⟨o, h1, h2, n, h3, _⟩ := x; ⟨o, h1, h2, n, h3⟩
def ObjOk (H : Hp) (h : Heap) (a : Addr) : HO → Prop
  | .lst xs => xs.length ≤ sizeLine ∧ ∃ (its : List Value) (n : Nat), Vals xs its ∧ h.get? a = some { cls := .type "list", data := .seq its.toArray n }
  | .tup xs => xs.length ≤ sizeLine ∧ ∃ its : List Value, Vals xs its ∧ IsTupD h a its.toArray
  | .dK kvs => kvs.length ≤ sizeLine ∧ (a == sysModules) = false ∧ ∃ vs, KV kvs vs ∧ h.DictOf (mixKind P w) a vs
  | .dT kvs => kvs.length ≤ sizeLine ∧ (a == sysModules) = false ∧ ∃ xs : List (List Key × Addr × Value),
      Paired (fun (p : List Key × V) (q : List Key × Addr × Value) => p.1 = q.1 ∧ H q.2.1 = some (.tup (p.1.map kV)) ∧ RelV p.2 q.2.2) kvs xs ∧
      ∃ o es ep, h.get? a = some o ∧ o.ExactDict ∧ o.data = .dict es ep ∧ es.toList = xs.map (entryOfKey (tupleKind (mixKind P w))) ∧ (xs.map (·.1)).Nodup
  | .set S n => h.SetOf (intKind P w) a S n
  | .ins C dx fs => H dx = some (.own a) ∧ fs.length ≤ 1000 ∧ dx ≠ a ∧ h.get? a = some (PySem.W.instObj C dx) ∧
      ∃ mA, h.Ns1 dx mA ∧ (∀ f, RelO (fs.lookup f) (mA f)) ∧ PySem.Within mA (fs.map (·.1))
  | .own _ => ∃ o, h.get? a = some o
  | .xd fs => ∃ mA, h.Ns1 a mA ∧ ∀ f, RelO (fs.lookup f) (mA f)
  | .rng lo hi => ∃ t u v, h.get? a = some { cls := .type "range", data := .fields #[.int lo t, .int hi u, .int 1 v] }
  | .frz o u => h.get? a = some o ∧ ObjOk H h a u
  | .tbl ps => h.get? a = some { cls := .none, data := .fields ps }
  | .met f x => h.get? a = some (PySem.W.methodObj (.ref f) (.ref x))
  | .ext φ => φ h ∧ (∃ o, h.get? a = some o) ∧ ∀ h1 h2 : Heap, φ h1 → (∀ o, h1.get? a = some o → h2.get? a = some o) → φ h2
def HOk (H : Hp) (h : Heap) : Prop := ∀ a o, H a = some o → ObjOk P w H h a o
end
section
variable {P : Program} {w : World} {H H' : Hp} {h h' : Heap} {a : Addr} {o : HO}
theorem ObjOk.lt (x : ObjOk P w H h a o) : a < h.objs.size := by
  cases o with
  | lst xs => obtain ⟨_, _, _, _, e⟩ := x; exact Heap.lt_size e
  | tup xs => obtain ⟨_, _, _, p⟩ := x; exact p.tup.lt
  | dK kvs => obtain ⟨_, _, _, _, o, _, _, e, _⟩ := x; exact Heap.lt_size e
  | dT kvs => obtain ⟨_, _, _, _, o, _, _, e, _⟩ := x; exact Heap.lt_size e
  | set S n => obtain ⟨o, _, _, _, e, _⟩ := x; exact Heap.lt_size e
  | ins C dx fs => obtain ⟨_, _, _, e, _⟩ := x; exact Heap.lt_size e
  | own y => obtain ⟨_, e⟩ := x; exact Heap.lt_size e
  | xd fs => obtain ⟨_, ⟨_, _, _, e, _⟩, _⟩ := x; exact Heap.lt_size e
  | rng lo hi => obtain ⟨_, _, _, e⟩ := x; exact Heap.lt_size e
  | frz ob u => obtain ⟨e, _⟩ := x; exact Heap.lt_size e
  | tbl ps => exact Heap.lt_size (show h.get? a = some _ from x)
  | met f y => exact Heap.lt_size (show h.get? a = some _ from x)
  | ext φ => obtain ⟨_, ⟨_, e⟩, _⟩ := x; exact Heap.lt_size e
theorem Paired.mapP {α β : Type} {F G : α → β → Prop} : ∀ {l₁ : List α} {l₂ : List β}, Paired F l₁ l₂ → (∀ a b, F a b → G a b) → Paired G l₁ l₂
  | _, _, .nil, _ => .nil
  | _, _, .cons r t, f => .cons (f _ _ r) (Paired.mapP t f)
theorem ObjOk.stay (x : ObjOk P w H h a o) (k : ∀ b u, (b = a ∨ H b = some (.own a)) → h.get? b = some u → h'.get? b = some u)
    (ho : ∀ b, H b = some (.own a) → H' b = some (.own a)) (ht : ∀ b xs, H b = some (.tup xs) → H' b = some (.tup xs)) : ObjOk P w H' h' a o := by
  induction o with
  | lst xs => obtain ⟨z, its, n, r, e⟩ := x; exact ⟨z, its, n, r, k _ _ (.inl rfl) e⟩
  | tup xs => obtain ⟨z, its, r, ob, e, c⟩ := x; exact ⟨z, its, r, ob, k _ _ (.inl rfl) e, c⟩
  | dK kvs => obtain ⟨z, y, vs, r, ob, es, ep, e, c⟩ := x; exact ⟨z, y, vs, r, ob, es, ep, k _ _ (.inl rfl) e, c⟩
  | dT kvs =>
    obtain ⟨z, y, xs, r, ob, es, ep, e, c⟩ := x
    exact ⟨z, y, xs, Paired.mapP r fun p q z => ⟨z.1, ht _ _ z.2.1, z.2.2⟩, ob, es, ep, k _ _ (.inl rfl) e, c⟩
  | set S n => obtain ⟨ob, es, ep, t, e, c⟩ := x; exact ⟨ob, es, ep, t, k _ _ (.inl rfl) e, c⟩
  | ins C dx fs =>
    obtain ⟨d, z, ne, e, mA, ⟨od, es, ep, e2, c⟩, r⟩ := x
    exact ⟨ho _ d, z, ne, k _ _ (.inl rfl) e, mA, ⟨od, es, ep, k _ _ (.inr d) e2, c⟩, r⟩
  | own y => obtain ⟨ob, e⟩ := x; exact ⟨ob, k _ _ (.inl rfl) e⟩
  | xd fs => obtain ⟨mA, ⟨od, es, ep, e, c⟩, r⟩ := x; exact ⟨mA, ⟨od, es, ep, k _ _ (.inl rfl) e, c⟩, r⟩
  | rng lo hi => obtain ⟨t, u, v, e⟩ := x; exact ⟨t, u, v, k _ _ (.inl rfl) e⟩
  | frz ob u ih => obtain ⟨e, q⟩ := x; exact ⟨k _ _ (.inl rfl) e, ih q⟩
  | tbl ps =>
    have e : h.get? a = some { cls := .none, data := .fields ps } := x
    show h'.get? a = some { cls := .none, data := .fields ps }
    exact k a _ (.inl rfl) e
  | met f y =>
    have e : h.get? a = some (PySem.W.methodObj (.ref f) (.ref y)) := x
    show h'.get? a = some (PySem.W.methodObj (.ref f) (.ref y))
    exact k a _ (.inl rfl) e
  | ext φ => obtain ⟨p, ⟨o, e⟩, st⟩ := x; exact ⟨st _ _ p fun o q => k _ _ (.inl rfl) q, ⟨o, k _ _ (.inl rfl) e⟩, st⟩
theorem HOk.lt (x : HOk P w H h) (e : H a = some o) : a < h.objs.size := (x a o e).lt
theorem tup_rd {xs : List V} (x : HOk P w H h) (e : H a = some (.tup xs)) : xs.length ≤ sizeLine ∧ ∃ its : List Value, Vals xs its ∧ IsTup h a its.toArray :=
  let ⟨z, its, r, p⟩ := x a _ e
  ⟨z, its, r, p.tup⟩
theorem HOk.fresh (x : HOk P w H h) (e : h.objs.size ≤ a) : H a = none := by
  cases q : H a with
  | none => rfl
  | some u => exact absurd (Nat.lt_of_lt_of_le (x.lt q) e) (Nat.lt_irrefl _)
theorem HOk.kept (x : HOk P w H h) (k : ∀ b u, h.get? b = some u → h'.get? b = some u) : HOk P w H h' := fun a o e =>
  (x a o e).stay (fun b u _ q => k b u q) (fun _ q => q) fun _ _ q => q
theorem HOk.laid (x : HOk P w H h) (k : ∀ b u, h.get? b = some u → h'.get? b = some u) (hp : h.objs.size ≤ a) (new : ObjOk P w (upd H a o) h' a o) : HOk P w (upd H a o) h' := fun b u e => by
  have hn := x.fresh hp
  by_cases hb : b = a
  · subst hb; rw [upd_same] at e; cases e; exact new
  · rw [upd_ne hb] at e
    exact (x b u e).stay (fun c v _ q => k c v q) (fun c q => by rw [upd_ne (ne_of_none q hn)]; exact q) fun c xs q => by rw [upd_ne (ne_of_none q hn)]; exact q
end
def Rd (H : Hp) (a : Addr) (u : HO) : Prop := H a = some u ∨ ∃ o, H a = some (.frz o u)
theorem Rd.ok {P : Program} {w : World} {H : Hp} {h : Heap} {a : Addr} {u : HO} (r : Rd H a u) (x : HOk P w H h) : ObjOk P w H h a u := by
  rcases r with r | ⟨o, r⟩
  · exact x a u r
  · obtain ⟨_, q⟩ := x a _ r
    exact q
def Mut : Option HO → Prop
  | some (.lst _) => True
  | some (.dK _) => True
  | some (.dT _) => True
  | some (.set _ _) => True
  | some (.ins _ _ _) => True
  | some (.ext _) => True
  | _ => False
section
variable {P : Program} {w : World} {H : Hp} {h h' : Heap} {x e : Addr} {o' : HO}
theorem HOk.write (ok : HOk P w H h) (mu : Mut (H x)) (he : e = x ∨ H e = some (.own x)) (k : ∀ b u, b ≠ e → h.get? b = some u → h'.get? b = some u) (heo : ∃ u, h'.get? e = some u)
    (new : ObjOk P w (upd H x o') h' x o') : HOk P w (upd H x o') h' := fun b u q => by
  have nown : ∀ c y, H c = some (.own y) → c ≠ x := fun c y r z => by subst z; rw [r] at mu; exact mu
  have ntup : ∀ c xs, H c = some (.tup xs) → c ≠ x := fun c xs r z => by subst z; rw [r] at mu; exact mu
  by_cases hb : b = x
  · subst hb; rw [upd_same] at q; cases q; exact new
  · rw [upd_ne hb] at q
    by_cases hbe : b = e
    · have q' : H b = some (.own x) := by
        rcases he with z | z
        · exact absurd (hbe.trans z) hb
        · rw [hbe]; exact z
      rw [q] at q'; cases q'
      obtain ⟨v, hv⟩ := heo
      exact ⟨v, by rw [hbe]; exact hv⟩
    · refine (ok b u q).stay (fun c v hc r => k c v ?_ r) (fun c r => by rw [upd_ne (nown c b r)]; exact r) fun c xs r => by rw [upd_ne (ntup c xs r)]; exact r
      rcases hc with rfl | hc
      · exact hbe
      · rintro rfl
        rcases he with z | z
        · exact nown c b hc z
        · rw [hc] at z; cases z; exact hb rfl
end
structure Un (fs ex : List Addr) (H H' : Hp) (h h' : Heap) : Prop where
  keep : ∀ b o, h.get? b = some o → H b = none → b ∉ fs → b ∉ ex → h'.get? b = some o
  slot : ∀ b o, h.get? b = some o → H b = none → b ∈ fs → b ∉ ex → ∃ sl, h'.get? b = some { o with slots := sl }
  free : ∀ b o, h.get? b = some o → H b = none → b ∉ ex → H' b = none
  there : ∀ b o, h.get? b = some o → b ∉ ex → ∃ o', h'.get? b = some o'
  tups : ∀ b xs, H b = some (.tup xs) → H' b = some (.tup xs)
  frzs : ∀ b o u, H b = some (.frz o u) → H' b = some (.frz o u)
  tbls : ∀ b ps, H b = some (.tbl ps) → ∃ more, H' b = some (.tbl (ps ++ more))
section
variable {fs fs' ex ex' : List Addr} {H H1 H2 : Hp} {h h1 h2 h' : Heap} {a x e : Addr} {o : HO}
theorem Un.any (u : Un fs ex H H1 h h1) {b : Addr} {ob : Obj} (q : h.get? b = some ob) (n : H b = none) (hx : b ∉ ex) : ∃ sl, h1.get? b = some { ob with slots := sl } := by
  by_cases hb : b ∈ fs
  · exact u.slot b ob q n hb hx
  · exact ⟨ob.slots, u.keep b ob q n hb hx⟩
theorem Un.kept (k : ∀ b u, h.get? b = some u → h'.get? b = some u) : Un fs ex H H h h' :=
  ⟨fun b ob q _ _ _ => k b ob q, fun b ob q _ _ _ => ⟨ob.slots, k b ob q⟩, fun _ _ _ n _ => n, fun b ob q _ => ⟨ob, k b ob q⟩, fun _ _ q => q, fun _ _ _ q => q, fun _ ps q => ⟨#[], by rw [q]; simp⟩⟩
theorem Un.refl : Un fs ex H H h h := Un.kept fun _ _ q => q
theorem Un.laid (k : ∀ b u, h.get? b = some u → h'.get? b = some u) (hp : h.objs.size ≤ a) (hn : H a = none) : Un fs ex H (upd H a o) h h' where
  keep := fun b u q _ _ _ => k b u q
  slot := fun b u q _ _ _ => ⟨u.slots, k b u q⟩
  free := fun b u q n _ => by rw [upd_ne (Nat.ne_of_lt (Nat.lt_of_lt_of_le (Heap.lt_size q) hp))]; exact n
  there := fun b u q _ => ⟨u, k b u q⟩
  tups := fun b xs q => by rw [upd_ne (ne_of_none q hn)]; exact q
  frzs := fun b u xs q => by rw [upd_ne (ne_of_none q hn)]; exact q
  tbls := fun b ps q => ⟨#[], by rw [upd_ne (ne_of_none q hn), q]; simp⟩
theorem Un.write (mu : Mut (H x)) (he : e = x ∨ H e = some (.own x)) (k : ∀ b u, b ≠ e → h.get? b = some u → h'.get? b = some u) (heo : ∃ u, h'.get? e = some u) : Un fs ex H (upd H x o) h h' := by
  have hx : ∀ b, H b = none → b ≠ x := fun b n z => by subst z; rw [n] at mu; exact mu
  have hb : ∀ b, H b = none → b ≠ e := fun b n z => by
    subst z
    rcases he with r | r
    · exact hx b n r
    · rw [n] at r; cases r
  have hm : ∀ b u, H b = some u → ¬ Mut (some u) → b ≠ x := fun b u q nm z => by subst z; rw [q] at mu; exact nm mu
  refine ⟨fun b u q n _ _ => k b u (hb b n) q, fun b u q n _ _ => ⟨u.slots, k b u (hb b n) q⟩, fun b u q n _ => by rw [upd_ne (hx b n)]; exact n, fun b u q _ => ?_,
    fun b xs q => by rw [upd_ne (hm b _ q fun z => z)]; exact q, fun b u xs q => by rw [upd_ne (hm b _ q fun z => z)]; exact q, fun b ps q => ⟨#[], by rw [upd_ne (hm b _ q fun z => z), q]; simp⟩⟩
  by_cases hbe : b = e
  · subst hbe; exact heo
  · exact ⟨u, k b u hbe q⟩
end
def trk (h : Heap) (H : Hp) : List Addr := (List.range h.objs.size).filter fun a => (H a).isSome
def hidT (h : Heap) (H : Hp) : Heap := PySem.W.hideAll h (trk h H)
theorem hidT_size (h : Heap) (H : Hp) : (hidT h H).objs.size = h.objs.size := PySem.W.hideAll_size _ _
theorem hidT_get {h : Heap} {H : Hp} {b : Addr} {o : Obj} (e : h.get? b = some o) (n : H b = none) : (hidT h H).get? b = some o :=
  PySem.W.hideAll_get _ e fun hm => by
    have q : (H b).isSome = true := (List.mem_filter.mp hm).2
    rw [n] at q; simp at q
theorem of_hidT {h : Heap} {H : Hp} {b : Addr} {o : Obj} (e : (hidT h H).get? b = some o) : h.get? b = some o ∧ H b = none := by
  have e' : h.get? b = some o := PySem.W.of_hideAll (trk h H) e
  refine ⟨e', ?_⟩
  cases q : H b with
  | none => rfl
  | some x =>
    have hm : b ∈ trk h H := List.mem_filter.mpr ⟨List.mem_range.mpr (Heap.lt_size e'), by simp [q]⟩
    have z : (hidT h H).get? b = none := PySem.W.hideAll_none (trk h H) hm
    rw [z] at e; cases e
def allNews (g h : Heap) (L : Addr) : List (Addr × Obj) := (List.range h.objs.size).filterMap fun a => if a = L ∨ (g.get? a).isSome = true then none else (h.get? a).map fun o => (a, o)
def rest (g h : Heap) (L d : Addr) : List (Addr × Obj) := (allNews g h L).filter fun p => decide (p.1 ≠ d)
end L2
namespace L2
open PySem PySem.Spec PyProof.Rows
structure Mod (K : PySem.W.Frag) (mg : Str → Option Value) (base : Heap) : Prop where
  kin : K.In base
  glob : base.Ns mainGlobals mg
  blt : ∃ mb, base.Ns builtinsNs mb ∧ ∀ x : Str, x ≠ "__name__" → mb x = bootBuiltins x
  nolimit : base.NoLimit
structure Cx where
  prog : Program
  w : World
  K : PySem.W.Frag
  mg : Str → Option Value
  base : Heap
  A : Around
  N : List Str
  s₀ : Shared
  H₀ : Hp
  env : Env
  outer : List Env
  stack : List Env
  ex : List Addr
  fn : Str → Bool
  calm : Bool
  pn : List (Addr × Obj)
  xe : Value → Shared → Prop
def frs (l : List Env) : List Addr := l.filterMap (·.frame)
abbrev Cx.fs (X : Cx) : List Addr := frs X.outer
def Vis (sc : Scope) (x : Str) : Prop := sc.names.lookup x = some .local ∨ sc.names.lookup x = some .cell ∨ sc.names.lookup x = some .free
def Loc (sc : Scope) (x : Str) : Prop := sc.names.lookup x = some .local ∨ sc.names.lookup x = some .cell
def Look (env : Env) (h : Heap) (m : Str → Option Value) (x : Str) (u : Value) : Prop :=
  (env.kindOf x = some .local ∧ m x = some u) ∨ ((env.kindOf x = some .cell ∨ env.kindOf x = some .free) ∧ ∃ c, env.cells.lookup x = some c ∧ h.IsCell c (some u))
structure Cx.Ok (X : Cx) : Prop where
  mod : Mod X.K X.mg X.base
  kind : X.env.scope.kind = .function
  glob : X.env.globals = mainGlobals
  blt : X.env.builtins = builtinsNs
  above : X.s₀.heap.objs.size ≤ X.env.locals
  inj : ∀ x y c, X.env.cells.lookup x = some c → X.env.cells.lookup y = some c → x = y
  has : ∀ x, (X.env.kindOf x = some .cell ∨ X.env.kindOf x = some .free) → ∃ c, X.env.cells.lookup x = some c
  cab : ∀ x c, X.fn x = true → X.env.cells.lookup x = some c → X.s₀.heap.objs.size ≤ c
  hd : X.calm = true → X.A.handled = none
  frames : X.A.frames = some X.stack
  stk : X.stack = X.outer ∨ (X.stack = X.env :: X.outer ∧ X.env.frame = some X.env.locals)
  exf : ∀ b ∈ X.ex, b ≠ X.env.locals ∧ ∀ x c, X.env.cells.lookup x = some c → c ≠ b
  bs : ∀ b o, X.base.get? b = some o → X.s₀.heap.get? b = some o ∧ X.H₀ b = none
  bsz : X.base.objs.size ≤ X.s₀.heap.objs.size
  noex : ∀ b o, X.base.get? b = some o → b ∉ X.ex
  exfs : ∀ b ∈ X.ex, b ∉ X.fs
  funs : X.s₀.heap.FunFrames X.base X.outer
  frf : ∀ b ∈ X.fs, X.H₀ b = none
structure Inv (X : Cx) (pins : List (Addr × Obj)) (σ : List (Option V)) (H : Hp) (s : Shared) : Prop where
  ok : X.Ok
  os : s.os = X.s₀.os
  bare : AllBare s.gens
  base : Un X.fs X.ex X.H₀ H X.s₀.heap s.heap
  loc : ∃ m, s.heap.Ns X.env.locals m ∧ ∀ (i : Nat) (x : Str) (v : V), X.N[i]? = some x → σ[i]? = some (some v) → Vis X.env.scope x → ∃ u, RelV v u ∧ Look X.env s.heap m x u
  cell : ∀ x c, X.env.cells.lookup x = some c → ∃ v, s.heap.IsCell c v
  free : H X.env.locals = none
  freeC : ∀ x c, X.env.cells.lookup x = some c → H c = none
  pin : ∀ p ∈ X.pn ++ pins, s.heap.get? p.1 = some p.2 ∧ H p.1 = none ∧ p.1 ≠ X.env.locals ∧ p.1 ∉ X.fs ∧ ∀ v, p.2.data ≠ .cell v
  hok : HOk X.prog X.w H s.heap
  len : σ.length = X.N.length
section
variable {X : Cx} {pins : List (Addr × Obj)} {σ : List (Option V)} {H H' : Hp} {s : Shared} {h' : Heap}
theorem Cx.Ok.nofr (ok : X.Ok) {b : Addr} {o : Obj} (e : X.base.get? b = some o) : b ∉ X.fs := fun hb => by
  have := (ok.funs.mem hb).1
  rw [e] at this; cases this
theorem Inv.bs (I : Inv X pins σ H s) : ∀ b o, X.base.get? b = some o → s.heap.get? b = some o ∧ H b = none := fun b o e =>
  ⟨I.base.keep b o (I.ok.bs b o e).1 (I.ok.bs b o e).2 (I.ok.nofr e) (I.ok.noex b o e), I.base.free b o (I.ok.bs b o e).1 (I.ok.bs b o e).2 (I.ok.noex b o e)⟩
theorem Inv.bk (I : Inv X pins σ H s) : ∀ b o, X.base.get? b = some o → s.heap.get? b = some o := fun b o e => (I.bs b o e).1
theorem Inv.mod (I : Inv X pins σ H s) : Mod X.K X.mg X.base := I.ok.mod
theorem Inv.kIn (I : Inv X pins σ H s) : X.K.In s.heap := I.ok.mod.kin.keeps I.bk
theorem Inv.lt (I : Inv X pins σ H s) : X.env.locals < s.heap.objs.size := let ⟨_, hn, _⟩ := I.loc; hn.lt
theorem Inv.sz (I : Inv X pins σ H s) : X.s₀.heap.objs.size ≤ s.heap.objs.size := Nat.le_trans I.ok.above (Nat.le_of_lt I.lt)
theorem Inv.nofs (I : Inv X pins σ H s) {a : Addr} (h : s.heap.objs.size ≤ a) : a ∉ X.fs := fun hb => by
  obtain ⟨_, o, ho, _⟩ := I.ok.funs.mem hb
  exact absurd (Nat.lt_of_lt_of_le (Heap.lt_size ho) (Nat.le_trans I.sz h)) (Nat.lt_irrefl _)
theorem Inv.cne (I : Inv X pins σ H s) : ∀ x c, X.env.cells.lookup x = some c → c ≠ X.env.locals := fun x c e z => by
  obtain ⟨v, o, ho, hd⟩ := I.cell x c e
  obtain ⟨m, ⟨o', es, ep, ho', hd', _⟩, _⟩ := I.loc
  rw [z, ho'] at ho; cases ho; rw [hd'] at hd; cases hd
theorem Inv.funs (I : Inv X pins σ H s) : s.heap.FunFrames X.base X.outer := by
  have all : ∀ (l : List Env), (∀ b ∈ frs l, b ∈ X.fs) → X.s₀.heap.FunFrames X.base l → s.heap.FunFrames X.base l := by
    intro l
    induction l with
    | nil => intro _ _; trivial
    | cons env r ih =>
      intro hs hl
      obtain ⟨hk, ⟨L, o, hf, hn, ho, hd⟩, hr⟩ := hl
      have hL : L ∈ X.fs := hs L (by unfold frs; rw [List.filterMap_cons, hf]; exact List.mem_cons_self)
      obtain ⟨sl, e⟩ := I.base.slot L o ho (I.ok.frf L hL) hL fun z => I.ok.exfs L z hL
      exact ⟨hk, ⟨L, _, hf, hn, e, hd⟩, ih (fun b hb => hs b (by unfold frs; rw [List.filterMap_cons, hf]; exact List.mem_cons_of_mem _ hb)) hr⟩
  exact all X.outer (fun _ hb => hb) I.ok.funs
theorem Inv.stack (I : Inv X pins σ H s) : s.heap.FunFrames X.base X.stack := by
  rcases I.ok.stk with e | ⟨e, hf⟩
  · rw [e]; exact I.funs
  · rw [e]
    obtain ⟨m, hn, _⟩ := I.loc
    refine .cons (by rw [I.ok.kind]; decide) hf hn ?_ I.funs
    exact Heap.get?_none_of_le (Nat.le_trans I.ok.bsz I.ok.above)
theorem Inv.stkSub (I : Inv X pins σ H s) : ∀ b ∈ frs X.stack, b ∈ X.env.locals :: X.fs := fun b hb => by
  rcases I.ok.stk with e | ⟨e, hf⟩
  · rw [e] at hb; exact List.mem_cons_of_mem _ hb
  · rw [e] at hb
    unfold frs at hb
    rw [List.filterMap_cons, hf] at hb
    exact hb
theorem Inv.stkFree (I : Inv X pins σ H s) : ∀ b ∈ frs X.stack, H b = none := fun b hb => by
  rcases List.mem_cons.mp (I.stkSub b hb) with e | hb
  · rw [e]; exact I.free
  · obtain ⟨_, o, ho, _⟩ := I.ok.funs.mem hb
    exact I.base.free b o ho (I.ok.frf b hb) fun z => I.ok.exfs b z hb
theorem Inv.step {g' : Array GenState} {t' : Nat} {d' : Drawn} {ch : List Addr} (I : Inv X pins σ H s)
    (hch : ∀ b ∈ ch, (b ∈ X.ex ∨ X.s₀.heap.objs.size ≤ b) ∧ b ≠ X.env.locals ∧ (∀ x c, X.env.cells.lookup x = some c → c ≠ b) ∧ ∀ p ∈ X.pn ++ pins, p.1 ≠ b)
    (keep : ∀ b o, b ≠ X.env.locals → b ∉ X.fs → b ∉ ch → s.heap.get? b = some o → H b = none → h'.get? b = some o)
    (slot : ∀ b o, b ≠ X.env.locals → b ∈ X.fs → b ∉ ch → s.heap.get? b = some o → H b = none → ∃ sl, h'.get? b = some { o with slots := sl }) (free : ∀ b o, b ∉ ch → s.heap.get? b = some o → H b = none → H' b = none)
    (there : ∀ b o, b ∉ ch → s.heap.get? b = some o → ∃ o', h'.get? b = some o')
    (tups : ∀ b xs, H b = some (.tup xs) → H' b = some (.tup xs)) (frzs : ∀ b o u, H b = some (.frz o u) → H' b = some (.frz o u)) (tbls : ∀ b ps, H b = some (.tbl ps) → ∃ more, H' b = some (.tbl (ps ++ more)))
    (ns : ∀ m, s.heap.Ns X.env.locals m → h'.Ns X.env.locals m) (hok : HOk X.prog X.w H' h') (hg : AllBare g') :
    Inv X pins σ H' { s with heap := h', gens := g', drawn := d', toks := t' } := by
  have neL : ∀ b o, X.s₀.heap.get? b = some o → b ≠ X.env.locals := fun b o e => Nat.ne_of_lt (Nat.lt_of_lt_of_le (Heap.lt_size e) I.ok.above)
  have neC : ∀ b o, X.s₀.heap.get? b = some o → b ∉ X.ex → b ∉ ch := fun b o e hx hb => by
    rcases (hch b hb).1 with z | z
    · exact hx z
    · exact absurd (Nat.lt_of_lt_of_le (Heap.lt_size e) z) (Nat.lt_irrefl _)
  have cellK : ∀ x c, X.env.cells.lookup x = some c → ∀ v, s.heap.IsCell c v → h'.IsCell c v := fun x c e v ⟨o, ho, hd⟩ => by
    have nch : c ∉ ch := fun z => (hch c z).2.2.1 x c e rfl
    by_cases hc : c ∈ X.fs
    · obtain ⟨sl, q⟩ := slot c o (I.cne x c e) hc nch ho (I.freeC x c e)
      exact ⟨_, q, hd⟩
    · exact ⟨o, keep c o (I.cne x c e) hc nch ho (I.freeC x c e), hd⟩
  refine ⟨I.ok, I.os, hg, ⟨fun b o e n hb hx => ?_, fun b o e n hb hx => ?_, fun b o e n hx => ?_, fun b o e hx => ?_, fun b xs e => tups b xs (I.base.tups b xs e), fun b o xs e => frzs b o xs (I.base.frzs b o xs e), fun b ps e => ?_⟩, ?_, fun x c e => ?_, ?_, fun x c e => ?_, fun p hp => ?_, hok, I.len⟩
  · exact keep b o (neL b o e) hb (neC b o e hx) (I.base.keep b o e n hb hx) (I.base.free b o e n hx)
  · obtain ⟨sl, e1⟩ := I.base.slot b o e n hb hx
    obtain ⟨sl', e2⟩ := slot b _ (neL b o e) hb (neC b o e hx) e1 (I.base.free b o e n hx)
    exact ⟨sl', e2⟩
  · obtain ⟨o', e1⟩ := I.base.there b o e hx
    exact free b o' (neC b o e hx) e1 (I.base.free b o e n hx)
  · obtain ⟨o', e1⟩ := I.base.there b o e hx
    exact there b o' (neC b o e hx) e1
  · obtain ⟨m1, e1⟩ := I.base.tbls b ps e
    obtain ⟨m2, e2⟩ := tbls b _ e1
    exact ⟨m1 ++ m2, by rw [e2, Array.append_assoc]⟩
  · obtain ⟨m, hn, hl⟩ := I.loc
    refine ⟨m, ns m hn, fun i x v e1 e2 e3 => ?_⟩
    obtain ⟨u, r, l⟩ := hl i x v e1 e2 e3
    refine ⟨u, r, ?_⟩
    rcases l with l | ⟨k, c, e, z⟩
    · exact .inl l
    · exact .inr ⟨k, c, e, cellK x c e _ z⟩
  · obtain ⟨v, z⟩ := I.cell x c e
    exact ⟨v, cellK x c e v z⟩
  · obtain ⟨m, ⟨o, _, _, ho, _⟩, _⟩ := I.loc
    exact free _ o (fun z => (hch _ z).2.1 rfl) ho I.free
  · obtain ⟨v, o, ho, hd⟩ := I.cell x c e
    exact free c o (fun z => (hch c z).2.2.1 x c e rfl) ho (I.freeC x c e)
  · obtain ⟨e, n, ne, nf, d⟩ := I.pin p hp
    have nch : p.1 ∉ ch := fun z => (hch p.1 z).2.2.2 p hp rfl
    exact ⟨keep p.1 p.2 ne nf nch e n, free p.1 p.2 nch e n, ne, nf, d⟩
theorem Inv.un {t' : Nat} (I : Inv X pins σ H s) (u : Un X.fs [] H H' s.heap h') (hok : HOk X.prog X.w H' h') : Inv X pins σ H' { s with heap := h', toks := t' } := by
  obtain ⟨m, ⟨o, es, ep, ho, r⟩, _⟩ := id I.loc
  obtain ⟨sl, hL⟩ := u.any ho I.free (by simp)
  exact I.step (g' := s.gens) (d' := s.drawn) (ch := []) (fun _ z => nomatch z) (fun b o _ hb _ e n => u.keep b o e n hb (by simp)) (fun b o _ hb _ e n => u.slot b o e n hb (by simp)) (fun b o _ e n => u.free b o e n (by simp)) (fun b o _ e => u.there b o e (by simp)) u.tups u.frzs u.tbls (fun m' hm => by
    obtain ⟨o', es', ep', ho', r'⟩ := hm
    rw [ho] at ho'; cases ho'
    exact ⟨_, es', ep', hL, r'⟩) hok I.bare
theorem Inv.call {g' : Array GenState} {t' : Nat} {d' : Drawn} {ch : List Addr} (I : Inv X pins σ H s) (u : Un (frs X.stack) ch H H' s.heap h') (hok : HOk X.prog X.w H' h') (hg : AllBare g')
    (hch : ∀ b ∈ ch, (b ∈ X.ex ∨ X.s₀.heap.objs.size ≤ b) ∧ b ≠ X.env.locals ∧ (∀ x c, X.env.cells.lookup x = some c → c ≠ b) ∧ ∀ p ∈ X.pn ++ pins, p.1 ≠ b) :
    Inv X pins σ H' { s with heap := h', gens := g', drawn := d', toks := t' } := by
  obtain ⟨m, ⟨o, es, ep, ho, r⟩, _⟩ := id I.loc
  obtain ⟨sl, hL⟩ := u.any ho I.free fun z => (hch _ z).2.1 rfl
  exact I.step (ch := ch) hch (fun b o hL hb hc e n => u.keep b o e n (fun z => (List.mem_cons.mp (I.stkSub b z)).elim hL hb) hc) (fun b o _ _ hc e n => u.any e n hc) (fun b o hc e n => u.free b o e n hc) (fun b o hc e => u.there b o e hc) u.tups u.frzs u.tbls (fun m' hm => by
    obtain ⟨o', es', ep', ho', r'⟩ := hm
    rw [ho] at ho'; cases ho'
    exact ⟨_, es', ep', hL, r'⟩) hok hg
theorem Inv.turned {t' : Nat} {it : Addr} (I : Inv X pins σ H s) (k : ∀ b o, b ≠ it → s.heap.get? b = some o → h'.get? b = some o) (hn : H it = none) (hL : it ≠ X.env.locals)
    (h1 : it ∈ X.ex ∨ X.s₀.heap.objs.size ≤ it) (h2 : ∀ x c, X.env.cells.lookup x = some c → c ≠ it) (h3 : ∀ p ∈ X.pn ++ pins, p.1 ≠ it) : Inv X pins σ H { s with heap := h', toks := t' } := by
  have nit : ∀ b u, H b = some u → b ≠ it := fun b u e z => by rw [z, hn] at e; cases e
  refine I.step (g' := s.gens) (d' := s.drawn) (ch := [it]) (fun b hb => ?_) (fun b o _ _ hc e _ => k b o (fun z => hc (by simp [z])) e) (fun b o _ _ hc e _ => ⟨o.slots, k b o (fun z => hc (by simp [z])) e⟩) (fun _ _ _ _ n => n)
    (fun b o hc e => ⟨o, k b o (fun z => hc (by simp [z])) e⟩) (fun _ _ e => e) (fun _ _ _ e => e) (fun b ps e => ⟨#[], by rw [e]; simp⟩) (fun m hm => ?_) (fun b u e => ?_) I.bare
  · have e : b = it := by simpa using hb
    subst e
    exact ⟨h1, hL, h2, h3⟩
  · obtain ⟨o, es, ep, ho, r⟩ := hm
    exact ⟨o, es, ep, k _ o (Ne.symm hL) ho, r⟩
  · refine (I.hok b u e).stay (fun c v hc q => k c v ?_ q) (fun _ q => q) fun _ _ q => q
    rcases hc with z | z
    · rw [z]; exact nit b u e
    · exact nit c _ z
theorem Inv.tok (I : Inv X pins σ H s) (t : Nat) : Inv X pins σ H { s with toks := t } := I.un (h' := s.heap) (t' := t) Un.refl I.hok
theorem Inv.kept {t' : Nat} (I : Inv X pins σ H s) (k : ∀ b u, s.heap.get? b = some u → h'.get? b = some u) : Inv X pins σ H { s with heap := h', toks := t' } := I.un (Un.kept k) (I.hok.kept k)
theorem Inv.laid {a : Addr} {o : HO} {t' : Nat} (I : Inv X pins σ H s) (k : ∀ b u, s.heap.get? b = some u → h'.get? b = some u) (hp : s.heap.objs.size ≤ a) (new : ObjOk X.prog X.w (upd H a o) h' a o) :
    Inv X pins σ (upd H a o) { s with heap := h', toks := t' } := I.un (Un.laid k hp (I.hok.fresh hp)) (I.hok.laid k hp new)
theorem Inv.write {x e : Addr} {o : HO} {t' : Nat} (I : Inv X pins σ H s) (mu : Mut (H x)) (he : e = x ∨ H e = some (.own x)) (k : ∀ b u, b ≠ e → s.heap.get? b = some u → h'.get? b = some u) (heo : ∃ u, h'.get? e = some u)
    (new : ObjOk X.prog X.w (upd H x o) h' x o) : Inv X pins σ (upd H x o) { s with heap := h', toks := t' } := I.un (Un.write mu he k heo) (I.hok.write mu he k heo new)
theorem Inv.pins_of {pins' : List (Addr × Obj)} (I : Inv X pins σ H s) (h : ∀ p ∈ pins', s.heap.get? p.1 = some p.2 ∧ H p.1 = none ∧ p.1 ≠ X.env.locals ∧ p.1 ∉ X.fs ∧ ∀ v, p.2.data ≠ .cell v) : Inv X pins' σ H s :=
  ⟨I.ok, I.os, I.bare, I.base, I.loc, I.cell, I.free, I.freeC, fun p hp => (List.mem_append.mp hp).elim (fun z => I.pin p (List.mem_append_left _ z)) (h p), I.hok, I.len⟩
theorem nodup_ix {N : List Str} (hN : N.Nodup) {i j : Nat} {x : Str} (a : N[i]? = some x) (b : N[j]? = some x) : i = j := by
  obtain ⟨h1, e1⟩ := List.getElem?_eq_some_iff.mp a
  obtain ⟨h2, e2⟩ := List.getElem?_eq_some_iff.mp b
  exact (List.getElem_inj hN).mp (e1.trans e2.symm)
theorem store_ok2 {M : Model} {A : Around} {E : Value → Shared → Prop} {i : Nat} {x : Str} {v : V} {u : Value} {Q : Unit → Shared → Prop} (I : Inv X pins σ H s) (hN : X.N.Nodup) (hi : X.N[i]? = some x) (hx : Loc X.env.scope x) (r : RelV v u)
    (h : ∀ s', Inv X pins (σ.set i (some v)) H s' → (∃ a, Heap.SameBut a s.heap s'.heap ∧ (a = X.env.locals ∨ X.env.cells.lookup x = some a)) → Q () s') (hf : X.fn x = true ∨ X.env.scope.names.lookup x = some .local := by first | exact .inl rfl | exact .inr rfl | assumption) : wpAny M A (storeName X.env x u) Q E s := by
  obtain ⟨m, hn, hl⟩ := id I.loc
  have hcls : (X.env.scope.kind == .class || (X.env.scope.kind == .module && X.env.locals != X.env.globals)) = false := by rw [I.ok.kind]; rfl
  have hiσ : i < σ.length := by rw [I.len]; exact (List.getElem?_eq_some_iff.mp hi).1
  have cne := I.cne
  have tracked : ∀ {a : Addr} {h' : Heap}, (∃ o, s.heap.get? a = some o ∧ H a = none) → Heap.SameBut a s.heap h' → HOk X.prog X.w H h' := fun {a h'} ha hs b ob e => by
    obtain ⟨_, _, hfree⟩ := ha
    refine (I.hok b ob e).stay (fun c w' hc q => (hs.2 c ?_).trans q) (fun _ q => q) fun _ _ q => q
    rintro rfl
    rcases hc with rfl | hc
    · rw [hfree] at e; cases e
    · rw [hfree] at hc; cases hc
  rcases hx with hk | hk
  · refine wpAny_storeName_local hk hn (fun h' hn' hs => ?_) hcls
    obtain ⟨oL, _, _, hoL, _⟩ := id hn
    refine h _ ⟨I.ok, I.os, I.bare, ⟨fun b o e n hb hx => ?_, fun b o e n hb hx => ?_, I.base.free, fun b o e hx => ?_, I.base.tups, I.base.frzs, I.base.tbls⟩, ⟨_, hn', fun j y v' e1 e2 e3 => ?_⟩, fun y c e => ?_, I.free, I.freeC, fun p hp => ?_, tracked ⟨oL, hoL, I.free⟩ hs, by simpa using I.len⟩ ⟨_, hs, .inl rfl⟩
    · exact (hs.2 b (Nat.ne_of_lt (Nat.lt_of_lt_of_le (Heap.lt_size e) I.ok.above))).trans (I.base.keep b o e n hb hx)
    · obtain ⟨sl, e1⟩ := I.base.slot b o e n hb hx
      exact ⟨sl, (hs.2 b (Nat.ne_of_lt (Nat.lt_of_lt_of_le (Heap.lt_size e) I.ok.above))).trans e1⟩
    · obtain ⟨o', e1⟩ := I.base.there b o e hx
      exact ⟨o', (hs.2 b (Nat.ne_of_lt (Nat.lt_of_lt_of_le (Heap.lt_size e) I.ok.above))).trans e1⟩
    · by_cases hj : j = i
      · subst hj
        rw [hi] at e1; cases e1
        rw [List.getElem?_set_self hiσ] at e2
        cases e2
        exact ⟨u, r, .inl ⟨hk, by simp⟩⟩
      · rw [List.getElem?_set_ne (Ne.symm hj)] at e2
        obtain ⟨u', r', q⟩ := hl j y v' e1 e2 e3
        refine ⟨u', r', ?_⟩
        rcases q with ⟨k, e⟩ | ⟨k, c, e, z⟩
        · refine .inl ⟨k, ?_⟩
          have : y ≠ x := fun e => hj (nodup_ix hN e1 (e ▸ hi))
          simp [this, e]
        · exact .inr ⟨k, c, e, z.sameBut hs (cne y c e)⟩
    · obtain ⟨w', z⟩ := I.cell y c e
      exact ⟨w', z.sameBut hs (cne y c e)⟩
    · obtain ⟨e, n, ne, nf, d⟩ := I.pin p hp
      exact ⟨(hs.2 p.1 ne).trans e, n, ne, nf, d⟩
  · have hfn : X.fn x = true := by
      rcases hf with z | z
      · exact z
      · rw [z] at hk; cases hk
    obtain ⟨c, hc⟩ := I.ok.has x (.inl hk)
    obtain ⟨w', z⟩ := I.cell x c hc
    refine wpAny_storeName_cell I.ok.kind hk hc z (fun h' hc' hs => ?_)
    obtain ⟨oc, hoc, hocd⟩ := id z
    refine h { s with heap := h' } ⟨I.ok, I.os, I.bare, ⟨fun b o e n hb hx => ?_, fun b o e n hb hx => ?_, I.base.free, fun b o e hx => ?_, I.base.tups, I.base.frzs, I.base.tbls⟩, ⟨m, hn.sameBut hs (Ne.symm (cne x c hc)), fun j y v' e1 e2 e3 => ?_⟩, fun y c' e => ?_, I.free, I.freeC, fun p hp => ?_, tracked ⟨oc, hoc, I.freeC x c hc⟩ hs, by simpa using I.len⟩ ⟨c, hs, .inr hc⟩
    · exact (hs.2 b (Nat.ne_of_lt (Nat.lt_of_lt_of_le (Heap.lt_size e) (I.ok.cab x c hfn hc)))).trans (I.base.keep b o e n hb hx)
    · obtain ⟨sl, e1⟩ := I.base.slot b o e n hb hx
      exact ⟨sl, (hs.2 b (Nat.ne_of_lt (Nat.lt_of_lt_of_le (Heap.lt_size e) (I.ok.cab x c hfn hc)))).trans e1⟩
    · obtain ⟨o', e1⟩ := I.base.there b o e hx
      exact ⟨o', (hs.2 b (Nat.ne_of_lt (Nat.lt_of_lt_of_le (Heap.lt_size e) (I.ok.cab x c hfn hc)))).trans e1⟩
    · by_cases hj : j = i
      · subst hj
        rw [hi] at e1; cases e1
        rw [List.getElem?_set_self hiσ] at e2
        cases e2
        exact ⟨u, r, .inr ⟨.inl hk, c, hc, hc'⟩⟩
      · rw [List.getElem?_set_ne (Ne.symm hj)] at e2
        obtain ⟨u', r', q⟩ := hl j y v' e1 e2 e3
        refine ⟨u', r', ?_⟩
        rcases q with q | ⟨k, c', e, z'⟩
        · exact .inl q
        · refine .inr ⟨k, c', e, z'.sameBut hs ?_⟩
          rintro rfl
          exact hj (nodup_ix hN e1 (I.ok.inj _ _ _ e hc ▸ hi))
    · by_cases hcc : c' = c
      · subst hcc; exact ⟨_, hc'⟩
      · obtain ⟨w2, z2⟩ := I.cell y c' e
        exact ⟨w2, z2.sameBut hs hcc⟩
    · obtain ⟨e, n, ne, nf, d⟩ := I.pin p hp
      refine ⟨(hs.2 p.1 ?_).trans e, n, ne, nf, d⟩
      intro q
      rw [q, hoc] at e
      have q' : oc = p.2 := Option.some.inj e
      exact d w' (by rw [← q']; exact hocd)
theorem store_ok {M : Model} {A : Around} {E : Value → Shared → Prop} {i : Nat} {x : Str} {v : V} {u : Value} {Q : Unit → Shared → Prop} (I : Inv X pins σ H s) (hN : X.N.Nodup) (hi : X.N[i]? = some x) (hx : Loc X.env.scope x) (r : RelV v u)
    (h : ∀ s', Inv X pins (σ.set i (some v)) H s' → Q () s') (hf : X.fn x = true ∨ X.env.scope.names.lookup x = some .local := by first | exact .inl rfl | exact .inr rfl | assumption) : wpAny M A (storeName X.env x u) Q E s :=
  store_ok2 I hN hi hx r (fun s' I' _ => h s' I') hf
theorem Inv.call' {s' : Shared} {ch : List Addr} (I : Inv X pins σ H s) (ho : s'.os = s.os) (u : Un (frs X.stack) ch H H' s.heap s'.heap) (hok : HOk X.prog X.w H' s'.heap) (hg : AllBare s'.gens)
    (hch : ∀ b ∈ ch, (b ∈ X.ex ∨ X.s₀.heap.objs.size ≤ b) ∧ b ≠ X.env.locals ∧ (∀ x c, X.env.cells.lookup x = some c → c ≠ b) ∧ ∀ p ∈ X.pn ++ pins, p.1 ≠ b) : Inv X pins σ H' s' := by
  obtain ⟨h', g', d', t', o'⟩ := s'
  have e : o' = s.os := ho
  subst e
  exact I.call (g' := g') (t' := t') (d' := d') u hok hg hch
end
abbrev XK := Value → Option Addr → Hp → Prop
abbrev St := List (Option V)
abbrev VK := V → Hp → Prop
abbrev TE := St → Hp → VK → Prop
abbrev TT := St → Hp → (Bool → Hp → Prop) → Prop
abbrev TA := St → Hp → (List V → Hp → Prop) → Prop
structure Ends where
  nx : St → Hp → Prop
  rt : VK
  bk : St → Hp → Prop := fun _ _ => False
  ct : St → Hp → Prop := fun _ _ => False
abbrev TS := Ends → St → Hp → Prop
def EP (X : Cx) (pins : List (Addr × Obj)) (σ : St) (Q : VK) (u : Value) (s' : Shared) : Prop := ∃ v H', Inv X pins σ H' s' ∧ RelV v u ∧ Q v H'
def TP (X : Cx) (pins : List (Addr × Obj)) (σ : St) (Q : Bool → Hp → Prop) (b : Bool) (s' : Shared) : Prop := ∃ H', Inv X pins σ H' s' ∧ Q b H'
def AP (X : Cx) (pins : List (Addr × Obj)) (σ : St) (Q : List V → Hp → Prop) (us : List Value) (s' : Shared) : Prop := ∃ vs H', Inv X pins σ H' s' ∧ Vals vs us ∧ Q vs H'
def SP (X : Cx) (pins : List (Addr × Obj)) (D : Ends) (f : Flow) (s' : Shared) : Prop :=
  match f with
  | .next => ∃ σ' H', Inv X pins σ' H' s' ∧ D.nx σ' H'
  | .brk => ∃ σ' H', Inv X pins σ' H' s' ∧ D.bk σ' H'
  | .cont => ∃ σ' H', Inv X pins σ' H' s' ∧ D.ct σ' H'
  | .ret u => ∃ v σ' H', Inv X pins σ' H' s' ∧ RelV v u ∧ D.rt v H'
def PE (X : Cx) (e : Expr) (t : TE) : Prop :=
  ∀ (pins : List (Addr × Obj)) (s : Shared) (σ : St) (H : Hp) (Q : VK), Inv X pins σ H s → t σ H Q → wpAny (model X.prog X.w) X.A (eval e X.env) (EP X pins σ Q) X.xe s
def PT (X : Cx) (e : Expr) (t : TT) : Prop :=
  ∀ (pins : List (Addr × Obj)) (s : Shared) (σ : St) (H : Hp) (Q : Bool → Hp → Prop), Inv X pins σ H s → t σ H Q → wpAny (model X.prog X.w) X.A (isTrue e X.env (eval e X.env)) (TP X pins σ Q) X.xe s
def PW (X : Cx) (e : Expr) (t : TT) : Prop :=
  ∀ (whole : Sem Value) (pins : List (Addr × Obj)) (s : Shared) (σ : St) (H : Hp) (Q : Bool → Hp → Prop), Inv X pins σ H s → t σ H Q → wpAny (model X.prog X.w) X.A (isTrue e X.env whole) (TP X pins σ Q) X.xe s
theorem PW.pt {X : Cx} {e : Expr} {t : TT} (h : PW X e t) : PT X e t := h _
def PA (X : Cx) (es : List Expr) (t : TA) : Prop :=
  ∀ (pos : Pos) (pins : List (Addr × Obj)) (s : Shared) (σ : St) (H : Hp) (Q : List V → Hp → Prop), Inv X pins σ H s → t σ H Q → wpAny (model X.prog X.w) X.A (spliced (backTo pos (starEach es X.env))) (AP X pins σ Q) X.xe s
def PS (X : Cx) (st : Stmt) (t : TS) : Prop :=
  ∀ (pins : List (Addr × Obj)) (s : Shared) (σ : St) (H : Hp) (D : Ends), Inv X pins σ H s → t D σ H → wpAny (model X.prog X.w) X.A (exec st X.env) (SP X pins D) X.xe s
def PSs (X : Cx) (st : List Stmt) (t : TS) : Prop :=
  ∀ (pins : List (Addr × Obj)) (s : Shared) (σ : St) (H : Hp) (D : Ends), Inv X pins σ H s → t D σ H → wpAny (model X.prog X.w) X.A (execs st X.env) (SP X pins D) X.xe s
theorem thn {α : Type} {t : Sem α} {Q Q' : α → Shared → Prop} {M : Model} {A : Around} {E : Value → Shared → Prop} {s : Shared} (h : wpAny M A t Q E s) (hQ : ∀ a s, Q a s → Q' a s) : wpAny M A t Q' E s := wpAny_mono h hQ fun _ _ x => x
end L2
namespace L2
open PySem PySem.Spec PyProof.Rows
section
variable {X : Cx}
def tVar (i : Nat) : TE := fun σ H Q => ∃ v, σ[i]? = some (some v) ∧ Q v H
def tC (v : V) : TE := fun _ H Q => Q v H
theorem pe_var {i : Nat} {x : Str} {pos : Pos} (hN : X.N[i]? = some x) (hv : Vis X.env.scope x) (hd : (x == ("__debug__" : Str)) = false := by decide) (hcd : (x == ("__classdict__" : Str)) = false := by decide) : PE X (.Name x pos) (tVar i) := by
  intro pins s σ H Q I h
  obtain ⟨v, e, h⟩ := h
  obtain ⟨m, hn, hl⟩ := I.loc
  obtain ⟨u, r, l⟩ := hl i x v hN e hv
  have fin : EP X pins σ Q u s := ⟨v, H, I, r, h⟩
  rcases l with ⟨hk, hm⟩ | ⟨hk, c, hc, hcell⟩
  · exact wpAny_Name (wpAny_loadName_local I.ok.kind hk hn hm fin) hd
  · rcases hk with hk | hk
    · exact wpAny_Name (wpAny_loadName_cell I.ok.kind hk hc hcell fin) hd
    · exact wpAny_Name (wpAny_loadName_free I.ok.kind hk hc hcell fin hcd) hd
theorem pe_int {i j pos} : PE X (.Constant (.int i) j pos) (tC (.int i)) := fun _ _ _ H _ I h => wpAny_Constant_int ⟨.int i, H, I.tok _, ⟨_, rfl⟩, h⟩
theorem pe_bl {b j pos} : PE X (.Constant (.bool b) j pos) (tC (.bl b)) := fun _ _ _ H _ I h => Constant_bool ⟨.bl b, H, I, rfl, h⟩
theorem pe_non {j pos} : PE X (.Constant .none j pos) (tC .non) := fun _ _ _ H _ I h => Constant_none ⟨.non, H, I, rfl, h⟩
theorem pe_str {x j pos} : PE X (.Constant (.str x) j pos) (tC (.str x)) := fun _ _ _ H _ I h => Calls.Constant_str ⟨.str x, H, I.tok _, ⟨_, rfl⟩, h⟩
def Gl (X : Cx) (x : Str) : Prop := X.env.kindOf x = some .globalImplicit
theorem ld_glob {E : Value → Shared → Prop} {pins : List (Addr × Obj)} {s : Shared} {σ : St} {H : Hp} {x : Str} {u : Value} {pos : Pos} {Q : Value → Shared → Prop} (I : Inv X pins σ H s) (hg : Gl X x) (hm : X.mg x = some u) (h : Q u s)
    (hd : (x == ("__debug__" : Str)) = false := by decide) : wpAny (model X.prog X.w) X.A (eval (.Name x pos) X.env) Q E s :=
  Calls.Name_function_global I.ok.kind hg (Calls.loadGlobal_global (by rw [I.ok.glob]; exact I.mod.glob.keeps I.bk) hm h) hd
theorem ld_blt {E : Value → Shared → Prop} {pins : List (Addr × Obj)} {s : Shared} {σ : St} {H : Hp} {x : Str} {u : Value} {pos : Pos} {Q : Value → Shared → Prop} (I : Inv X pins σ H s) (hg : Gl X x) (hm : X.mg x = none) (hv : bootBuiltins x = some u) (h : Q u s)
    (hn : x ≠ "__name__" := by decide) (hd : (x == ("__debug__" : Str)) = false := by decide) : wpAny (model X.prog X.w) X.A (eval (.Name x pos) X.env) Q E s := by
  obtain ⟨mb, h1, h2⟩ := I.mod.blt
  exact Calls.Name_function_global I.ok.kind hg (Calls.loadGlobal_builtin (by rw [I.ok.glob]; exact I.mod.glob.keeps I.bk) hm (by rw [I.ok.blt]; exact h1.keeps I.bk) ((h2 x hn).trans hv) h) hd
theorem pe_glob {x : Str} {v : V} {u : Value} {pos : Pos} (hg : Gl X x) (hm : X.mg x = some u) (r : RelV v u) (hd : (x == ("__debug__" : Str)) = false := by decide) : PE X (.Name x pos) (tC v) :=
  fun _ _ _ H _ I h => ld_glob I hg hm ⟨v, H, I, r, h⟩ hd
theorem pe_bltn {x : Str} {v : V} {u : Value} {pos : Pos} (hg : Gl X x) (hm : X.mg x = none) (hv : bootBuiltins x = some u) (r : RelV v u) (hn : x ≠ "__name__" := by decide) (hd : (x == ("__debug__" : Str)) = false := by decide) : PE X (.Name x pos) (tC v) :=
  fun _ _ _ H _ I h => ld_blt I hg hm hv ⟨v, H, I, r, h⟩ hn hd
def t2I (ta tb : TE) (k : Int → Int → Hp → Prop) : St → Hp → Prop := fun σ H => ta σ H fun x H1 => tb σ H1 fun y H2 => ∃ i j, x = .int i ∧ y = .int j ∧ k i j H2
def tAdd (ta tb : TE) : TE := fun σ H Q => t2I ta tb (fun i j H2 => Q (.int (i + j)) H2) σ H
variable {a b : Expr} {ta tb : TE} {pos : Pos}
def PC (X : Cx) (op : CmpOp) (a b : Expr) (t : TE) : Prop :=
  ∀ (pins : List (Addr × Obj)) (s : Shared) (σ : St) (H : Hp) (Q : VK), Inv X pins σ H s → t σ H Q →
    wpAny (model X.prog X.w) X.A (eval a X.env) (fun v s₁ => wpAny (model X.prog X.w) X.A (eval b X.env) (fun u s₂ => wpAny (model X.prog X.w) X.A (compareOp op v u) (EP X pins σ Q) X.xe s₂) X.xe s₁) X.xe s
theorem nobehind (b : Expr) {op : CmpOp} (h : op ≠ .In) (h2 : op ≠ .NotIn) : behindInMarks op b = false := by
  have e1 : (op == CmpOp.In) = false := by cases op <;> first | rfl | exact absurd rfl h
  have e2 : (op == CmpOp.NotIn) = false := by cases op <;> first | rfl | exact absurd rfl h2
  cases b <;> simp [behindInMarks, e1, e2]
def tIsN (ta : TE) : TE := fun σ H Q => ta σ H fun x H1 => Q (.bl (decide (x = .non))) H1
def tNotN (ta : TE) : TE := fun σ H Q => ta σ H fun x H1 => Q (.bl (!decide (x = .non))) H1
theorem RelV.none_iff {x : V} {v : Value} (r : RelV x v) : (v == Value.none) = decide (x = .non) := by
  cases x with
  | non => cases r; rfl
  | bl _ => cases r; rfl
  | int _ => obtain ⟨t, rfl⟩ := r; rfl
  | str _ => obtain ⟨t, rfl⟩ := r; rfl
  | byt _ => obtain ⟨t, rfl⟩ := r; rfl
  | flt _ => obtain ⟨t, rfl⟩ := r; rfl
  | ref _ => cases r; rfl
  | ty _ => cases r; rfl
theorem pc_isN {j pos'} (ha : PE X a ta) : PC X .Is a (.Constant .none j pos') (tIsN ta) := by
  intro pins s σ H Q I h
  refine thn (ha pins s σ H _ I h) fun v s1 ⟨x, H1, I1, r1, q1⟩ => ?_
  exact Constant_none (is_none_gen ⟨.bl _, H1, I1, by rw [r1.none_iff]; rfl, q1⟩)
theorem pc_notN {j pos'} (ha : PE X a ta) : PC X .IsNot a (.Constant .none j pos') (tNotN ta) := by
  intro pins s σ H Q I h
  refine thn (ha pins s σ H _ I h) fun v s1 ⟨x, H1, I1, r1, q1⟩ => ?_
  exact Constant_none (isnot_none_gen ⟨.bl _, H1, I1, by rw [r1.none_iff]; rfl, q1⟩)
def tB (t : TE) : TT := fun σ H Q => t σ H fun x H1 => ∃ c, x = .bl c ∧ Q c H1
theorem pe_cmp {op : CmpOp} {t : TE} (h : PC X op a b t) (h1 : behindInMarks op b = false := by first | exact nobehind _ (by decide) (by decide) | rfl) : PE X (.Compare a [op] [b] pos) t := fun pins s σ H Q I hw => wpAny_Compare1 (h pins s σ H Q I hw) h1
theorem pt_cmp {op : CmpOp} {t : TE} (h : PC X op a b t) (h1 : behindInMarks op b = false := by first | exact nobehind _ (by decide) (by decide) | rfl) : PT X (.Compare a [op] [b] pos) (tB t) := by
  intro pins s σ H Q I hw
  refine wpAny_isTrue_Compare1 (thn (h pins s σ H _ I hw) fun v s1 h1 => thn h1 fun u s2 h2 => thn h2 fun c s3 ⟨x, H1, I1, r1, q1⟩ => ?_) h1
  obtain ⟨d, rfl, q⟩ := q1
  cases r1
  exact wpAny_truthy_bool ⟨H1, I1, q⟩
theorem pt_val {e : Expr} {t : TE} (h : PE X e t) (he : ∀ whole, isTrue e X.env whole = (do let v ← whole; standAt e.pos; holding [v] (truthy v)) := by intro _; rfl) : PT X e (tB t) := by
  intro pins s σ H Q I hw
  refine isTrue_plain (thn (h pins s σ H _ I hw) fun v s1 ⟨x, H1, I1, r1, q1⟩ => ?_) (he _)
  obtain ⟨d, rfl, q⟩ := q1
  cases r1
  exact wpAny_truthy_bool ⟨H1, I1, q⟩
variable {tA tB' : TT} {rest : List Expr}
def tAnd (t u : TT) : TT := fun σ H Q => t σ H fun c H1 => if c = true then u σ H1 Q else Q false H1
def tOr (t u : TT) : TT := fun σ H Q => t σ H fun c H1 => if c = true then Q true H1 else u σ H1 Q
def tNot (t : TT) : TT := fun σ H Q => t σ H fun c H1 => Q (!c) H1
theorem pw_and1 (ha : PT X a tA) : PW X (.BoolOp .And [a] pos) tA := by
  intro wh pins s σ H Q I h
  refine isTrue_and (thn (ha pins s σ H Q I h) fun c s1 e => ?_)
  cases c with
  | true => exact isTrue_and_nil e
  | false => exact e
theorem pw_or1 (ha : PT X a tA) : PW X (.BoolOp .Or [a] pos) tA := by
  intro wh pins s σ H Q I h
  refine isTrue_or (thn (ha pins s σ H Q I h) fun c s1 e => ?_)
  cases c with
  | false => exact isTrue_or_nil e
  | true => exact e
theorem pw_and (ha : PT X a tA) (hb : PW X (.BoolOp .And (b :: rest) pos) tB') : PW X (.BoolOp .And (a :: b :: rest) pos) (tAnd tA tB') := by
  intro wh pins s σ H Q I h
  refine isTrue_and (thn (ha pins s σ H _ I h) fun c s1 ⟨H1, I1, q1⟩ => ?_)
  cases c with
  | true => exact hb wh pins s1 σ H1 Q I1 q1
  | false => exact ⟨H1, I1, q1⟩
theorem pw_or (ha : PT X a tA) (hb : PW X (.BoolOp .Or (b :: rest) pos) tB') : PW X (.BoolOp .Or (a :: b :: rest) pos) (tOr tA tB') := by
  intro wh pins s σ H Q I h
  refine isTrue_or (thn (ha pins s σ H _ I h) fun c s1 ⟨H1, I1, q1⟩ => ?_)
  cases c with
  | true => exact ⟨H1, I1, q1⟩
  | false => exact hb wh pins s1 σ H1 Q I1 q1
theorem pt_not (ha : PT X a tA) : PT X (.UnaryOp .Not a pos) (tNot tA) := by
  intro pins s σ H Q I h
  exact isTrue_not (ha pins s σ H (fun c H1 => Q (!c) H1) I h)
def tAndV (ta tb : TE) : TE := fun σ H Q => ta σ H fun x H1 => ∃ c, x = .bl c ∧ if c = true then tb σ H1 Q else Q (.bl false) H1
def tOrV (ta tb : TE) : TE := fun σ H Q => ta σ H fun x H1 => ∃ c, x = .bl c ∧ if c = true then Q (.bl true) H1 else tb σ H1 Q
def tNotV (ta : TE) : TE := fun σ H Q => ta σ H fun x H1 => ∃ c, x = .bl c ∧ Q (.bl (!c)) H1
def tIf (t : TT) (ta tb : TE) : TE := fun σ H Q => t σ H fun c H1 => if c = true then ta σ H1 Q else tb σ H1 Q
theorem pe_ifExp {c : Expr} (hc : PT X c tA) (ha : PE X a ta) (hb : PE X b tb) : PE X (.IfExp c a b pos) (tIf tA ta tb) := by
  intro pins s σ H Q I h
  refine wpAny_IfExp (thn (hc pins s σ H _ I h) fun d s1 ⟨H1, I1, q1⟩ => ?_)
  cases d with
  | true => exact ha pins s1 σ H1 Q I1 q1
  | false => exact hb pins s1 σ H1 Q I1 q1
end
end L2
namespace L2
open PySem PySem.Spec PyProof.Rows
def SqL (K : PySem.W.Frag) (H : Hp) (a : Addr) (xs : List V) : Prop :=
  Rd H a (.lst xs) ∨
    ∃ (o : Obj) (its : Array Value) (n : Nat), K.lookup a = some o ∧ o.cls = .type "list" ∧ o.dict = none ∧ o.data = .seq its n ∧ its.size ≤ sizeLine ∧ Vals xs its.toList
def SqT (K : PySem.W.Frag) (H : Hp) (a : Addr) (xs : List V) : Prop :=
  Rd H a (.tup xs) ∨
    ∃ (o : Obj) (its : Array Value) (n : Nat), K.lookup a = some o ∧ o.cls = .type "tuple" ∧ o.data = .seq its n ∧ its.size ≤ sizeLine ∧ Vals xs its.toList
def absV : Value → Option V
  | .none => some .non
  | .bool b => some (.bl b)
  | .int i _ => some (.int i)
  | .str x _ => some (.str x)
  | .bytes b _ => some (.byt b)
  | .float b _ => some (.flt b)
  | .ref a => some (.ref a)
  | .type n => some (.ty n)
  | _ => none
theorem RelV.abs {x : V} {u : Value} (r : RelV x u) : absV u = some x := by
  cases x with
  | non => cases r; rfl
  | bl _ => cases r; rfl
  | int _ => obtain ⟨t, rfl⟩ := r; rfl
  | str _ => obtain ⟨t, rfl⟩ := r; rfl
  | byt _ => obtain ⟨t, rfl⟩ := r; rfl
  | flt _ => obtain ⟨t, rfl⟩ := r; rfl
  | ref _ => cases r; rfl
  | ty _ => cases r; rfl
theorem RelV.inj {x y : V} {u : Value} (r : RelV x u) (q : RelV y u) : x = y := Option.some.inj (r.abs.symm.trans q.abs)
theorem Vals.inj : ∀ {xs ys : List V} {us : List Value}, Vals xs us → Vals ys us → xs = ys
  | _, _, _, .nil, .nil => rfl
  | _, _, _, .cons r t, .cons r' t' => by rw [r.inj r', Vals.inj t t']
section
variable {X : Cx} {pins : List (Addr × Obj)} {σ : St} {H : Hp} {s : Shared} {a : Addr} {xs ys : List V}
theorem SqL.of {K : PySem.W.Frag} (h : H a = some (.lst xs)) : SqL K H a xs := .inl (.inl h)
theorem SqT.of {K : PySem.W.Frag} (h : H a = some (.tup xs)) : SqT K H a xs := .inl (.inl h)
theorem Inv.list (I : Inv X pins σ H s) (h : SqL X.K H a xs) : ∃ its : List Value, Vals xs its ∧ PlainL s.heap a its.toArray ∧ xs.length ≤ sizeLine := by
  rcases h with h | ⟨o, its, n, hk, hc, hd, hs, hz, r⟩
  · obtain ⟨z, its, n, r, e⟩ := h.ok I.hok
    exact ⟨its, r, ⟨_, n, e, rfl, rfl, rfl⟩, z⟩
  · refine ⟨its.toList, r, ⟨o, n, I.kIn a o hk, hc, hd, by simpa using hs⟩, ?_⟩
    have e := r.length
    simp only [Array.length_toList] at e
    omega
theorem Inv.tuple (I : Inv X pins σ H s) (h : SqT X.K H a xs) : ∃ its : List Value, Vals xs its ∧ IsTup s.heap a its.toArray ∧ xs.length ≤ sizeLine := by
  rcases h with h | ⟨o, its, n, hk, hc, hs, hz, r⟩
  · obtain ⟨z, its, r, p⟩ := h.ok I.hok
    exact ⟨its, r, p.tup, z⟩
  · refine ⟨its.toList, r, ⟨o, I.kIn a o hk, hc, n, by simpa using hs⟩, ?_⟩
    have e := r.length
    simp only [Array.length_toList] at e
    omega
theorem Inv.list_inj (I : Inv X pins σ H s) (h : SqL X.K H a xs) (h' : SqL X.K H a ys) : xs = ys := by
  obtain ⟨its, r, ⟨o, n, e, _, _, d⟩, _⟩ := I.list h
  obtain ⟨its', r', ⟨o', n', e', _, _, d'⟩, _⟩ := I.list h'
  rw [e] at e'; cases e'
  rw [d] at d'
  injection d' with d1 _
  have : its = its' := by simpa using congrArg Array.toList d1
  subst this
  exact r.inj r'
theorem Inv.tuple_inj (I : Inv X pins σ H s) (h : SqT X.K H a xs) (h' : SqT X.K H a ys) : xs = ys := by
  obtain ⟨its, r, ⟨o, e, _, n, d⟩, _⟩ := I.tuple h
  obtain ⟨its', r', ⟨o', e', _, n', d'⟩, _⟩ := I.tuple h'
  rw [e] at e'; cases e'
  rw [d] at d'
  injection d' with d1 _
  have : its = its' := by simpa using congrArg Array.toList d1
  subst this
  exact r.inj r'
end
abbrev Cx.wish (X : Cx) (E : Value → Shared → Prop) : Cx := { X with xe := E }
abbrev Cx.nox (X : Cx) : Cx := X.wish fun _ _ => False
theorem Cx.Ok.wish {X : Cx} (ok : X.Ok) (E : Value → Shared → Prop) : (X.wish E).Ok :=
  ⟨ok.mod, ok.kind, ok.glob, ok.blt, ok.above, ok.inj, ok.has, ok.cab, ok.hd, ok.frames, ok.stk, ok.exf, ok.bs, ok.bsz, ok.noex, ok.exfs, ok.funs, ok.frf⟩
theorem Cx.Ok.unwish {X : Cx} {E : Value → Shared → Prop} (ok : (X.wish E).Ok) : X.Ok :=
  ⟨ok.mod, ok.kind, ok.glob, ok.blt, ok.above, ok.inj, ok.has, ok.cab, ok.hd, ok.frames, ok.stk, ok.exf, ok.bs, ok.bsz, ok.noex, ok.exfs, ok.funs, ok.frf⟩
section
variable {X : Cx} {pins : List (Addr × Obj)} {σ : St} {H : Hp} {s : Shared} {E : Value → Shared → Prop}
theorem Inv.wish (I : Inv X pins σ H s) (E : Value → Shared → Prop) : Inv (X.wish E) pins σ H s := ⟨I.ok.wish E, I.os, I.bare, I.base, I.loc, I.cell, I.free, I.freeC, I.pin, I.hok, I.len⟩
theorem Inv.unwish (I : Inv (X.wish E) pins σ H s) : Inv X pins σ H s := ⟨I.ok.unwish, I.os, I.bare, I.base, I.loc, I.cell, I.free, I.freeC, I.pin, I.hok, I.len⟩
theorem SP.unwish {D : Ends} {f : Flow} {s' : Shared} (h : SP (X.wish E) pins D f s') : SP X pins D f s' := by
  cases f with
  | next => obtain ⟨σ', H', I, q⟩ := h; exact ⟨σ', H', I.unwish, q⟩
  | brk => obtain ⟨σ', H', I, q⟩ := h; exact ⟨σ', H', I.unwish, q⟩
  | cont => obtain ⟨σ', H', I, q⟩ := h; exact ⟨σ', H', I.unwish, q⟩
  | ret u => obtain ⟨v, σ', H', I, r, q⟩ := h; exact ⟨v, σ', H', I.unwish, r, q⟩
theorem PSs.nox {st : List Stmt} {t : TS} (h : PSs X.nox st t) : PSs X st t := fun pins s σ H D I hw =>
  wpAny_mono (h pins s σ H D (I.wish _) hw) (fun _ _ q => q.unwish) fun _ _ z => False.elim z
end
section
variable {X : Cx} {st : Stmt} {rest : List Stmt} {t u : TS} {e : Expr} {te : TE} {pos : Pos}
def tNext : TS := fun D σ H => D.nx σ H
def tSeq (t u : TS) : TS := fun D σ H => t { D with nx := u D } σ H
theorem pss_nil : PSs X [] tNext := fun _ _ σ H _ I h => wpAny_execs_nil ⟨σ, H, I, h⟩
theorem pss_cons (h1 : PS X st t) (h2 : PSs X rest u) : PSs X (st :: rest) (tSeq t u) := by
  intro pins s σ H D I h
  refine wpAny_execs_cons (thn (h1 pins s σ H { D with nx := u D } I h) fun f s1 q => ?_)
  cases f with
  | next =>
    obtain ⟨σ', H', I', q⟩ := q
    exact h2 pins s1 σ' H' D I' q
  | ret v => exact q
  | brk => exact q
  | cont => exact q
theorem pss_one (h1 : PS X st t) : PSs X [st] t := by
  intro pins s σ H D I h
  refine wpAny_execs_cons (thn (h1 pins s σ H D I h) fun f s1 q => ?_)
  cases f with
  | next => exact wpAny_execs_nil q
  | ret v => exact q
  | brk => exact q
  | cont => exact q
theorem Inv.quiet {pins : List (Addr × Obj)} {σ : St} {H : Hp} {s : Shared} (I : Inv X pins σ H s) : interactive X.env = false := by simp [interactive, I.ok.kind]
def tDrop (te : TE) : TS := fun D σ H => te σ H fun _ H1 => D.nx σ H1
theorem ps_expr (he : PE X e te) (hs : swapsWith e none pos.line X.env = pure false := by rfl) : PS X (.Expr e pos) (tDrop te) := by
  intro pins s σ H D I h
  exact wpAny_Expr_any (thn (he pins s σ H _ I h) fun v s1 ⟨x, H1, I1, r1, q1⟩ => ⟨σ, H1, I1, q1⟩) I.quiet hs
def tRet (te : TE) : TS := fun D σ H => te σ H D.rt
theorem ps_ret (he : PE X e te) : PS X (.Return (some e) pos) (tRet te) := by
  intro pins s σ H D I h
  exact wpAny_Return_some (thn (he pins s σ H _ I h) fun v s1 ⟨x, H1, I1, r1, q1⟩ => ⟨x, σ, H1, I1, r1, q1⟩)
def tRetN : TS := fun D _ H => D.rt .non H
def tIfS (c : TT) (t u : TS) : TS := fun D σ H => c σ H fun b H1 => if b = true then t D σ H1 else u D σ H1
theorem ps_if {c : Expr} {a b : List Stmt} {tc : TT} (hc : PT X c tc) (ha : PSs X a t) (hb : PSs X b u) : PS X (.If c a b pos) (tIfS tc t u) := by
  intro pins s σ H D I h
  refine wpAny_If (thn (hc pins s σ H _ I h) fun d s1 ⟨H1, I1, q1⟩ => ?_)
  cases d with
  | true => exact ha pins s1 σ H1 D I1 q1
  | false => exact hb pins s1 σ H1 D I1 q1
def tNever : TS := fun _ _ _ => False
theorem ps_never : PS X st tNever := fun _ _ _ _ _ _ h => h.elim
end
abbrev TG := V → St → Hp → (St → Hp → Prop) → Prop
abbrev TGs := List V → St → Hp → (St → Hp → Prop) → Prop
def PG (X : Cx) (target : Expr) (t : TG) : Prop :=
  ∀ (pins : List (Addr × Obj)) (s : Shared) (σ : St) (H : Hp) (v : V) (u : Value) (Q : St → Hp → Prop), Inv X pins σ H s → RelV v u → t v σ H Q →
    wpAny (model X.prog X.w) X.A (assign target X.env u) (fun _ s' => ∃ σ' H', Inv X pins σ' H' s' ∧ Q σ' H') X.xe s
def PGs (X : Cx) (ts : List Expr) (t : TGs) : Prop :=
  ∀ (pins : List (Addr × Obj)) (s : Shared) (σ : St) (H : Hp) (vs : List V) (us : List Value) (Q : St → Hp → Prop), Inv X pins σ H s → Vals vs us → t vs σ H Q →
    wpAny (model X.prog X.w) X.A (assignInOrder ((assignEach ts X.env).map (·.2)) us) (fun _ s' => ∃ σ' H', Inv X pins σ' H' s' ∧ Q σ' H') X.xe s
abbrev TSet := V → V → V → Hp → (Hp → Prop) → Prop
def PSet (X : Cx) (t : TSet) : Prop :=
  ∀ (pins : List (Addr × Obj)) (s : Shared) (σ : St) (H : Hp) (o i v : V) (ov iv u : Value) (Q : Hp → Prop), Inv X pins σ H s → RelV o ov → RelV i iv → RelV v u → t o i v H Q →
    wpAny (model X.prog X.w) X.A (setItem ov iv u) (fun _ s' => ∃ H', Inv X pins σ H' s' ∧ Q H') X.xe s
section
variable {X : Cx} {pos : Pos}
def gName (i : Nat) : TG := fun v σ H Q => Q (σ.set i (some v)) H
theorem pg_name {i : Nat} {x : Str} (hN : X.N.Nodup) (hi : X.N[i]? = some x) (hx : Loc X.env.scope x) (hf : X.fn x = true ∨ X.env.scope.names.lookup x = some .local := by first | exact .inl rfl | exact .inr rfl | assumption) : PG X (.Name x pos) (gName i) := by
  intro pins s σ H v u Q I r h
  exact wpAny_assign_Name (store_ok I hN hi hx r (fun s' I' => ⟨_, H, I', h⟩) hf)
def gNil : TGs := fun vs σ H Q => vs = [] ∧ Q σ H
def gCons (t : TG) (u : TGs) : TGs := fun vs σ H Q => ∃ v r, vs = v :: r ∧ t v σ H fun σ' H' => u r σ' H' Q
theorem pgs_nil : PGs X [] gNil := by
  intro pins s σ H vs us Q I r h
  obtain ⟨e, h⟩ := h
  subst e
  cases r
  exact assignInOrder_nil ⟨σ, H, I, h⟩
theorem pgs_cons {e : Expr} {es : List Expr} {t : TG} {u : TGs} (h1 : PG X e t) (h2 : PGs X es u)
    (hs : (assignEach (e :: es) X.env).map (·.2) = assign e X.env :: (assignEach es X.env).map (·.2) := by rfl) : PGs X (e :: es) (gCons t u) := by
  intro pins s σ H vs us Q I r h
  obtain ⟨v, vr, e1, h⟩ := h
  subst e1
  cases r with
  | cons r rr =>
    rw [hs]
    refine assignInOrder_cons (thn (h1 pins s σ H _ _ _ I r h) fun _ s1 ⟨σ1, H1, I1, q1⟩ => ?_)
    exact h2 pins s1 σ1 H1 _ _ Q I1 rr q1
def gTup (K : PySem.W.Frag) (n : Nat) (t : TGs) : TG := fun v σ H Q => ∃ a xs, v = .ref a ∧ SqT K H a xs ∧ xs.length = n ∧ t xs σ H Q
theorem pg_tup {es : List Expr} {k : Nat} {t : TGs} {n : Nat} (hc : X.calm = true) (h : PGs X es t)
    (hn : (assignEach es X.env).length = n := by rfl) (hst : (assignEach es X.env).findIdx? (·.1) = none := by rfl) : PG X (.Tuple es k pos) (gTup X.K n t) := by
  intro pins s σ H v u Q I r hw
  obtain ⟨a, xs, e1, hq, hl, hw⟩ := hw
  subst e1
  cases r
  obtain ⟨its, rv, ht, hz⟩ := I.tuple hq
  refine assign_Tuple_tuple (I.ok.hd hc) ht (by simp [hn, ← hl, rv.length]) hst fun h' hx => ?_
  have I1 : Inv X pins σ H { s with heap := h' } := I.kept (t' := s.toks) fun b o e => hx b o (Nat.ne_of_lt (Heap.lt_size e)) e
  exact h pins _ σ H xs _ Q I1 (by simpa using rv) hw
def gSub (to ti : TE) (t : TSet) : TG := fun v σ H Q => to σ H fun o H1 => ti σ H1 fun i H2 => t o i v H2 fun H3 => Q σ H3
theorem pg_sub {o i : Expr} {to ti : TE} {t : TSet} (ho : PE X o to) (hi : PE X i ti) (hs : PSet X t)
    (ha : ∀ v, assign (.Subscript o i pos) X.env v = (do
      let ov ← holding [v] (eval o X.env)
      let iv ← holding [v, ov] (eval i X.env)
      standAt pos
      holding [v, ov, iv] (setItem ov iv v)
      release [v, ov, iv] []) := by intro _; rfl) : PG X (.Subscript o i pos) (gSub to ti t) := by
  intro pins s σ H v u Q I r h
  rw [ha]
  refine wpAny_bind (wpAny_holding (thn (ho pins s σ H _ I h) fun ov s1 ⟨x, H1, I1, r1, q1⟩ => ?_))
  refine wpAny_bind (wpAny_holding (thn (hi pins s1 σ H1 _ I1 q1) fun iv s2 ⟨y, H2, I2, r2, q2⟩ => ?_))
  refine wpAny_bind (wpAny_standAt (wpAny_bind (wpAny_holding (thn (hs pins s2 σ H2 x y v ov iv u _ I2 r1 r2 r q2) fun _ s3 ⟨H3, I3, q3⟩ => ?_))))
  exact wpAny_release ⟨σ, H3, I3, q3⟩
def tAsg (te : TE) (g : TG) : TS := fun D σ H => te σ H fun x H1 => g x σ H1 D.nx
theorem ps_asg {tg e : Expr} {te : TE} {g : TG} (he : PE X e te) (hg : PG X tg g) (hs : swapsWithSole [tg] e pos.line X.env = pure false := by rfl) (hw : swappedStores [tg] e X.env = pure none := by rfl)
    (h1 : (assignEach [tg] X.env).map (·.2) = [assign tg X.env] := by rfl) : PS X (.Assign [tg] e pos) (tAsg te g) := by
  intro pins s σ H D I h
  refine wpAny_Assign_stores (thn (he pins s σ H _ I h) fun v s1 ⟨x, H1, I1, r1, q1⟩ => ?_) hs hw
  rw [h1]
  exact thn (hg pins s1 σ H1 x v _ I1 r1 q1) fun _ s2 q => q
theorem ps_set {i : Nat} {x : Str} {e : Expr} {te : TE} {pos' : Pos} (hN : X.N.Nodup) (hi : X.N[i]? = some x) (hx : Loc X.env.scope x) (he : PE X e te) (hs : swapsWith e (some (.Name x pos')) pos.line X.env = pure false := by rfl) (hf : X.fn x = true ∨ X.env.scope.names.lookup x = some .local := by first | exact .inl rfl | exact .inr rfl | assumption) :
    PS X (.Assign [.Name x pos'] e pos) (tAsg te (gName i)) := by
  intro pins s σ H D I h
  refine wpAny_Assign_Name (thn (he pins s σ H _ I h) fun v s1 ⟨y, H1, I1, r1, q1⟩ => ?_) hs
  exact store_ok I1 hN hi hx r1 (fun s2 I2 => ⟨_, H1, I2, q1⟩) hf
end
section
variable {X : Cx} {pos : Pos}
def tWhile (c : TT) (tb : TS) : TS := fun D σ H => ∃ W : Nat → St → Hp → Prop, (∃ m, W m σ H) ∧ ∀ m σ H, W m σ H →
  c σ H fun b H1 => if b = true then ∃ N : St → Hp → Prop, (∀ σ' H', N σ' H' → ∃ m', m' < m ∧ W m' σ' H') ∧ tb { D with nx := N, ct := N, bk := D.nx } σ H1 else D.nx σ H1
theorem ps_while {c : Expr} {body : List Stmt} {tc : TT} {tb : TS} (hp : PassesOwn (model X.prog X.w) X.A X.env X.xe) (hc : PT X c tc) (hb : PSs X body tb) : PS X (.While c body [] pos) (tWhile tc tb) := by
  intro pins s σ H D I h
  obtain ⟨W, ⟨m0, w0⟩, turn⟩ := h
  refine wpAny_While (codeAny_whileLoop (fun n s' => ∃ σ' H', Inv X pins σ' H' s' ∧ W n σ' H') ?_ m0 ⟨σ, H, I, w0⟩)
  rintro n s1 ⟨σ1, H1, I1, w1⟩
  refine wpAny_passesOwn hp (thn (hc pins s1 σ1 H1 _ I1 (turn n σ1 H1 w1)) fun b s2 ⟨H2, I2, q2⟩ => ?_)
  cases b with
  | true =>
    obtain ⟨N, hN, q2⟩ := q2
    rw [if_pos rfl]
    refine wpAny_passesOwn hp (thn (hb pins s2 σ1 H2 _ I2 q2) fun f s3 q3 => ?_)
    cases f with
    | next =>
      obtain ⟨σ3, H3, I3, n3⟩ := q3
      obtain ⟨m', hm, w3⟩ := hN σ3 H3 n3
      exact ⟨m', hm, σ3, H3, I3, w3⟩
    | cont =>
      obtain ⟨σ3, H3, I3, n3⟩ := q3
      obtain ⟨m', hm, w3⟩ := hN σ3 H3 n3
      exact ⟨m', hm, σ3, H3, I3, w3⟩
    | brk => exact q3
    | ret v => exact q3
  | false =>
    rw [if_neg Bool.false_ne_true]
    exact wpAny_execs_nil ⟨σ1, H2, I2, q2⟩
end
structure It where
  go : Nat → Hp → Prop
  yld : Nat → Hp → V → Hp → Prop
  stop : Nat → Hp → Prop
def FpOk (X : Cx) (pins : List (Addr × Obj)) (H : Hp) (b : Addr) : Prop :=
  H b = none ∧ b ≠ X.env.locals ∧ b ∉ X.fs ∧ (b ∈ X.ex ∨ X.s₀.heap.objs.size ≤ b) ∧ (∀ x c, X.env.cells.lookup x = some c → c ≠ b) ∧ ∀ p ∈ X.pn ++ pins, p.1 ≠ b
theorem Inv.fpOk {X : Cx} {pins : List (Addr × Obj)} {σ : St} {H H' : Hp} {s : Shared} {b : Addr} (I : Inv X pins σ H s) (hb : s.heap.objs.size ≤ b) (hn : H' b = none) : FpOk X pins H' b := by
  refine ⟨hn, Nat.ne_of_gt (Nat.lt_of_lt_of_le I.lt hb), I.nofs hb, .inr (Nat.le_trans I.sz hb), fun x c e z => ?_, fun p hp z => ?_⟩
  · obtain ⟨v, q⟩ := I.cell x c e
    exact absurd (Nat.lt_of_lt_of_le q.lt (by rw [z]; exact hb)) (Nat.lt_irrefl _)
  · exact absurd (Nat.lt_of_lt_of_le (Heap.lt_size (I.pin p hp).1) (by rw [z]; exact hb)) (Nat.lt_irrefl _)
structure Turn (P : Program) (w : World) (K : PySem.W.Frag) (tg : Expr) (J : It) (fp : List Addr) (it : Addr) (tn : Nat → Heap → Prop) : Prop where
  mem : it ∈ fp
  obj : ∀ i h, tn i h → ∀ b ∈ fp, ∃ o, h.get? b = some o ∧ ∀ v, o.data ≠ .cell v
  keep : ∀ i h h', tn i h → (∀ b ∈ fp, ∀ o, h.get? b = some o → h'.get? b = some o) → tn i h'
  item : ∀ (X : Cx), X.prog = P → X.w = w → X.K = K → X.calm = true → ∀ (i : Nat) (pins : List (Addr × Obj)) (s : Shared) (σ : St) (H : Hp) (E : Value → Shared → Prop), Inv X pins σ H s → (∀ b ∈ fp, FpOk X pins H b) → tn i s.heap → J.go i H →
    wpAny (model P w) X.A (pyNext (.ref it)) (fun r s1 => ∃ u, r = some u ∧
      wpAny (model P w) X.A (letOwnedTupleGo tg (.ref it) u) (fun _ s2 => ∃ x H', Inv X pins σ H' s2 ∧ RelV x u ∧ J.yld i H x H' ∧ tn (i + 1) s2.heap ∧ ∀ b ∈ fp, H' b = none) E s1) E s
  done : ∀ (X : Cx), X.prog = P → X.w = w → X.K = K → X.calm = true → ∀ (i : Nat) (pins : List (Addr × Obj)) (s : Shared) (σ : St) (H : Hp) (E : Value → Shared → Prop), Inv X pins σ H s → (∀ b ∈ fp, FpOk X pins H b) → tn i s.heap → J.stop i H →
    wpAny (model P w) X.A (pyNext (.ref it)) (fun r s1 => r = none ∧ Inv X pins σ H s1) E s
  self : ∀ (A : Around) (i : Nat) (s : Shared) (Q : Value → Shared → Prop) (E : Value → Shared → Prop), tn i s.heap → Q (.ref it) s → wpAny (model P w) A (pyIter (.ref it)) Q E s
abbrev TI := St → Hp → (It → Hp → Prop) → Prop
def PIE (X : Cx) (pins : List (Addr × Obj)) (σ : St) (tg : Expr) (R : It → Hp → Prop) (itv : Value) (s2 : Shared) : Prop :=
  ∃ (it : Addr) (fp : List Addr) (tn : Nat → Heap → Prop) (J : It) (H' : Hp), itv = .ref it ∧ Inv X pins σ H' s2 ∧ Turn X.prog X.w X.K tg J fp it tn ∧ tn 0 s2.heap ∧ (∀ b ∈ fp, FpOk X pins H' b) ∧ R J H'
def PI (X : Cx) (tg iter : Expr) (wi : TI) : Prop :=
  ∀ (pins : List (Addr × Obj)) (s : Shared) (σ : St) (H : Hp) (R : It → Hp → Prop), Inv X pins σ H s → wi σ H R →
    wpAny (model X.prog X.w) X.A (eval iter X.env) (fun v s1 => wpAny (model X.prog X.w) X.A (pyIter v) (PIE X pins σ tg R) X.xe s1) X.xe s
theorem go_of {M : Model} {A : Around} {E : Value → Shared → Prop} {s : Shared} {tg : Expr} {it : Addr} {u : Value} {o : Obj} {n : String} {vs : Array Value} {Q : Unit → Shared → Prop} (ho : s.heap.get? it = some o) (hc : o.cls = .type n) (hd : o.data = .fields vs)
    (hn : ["enumerate", "zip", "dict_itemiterator", "dict_reverseitemiterator", "odict_iterator", "itertools.zip_longest", "itertools.pairwise"].contains n = false) (hQ : Q () s) : wpAny M A (letOwnedTupleGo tg (.ref it) u) Q E s := by
  unfold letOwnedTupleGo
  cases tg <;> first
    | exact wpAny_pure hQ
    | (cases u <;> first
        | exact wpAny_pure hQ
        | (refine wpAny_bind (wpAny_load ho ?_)
           rw [hc, hd]
           show wpAny M A (if (["enumerate", "zip", "dict_itemiterator", "dict_reverseitemiterator", "odict_iterator", "itertools.zip_longest", "itertools.pairwise"].contains n && vs[0]? == some (rawInt _)) = true then _ else _) Q E s
           rw [if_neg (by intro h; rw [hn, Bool.false_and] at h; cases h)]
           exact wpAny_pure hQ))
def Itl (K : PySem.W.Frag) (a : Addr) : It :=
  ⟨fun i H => ∃ xs x, SqL K H a xs ∧ xs[i]? = some x, fun i H x H' => H' = H ∧ ∀ xs, SqL K H a xs → xs[i]? = some x, fun i H => ∃ xs, SqL K H a xs ∧ xs.length ≤ i⟩
def Itt (K : PySem.W.Frag) (a : Addr) : It :=
  ⟨fun i H => ∃ xs x, SqT K H a xs ∧ xs[i]? = some x, fun i H x H' => H' = H ∧ ∀ xs, SqT K H a xs → xs[i]? = some x, fun i H => ∃ xs, SqT K H a xs ∧ xs.length ≤ i⟩
def Itr (lo : Int) (n : Nat) : It := ⟨fun i _ => i < n, fun i H x H' => H' = H ∧ x = .int (lo + i), fun i _ => n ≤ i⟩
theorem turn_list {P : Program} {w : World} {K : PySem.W.Frag} {tg : Expr} (a it : Addr) : Turn P w K tg (Itl K a) [it] it (fun i h => h.IsListIter it a i) where
  mem := by simp
  obj := fun i h st b hb => by
    have e : b = it := by simpa using hb
    subst e
    obtain ⟨o, e, c, d⟩ := st
    exact ⟨o, e, fun v z => by rw [d] at z; cases z⟩
  keep := fun i h h' st k => st.at fun o e => k it (by simp) o e
  item := by
    intro X hP hw hK hc i pins s σ H E I hf st hg
    subst hP hw hK
    obtain ⟨xs, x, hq, hx⟩ := hg
    obtain ⟨its, rv, p, hz⟩ := I.list hq
    obtain ⟨u, hu, ru⟩ := rv.get hx
    obtain ⟨f0, f1, f2, f3, f4, f5⟩ := hf it (by simp)
    refine wpAny_pyNext_list_item st p.isList (x := u) (by simpa using hu) fun h' st' sb => ?_
    have I1 : Inv X pins σ H { s with heap := h' } := I.turned (t' := s.toks) (fun b o hb e => (sb.2 b hb).trans e) f0 f1 f3 f4 f5
    obtain ⟨o, e, c, d⟩ := id st'
    exact ⟨u, rfl, go_of (s := { s with heap := h' }) e c d (by decide) ⟨x, H, I1, ru, ⟨rfl, fun ys hy => by rw [I.list_inj hy hq]; exact hx⟩, st', fun b hb => (hf b hb).1⟩⟩
  done := by
    intro X hP hw hK hc i pins s σ H E I hf st hg
    subst hP hw hK
    obtain ⟨xs, hq, hx⟩ := hg
    obtain ⟨its, rv, p, hz⟩ := I.list hq
    obtain ⟨f0, f1, f2, f3, f4, f5⟩ := hf it (by simp)
    have hl := rv.length
    exact wpAny_pyNext_list_end (I.ok.hd hc) st p.isList (by simp; omega) fun h' eb => ⟨rfl, I.turned (t' := s.toks) (fun b o hb e => eb b o hb e) f0 f1 f3 f4 f5⟩
  self := fun _ _ _ _ _ st h => wpAny_pyIter_listiter st h
theorem turn_tuple {P : Program} {w : World} {K : PySem.W.Frag} {tg : Expr} (a it : Addr) : Turn P w K tg (Itt K a) [it] it (fun i h => h.IsTupleIter it a i) where
  mem := by simp
  obj := fun i h st b hb => by
    have e : b = it := by simpa using hb
    subst e
    obtain ⟨o, e, c, d⟩ := st
    exact ⟨o, e, fun v z => by rw [d] at z; cases z⟩
  keep := fun i h h' st k => st.at fun o e => k it (by simp) o e
  item := by
    intro X hP hw hK hc i pins s σ H E I hf st hg
    subst hP hw hK
    obtain ⟨xs, x, hq, hx⟩ := hg
    obtain ⟨its, rv, p, hz⟩ := I.tuple hq
    obtain ⟨u, hu, ru⟩ := rv.get hx
    obtain ⟨f0, f1, f2, f3, f4, f5⟩ := hf it (by simp)
    refine wpAny_pyNext_tuple_item st (show s.heap.IsTuple a its.toArray from p) (x := u) (by simpa using hu) fun h' st' sb => ?_
    have I1 : Inv X pins σ H { s with heap := h' } := I.turned (t' := s.toks) (fun b o hb e => (sb.2 b hb).trans e) f0 f1 f3 f4 f5
    obtain ⟨o, e, c, d⟩ := id st'
    exact ⟨u, rfl, go_of (s := { s with heap := h' }) e c d (by decide) ⟨x, H, I1, ru, ⟨rfl, fun ys hy => by rw [I.tuple_inj hy hq]; exact hx⟩, st', fun b hb => (hf b hb).1⟩⟩
  done := by
    intro X hP hw hK hc i pins s σ H E I hf st hg
    subst hP hw hK
    obtain ⟨xs, hq, hx⟩ := hg
    obtain ⟨its, rv, p, hz⟩ := I.tuple hq
    obtain ⟨f0, f1, f2, f3, f4, f5⟩ := hf it (by simp)
    have hl := rv.length
    exact wpAny_pyNext_tuple_end (I.ok.hd hc) st (show s.heap.IsTuple a its.toArray from p) (by simp; omega) fun h' eb => ⟨rfl, I.turned (t' := s.toks) (fun b o hb e => eb b o hb e) f0 f1 f3 f4 f5⟩
  self := fun _ _ _ _ _ st h => wpAny_pyIter_tupleiter st h
theorem turn_range {P : Program} {w : World} {K : PySem.W.Frag} {tg : Expr} (it : Addr) (lo : Int) (n : Nat) : Turn P w K tg (Itr lo n) [it] it (fun i h => IsRangeIter h it (lo + (i : Nat) * 1) ((n : Int) - (i : Nat)) 1) where
  mem := by simp
  obj := fun i h st b hb => by
    have e : b = it := by simpa using hb
    subst e
    exact ⟨_, st, fun v z => by
      have z' : Data.fields _ = Data.cell v := z
      cases z'⟩
  keep := fun i h h' st k => k it (by simp) _ st
  item := by
    intro X hP hw hK hc i pins s σ H E I hf st hg
    subst hP hw hK
    obtain ⟨f0, f1, f2, f3, f4, f5⟩ := hf it (by simp)
    have W := Walks.range (prog := X.prog) (w := X.w) (I.ok.hd hc) it lo 1 n
    refine W.item i s _ _ hg st fun v h' tk hv st' kk => ?_
    obtain ⟨t, rfl⟩ := hv
    have I1 : Inv X pins σ H { s with heap := h', toks := tk } := I.turned (fun b o hb e => kk b o (by simpa using hb) e) f0 f1 f3 f4 f5
    refine ⟨_, rfl, go_of (s := { s with heap := h', toks := tk }) (n := "range_iterator") st' rfl rfl (by decide) ⟨.int (lo + i), H, I1, ⟨t, ?_⟩, ⟨rfl, rfl⟩, st', fun b hb => (hf b hb).1⟩⟩
    rw [Int.mul_one]
  done := by
    intro X hP hw hK hc i pins s σ H E I hf st hg
    subst hP hw hK
    obtain ⟨f0, f1, f2, f3, f4, f5⟩ := hf it (by simp)
    exact wpAny_pyNext_range_end (I.ok.hd hc) st (by have : n ≤ i := hg; omega) fun h' eb => ⟨rfl, I.turned (t' := s.toks) (fun b o hb e => eb b o hb e) f0 f1 f3 f4 f5⟩
  self := fun _ _ _ _ _ st h => wpAny_pyIter_rangeiter st h
end L2
namespace L2
open PySem PySem.Spec PyProof.Rows
section
variable {X : Cx} {tg : Expr}
def iList (K : PySem.W.Frag) (tl : TE) : TI := fun σ H R => tl σ H fun x H1 => ∃ a, x = .ref a ∧ (∃ xs, SqL K H1 a xs) ∧ R (Itl K a) H1
def iTup (K : PySem.W.Frag) (tl : TE) : TI := fun σ H R => tl σ H fun x H1 => ∃ a, x = .ref a ∧ (∃ xs, SqT K H1 a xs) ∧ R (Itt K a) H1
theorem pi_list {l : Expr} {tl : TE} (hl : PE X l tl) : PI X tg l (iList X.K tl) := by
  intro pins s σ H R I h
  refine thn (hl pins s σ H _ I h) fun v s1 ⟨x, H1, I1, r1, q1⟩ => ?_
  obtain ⟨a, e, ⟨xs, hq⟩, q⟩ := q1
  subst e
  cases r1
  obtain ⟨its, rv, p, hz⟩ := I1.list hq
  refine wpAny_pyIter_list p.isList ?_
  refine ⟨s1.heap.objs.size, [s1.heap.objs.size], _, _, H1, rfl, I1.kept (t' := s1.toks) fun b o e => Heap.get?_push_of_some _ e, turn_list a _, ⟨_, Heap.get?_push_size _ rfl, rfl, rfl⟩, fun b hb => ?_, q⟩
  have e : b = s1.heap.objs.size := by simpa using hb
  subst e
  exact I1.fpOk (Nat.le_refl _) (I1.hok.fresh (Nat.le_refl _))
theorem pi_tup {l : Expr} {tl : TE} (hl : PE X l tl) : PI X tg l (iTup X.K tl) := by
  intro pins s σ H R I h
  refine thn (hl pins s σ H _ I h) fun v s1 ⟨x, H1, I1, r1, q1⟩ => ?_
  obtain ⟨a, e, ⟨xs, hq⟩, q⟩ := q1
  subst e
  cases r1
  obtain ⟨its, rv, p, hz⟩ := I1.tuple hq
  refine wpAny_pyIter_tuple (show s1.heap.IsTuple a its.toArray from p) ?_
  refine ⟨s1.heap.objs.size, [s1.heap.objs.size], _, _, H1, rfl, I1.kept (t' := s1.toks) fun b o e => Heap.get?_push_of_some _ e, turn_tuple a _, ⟨_, Heap.get?_push_size _ rfl, rfl, rfl⟩, fun b hb => ?_, q⟩
  have e : b = s1.heap.objs.size := by simpa using hb
  subst e
  exact I1.fpOk (Nat.le_refl _) (I1.hok.fresh (Nat.le_refl _))
theorem range_it {pins : List (Addr × Obj)} {σ : St} {H : Hp} {s : Shared} {R : It → Hp → Prop} {E : Value → Shared → Prop} {lo hi : Int} {t u v : Tok} {tk : Nat} (I : Inv X pins σ H s) (h1 : -(2 ^ 62) ≤ lo) (h2 : lo < 2 ^ 62) (h3 : -(2 ^ 62) ≤ hi) (h4 : hi < 2 ^ 62)
    (q : R (Itr lo (hi - lo).toNat) H) : wpAny (model X.prog X.w) X.A (pyIter (.ref s.heap.objs.size)) (PIE X pins σ tg R) E { s with heap := s.heap.push { cls := .type "range", data := .fields #[.int lo t, .int hi u, .int 1 v] }, toks := tk } := by
  refine wpAny_pyIter_range (IsRange.new ..) (small_one h1 h2 h3 h4) ?_
  have I1 : Inv X pins σ H { s with heap := s.heap.push { cls := .type "range", data := .fields #[.int lo t, .int hi u, .int 1 v] }, toks := tk } := I.kept fun b o e => Heap.get?_push_of_some _ e
  refine ⟨(s.heap.push { cls := .type "range", data := .fields #[.int lo t, .int hi u, .int 1 v] }).objs.size, [(s.heap.push { cls := .type "range", data := .fields #[.int lo t, .int hi u, .int 1 v] }).objs.size], _, _, H, rfl,
    I1.kept (t' := tk) fun b o e => Heap.get?_push_of_some _ e, turn_range _ lo (hi - lo).toNat, ?_, fun b hb => ?_, q⟩
  · have e1 : lo + ((0 : Nat) : Int) * 1 = lo := by simp
    have e2 : (((hi - lo).toNat : Nat) : Int) - ((0 : Nat) : Int) = Builtin.Range.rangeSize lo hi 1 := by rw [rangeSize_one]; split <;> omega
    show IsRangeIter _ _ (lo + ((0 : Nat) : Int) * 1) ((((hi - lo).toNat : Nat) : Int) - ((0 : Nat) : Int)) 1
    rw [e1, e2]
    exact Heap.get?_push_size _ rfl
  · have e : b = (s.heap.push { cls := .type "range", data := .fields #[.int lo t, .int hi u, .int 1 v] }).objs.size := by simpa using hb
    subst e
    exact I1.fpOk (Nat.le_refl _) (I1.hok.fresh (Nat.le_refl _))
def iRng1 (ta : TA) : TI := fun σ H R => ta σ H fun vs H1 => ∃ j : Int, vs = [.int j] ∧ -(2 ^ 62) ≤ j ∧ j < 2 ^ 62 ∧ R (Itr 0 j.toNat) H1
def iRng2 (ta : TA) : TI := fun σ H R => ta σ H fun vs H1 => ∃ i j : Int, vs = [.int i, .int j] ∧ (-(2 ^ 62) ≤ i ∧ i < 2 ^ 62 ∧ -(2 ^ 62) ≤ j ∧ j < 2 ^ 62) ∧ R (Itr i (j - i).toNat) H1
theorem pi_range1 {a : Expr} {ta : TA} {p pos : Pos} (hg : Gl X "range") (hm : X.mg "range" = none) (ha : PA X [a] ta) (hs : starEach [a] X.env = [(false, eval a X.env)] := by rfl) : PI X tg (.Call (.Name "range" p) [a] [] pos) (iRng1 ta) := by
  intro pins s σ H R I h
  refine Call_ (ld_blt I hg hm boot_range (PyProof.Rows.callWith_type1 (thn (ha pos pins s σ H _ I h) fun us s1 ⟨vs, H1, I1, r1, q1⟩ => ?_) hs rfl))
  obtain ⟨j, e, q1, q2, q⟩ := q1
  subst e
  cases r1 with
  | cons r rr =>
    cases rr
    obtain ⟨t, rfl⟩ := r
    exact call_range_1 (range_it I1 (by omega) (by omega) q1 q2 (by simpa using q))
def tFor (wi : TI) (g : TG) (tb : TS) : TS := fun D σ H => wi σ H fun J H1 => ∃ W : Nat → Nat → St → Hp → Prop, (∃ m, W 0 m σ H1) ∧ ∀ i m σ H, W i m σ H →
  (J.stop i H ∧ D.nx σ H) ∨ (J.go i H ∧ ∃ N : St → Hp → Prop, (∀ σ' H', N σ' H' → ∃ m', m' < m ∧ W (i + 1) m' σ' H') ∧ ∀ x H', J.yld i H x H' → g x σ H' fun σ2 H2 => tb { D with nx := N, ct := N, bk := D.nx } σ2 H2)
def pinsAt (fp : List Addr) (h : Heap) : List (Addr × Obj) := fp.filterMap fun b => (h.get? b).map fun o => (b, o)
theorem mem_pinsAt {fp : List Addr} {h : Heap} {b : Addr} {o : Obj} (hb : b ∈ fp) (e : h.get? b = some o) : (b, o) ∈ pinsAt fp h := List.mem_filterMap.mpr ⟨b, hb, by rw [e]; rfl⟩
theorem of_pinsAt {fp : List Addr} {h : Heap} {p : Addr × Obj} (hp : p ∈ pinsAt fp h) : p.1 ∈ fp ∧ h.get? p.1 = some p.2 := by
  obtain ⟨b, hb, e⟩ := List.mem_filterMap.mp hp
  cases q : h.get? b with
  | none => rw [q] at e; cases e
  | some o =>
    rw [q] at e
    have e' : (b, o) = p := Option.some.inj e
    subst e'
    exact ⟨hb, q⟩
theorem Inv.pinned {pins : List (Addr × Obj)} {σ : St} {H : Hp} {s : Shared} {fp : List Addr} (I : Inv X pins σ H s) (hf : ∀ b ∈ fp, FpOk X pins H b) (ho : ∀ b ∈ fp, ∃ o, s.heap.get? b = some o ∧ ∀ v, o.data ≠ .cell v) : Inv X (pins ++ pinsAt fp s.heap) σ H s :=
  I.pins_of fun p hp => (List.mem_append.mp hp).elim (fun z => I.pin p (List.mem_append_right _ z)) fun z => by
    obtain ⟨hb, e⟩ := of_pinsAt z
    obtain ⟨f0, f1, f2, _⟩ := hf p.1 hb
    obtain ⟨o, e', d⟩ := ho p.1 hb
    rw [e] at e'; cases e'
    exact ⟨e, f0, f1, f2, d⟩
theorem Inv.unpinned {pins pl : List (Addr × Obj)} {σ : St} {H : Hp} {s : Shared} (I : Inv X (pins ++ pl) σ H s) : Inv X pins σ H s := I.pins_of fun p hp => I.pin p (List.mem_append_right _ (List.mem_append_left _ hp))
theorem ps_for {iter : Expr} {body : List Stmt} {wi : TI} {g : TG} {tb : TS} {pos : Pos} (hp : PassesOwn (model X.prog X.w) X.A X.env X.xe) (hc : X.calm = true) (hi : PI X tg iter wi) (hg : PG X tg g) (hb : PSs X body tb)
    (hs : ∀ x, foldedSetIterable iter X.env x = pure x := by intro _; rfl) : PS X (.For tg iter body [] pos) (tFor wi g tb) := by
  intro pins s σ H D I h
  refine wpAny_For (thn (hi pins s σ H _ I h) fun v s1 h1 => thn h1 fun itv s2 h2 => ?_) hs
  obtain ⟨it, fp, tn, J, H2, e, I2, T, st2, f2, W, ⟨m0, w0⟩, turn⟩ := h2
  subst e
  have stat : ∀ {H' : Hp}, (∀ b ∈ fp, H' b = none) → ∀ b ∈ fp, FpOk X pins H' b := fun hn b hb => ⟨hn b hb, (f2 b hb).2⟩
  refine codeAny_forLoop_any (fun n s' => ∃ i σ' H', Inv X pins σ' H' s' ∧ tn i s'.heap ∧ (∀ b ∈ fp, H' b = none) ∧ W i n σ' H') ?_ m0 ⟨0, σ, H2, I2, st2, fun b hb => (f2 b hb).1, w0⟩
  rintro n s3 ⟨i, σ3, H3, I3, st3, fr3, w3⟩
  rcases turn i n σ3 H3 w3 with ⟨stop, qn⟩ | ⟨go, N, hN, step⟩
  · refine wpAny_passesOwn hp (thn (T.done X rfl rfl rfl hc i pins s3 σ3 H3 X.xe I3 (stat fr3) st3 stop) fun r s4 ⟨hr, I4⟩ => ?_)
    subst hr
    exact wpAny_execs_nil ⟨σ3, H3, I4, qn⟩
  · refine wpAny_passesOwn hp (thn (T.item X rfl rfl rfl hc i pins s3 σ3 H3 X.xe I3 (stat fr3) st3 go) fun r s4 ⟨u, hr, h4⟩ => ?_)
    subst hr
    refine wpAny_passesOwn hp (thn h4 fun _ s5 ⟨x, H5, I5, r5, y5, st5, fr5⟩ => ?_)
    have I5' := I5.pinned (stat fr5) (T.obj _ _ st5)
    refine wpAny_passesOwn hp (thn (hg _ s5 σ3 H5 x u _ I5' r5 (step x H5 y5)) fun _ s6 ⟨σ6, H6, I6, q6⟩ => ?_)
    refine wpAny_passesOwn hp (thn (hb _ s6 σ6 H6 _ I6 q6) fun f s7 q7 => ?_)
    have again : ∀ {σ7 : St} {H7 : Hp}, Inv X (pins ++ pinsAt fp s5.heap) σ7 H7 s7 → N σ7 H7 → ∃ m, m < n ∧ ∃ i σ' H', Inv X pins σ' H' s7 ∧ tn i s7.heap ∧ (∀ b ∈ fp, H' b = none) ∧ W i m σ' H' := fun {σ7 H7} I7 n7 => by
      obtain ⟨m', hm, w7⟩ := hN σ7 H7 n7
      refine ⟨m', hm, i + 1, σ7, H7, I7.unpinned, T.keep _ _ _ st5 fun b hb o e => (I7.pin (b, o) (List.mem_append_right _ (List.mem_append_right _ (mem_pinsAt hb e)))).1, fun b hb => ?_, w7⟩
      obtain ⟨o, e, d⟩ := T.obj _ _ st5 b hb
      exact (I7.pin (b, o) (List.mem_append_right _ (List.mem_append_right _ (mem_pinsAt hb e)))).2.1
    cases f with
    | next => obtain ⟨σ7, H7, I7, n7⟩ := q7; exact again I7 n7
    | cont => obtain ⟨σ7, H7, I7, n7⟩ := q7; exact again I7 n7
    | brk => obtain ⟨σ7, H7, I7, q7⟩ := q7; exact ⟨σ7, H7, I7.unpinned, q7⟩
    | ret v => obtain ⟨x7, σ7, H7, I7, r7, q7⟩ := q7; exact ⟨x7, σ7, H7, I7.unpinned, r7, q7⟩
end
theorem for_list {K : PySem.W.Frag} {a : Addr} {xs : List V} {g : TG} {tb : TS} {D : Ends} {σ : St} {H : Hp} (Pv : Nat → St → Hp → Prop) (h0 : Pv 0 σ H) (hl : ∀ i σ H, i ≤ xs.length → Pv i σ H → SqL K H a xs)
    (hs : ∀ i x σ H, xs[i]? = some x → Pv i σ H → g x σ H fun σ2 H2 => tb { D with nx := Pv (i + 1), ct := Pv (i + 1), bk := D.nx } σ2 H2) (hd : ∀ σ H, Pv xs.length σ H → D.nx σ H) :
    ∃ W : Nat → Nat → St → Hp → Prop, (∃ m, W 0 m σ H) ∧ ∀ i m σ H, W i m σ H →
      ((Itl K a).stop i H ∧ D.nx σ H) ∨ ((Itl K a).go i H ∧ ∃ N : St → Hp → Prop, (∀ σ' H', N σ' H' → ∃ m', m' < m ∧ W (i + 1) m' σ' H') ∧ ∀ x H', (Itl K a).yld i H x H' → g x σ H' fun σ2 H2 => tb { D with nx := N, ct := N, bk := D.nx } σ2 H2) := by
  refine ⟨fun i m σ H => m = xs.length - i ∧ i ≤ xs.length ∧ Pv i σ H, ⟨xs.length, by simp, Nat.zero_le _, h0⟩, ?_⟩
  rintro i m σ H ⟨rfl, hi, p⟩
  have q := hl i σ H hi p
  by_cases hlt : i < xs.length
  · refine .inr ⟨⟨xs, xs[i], q, by simp [hlt]⟩, Pv (i + 1), fun σ' H' p' => ⟨xs.length - (i + 1), by omega, rfl, hlt, p'⟩, fun x H' y => ?_⟩
    obtain ⟨e, y⟩ := y
    subst e
    exact hs i x σ _ (y xs q) p
  · have e : i = xs.length := by omega
    subst e
    exact .inl ⟨⟨xs, q, Nat.le_refl _⟩, hd σ H p⟩
theorem for_tup {K : PySem.W.Frag} {a : Addr} {xs : List V} {g : TG} {tb : TS} {D : Ends} {σ : St} {H : Hp} (Pv : Nat → St → Hp → Prop) (h0 : Pv 0 σ H) (hl : ∀ i σ H, i ≤ xs.length → Pv i σ H → SqT K H a xs)
    (hs : ∀ i x σ H, xs[i]? = some x → Pv i σ H → g x σ H fun σ2 H2 => tb { D with nx := Pv (i + 1), ct := Pv (i + 1), bk := D.nx } σ2 H2) (hd : ∀ σ H, Pv xs.length σ H → D.nx σ H) :
    ∃ W : Nat → Nat → St → Hp → Prop, (∃ m, W 0 m σ H) ∧ ∀ i m σ H, W i m σ H →
      ((Itt K a).stop i H ∧ D.nx σ H) ∨ ((Itt K a).go i H ∧ ∃ N : St → Hp → Prop, (∀ σ' H', N σ' H' → ∃ m', m' < m ∧ W (i + 1) m' σ' H') ∧ ∀ x H', (Itt K a).yld i H x H' → g x σ H' fun σ2 H2 => tb { D with nx := N, ct := N, bk := D.nx } σ2 H2) := by
  refine ⟨fun i m σ H => m = xs.length - i ∧ i ≤ xs.length ∧ Pv i σ H, ⟨xs.length, by simp, Nat.zero_le _, h0⟩, ?_⟩
  rintro i m σ H ⟨rfl, hi, p⟩
  have q := hl i σ H hi p
  by_cases hlt : i < xs.length
  · refine .inr ⟨⟨xs, xs[i], q, by simp [hlt]⟩, Pv (i + 1), fun σ' H' p' => ⟨xs.length - (i + 1), by omega, rfl, hlt, p'⟩, fun x H' y => ?_⟩
    obtain ⟨e, y⟩ := y
    subst e
    exact hs i x σ _ (y xs q) p
  · have e : i = xs.length := by omega
    subst e
    exact .inl ⟨⟨xs, q, Nat.le_refl _⟩, hd σ H p⟩
theorem for_range {lo : Int} {n : Nat} {g : TG} {tb : TS} {D : Ends} {σ : St} {H : Hp} (Pv : Nat → St → Hp → Prop) (h0 : Pv 0 σ H)
    (hs : ∀ i σ H, i < n → Pv i σ H → g (.int (lo + i)) σ H fun σ2 H2 => tb { D with nx := Pv (i + 1), ct := Pv (i + 1), bk := D.nx } σ2 H2) (hd : ∀ σ H, Pv n σ H → D.nx σ H) :
    ∃ W : Nat → Nat → St → Hp → Prop, (∃ m, W 0 m σ H) ∧ ∀ i m σ H, W i m σ H →
      ((Itr lo n).stop i H ∧ D.nx σ H) ∨ ((Itr lo n).go i H ∧ ∃ N : St → Hp → Prop, (∀ σ' H', N σ' H' → ∃ m', m' < m ∧ W (i + 1) m' σ' H') ∧ ∀ x H', (Itr lo n).yld i H x H' → g x σ H' fun σ2 H2 => tb { D with nx := N, ct := N, bk := D.nx } σ2 H2) := by
  refine ⟨fun i m σ H => m = n - i ∧ i ≤ n ∧ Pv i σ H, ⟨n, by simp, Nat.zero_le _, h0⟩, ?_⟩
  rintro i m σ H ⟨rfl, hi, p⟩
  by_cases hlt : i < n
  · refine .inr ⟨hlt, Pv (i + 1), fun σ' H' p' => ⟨n - (i + 1), by omega, rfl, hlt, p'⟩, fun x H' y => ?_⟩
    obtain ⟨e, y⟩ := y
    subst e y
    exact hs i σ _ hlt p
  · have e : i = n := by omega
    subst e
    exact .inl ⟨Nat.le_refl _, hd σ H p⟩
theorem while_by {c : TT} {tb : TS} {D : Ends} {σ : St} {H : Hp} (Pv : St → Hp → Prop) (μ : St → Hp → Nat) (h0 : Pv σ H)
    (hs : ∀ σ H, Pv σ H → c σ H fun b H1 => if b = true then tb { D with nx := fun σ' H' => Pv σ' H' ∧ μ σ' H' < μ σ H, ct := fun σ' H' => Pv σ' H' ∧ μ σ' H' < μ σ H, bk := D.nx } σ H1 else D.nx σ H1)
    (mono : ∀ σ H Q Q', (∀ b H1, Q b H1 → Q' b H1) → c σ H Q → c σ H Q') : tWhile c tb D σ H := by
  refine ⟨fun m σ H => m = μ σ H ∧ Pv σ H, ⟨_, rfl, h0⟩, ?_⟩
  rintro m σ H ⟨rfl, p⟩
  refine mono σ H _ _ (fun b H1 q => ?_) (hs σ H p)
  cases b with
  | true => exact ⟨_, fun σ' H' ⟨p', l⟩ => ⟨_, l, rfl, p'⟩, q⟩
  | false => exact q
end L2
namespace L2
open PySem PySem.Spec PyProof.Rows
abbrev R2 := V → V → Hp → VK → Prop
def OpR (X : Cx) (f : Value → Value → Sem Value) (r : R2) : Prop :=
  ∀ (pins : List (Addr × Obj)) (s : Shared) (σ : St) (H : Hp) (x y : V) (v u : Value) (Q : VK), Inv X pins σ H s → RelV x v → RelV y u → r x y H Q →
    wpAny (model X.prog X.w) X.A (f v u) (EP X pins σ Q) X.xe s
def UnR (X : Cx) (f : Value → Sem Value) (r : V → Hp → VK → Prop) : Prop :=
  ∀ (pins : List (Addr × Obj)) (s : Shared) (σ : St) (H : Hp) (x : V) (v : Value) (Q : VK), Inv X pins σ H s → RelV x v → r x H Q →
    wpAny (model X.prog X.w) X.A (f v) (EP X pins σ Q) X.xe s
def CallR (X : Cx) (f : Value) (r : List V → Hp → VK → Prop) : Prop :=
  ∀ (pins : List (Addr × Obj)) (s : Shared) (σ : St) (H : Hp) (xs : List V) (us : List Value) (Q : VK), Inv X pins σ H s → Vals xs us → r xs H Q →
    wpAny (model X.prog X.w) X.A (call f us) (EP X pins σ Q) X.xe s
def tOp (r : R2) (ta tb : TE) : TE := fun σ H Q => ta σ H fun x H1 => tb σ H1 fun y H2 => r x y H2 Q
def tUn (r : V → Hp → VK → Prop) (ta : TE) : TE := fun σ H Q => ta σ H fun x H1 => r x H1 Q
def rI (C : Int → Int → Prop) (g : Int → Int → V) : R2 := fun x y H Q => ∃ i j, x = .int i ∧ y = .int j ∧ C i j ∧ Q (g i j) H
def rI0 (g : Int → Int → V) : R2 := fun x y H Q => ∃ i j, x = .int i ∧ y = .int j ∧ Q (g i j) H
def rU (g : Int → V) : V → Hp → VK → Prop := fun x H Q => ∃ i, x = .int i ∧ Q (g i) H
section
variable {X : Cx} {a b c : Expr} {ta tb tc : TE} {pos : Pos}
theorem binT (ha : PE X a ta) (hb : PE X b tb) {pins : List (Addr × Obj)} {s : Shared} {σ : St} {H : Hp} {R : V → V → Hp → Prop} (I : Inv X pins σ H s)
    (h : ta σ H fun x H1 => tb σ H1 fun y H2 => R x y H2) {Q : Value → Shared → Prop} {f : Value → Value → Sem Value}
    (hf : ∀ v u s2 x y H2, Inv X pins σ H2 s2 → RelV x v → RelV y u → R x y H2 → wpAny (model X.prog X.w) X.A (f v u) Q X.xe s2) :
    wpAny (model X.prog X.w) X.A (eval a X.env) (fun v s₁ => wpAny (model X.prog X.w) X.A (eval b X.env) (fun u s₂ => wpAny (model X.prog X.w) X.A (f v u) Q X.xe s₂) X.xe s₁) X.xe s := by
  refine thn (ha pins s σ H _ I h) fun v s1 ⟨x, H1, I1, r1, q1⟩ => ?_
  refine thn (hb pins s1 σ H1 _ I1 q1) fun u s2 ⟨y, H2, I2, r2, q2⟩ => ?_
  exact hf v u s2 x y H2 I2 r1 r2 q2
theorem pe_op {op : Operator} {r : R2} (ho : OpR X (binaryOp op) r) (ha : PE X a ta) (hb : PE X b tb) : PE X (.BinOp a op b pos) (tOp r ta tb) := by
  intro pins s σ H Q I h
  exact wpAny_BinOp (binT ha hb I h fun v u s2 x y H2 I2 rx ry q => ho pins s2 σ H2 x y v u Q I2 rx ry q)
theorem pe_un {op : UnaryOp} {r : V → Hp → VK → Prop} (ho : UnR X (unaryOp op) r) (ha : PE X a ta) : PE X (.UnaryOp op a pos) (tUn r ta) := by
  intro pins s σ H Q I h
  exact UnaryOp_ (thn (ha pins s σ H _ I h) fun v s1 ⟨x, H1, I1, r1, q1⟩ => ho pins s1 σ H1 x v Q I1 r1 q1)
theorem opI {f : Value → Value → Sem Value} {C : Int → Int → Prop} {g : Int → Int → Int}
    (rule : ∀ (i j : Int) (t u : Tok) (s : Shared) (Q : Value → Shared → Prop) (E : Value → Shared → Prop), C i j → Q (.int (g i j) s.toks) { s with toks := s.toks + 1 } → wpAny (model X.prog X.w) X.A (f (.int i t) (.int j u)) Q E s) :
    OpR X f (rI C fun i j => .int (g i j)) := by
  intro pins s σ H x y v u Q I rx ry h
  obtain ⟨i, j, rfl, rfl, hc, q⟩ := h
  obtain ⟨t, rfl⟩ := rx
  obtain ⟨t', rfl⟩ := ry
  exact rule i j t t' s _ _ hc ⟨.int (g i j), H, I.tok _, ⟨_, rfl⟩, q⟩
theorem opI0 {f : Value → Value → Sem Value} {g : Int → Int → Int}
    (rule : ∀ (i j : Int) (t u : Tok) (s : Shared) (Q : Value → Shared → Prop) (E : Value → Shared → Prop), Q (.int (g i j) s.toks) { s with toks := s.toks + 1 } → wpAny (model X.prog X.w) X.A (f (.int i t) (.int j u)) Q E s) :
    OpR X f (rI0 fun i j => .int (g i j)) := by
  intro pins s σ H x y v u Q I rx ry h
  obtain ⟨i, j, rfl, rfl, q⟩ := h
  obtain ⟨t, rfl⟩ := rx
  obtain ⟨t', rfl⟩ := ry
  exact rule i j t t' s _ _ ⟨.int (g i j), H, I.tok _, ⟨_, rfl⟩, q⟩
theorem opB0 {f : Value → Value → Sem Value} {g : Int → Int → Bool}
    (rule : ∀ (i j : Int) (t u : Tok) (s : Shared) (Q : Value → Shared → Prop) (E : Value → Shared → Prop), Q (.bool (g i j)) s → wpAny (model X.prog X.w) X.A (f (.int i t) (.int j u)) Q E s) :
    OpR X f (rI0 fun i j => .bl (g i j)) := by
  intro pins s σ H x y v u Q I rx ry h
  obtain ⟨i, j, rfl, rfl, q⟩ := h
  obtain ⟨t, rfl⟩ := rx
  obtain ⟨t', rfl⟩ := ry
  exact rule i j t t' s _ _ ⟨.bl (g i j), H, I, rfl, q⟩
def CDiv (i j : Int) : Prop := 0 < j ∧ j < 1073741824
def CPow (i j : Int) : Prop := 0 ≤ j ∧ j ≤ 1000000 ∧ i.natAbs < 2 ^ 64
def CMul (i j : Int) : Prop := (-(2 ^ 64) < i ∧ i < 2 ^ 64) ∨ (-(2 ^ 64) < j ∧ j < 2 ^ 64)
theorem CMul.ok {i j : Int} (h : CMul i j) : IntMulOk i j := by
  rcases h with ⟨h1, h2⟩ | ⟨h1, h2⟩
  · exact .of_left (intBits_le_64 h1 h2)
  · exact .of_right (intBits_le_64 h1 h2)
theorem op_add : OpR X (binaryOp .Add) (rI0 fun i j => .int (i + j)) := opI0 fun _ _ _ _ _ _ _ q => add_int q
theorem op_sub : OpR X (binaryOp .Sub) (rI0 fun i j => .int (i - j)) := opI0 fun _ _ _ _ _ _ _ q => sub_int q
theorem op_mul : OpR X (binaryOp .Mult) (rI CMul fun i j => .int (i * j)) := opI fun _ _ _ _ _ _ _ hc q => mul_int q hc.ok
theorem op_fdiv : OpR X (binaryOp .FloorDiv) (rI CDiv fun i j => .int (i / j)) := opI fun i j _ _ _ _ _ hc q => by
  have h1 : (0 : Int) < j := hc.1
  have h2 : j < 1073741824 := hc.2
  exact floordiv_int (by omega) (by rw [Int.fdiv_eq_ediv_of_nonneg i (by omega)]; exact q) (.inl (PyProof.noPylong_small (by omega)))
theorem op_mod : OpR X (binaryOp .Mod) (rI (fun _ j => 0 < j) fun i j => .int (i % j)) := opI fun i j _ _ _ _ _ hc q => by
  have h1 : (0 : Int) < j := hc
  exact mod_int' (by omega) (by rw [Int.fmod_eq_emod_of_nonneg i (by omega)]; exact q)
theorem op_pow : OpR X (binaryOp .Pow) (rI CPow fun i j => .int (i ^ j.toNat)) := opI fun _ _ _ _ _ _ _ hc q => pow_int_small hc.1 hc.2.1 hc.2.2 q
theorem unI {f : Value → Sem Value} {g : Int → Int}
    (rule : ∀ (i : Int) (t : Tok) (s : Shared) (Q : Value → Shared → Prop) (E : Value → Shared → Prop), Q (.int (g i) s.toks) { s with toks := s.toks + 1 } → wpAny (model X.prog X.w) X.A (f (.int i t)) Q E s) :
    UnR X f (rU fun i => .int (g i)) := by
  intro pins s σ H x v Q I rx h
  obtain ⟨i, rfl, q⟩ := h
  obtain ⟨t, rfl⟩ := rx
  exact rule i t s _ _ ⟨.int (g i), H, I.tok _, ⟨_, rfl⟩, q⟩
theorem un_neg : UnR X (unaryOp .USub) (rU fun i => .int (-i)) := unI fun _ _ _ _ _ q => neg_int q
end
def scal : V → V → Bool
  | .non, .non => true | .non, .int _ => true | .int _, .non => true | .non, .bl _ => true | .bl _, .non => true | .non, .str _ => true | .str _, .non => true
  | .int _, .int _ => true | .bl _, .bl _ => true | .str _, .str _ => true | .byt _, .byt _ => true
  | .int _, .str _ => true | .str _, .int _ => true | .bl _, .str _ => true | .str _, .bl _ => true
  | _, _ => false
def rEq : R2 := fun x y H Q => scal x y = true ∧ Q (.bl (decide (x = y))) H
def rNe : R2 := fun x y H Q => scal x y = true ∧ Q (.bl (!decide (x = y))) H
theorem dec_int {i j : Int} : decide (V.int i = V.int j) = (i == j) := by
  rw [Bool.eq_iff_iff]
  simp
theorem dec_bl {i j : Bool} : decide (V.bl i = V.bl j) = (i == j) := by
  rw [Bool.eq_iff_iff]
  simp
theorem dec_str {i j : Str} : decide (V.str i = V.str j) = (i == j) := by
  rw [Bool.eq_iff_iff]
  simp
theorem dec_byt {i j : Array UInt8} : decide (V.byt i = V.byt j) = (i.toList == j.toList) := by
  rw [Bool.eq_iff_iff]
  cases i
  cases j
  simp
section
variable {X : Cx} {a b c : Expr} {ta tb tc : TE} {pos : Pos}
theorem fin_bl {pins : List (Addr × Obj)} {σ : St} {H : Hp} {s : Shared} {Q : VK} {k k' : Bool} (I : Inv X pins σ H s) (q : Q (.bl k) H) (e : k = k') : EP X pins σ Q (.bool k') s := by
  subst e
  exact ⟨.bl k, H, I, rfl, q⟩
theorem op_eq : OpR X (compareOp .Eq) rEq := by
  intro pins s σ H x y v u Q I rx ry h
  obtain ⟨hs, q⟩ := h
  cases x with
  | non =>
    cases rx
    cases y with
    | non => cases ry; exact PySem.EqNone.eq_none_none (fin_bl I q (by simp))
    | bl j => cases ry; exact PySem.EqNone.eq_none_bool (fin_bl I q (by simp))
    | int j => obtain ⟨t', rfl⟩ := ry; exact PySem.EqNone.eq_none_int (fin_bl I q (by simp))
    | str j => obtain ⟨t', rfl⟩ := ry; exact PySem.EqNone.eq_none_str (fin_bl I q (by simp))
    | _ => exact absurd (show false = true from hs) Bool.false_ne_true
  | bl i =>
    cases rx
    cases y with
    | non => cases ry; exact PySem.EqNone.eq_bool_none (fin_bl I q (by simp))
    | bl j => cases ry; exact eq_bool (fin_bl I q dec_bl)
    | str j => obtain ⟨t', rfl⟩ := ry; exact PySem.EqMixed.eq_bool_str (fin_bl I q (by simp))
    | _ => exact absurd (show false = true from hs) Bool.false_ne_true
  | int i =>
    obtain ⟨t, rfl⟩ := rx
    cases y with
    | non => cases ry; exact PySem.EqNone.eq_int_none (fin_bl I q (by simp))
    | int j => obtain ⟨t', rfl⟩ := ry; exact eq_int (fin_bl I q dec_int)
    | str j => obtain ⟨t', rfl⟩ := ry; exact PySem.EqMixed.eq_int_str (fin_bl I q (by simp))
    | _ => exact absurd (show false = true from hs) Bool.false_ne_true
  | str i =>
    obtain ⟨t, rfl⟩ := rx
    cases y with
    | non => cases ry; exact PySem.EqNone.eq_str_none (fin_bl I q (by simp))
    | bl j => cases ry; exact PySem.EqMixed.eq_str_bool (fin_bl I q (by simp))
    | int j => obtain ⟨t', rfl⟩ := ry; exact PySem.EqMixed.eq_str_int (fin_bl I q (by simp))
    | str j => obtain ⟨t', rfl⟩ := ry; exact eq_str (fin_bl I q dec_str)
    | _ => exact absurd (show false = true from hs) Bool.false_ne_true
  | byt i =>
    obtain ⟨t, rfl⟩ := rx
    cases y with
    | byt j => obtain ⟨t', rfl⟩ := ry; exact PySem.W.eq_bytes (fin_bl I q dec_byt)
    | _ => exact absurd (show false = true from hs) Bool.false_ne_true
  | _ => cases y <;> exact absurd (show false = true from hs) Bool.false_ne_true
theorem op_ne : OpR X (compareOp .NotEq) rNe := by
  intro pins s σ H x y v u Q I rx ry h
  obtain ⟨hs, q⟩ := h
  cases x with
  | non =>
    cases rx
    cases y with
    | non => cases ry; exact PySem.EqNone.ne_none_none (fin_bl I q (by simp))
    | bl j => cases ry; exact PySem.EqNone.ne_none_bool (fin_bl I q (by simp))
    | int j => obtain ⟨t', rfl⟩ := ry; exact PySem.EqNone.ne_none_int (fin_bl I q (by simp))
    | str j => obtain ⟨t', rfl⟩ := ry; exact PySem.EqNone.ne_none_str (fin_bl I q (by simp))
    | _ => exact absurd (show false = true from hs) Bool.false_ne_true
  | bl i =>
    cases rx
    cases y with
    | non => cases ry; exact PySem.EqNone.ne_bool_none (fin_bl I q (by simp))
    | bl j => cases ry; exact ne_bool (fin_bl I q (congrArg not dec_bl))
    | str j => obtain ⟨t', rfl⟩ := ry; exact PySem.EqMixed.ne_bool_str (fin_bl I q (by simp))
    | _ => exact absurd (show false = true from hs) Bool.false_ne_true
  | int i =>
    obtain ⟨t, rfl⟩ := rx
    cases y with
    | non => cases ry; exact PySem.EqNone.ne_int_none (fin_bl I q (by simp))
    | int j => obtain ⟨t', rfl⟩ := ry; exact ne_int (fin_bl I q (congrArg not dec_int))
    | str j => obtain ⟨t', rfl⟩ := ry; exact PySem.EqMixed.ne_int_str (fin_bl I q (by simp))
    | _ => exact absurd (show false = true from hs) Bool.false_ne_true
  | str i =>
    obtain ⟨t, rfl⟩ := rx
    cases y with
    | non => cases ry; exact PySem.EqNone.ne_str_none (fin_bl I q (by simp))
    | bl j => cases ry; exact PySem.EqMixed.ne_str_bool (fin_bl I q (by simp))
    | int j => obtain ⟨t', rfl⟩ := ry; exact PySem.EqMixed.ne_str_int (fin_bl I q (by simp))
    | str j => obtain ⟨t', rfl⟩ := ry; exact ne_str (fin_bl I q (congrArg not dec_str))
    | _ => exact absurd (show false = true from hs) Bool.false_ne_true
  | byt i =>
    obtain ⟨t, rfl⟩ := rx
    cases y with
    | byt j => obtain ⟨t', rfl⟩ := ry; exact PySem.W.ne_bytes (fin_bl I q (congrArg not dec_byt))
    | _ => exact absurd (show false = true from hs) Bool.false_ne_true
  | _ => cases y <;> exact absurd (show false = true from hs) Bool.false_ne_true
theorem op_lt : OpR X (compareOp .Lt) (rI0 fun i j => .bl (decide (i < j))) := opB0 fun _ _ _ _ _ _ _ q => lt_int q
theorem op_gt : OpR X (compareOp .Gt) (rI0 fun i j => .bl (decide (j < i))) := opB0 fun _ _ _ _ _ _ _ q => gt_int q
theorem nomark (b : Expr) {op : CmpOp} (h : op ≠ .In := by decide) (h2 : op ≠ .NotIn := by decide) : behindInMarks op b = false := by
  have e1 : (op == CmpOp.In) = false := by cases op <;> first | rfl | exact absurd rfl h
  have e2 : (op == CmpOp.NotIn) = false := by cases op <;> first | rfl | exact absurd rfl h2
  cases b <;> simp [behindInMarks, e1, e2]
theorem pe_cmpR {op : CmpOp} {r : R2} (ho : OpR X (compareOp op) r) (ha : PE X a ta) (hb : PE X b tb) (hm : behindInMarks op b = false) : PE X (.Compare a [op] [b] pos) (tOp r ta tb) := by
  intro pins s σ H Q I h
  exact wpAny_Compare1 (binT ha hb I h fun v u s2 x y H2 I2 rx ry q => ho pins s2 σ H2 x y v u Q I2 rx ry q) hm
def tTest (t : TE) : TT := fun σ H Q => t σ H fun x H' => ∃ k, x = .bl k ∧ Q k H'
theorem pt_cmpR {op : CmpOp} {r : R2} (ho : OpR X (compareOp op) r) (ha : PE X a ta) (hb : PE X b tb) (hm : behindInMarks op b = false) : PT X (.Compare a [op] [b] pos) (tTest (tOp r ta tb)) := by
  intro pins s σ H Q I h
  refine wpAny_isTrue_Compare1 (thn (ha pins s σ H _ I h) fun v s1 ⟨x, H1, I1, r1, q1⟩ => thn (hb pins s1 σ H1 _ I1 q1) fun u s2 ⟨y, H2, I2, r2, q2⟩ =>
    thn (ho pins s2 σ H2 x y v u _ I2 r1 r2 q2) fun c s3 ⟨z, H3, I3, r3, k, e, q3⟩ => ?_) hm
  subst e
  cases r3
  exact wpAny_truthy_bool ⟨H3, I3, q3⟩
theorem line63 : (sizeLine : Nat) < 2 ^ 63 := by rw [sizeLine_eq]; decide
theorem op_add_str : OpR X (binaryOp .Add) (fun x y H Q => ∃ i j, x = .str i ∧ y = .str j ∧ i.length + j.length ≤ sizeLine ∧ Q (.str (i ++ j)) H) := by
  intro pins s σ H x y v u Q I rx ry h
  obtain ⟨i, j, rfl, rfl, hz, q⟩ := h
  obtain ⟨t, rfl⟩ := rx
  obtain ⟨t', rfl⟩ := ry
  exact add_str (fun t' tk => ⟨.str (i ++ j), H, I.tok _, ⟨_, rfl⟩, q⟩) hz
theorem vals1 {x : V} {us : List Value} (r : Vals [x] us) : ∃ u, us = [u] ∧ RelV x u := by
  cases r with
  | cons r1 r2 => cases r2; exact ⟨_, rfl, r1⟩
theorem vals2 {x y : V} {us : List Value} (r : Vals [x, y] us) : ∃ u w', us = [u, w'] ∧ RelV x u ∧ RelV y w' := by
  cases r with
  | cons r1 r2 =>
    cases r2 with
    | cons r3 r4 => cases r4; exact ⟨_, _, rfl, r1, r3⟩
theorem call_max2 (hc : X.calm = true) : CallR X (.builtin "max") (fun xs H Q => ∃ i j, xs = [.int i, .int j] ∧ Q (.int (if j > i then j else i)) H) := by
  intro pins s σ H xs us Q I r h
  obtain ⟨i, j, rfl, q⟩ := h
  obtain ⟨u, w', rfl, ⟨t, rfl⟩, ⟨t', rfl⟩⟩ := vals2 r
  refine max_two_ints (I.ok.hd hc) fun h' tk k => ⟨_, H, I.kept k, ?_, q⟩
  by_cases hj : j > i
  · rw [if_pos hj, if_pos hj]; exact ⟨_, rfl⟩
  · rw [if_neg hj, if_neg hj]; exact ⟨_, rfl⟩
theorem call_int1 : CallR X (.type "int") (fun xs H Q => (∃ i, xs = [.int i] ∧ Q (.int i) H) ∨ ∃ k, xs = [.bl k] ∧ Q (.int (if k then 1 else 0)) H) := by
  intro pins s σ H xs us Q I r h
  rcases h with ⟨i, rfl, q⟩ | ⟨k, rfl, q⟩
  · obtain ⟨u, rfl, t, rfl⟩ := vals1 r
    exact call_int_int ⟨.int i, H, I, ⟨_, rfl⟩, q⟩
  · obtain ⟨u, rfl, r1⟩ := vals1 r
    cases r1
    exact call_int_bool ⟨.int (if k then 1 else 0), H, I.tok _, ⟨_, rfl⟩, q⟩
end
end L2
namespace L2
open PySem PySem.Spec PyProof.Rows
structure ObjM (h : Heap) (x dx C : Addr) (mA : Str → Option Value) : Prop where
  obj : h.get? x = some (PySem.W.instObj C dx)
  ns : h.Ns1 dx mA
  ne : dx ≠ x
theorem lookIn_ns {h : Heap} {dx : Addr} {mA : Str → Option Value} (n : h.Ns1 dx mA) : ∃ od, h.get? dx = some od ∧ ∀ name, PySem.W.lookIn name od = some (mA name) := by
  obtain ⟨o, es, ep, ho, hd, hk, _, hm⟩ := n
  refine ⟨o, ho, fun name => ?_⟩
  have e := hm name
  unfold nsFind findBy at e
  rw [← Array.find?_toList] at e
  unfold PySem.W.lookIn
  rw [hd]
  dsimp only
  split
  · rename_i y q
    rw [q] at e
    exact congrArg some e
  · rename_i q
    rw [q] at e
    have a : es.toList.any (·.refKey) = false := by
      rw [List.any_eq_false]
      intro y hy
      obtain ⟨z, t, hkey⟩ := hk y (Array.mem_toList_iff.mp hy)
      simp [DictEntry.refKey, hkey]
    have a' : ¬ es.toList.any (·.refKey) = true := by rw [a]; exact Bool.false_ne_true
    rw [if_neg a']
    exact congrArg some e
theorem ObjM.look {h : Heap} {x dx C : Addr} {mA : Str → Option Value} (I : ObjM h x dx C mA) : ∃ od, PySem.W.InstAt h x (PySem.W.instObj C dx) C (some od) ∧ ∀ name, PySem.W.lookIn name od = some (mA name) :=
  let ⟨od, ho, hl⟩ := lookIn_ns I.ns
  ⟨od, ⟨I.obj, rfl, rfl, ho⟩, hl⟩
section
variable {prog : Program} {w : World} {A : Around} {E : Value → Shared → Prop} {s : Shared} {K : PySem.W.Frag} {x dx C f : Addr} {mA : Str → Option Value} {name : Str} {v : Value}
end
theorem RelO.some_of {v : V} {o : Option Value} (r : RelO (some v) o) : ∃ u, o = some u ∧ RelV v u := by
  cases o with
  | none => exact (show False from r).elim
  | some u => exact ⟨u, rfl, r⟩
section
variable {P : Program} {w : World} {H H' : Hp} {h h' : Heap} {a C dx : Addr} {fs fs' : List (Str × V)}
theorem ins_get (hok : HOk P w H h) (e : H a = some (.ins C dx fs)) : ∃ mA, ObjM h a dx C mA ∧ (∀ f, RelO (fs.lookup f) (mA f)) ∧ PySem.Within mA (fs.map (·.1)) ∧ fs.length ≤ 1000 ∧ H dx = some (.own a) := by
  obtain ⟨d, z, ne, ob, mA, n, r, q⟩ := (show ObjOk P w H h a (.ins C dx fs) from hok a _ e)
  exact ⟨mA, ⟨ob, n, ne⟩, r, q, z, d⟩
end
structure Cls (K : PySem.W.Frag) (C : Addr) : Prop where
  pg : PySem.W.plainGet K C Str.empty = true
  hd : PySem.W.hasDictIn K C = true
  po : PySem.W.plainOver K C = true
  sa : PySem.W.findIn K (.ref C) "__setattr__" = some (some (.builtin "object.__setattr__"))
theorem Cls.get {K : PySem.W.Frag} {C : Addr} (c : Cls K C) (f : Str) : PySem.W.plainGet K C f = true := c.pg
section
variable {X : Cx} {pins : List (Addr × Obj)} {σ : St} {H : Hp} {s : Shared} {a C dx : Addr} {fs : List (Str × V)} {f : Str} {v : V} {A : Around} {E : Value → Shared → Prop}
end
section
variable {X : Cx} {o e value : Expr} {f : Str} {pos pos' tpos : Pos} {ta tv : TE}
end
section
variable {X : Cx} {pins : List (Addr × Obj)} {σ : St} {H : Hp} {s : Shared} {A : Around} {E : Value → Shared → Prop} {Q : Value → Shared → Prop} {c : Value} {b : Bool}
inductive TyOf (K : PySem.W.Frag) (H : Hp) : V → Value → Prop where
  | non : TyOf K H .non (.type "NoneType")
  | bl (x : Bool) : TyOf K H (.bl x) (.type "bool")
  | int (i : Int) : TyOf K H (.int i) (.type "int")
  | str (x : Str) : TyOf K H (.str x) (.type "str")
  | flt (x : UInt64) : TyOf K H (.flt x) (.type "float")
  | lst {a : Addr} {xs : List V} (e : H a = some (.lst xs)) : TyOf K H (.ref a) (.type "list")
  | frz {a : Addr} {o : Obj} {xs : List V} (e : H a = some (.frz o (.lst xs))) : TyOf K H (.ref a) (.type "list")
  | tup {a : Addr} {xs : List V} (e : H a = some (.tup xs)) : TyOf K H (.ref a) (.type "tuple")
  | dK {a : Addr} {kvs : List (Key × V)} (e : H a = some (.dK kvs)) : TyOf K H (.ref a) (.type "dict")
  | dT {a : Addr} {kvs : List (List Key × V)} (e : H a = some (.dT kvs)) : TyOf K H (.ref a) (.type "dict")
  | ins {a C dx : Addr} {fs : List (Str × V)} (e : H a = some (.ins C dx fs)) (cl : Cls K C) (ha : PySem.W.findIn K (.ref C) "__class__" = some (some (.builtin "object.__class__")))
      (hn : PySem.W.specialIn K (.builtin "object.__class__") "__get__" = some (some (.builtin "getset_descriptor.__get__"))) (htk : PySem.W.takesIn K (.builtin "object.__class__") = some true)
      (hm : PySem.W.mroIn K C (.type "object") = some true) : TyOf K H (.ref a) (.ref C)
theorem isinst_ok {x : V} {u t : Value} (I : Inv X pins σ H s) (rx : RelV x u) (ty : TyOf X.K H x t) (e : PySem.W.kitOne X.K t c = some b) (h : ∀ tk, Q (.bool b) { s with toks := tk }) :
    wpAny (model X.prog X.w) A (call (.builtin "isinstance") [u, c]) Q E s := by
  cases ty with
  | non => cases (show u = Value.none from rx); exact PySem.W.kia_one PySem.W.kitx_none I.kIn True.intro e (fun z => nomatch z) h
  | bl y => cases (show u = Value.bool y from rx); exact PySem.W.kia_one PySem.W.kitx_bool I.kIn True.intro e (fun z => nomatch z) h
  | int i => obtain ⟨t, q⟩ := (show ∃ t, u = Value.int i t from rx); cases q; exact PySem.W.kia_one PySem.W.kitx_int I.kIn True.intro e (fun z => nomatch z) h
  | str y => obtain ⟨t, q⟩ := (show ∃ t, u = Value.str y t from rx); cases q; exact PySem.W.kia_one PySem.W.kitx_str I.kIn True.intro e (fun z => nomatch z) h
  | flt y => obtain ⟨t, q⟩ := (show ∃ t, u = Value.float y t from rx); cases q; exact PySem.W.kia_one PySem.W.kitx_float I.kIn True.intro e (fun z => nomatch z) h
  | @lst a xs ea =>
    cases (show u = Value.ref a from rx)
    obtain ⟨_, _, n, _, h1⟩ := (show ObjOk X.prog X.w H s.heap a (.lst xs) from I.hok a _ ea)
    exact PySem.W.kia_one PySem.W.kitx_list I.kIn ⟨_, h1, rfl⟩ e (fun z => nomatch z) h
  | @frz a ob xs ea =>
    cases (show u = Value.ref a from rx)
    obtain ⟨_, _, _, n, _, h1⟩ := (show ObjOk X.prog X.w H s.heap a (.frz ob (.lst xs)) from I.hok a _ ea)
    exact PySem.W.kia_one PySem.W.kitx_list I.kIn ⟨_, h1, rfl⟩ e (fun z => nomatch z) h
  | @tup a xs ea =>
    cases (show u = Value.ref a from rx)
    obtain ⟨_, _, _, p⟩ := (show ObjOk X.prog X.w H s.heap a (.tup xs) from I.hok a _ ea)
    obtain ⟨o, h1, h2, _⟩ := p
    exact PySem.W.kia_one PySem.W.kitx_tuple I.kIn ⟨o, h1, h2⟩ e (fun z => nomatch z) h
  | @dK a kvs ea =>
    cases (show u = Value.ref a from rx)
    obtain ⟨_, _, vs, _, p⟩ := (show ObjOk X.prog X.w H s.heap a (.dK kvs) from I.hok a _ ea)
    obtain ⟨o, es, ep, h1, h2, _⟩ := p
    exact PySem.W.kia_one PySem.W.kitx_dict I.kIn ⟨o, h1, h2.1⟩ e (fun z => nomatch z) h
  | @dT a kvs ea =>
    cases (show u = Value.ref a from rx)
    obtain ⟨_, _, xs, _, o, es, ep, h1, h2, _⟩ := (show ObjOk X.prog X.w H s.heap a (.dT kvs) from I.hok a _ ea)
    exact PySem.W.kia_one PySem.W.kitx_dict I.kIn ⟨o, h1, h2.1⟩ e (fun z => nomatch z) h
  | @ins a C dx fs ea cl ha hn htk hm =>
    cases (show u = Value.ref a from rx)
    obtain ⟨mA, O, _⟩ := ins_get I.hok ea
    obtain ⟨od, J, _⟩ := O.look
    exact PySem.W.kia_one (PySem.W.kitx_own (cl.get _) cl.hd ha hn htk hm) I.kIn J e (fun z => nomatch z) h
end
end L2
namespace L2
open PySem PySem.Spec PyProof.Rows
structure Room (k : Nat) (A : Around) : Prop where
  hd : A.handled = none
  dp : A.depth + 3 * k + 5 < recursionLimit
  un : A.units + 16 * k + 200 < cLine
theorem Room.mono {j k : Nat} {A : Around} (r : Room k A) (h : j ≤ k) : Room j A := ⟨r.hd, by have := r.dp; omega, by have := r.un; omega⟩
theorem Room.deeper {k : Nat} {A : Around} (r : Room (k + 1) A) (env : Env) : Room k (A.deeper env) :=
  ⟨r.hd, by have := r.dp; show A.depth + 1 + 3 * k + 5 < _; omega, by have := r.un; show A.units + 3 + 16 * k + 200 < _; omega⟩
theorem Room.depth {k : Nat} {A : Around} (r : Room k A) : A.depth < recursionLimit := by have := r.dp; omega
theorem Room.units {k : Nat} {A : Around} (r : Room k A) : A.units + 64 < cLine := by have := r.un; omega
def tNil : TA := fun _ H Q => Q [] H
def tCons (ta : TE) (tr : TA) : TA := fun σ H Q => ta σ H fun x H1 => tr σ H1 fun xs H2 => Q (x :: xs) H2
section
variable {X : Cx} {e : Expr} {es : List Expr} {te : TE} {t : TA} {pos : Pos}
theorem pa_nil : PA X [] tNil := fun _ _ _ _ H Q I h => Calls.spliced_nil ⟨[], H, I, .nil, h⟩
theorem pa_cons (ha : PE X e te) (hr : PA X es t) (hs : starEach (e :: es) X.env = (false, eval e X.env) :: starEach es X.env := by rfl) : PA X (e :: es) (tCons te t) := by
  intro pos pins s σ H Q I h
  rw [hs]
  show wpAny _ _ (spliced ((false, eval e X.env) :: backTo pos (starEach es X.env))) _ _ s
  refine Calls.spliced_cons (thn (ha pins s σ H _ I h) fun u s1 ⟨x, H1, I1, r1, q1⟩ => ?_)
  exact thn (hr pos pins s1 σ H1 _ I1 q1) fun us s2 ⟨xs, H2, I2, r2, q2⟩ => ⟨x :: xs, H2, I2, .cons r1 r2, q2⟩
def tTup (t : TA) : TE := fun σ H Q => t σ H fun xs H1 => xs.length ≤ sizeLine ∧ ∀ p, H1 p = none → Q (.ref p) (upd H1 p (.tup xs))
def tLst (t : TA) : TE := fun σ H Q => t σ H fun xs H1 => xs.length ≤ sizeLine ∧ ∀ p, H1 p = none → Q (.ref p) (upd H1 p (.lst xs))
theorem pe_tup {x1} (h : PA X es t) : PE X (.Tuple es x1 pos) (tTup t) := by
  intro pins s σ H Q I hq
  refine wpAny_Tuple_spliced (thn (h pos pins s σ H _ I hq) fun us s1 ⟨xs, H1, I1, r, z, q⟩ => ⟨by rw [← r.length]; exact z, ?_⟩)
  have hf : H1 s1.heap.objs.size = none := I1.hok.fresh (Nat.le_refl _)
  refine ⟨.ref s1.heap.objs.size, upd H1 s1.heap.objs.size (.tup xs), I1.laid (t' := s1.toks) (fun b u e => Heap.get?_push_of_some _ e) (Nat.le_refl _) ?_, rfl, q _ hf⟩
  exact ⟨z, us, r, ⟨_, Heap.get?_push_size _ rfl, rfl, _, rfl, rfl⟩⟩
theorem pe_lst (h : PA X es t) : PE X (.List es pos) (tLst t) := by
  intro pins s σ H Q I hq
  refine wpAny_List_spliced (thn (h pos pins s σ H _ I hq) fun us s1 ⟨xs, H1, I1, r, z, q⟩ => ⟨by rw [← r.length]; exact z, ?_⟩)
  have hf : H1 s1.heap.objs.size = none := I1.hok.fresh (Nat.le_refl _)
  refine ⟨.ref s1.heap.objs.size, upd H1 s1.heap.objs.size (.lst xs), I1.laid (t' := s1.toks) (fun b u e => Heap.get?_push_of_some _ e) (Nat.le_refl _) ?_, rfl, q _ hf⟩
  exact ⟨z, us, 0, r, Heap.get?_push_size _ rfl⟩
end
abbrev Sp := List V → Hp → VK → XK → Prop
abbrev CXT := List Env → Hp → Shared → XK → Value → Shared → Prop
structure Env0 (P : Program) (w : World) (K : PySem.W.Frag) (mg : Str → Option Value) (base : Heap) (A : Around) (outer : List Env) (s : Shared) (H : Hp) : Prop where
  frames : A.frames = some outer
  mod : Mod K mg base
  bs : ∀ b o, base.get? b = some o → s.heap.get? b = some o ∧ H b = none
  bsz : base.objs.size ≤ s.heap.objs.size
  funs : s.heap.FunFrames base outer
  frf : ∀ b ∈ frs outer, H b = none
  hok : HOk P w H s.heap
  bare : AllBare s.gens
def CE (outer : List Env) (P : Program) (w : World) (H : Hp) (s : Shared) (Q : VK) (u : Value) (s' : Shared) : Prop :=
  ∃ v H', s'.os = s.os ∧ AllBare s'.gens ∧ Un (frs outer) [] H H' s.heap s'.heap ∧ HOk P w H' s'.heap ∧ RelV v u ∧ Q v H'
def CR (CX : CXT) (outer : List Env) (P : Program) (w : World) (H : Hp) (s : Shared) (Q : VK) (E : XK) (r : Result) (s' : Shared) : Prop :=
  match r with
  | .ok (.ret u) => CE outer P w H s Q u s'
  | .ok _ => False
  | .error e => CX outer H s E e s'
structure FnOk (P : Program) (w : World) (K : PySem.W.Frag) (mg : Str → Option Value) (base : Heap) (CX : CXT) (k : Nat) (f : Addr) (fd : FuncData) (ps : List Str) (sp : Sp) : Prop where
  len : ∀ vs H Q E, sp vs H Q E → vs.length = ps.length
  run : ∀ (A : Around) (outer : List Env) (s : Shared) (H : Hp) (args : Args) (us : List Value) (vs : List V) (Q : VK) (E : XK), Room k A → Env0 P w K mg base A outer s H → BindsTo s fd args (ps.zip us) → Vals vs us → sp vs H Q E →
    codeAny (model P w) A (.call (.ref f) args) (CR CX outer P w H s Q E) s
theorem FnOk.mono {P : Program} {w : World} {K : PySem.W.Frag} {mg : Str → Option Value} {base : Heap} {CX : CXT} {j k : Nat} {f : Addr} {fd : FuncData} {ps : List Str} {sp : Sp} (F : FnOk P w K mg base CX j f fd ps sp) (h : j ≤ k) :
    FnOk P w K mg base CX k f fd ps sp := ⟨F.len, fun A outer s H args us vs Q E hr => F.run A outer s H args us vs Q E (hr.mono h)⟩
section
variable {X : Cx} {pins : List (Addr × Obj)} {σ : St} {H : Hp} {s s' : Shared}
theorem Inv.env0 (I : Inv X pins σ H s) : Env0 X.prog X.w X.K X.mg X.base X.A X.stack s H :=
  ⟨I.ok.frames, I.ok.mod, I.bs, Nat.le_trans I.ok.bsz I.sz, I.stack, I.stkFree, I.hok, I.bare⟩
theorem Inv.after {Q : VK} {u : Value} (I : Inv X pins σ H s) (h : CE X.stack X.prog X.w H s Q u s') : EP X pins σ Q u s' := by
  obtain ⟨v, H', os, bare, un, hok, r, q⟩ := h
  obtain ⟨hh, g, d, t, os'⟩ := s'
  obtain rfl : os' = s.os := os
  exact ⟨v, H', I.call (h' := hh) (g' := g) (d' := d) (t' := t) (ch := []) un hok bare (fun b z => absurd z (by simp)), r, q⟩
end
def tCall (sp : Sp) (dvs : List V) (E : XK) (t : TA) : TE := fun σ H Q => t σ H fun vs H1 => sp (vs ++ dvs) H1 Q E
def Binds (K : PySem.W.Frag) (fd : FuncData) (ps : List Str) (ds : List Value) : Prop :=
  ∀ (s : Shared) (us : List Value), K.In s.heap → (us ++ ds).length = ps.length → BindsTo s fd ⟨us, []⟩ (ps.zip (us ++ ds))
theorem Binds.all {K : PySem.W.Frag} {fd : FuncData} {ps : List Str} (h : ∀ us : List Value, us.length = ps.length → bindArgs fd ⟨us, []⟩ = pure (ps.zip us)) : Binds K fd ps [] := fun s us _ hl => by
  rw [List.append_nil] at hl ⊢
  exact .of_eq (h us hl)
def Passes (CX : CXT) (X : Cx) (E : XK) : Prop := ∀ (pins : List (Addr × Obj)) (σ : St) (H : Hp) (s : Shared) (e : Value) (s' : Shared), Inv X pins σ H s → CX X.stack H s E e s' → X.xe e s'
section
variable {X : Cx} {CX : CXT} {k : Nat} {f C : Addr} {fd : FuncData} {ps : List Str} {sp : Sp} {dvs : List V} {ds : List Value} {E : XK} {x m : Str} {p pos apos : Pos} {e o : Expr} {es : List Expr} {ta : TE} {t : TA}
theorem run_fn {pins : List (Addr × Obj)} {σ : St} {H : Hp} {s : Shared} {Q : VK} {us : List Value} {vs : List V} (F : FnOk X.prog X.w X.K X.mg X.base CX k f fd ps sp) (hr : Room k X.A) (hb : Binds X.K fd ps ds) (hd : Vals dvs ds) (hx : Passes CX X E)
    (I : Inv X pins σ H s) (r : Vals vs us) (h : sp (vs ++ dvs) H Q E) : wpAny (model X.prog X.w) X.A (call (.ref f) us) (EP X pins σ Q) X.xe s := by
  have r2 : Vals (vs ++ dvs) (us ++ ds) := r.append hd
  have hl : (us ++ ds).length = ps.length := by rw [← r2.length]; exact F.len _ _ _ _ h
  refine wpAny_call (codeAny_mono (F.run X.A X.stack s H ⟨us, []⟩ (us ++ ds) (vs ++ dvs) Q E hr I.env0 (hb s us I.kIn hl) r2 h) fun r s' hq => ?_)
  cases r with
  | error e => exact hx pins σ H s e s' I hq
  | ok fl =>
    cases fl with
    | ret u => exact I.after hq
    | next => exact False.elim hq
    | brk => exact False.elim hq
    | cont => exact False.elim hq
theorem pe_call (F : FnOk X.prog X.w X.K X.mg X.base CX k f fd ps sp) (hr : Room k X.A) (hg : Gl X x) (hm : X.mg x = some (.ref f)) (hk : PySem.W.keepIn X.K (.ref f) = true) (hb : Binds X.K fd ps ds) (hd : Vals dvs ds) (hx : Passes CX X E)
    (ha : PA X (e :: es) t) (hdb : (x == ("__debug__" : Str)) = false := by decide) (he : starEach (e :: es) X.env = (false, eval e X.env) :: starEach es X.env := by rfl) (hpl : (backTo pos (starEach es X.env)).any (·.1) = false := by rfl) :
    PE X (.Call (.Name x p) (e :: es) [] pos) (tCall sp dvs E t) := by
  intro pins s σ H Q I h
  refine wpAny_Call_Name_kw (ld_glob I hg hm ?_ hdb)
  refine PySem.W.callWith_K (h₀ := X.base) I.ok.mod.kin hk (thn (ha pos pins s σ H _ I h) fun us s1 ⟨vs, H1, I1, r, q⟩ => ⟨I1.kIn, ?_⟩) he hpl
  exact run_fn F hr hb hd hx I1 r q
end
section
variable {X : Cx} {CX : CXT} {k : Nat} {f C : Addr} {fd : FuncData} {ps ks : List Str} {sp : Sp} {E : XK} {x m : Str} {p pos apos kpos : Pos} {e o : Expr} {es : List Expr} {kws : List Keyword} {te ta : TE} {t tk : TA} {nm : Option Str}
variable {g : List Value → List Value → List Value} {gV : List V → List V → List V}
end
structure FnScope (N P : List Str) (sc : Scope) : Prop where
  kind : sc.kind = .function
  co : sc.isCoroutine = false
  gen : sc.isGenerator = false
  nd : N.Nodup
  pre : N.take P.length = P
  par : ∀ x ∈ P, sc.names.lookup x = some .local ∨ sc.names.lookup x = some .cell
  nofree : ∀ y ∈ sc.names, y.2 ≠ .free
theorem bindL_out {kindOf : Str → Option NameKind} {x : Str} : ∀ {binds : List (Str × Value)} {m : Str → Option Value}, (∀ v, (x, v) ∉ binds) → bindL kindOf binds m x = m x
  | [], _, _ => rfl
  | (n, v) :: r, m, h => by
    unfold bindL
    rw [bindL_out fun w hw => h w (List.mem_cons_of_mem _ hw)]
    split
    · have : x ≠ n := by rintro rfl; exact h v List.mem_cons_self
      simp [this]
    · rfl
theorem bindC_out {kindOf : Str → Option NameKind} {x : Str} : ∀ {binds : List (Str × Value)} {m : Str → Option Value}, (∀ v, (x, v) ∉ binds) → bindC kindOf binds m x = m x
  | [], _, _ => rfl
  | (n, v) :: r, m, h => by
    unfold bindC
    rw [bindC_out fun w hw => h w (List.mem_cons_of_mem _ hw)]
    split
    · rfl
    · have : x ≠ n := by rintro rfl; exact h v List.mem_cons_self
      simp [this]
theorem bindL_get {kindOf : Str → Option NameKind} {x : Str} {v : Value} : ∀ {P : List Str} {vs : List Value} {i : Nat} {m : Str → Option Value}, P.Nodup → P[i]? = some x → vs[i]? = some v → kindOf x = some .local →
    bindL kindOf (P.zip vs) m x = some v
  | [], _, _, _, _, h, _, _ => by simp at h
  | _ :: _, [], _, _, _, _, h, _ => by simp at h
  | p :: P, w :: vs, 0, m, nd, h1, h2, hk => by
    simp at h1 h2; subst h1; subst h2
    show bindL kindOf ((p, w) :: P.zip vs) m p = _
    unfold bindL
    rw [bindL_out fun v hv => (List.nodup_cons.mp nd).1 (List.of_mem_zip hv).1, if_pos hk]
    simp
  | p :: P, w :: vs, i + 1, m, nd, h1, h2, hk => by
    show bindL kindOf ((p, w) :: P.zip vs) m x = _
    unfold bindL
    exact bindL_get (i := i) (List.nodup_cons.mp nd).2 (by simpa using h1) (by simpa using h2) hk
theorem bindC_get {kindOf : Str → Option NameKind} {x : Str} {v : Value} : ∀ {P : List Str} {vs : List Value} {i : Nat} {m : Str → Option Value}, P.Nodup → P[i]? = some x → vs[i]? = some v → kindOf x ≠ some .local →
    bindC kindOf (P.zip vs) m x = some v
  | [], _, _, _, _, h, _, _ => by simp at h
  | _ :: _, [], _, _, _, _, h, _ => by simp at h
  | p :: P, w :: vs, 0, m, nd, h1, h2, hk => by
    simp at h1 h2; subst h1; subst h2
    show bindC kindOf ((p, w) :: P.zip vs) m p = _
    unfold bindC
    rw [bindC_out fun v hv => (List.nodup_cons.mp nd).1 (List.of_mem_zip hv).1, if_neg hk]
    simp
  | p :: P, w :: vs, i + 1, m, nd, h1, h2, hk => by
    show bindC kindOf ((p, w) :: P.zip vs) m x = _
    unfold bindC
    exact bindC_get (i := i) (List.nodup_cons.mp nd).2 (by simpa using h1) (by simpa using h2) hk
def start (N : List Str) (vs : List V) : St := vs.map some ++ List.replicate (N.length - vs.length) none
def cxOf (CX : CXT) (P : Program) (w : World) (K : PySem.W.Frag) (mg : Str → Option Value) (base : Heap) (N : List Str) (qual : Str) (scope : Scope) (f : Addr) (cd : Value) (A : Around) (outer : List Env) (s : Shared) (H : Hp) (E : XK) : Cx where
  prog := P
  w := w
  K := K
  mg := mg
  base := base
  A := A.deeper (envOfC qual scope s.heap.objs.size f cd)
  N := N
  s₀ := s
  H₀ := H
  env := envOfC qual scope s.heap.objs.size f cd
  outer := outer
  stack := envOfC qual scope s.heap.objs.size f cd :: outer
  ex := []
  calm := true
  fn := fun _ => true
  pn := []
  xe := fun e s' => wpAny (model P w) (A.deeper (envOfC qual scope s.heap.objs.size f cd)) (leaving (envOfC qual scope s.heap.objs.size f cd) e) (fun _ s'' => CX outer H s E e s'') (fun e' s'' => CX outer H s E e' s'') s'
theorem cell_has {sc : Scope} {n : Nat} {x : Str} (h : sc.names.lookup x = some .cell) : ∃ c, (cellsFrom n sc.names []).lookup x = some c := by
  have q := PySem.W.cellsFrom_some sc.names n [] (.inl h)
  exact Option.isSome_iff_exists.mp q
theorem inv_start {CX : CXT} {P : Program} {w : World} {K : PySem.W.Frag} {mg : Str → Option Value} {base : Heap} {N ps : List Str} {qual : Str} {scope : Scope} {f : Addr} {cd : Value} {A : Around} {outer : List Env} {s s1 : Shared} {H : Hp} {E : XK} {us : List Value} {vs : List V}
    (S : FnScope N ps scope) (hd : A.handled = none) (e0 : Env0 P w K mg base A outer s H) (hl : vs.length = ps.length) (r : Vals vs us)
    (x : InCallC s s.heap.objs.size (bindL (envOfC qual scope s.heap.objs.size f cd).kindOf (ps.zip us) fun _ => none) (cellsFrom (s.heap.objs.size + 1) scope.names []) (bindC (envOfC qual scope s.heap.objs.size f cd).kindOf (ps.zip us) fun _ => none) s1) :
    Inv (cxOf CX P w K mg base N qual scope f cd A outer s H E) [] (start N vs) H s1 := by
  have hpl : ps.length ≤ N.length := by have := congrArg List.length S.pre; rw [List.length_take] at this; omega
  obtain ⟨h1, tk, rfl, hk⟩ := x.done
  have noA : ∀ b : Addr, b ∉ (cxOf CX P w K mg base N qual scope f cd A outer s H E).ex := fun b z => absurd (show b ∈ ([] : List Addr) from z) (by simp)
  refine ⟨⟨e0.mod, S.kind, rfl, rfl, Nat.le_refl _, fun y z c h1 h2 => ?_, fun y hy => ?_, fun y c _ h => ?_, fun _ => hd, Around.frames_deeper e0.frames, .inr ⟨rfl, rfl⟩, fun b z => absurd z (noA b), e0.bs, e0.bsz, fun b _ _ => noA b, fun b z => absurd z (noA b), e0.funs, e0.frf⟩,
    rfl, e0.bare, Un.kept hk, ⟨_, x.toInCall.ns, fun i y v h1 h2 h3 => ?_⟩, fun y c h => ⟨_, x.cell y c h⟩, e0.hok.fresh (Nat.le_refl _), fun y c h => ?_, fun p hp => absurd (show p ∈ ([] : List (Addr × Obj)) from hp) (by simp), e0.hok.kept hk, ?_⟩
  · exact name_of_addr x.apart (PySem.mem_of_lookup h1) (PySem.mem_of_lookup h2)
  · have hy : scope.names.lookup y = some .cell ∨ scope.names.lookup y = some .free := hy
    rcases hy with hy | hy
    · exact cell_has hy
    · exact absurd rfl (S.nofree _ (PySem.mem_of_lookup hy))
  · exact Nat.le_of_lt (x.above y c (PySem.mem_of_lookup h))
  · have hi : i < vs.length := by
      unfold start at h2
      by_cases hi : i < vs.length
      · exact hi
      · rw [List.getElem?_append_right (by simpa using hi)] at h2
        rw [List.getElem?_replicate] at h2
        split at h2 <;> cases h2
    have ha : vs[i]? = some v := by
      unfold start at h2
      rw [List.getElem?_append_left (by simpa using hi), List.getElem?_map] at h2
      cases e : vs[i]? with
      | none => rw [e] at h2; cases h2
      | some a => rw [e] at h2; cases h2; rfl
    obtain ⟨u, hu, rv⟩ := r.get ha
    have hp : ps[i]? = some y := by
      rw [← S.pre, List.getElem?_take_of_lt (by omega)]; exact h1
    have ndP : ps.Nodup := by rw [← S.pre]; exact S.nd.sublist (List.take_sublist _ _)
    refine ⟨u, rv, ?_⟩
    rcases S.par y (List.mem_of_getElem? hp) with k | k
    · exact .inl ⟨k, bindL_get ndP hp hu k⟩
    · obtain ⟨c, e⟩ := cell_has (n := s.heap.objs.size + 1) k
      refine .inr ⟨.inl k, c, e, ?_⟩
      have q := x.cell y c e
      rw [bindC_get ndP hp hu (by show scope.names.lookup y ≠ _; rw [k]; decide)] at q
      exact q
  · exact e0.hok.fresh (Nat.le_of_lt (x.above y c (PySem.mem_of_lookup h)))
  · unfold start
    show _ = N.length
    rw [List.length_append, List.length_map, List.length_replicate]
    omega
theorem fn_of {CX : CXT} {P : Program} {w : World} {K : PySem.W.Frag} {mg : Str → Option Value} {base : Heap} {k : Nat} {f : Addr} {name qual : Str} {params : Arguments} {body : List Stmt} {scope : Scope} {dV kV doc pm cdv ct oc : Value} {an od : Option Addr}
    {osl : Array (Option Value)} {N ps : List Str} {sp : Sp} (lk : K.lookup f = some ⟨oc, od, .func (PySem.W.fnOf name qual params body scope dV kV doc pm an cdv ct), osl⟩) (hcd : PySem.W.codeIn K cdv qual = true) (S : FnScope N ps scope)
    (len : ∀ vs H Q E, sp vs H Q E → vs.length = ps.length)
    (hbody : ∀ (A : Around) (outer : List Env) (s : Shared) (H : Hp) (vs : List V) (Q : VK) (E : XK), Room k (A.deeper (envOfC qual scope s.heap.objs.size f cdv)) → sp vs H Q E →
      ∃ t, PSs (cxOf CX P w K mg base N qual scope f cdv A outer s H E) body t ∧ t { nx := fun _ H' => Q .non H', rt := Q } (start N vs) H) :
    FnOk P w K mg base CX (k + 1) f (PySem.W.fnOf name qual params body scope dV kV doc pm an cdv ct) ps sp := by
  refine ⟨len, fun A outer s H args us vs Q E hr e0 hb r hsp => ?_⟩
  have hl := len _ _ _ _ hsp
  have KX : K.In s.heap := e0.mod.kin.keeps fun b o e => (e0.bs b o e).1
  have lim : s.heap.NoLimit := e0.mod.nolimit.keeps fun b o e => (e0.bs b o e).1
  have hkind : ∀ y ∈ ps.zip us, scope.names.lookup y.1 = some .local ∨ (scope.names.lookup y.1 = some .cell ∧ ((cellsFrom (s.heap.objs.size + 1) scope.names []).lookup y.1).isSome = true) := fun ⟨n, v⟩ hy => by
    rcases S.par n (List.of_mem_zip hy).1 with q | q
    · exact .inl q
    · exact .inr ⟨q, PySem.W.cellsFrom_some _ _ _ (.inl q)⟩
  refine codeAny_call_function hr.depth (KX _ _ lk) rfl S.co S.gen rfl (PySem.W.codeRec_of KX hcd) (hb _ _ _ _ ?_)
  refine wpAny_newFunctionEnv_cells S.kind hkind fun env he s1 x => ?_
  subst he
  refine ⟨lim.keeps x.toInCall.keep, codeAny_func ?_⟩
  obtain ⟨t, ht, hq⟩ := hbody A outer s H vs Q E (hr.deeper _) hsp
  have I : Inv (cxOf CX P w K mg base N qual scope f cdv A outer s H E) [] (start N vs) H s1 := inv_start S hr.hd e0 hl r x
  refine wpAny_mono (ht [] s1 (start N vs) H _ I hq) (fun fl s' hs => ?_) fun e s' hs => hs
  have fin : ∀ {σ' : St} {H' : Hp} {v : V} {u : Value}, Inv (cxOf CX P w K mg base N qual scope f cdv A outer s H E) [] σ' H' s' → RelV v u → Q v H' → CE outer P w H s Q u s' :=
    fun {σ' H' v u} J rv q => ⟨v, H', J.os, J.bare, J.base, J.hok, rv, q⟩
  cases fl with
  | ret u =>
    obtain ⟨v, σ', H', J, rv, q⟩ := hs
    exact fin J rv q
  | next =>
    obtain ⟨σ', H', J, q⟩ := hs
    exact fin (v := V.non) (u := Value.none) J rfl q
  | brk =>
    obtain ⟨_, _, _, q⟩ := hs
    exact False.elim q
  | cont =>
    obtain ⟨_, _, _, q⟩ := hs
    exact False.elim q
end L2
namespace L2
open PySem PySem.Spec PyProof.Rows
section
variable {X : Cx} {x : Str} {p pos : Pos} {e : Expr} {es : List Expr} {t : TA} {id T : String} {r : List V → Hp → VK → Prop}
def tCB (r : List V → Hp → VK → Prop) (t : TA) : TE := fun σ H Q => t σ H fun vs H1 => r vs H1 Q
theorem pe_callB (hc : CallR X (.builtin id) r) (hg : Gl X x) (hm : X.mg x = none) (hv : bootBuiltins x = some (.builtin id)) (ha : PA X (e :: es) t) (hn : x ≠ "__name__" := by decide) (hdb : (x == ("__debug__" : Str)) = false := by decide)
    (he : starEach (e :: es) X.env = (false, eval e X.env) :: starEach es X.env := by rfl) (hpl : (backTo pos (starEach es X.env)).any (·.1) = false := by rfl) : PE X (.Call (.Name x p) (e :: es) [] pos) (tCB r t) := by
  intro pins s σ H Q I h
  refine wpAny_Call_Name_kw (ld_blt I hg hm hv ?_ hn hdb)
  exact PyProof.Rows.callWith_builtin1 (thn (ha pos pins s σ H _ I h) fun us s1 ⟨vs, H1, I1, r1, q1⟩ => hc pins s1 σ H1 vs us Q I1 r1 q1) he hpl
theorem pe_callTy (hc : CallR X (.type T) r) (hg : Gl X x) (hm : X.mg x = none) (hv : bootBuiltins x = some (.type T)) (ha : PA X (e :: es) t) (hn : x ≠ "__name__" := by decide) (hdb : (x == ("__debug__" : Str)) = false := by decide)
    (he : starEach (e :: es) X.env = (false, eval e X.env) :: starEach es X.env := by rfl) (hpl : (backTo pos (starEach es X.env)).any (·.1) = false := by rfl) : PE X (.Call (.Name x p) (e :: es) [] pos) (tCB r t) := by
  intro pins s σ H Q I h
  refine wpAny_Call_Name_kw (ld_blt I hg hm hv ?_ hn hdb)
  exact PyProof.Rows.callWith_type1 (thn (ha pos pins s σ H _ I h) fun us s1 ⟨vs, H1, I1, r1, q1⟩ => hc pins s1 σ H1 vs us Q I1 r1 q1) he hpl
end
end L2
namespace HT
open PySem PyProof.Rows
section
open PySem.SeqAt
open PySem.AutoSeq1 (wpAny_loadPart')
open PySem.MeetsSeq PySem.MeetsSeq2 PySem.MeetsSeq3
end
section
variable {prog : Program} {w : World} {A : Around} {E : Value → Shared → Prop} {s : Shared}
theorem cat_tup {t b : Addr} {vs ws : List Value} {Q : Value → Shared → Prop} (ht : IsTup s.heap t vs.toArray) (hb : IsTup s.heap b ws.toArray) (hv : vs ≠ [])
    (h1 : ws = [] → Q (.ref t) s) (h2 : ws ≠ [] → Q (.ref s.heap.objs.size) { s with heap := s.heap.push { cls := .type "tuple", data := .seq (vs ++ ws).toArray } })
    (hsz : vs.length + ws.length ≤ sizeLine) : wpAny (model prog w) A (binaryOp .Add (.ref t) (.ref b)) Q E s := by
  obtain ⟨⟨cls, dd, data, sl⟩, ho, hc, n, hd⟩ := id ht
  obtain ⟨⟨cls2, dd2, data2, sl2⟩, ho2, hc2, n2, hd2⟩ := id hb
  simp only at hc hd hc2 hd2
  subst hc hd hc2 hd2
  have e : vs.toArray ++ ws.toArray = (vs ++ ws).toArray := by simp
  by_cases hw : ws = []
  · exact concat_meets ⟨_, ho, rfl⟩ ⟨_, ho2, rfl⟩ noFill_tuple_add seq_tuple_add PySem.F.slot_tuple_add PySem.F.entry_tuple_add (PySem.F.args_tuple_add_2 _ _)
      (tuple_addW1 t b vs.toArray ws.toArray n n2 dd dd2 sl sl2 (by simpa using hv) (by simp [hw])) ⟨ho, ho2, h1 hw⟩
  · refine concat_meets ⟨_, ho, rfl⟩ ⟨_, ho2, rfl⟩ noFill_tuple_add seq_tuple_add PySem.F.slot_tuple_add PySem.F.entry_tuple_add (PySem.F.args_tuple_add_2 _ _)
      (tuple_addW2 t b vs.toArray ws.toArray n n2 dd dd2 sl sl2 (by simpa using hv) (by simpa using hw) (by rw [List.size_toArray, List.size_toArray]; exact hsz)) ⟨ho, ho2, ?_⟩
    rw [e]
    exact h2 hw
def sIx (n d : Nat) : Option Int → Nat
  | none => d
  | some v => if v < 0 then (v + (n : Int)).toNat else min v.toNat n
theorem sIx_none (n d : Nat) : sIx n d none = d := rfl
theorem sIx_nat (n d k : Nat) : sIx n d (some (k : Int)) = min k n := by
  show (if (k : Int) < 0 then ((k : Int) + (n : Int)).toNat else min (k : Int).toNat n) = min k n
  rw [if_neg (by omega), Int.toNat_natCast]
theorem sIx_le (n d : Nat) (hd : d ≤ n) (o : Option Int) : sIx n d o ≤ n := by
  cases o with
  | none => exact hd
  | some v =>
    show (if v < 0 then (v + (n : Int)).toNat else min v.toNat n) ≤ n
    by_cases hv : v < 0
    · rw [if_pos hv]; omega
    · rw [if_neg hv]; exact Nat.min_le_right _ _
theorem clip_eq (v : Int) (n d : Nat) : (if v < 0 then max (v + (n : Int)) 0 else min v (n : Int)) = ((sIx n d (some v) : Nat) : Int) := by
  show (if v < 0 then max (v + (n : Int)) 0 else min v (n : Int)) = (((if v < 0 then (v + (n : Int)).toNat else min v.toNat n) : Nat) : Int)
  by_cases hv : v < 0
  · simp only [if_pos hv]; omega
  · simp only [if_neg hv]; omega
theorem adjust_gen (lo hi : Option Int) (n : Nat) : Builtin.Slice.sliceAdjust lo hi 1 (n : Int) = (((sIx n 0 lo : Nat) : Int), ((sIx n n hi : Nat) : Int)) := by
  have h1 : ¬ ((1 : Int) < 0) := by omega
  unfold Builtin.Slice.sliceAdjust
  simp only [h1, if_false]
  refine Prod.ext ?_ ?_
  · cases lo with
    | none => rfl
    | some v => exact clip_eq v n 0
  · cases hi with
    | none => rfl
    | some v => exact clip_eq v n n
theorem places_gen (i j : Nat) : Builtin.Slice.slicePlaces (i : Int) (j : Int) 1 = j - i := by
  unfold Builtin.Slice.slicePlaces
  have h1 : (1 : Int) > 0 := by omega
  simp only [h1, if_true, Int.ediv_one]
  split <;> omega
theorem slicePart_ {v : Value} {o : Option Int} {Q : Option Int → Shared → Prop} (p : IsPart v o) (h : Q o s) : wpAny (model prog w) A (Builtin.Slice.slicePartIndex v) Q E s := by
  cases p with
  | none => exact slicePart_none h
  | int i t => exact slicePart_int h
theorem sliceApplied_gen {sl : Addr} {vl vu : Value} {lo hi : Option Int} {n : Nat} {Q : Int × Int × Nat → Shared → Prop} (hs : s.heap.IsSliceOf sl vl vu .none) (pl : IsPart vl lo) (pu : IsPart vu hi)
    (h : Q (((sIx n 0 lo : Nat) : Int), 1, sIx n n hi - sIx n 0 lo) s) : wpAny (model prog w) A (Builtin.Slice.sliceApplied (.ref sl) (pure (n : Int))) Q E s := by
  obtain ⟨os, hos, hcs, hds⟩ := id hs
  unfold Builtin.Slice.sliceApplied Builtin.Slice.sliceFields
  refine wpAny_bind (wpAny_bind (wpAny_field hos hds (x := vl) rfl (wpAny_bind (wpAny_field hos hds (x := vu) rfl (wpAny_bind (wpAny_field hos hds (x := .none) rfl (wpAny_pure ?_)))))))
  refine wpAny_bind (slicePart_none ?_)
  show wpAny _ _ (if ((1 : Int) == 0) = true then _ else _) _ _ s
  rw [if_neg (by decide)]
  refine wpAny_bind (slicePart_ pl (wpAny_bind (slicePart_ pu (wpAny_bind (wpAny_pure ?_)))))
  show wpAny _ _ (match Builtin.Slice.sliceAdjust lo hi 1 (n : Int) with | (lo, hi) => pure (lo, (1 : Int), Builtin.Slice.slicePlaces lo hi 1)) _ _ s
  rw [adjust_gen lo hi n]
  show wpAny _ _ (pure (((sIx n 0 lo : Nat) : Int), (1 : Int), Builtin.Slice.slicePlaces ((sIx n 0 lo : Nat) : Int) ((sIx n n hi : Nat) : Int) 1)) _ _ s
  rw [places_gen]
  exact wpAny_pure h
theorem pick_gen (xs : Array Value) (i k : Nat) : ((List.range k).filterMap fun (m : Nat) => xs[((i : Int) + (m : Int) * 1).toNat]?).toArray = ((xs.toList.drop i).take k).toArray := by
  have e : (fun (m : Nat) => xs[((i : Int) + (m : Int) * 1).toNat]?) = fun m => xs[i + m]? := by
    funext m
    have : ((i : Int) + (m : Int) * 1).toNat = i + m := by omega
    rw [this]
  rw [e]
  have := pick_run xs i k
  rw [List.filterMap_map] at this
  have e2 : ((fun x => xs[x]?) ∘ fun x => i + x) = fun m => xs[i + m]? := rfl
  rw [e2] at this
  rw [this]
theorem getItem_tuple_cut {t sl : Addr} {items : Array Value} {vl vu : Value} {lo hi : Option Int} {Q : Value → Shared → Prop} (ht : IsTup s.heap t items) (hs : s.heap.IsSliceOf sl vl vu .none) (pl : IsPart vl lo) (pu : IsPart vu hi)
    (hw : ¬ (sIx items.size 0 lo = 0 ∧ sIx items.size items.size hi = items.size))
    (h : Q (.ref s.heap.objs.size) { s with heap := s.heap.push { cls := .type "tuple", data := .seq ((items.toList.drop (sIx items.size 0 lo)).take (sIx items.size items.size hi - sIx items.size 0 lo)).toArray } })
    (hsz : items.size ≤ sizeLine) : wpAny (model prog w) A (getItem (.ref t) (.ref sl)) Q E s := by
  have htake : sizeOk (.seq ((items.toList.drop (sIx items.size 0 lo)).take (sIx items.size items.size hi - sIx items.size 0 lo)).toArray) := by
    show ((items.toList.drop (sIx items.size 0 lo)).take (sIx items.size items.size hi - sIx items.size 0 lo)).toArray.size ≤ sizeLine
    rw [List.size_toArray, List.length_take, List.length_drop, Array.length_toList]
    omega
  have hj : sIx items.size items.size hi ≤ items.size := sIx_le _ _ (Nat.le_refl _) hi
  obtain ⟨os, hos, hcs, hds⟩ := id hs
  have hTs : s.TypeIs (.ref sl) "slice" := ⟨os, hos, hcs⟩
  unfold getItem
  try with_reducible refine wpAny_holding ?_
  first | refine wpAny_bind (wpAny_pure ?_) | skip
  refine wpAny_bind (wpAny_sequenceKey ht.typeIs (by decide) ?_)
  refine wpAny_bind (wpAny_callSpecial?_slot (name := Str.ofString "__getitem__") ht.typeIs PyProof.Rows.slot_tuple_getitem
    (wpAny_call_entry PyProof.Rows.slot_tuple_getitem ht.typeIs entry_tuple_getitem ?_ (args_tuple_getitem _ _)))
  show wpAny _ _ (Builtin.Tuple.tupleItemsOf (.ref t) >>= _) _ _ s
  refine wpAny_bind (tupleItemsOf_ ht ?_)
  refine wpAny_bind (wpAny_typeOf hTs ?_)
  rw [if_pos (by decide)]
  refine wpAny_bind (sliceApplied_gen hs pl pu ?_)
  have hno : ¬ ((((sIx items.size 0 lo : Nat) : Int) == 0 && (1 : Int) == 1 && (sIx items.size items.size hi - sIx items.size 0 lo) == items.size) = true) := by
    intro q
    rw [Bool.and_eq_true, Bool.and_eq_true] at q
    have q1 : ((sIx items.size 0 lo : Nat) : Int) = 0 := eq_of_beq q.1.1
    have q2 : sIx items.size items.size hi - sIx items.size 0 lo = items.size := eq_of_beq q.2
    exact hw ⟨by omega, by omega⟩
  show wpAny _ _ (if (((sIx items.size 0 lo : Nat) : Int) == 0 && (1 : Int) == 1 && (sIx items.size items.size hi - sIx items.size 0 lo) == items.size) = true then _ else _) _ _ s
  rw [if_neg hno, pick_gen]
  first
    | exact wpAny_bind (m := Builtin.Tuple.tupleExact _) (wpAny_newObj_type (wpAny_pure ⟨_, rfl, wpAny_pure h⟩) htake)
    | exact wpAny_bind (m := Builtin.Tuple.tupleExact _) (wpAny_newObj_type (wpAny_bind (wpAny_pure (wpAny_pure ⟨_, rfl, wpAny_pure h⟩))) htake)
    | exact wpAny_bind (wpAny_bind (m := Builtin.Tuple.tupleExact _) (wpAny_newObj_type (wpAny_pure (wpAny_pure ⟨_, rfl, wpAny_pure h⟩)) htake))
    | exact wpAny_bind (wpAny_bind (m := Builtin.Tuple.tupleExact _) (wpAny_newObj_type (wpAny_pure ⟨_, rfl, wpAny_pure h⟩) htake))
end
end HT
namespace L2
open PySem PySem.Spec PyProof.Rows
abbrev TO := St → Hp → (Option Int → Hp → Prop) → Prop
def PO (X : Cx) (e : Option Expr) (t : TO) : Prop :=
  ∀ (pins : List (Addr × Obj)) (s : Shared) (σ : St) (H : Hp) (Q : Option Int → Hp → Prop), Inv X pins σ H s → t σ H Q →
    wpAny (model X.prog X.w) X.A (evalPart e X.env) (fun u s' => ∃ o H', Inv X pins σ H' s' ∧ IsPart u o ∧ Q o H') X.xe s
def tNoPart : TO := fun _ H Q => Q none H
def tPart (t : TE) : TO := fun σ H Q => t σ H fun x H1 => ∃ i, x = .int i ∧ Q (some i) H1
theorem intsAre_of {ns : List Int} : ∀ {us : List Value}, Vals (ns.map V.int) us → IntsAre us ns := by
  induction ns with
  | nil => intro us r; rw [List.map_nil] at r; cases r; exact .nil
  | cons n ns ih =>
    intro us r
    rw [List.map_cons] at r
    cases r with
    | cons r1 r2 =>
      obtain ⟨t, e⟩ := r1
      subst e
      exact .cons n t (ih r2)
section
variable {X : Cx} {e : Expr} {te : TE} {lo hi : Option Expr} {tl th : TO} {pos p2 : Pos}
theorem po_none : PO X none tNoPart := by
  intro pins s σ H Q I h
  rw [evalPart_none]
  exact wpAny_pure ⟨none, H, I, .none, h⟩
theorem po_some (h : PE X e te) : PO X (some e) (tPart te) := by
  intro pins s σ H Q I hw
  rw [evalPart_some]
  refine thn (h pins s σ H _ I hw) fun u s1 ⟨x, H1, I1, r1, q1⟩ => ?_
  obtain ⟨i, rfl, q⟩ := q1
  obtain ⟨t, rfl⟩ := r1
  exact ⟨some i, H1, I1, .int i t, q⟩
def SlR (X : Cx) (r : V → Option Int → Option Int → Hp → VK → Prop) : Prop :=
  ∀ (pins : List (Addr × Obj)) (s : Shared) (σ : St) (H : Hp) (x : V) (v vl vu : Value) (lo hi : Option Int) (sl : Addr) (Q : VK), Inv X pins σ H s → RelV x v → s.heap.IsSliceOf sl vl vu .none → IsPart vl lo → IsPart vu hi → r x lo hi H Q →
    ∃ T id, typeLookup (.type T) "__getitem__" = pure (some (.builtin id)) ∧ s.TypeIs v T ∧ wpAny (model X.prog X.w) X.A (getItem v (.ref sl)) (EP X pins σ Q) X.xe s
def tSl (r : V → Option Int → Option Int → Hp → VK → Prop) (te : TE) (tl th : TO) : TE := fun σ H Q => te σ H fun x H1 => tl σ H1 fun l H2 => th σ H2 fun u H3 => r x l u H3 Q
theorem pe_slice {r : V → Option Int → Option Int → Hp → VK → Prop} (hr : SlR X r) (he : PE X e te) (hl : PO X lo tl) (hu : PO X hi th) : PE X (.Subscript e (.Slice lo hi none p2) pos) (tSl r te tl th) := by
  intro pins s σ H Q I h
  refine Subscript_ (thn (he pins s σ H _ I h) fun v s1 ⟨x, H1, I1, r1, q1⟩ => ?_)
  refine wpAny_Slice (thn (hl pins s1 σ H1 _ I1 q1) fun vl s2 ⟨l, H2, I2, pl, q2⟩ => thn (hu pins s2 σ H2 _ I2 q2) fun vu s3 ⟨u, H3, I3, pu, q3⟩ => ?_)
  rw [evalPart_none]
  refine wpAny_pure ?_
  have I4 : Inv X pins σ H3 { s3 with heap := s3.heap.push { cls := .type "slice", data := .fields #[vl, vu, .none] } } := I3.kept (t' := s3.toks) fun b ob q => Heap.get?_push_of_some _ q
  obtain ⟨T, id, hT, ht, hg⟩ := hr pins { s3 with heap := s3.heap.push { cls := .type "slice", data := .fields #[vl, vu, .none] } } σ H3 x v vl vu l u s3.heap.objs.size Q I4 r1 (Heap.IsSliceOf.new ..) pl pu q3
  show wpAny (model X.prog X.w) X.A (subscriptTail e (.Slice lo hi none p2) v (.ref s3.heap.objs.size)) (EP X pins σ Q) X.xe { s3 with heap := s3.heap.push { cls := .type "slice", data := .fields #[vl, vu, .none] } }
  exact tail_any (ops := [.ref s3.heap.objs.size, v]) ht hT hg (by with_unfolding_all rfl)
def cutV (xs : List V) (lo hi : Option Int) : List V := (xs.drop (HT.sIx xs.length 0 lo)).take (HT.sIx xs.length xs.length hi - HT.sIx xs.length 0 lo)
theorem cutV_length (xs : List V) (lo hi : Option Int) : (cutV xs lo hi).length ≤ xs.length := by
  unfold cutV
  rw [List.length_take, List.length_drop]
  omega
def rSlT (K : PySem.W.Frag) : V → Option Int → Option Int → Hp → VK → Prop := fun x lo hi H Q => ∃ a xs, x = .ref a ∧ SqT K H a xs ∧
  ¬ (HT.sIx xs.length 0 lo = 0 ∧ HT.sIx xs.length xs.length hi = xs.length) ∧ ∀ p, H p = none → Q (.ref p) (upd H p (.tup (cutV xs lo hi)))
theorem sl_tup : SlR X (rSlT X.K) := by
  intro pins s σ H x v vl vu lo hi sl Q I rx hs pl pu h
  obtain ⟨a, xs, rfl, hx, hw, q⟩ := h
  cases rx
  obtain ⟨its, r, ht, hz⟩ := I.tuple hx
  have hlen : its.toArray.size = xs.length := by rw [List.size_toArray]; exact r.length.symm
  refine ⟨"tuple", _, PyProof.Rows.slot_tuple_getitem.lookup, ht.typeIs, ?_⟩
  refine HT.getItem_tuple_cut ht hs pl pu (by rw [hlen]; exact hw) ?_ (by rw [hlen]; exact hz)
  rw [hlen]
  refine ⟨.ref s.heap.objs.size, _, I.laid (t' := s.toks) (o := .tup (cutV xs lo hi)) (fun b ob q => Heap.get?_push_of_some _ q) (Nat.le_refl _) ?_, rfl, q _ (I.hok.fresh (Nat.le_refl _))⟩
  exact ⟨Nat.le_trans (cutV_length xs lo hi) hz, _, (r.drop (HT.sIx xs.length 0 lo)).take (HT.sIx xs.length xs.length hi - HT.sIx xs.length 0 lo), ⟨_, Heap.get?_push_size _ rfl, rfl, _, rfl, rfl⟩⟩
def rCatT (K : PySem.W.Frag) : R2 := fun x y H Q => ∃ a b xs ys, x = .ref a ∧ y = .ref b ∧ SqT K H a xs ∧ SqT K H b ys ∧ xs ≠ [] ∧ xs.length + ys.length ≤ sizeLine ∧
  (ys = [] → Q (.ref a) H) ∧ (ys ≠ [] → ∀ p, H p = none → Q (.ref p) (upd H p (.tup (xs ++ ys))))
theorem Vals.nil_iff {xs : List V} {us : List Value} (r : Vals xs us) : us = [] ↔ xs = [] := by
  cases r with
  | nil => simp
  | cons _ _ => simp
theorem op_catT : OpR X (binaryOp .Add) (rCatT X.K) := by
  intro pins s σ H x y v u Q I rx ry h
  obtain ⟨a, b, xs, ys, rfl, rfl, ha, hb, hx, hz, q1, q2⟩ := h
  cases rx
  cases ry
  obtain ⟨its, r1, p1, _⟩ := I.tuple ha
  obtain ⟨its2, r2, p2, _⟩ := I.tuple hb
  refine HT.cat_tup p1 p2 (fun z => hx (r1.nil_iff.mp z)) (fun z => ⟨.ref a, H, I, rfl, q1 (r2.nil_iff.mp z)⟩) (fun z => ?_) (by rw [← r1.length, ← r2.length]; exact hz)
  refine ⟨.ref s.heap.objs.size, _, I.laid (t' := s.toks) (o := .tup (xs ++ ys)) (fun b ob q => Heap.get?_push_of_some _ q) (Nat.le_refl _) ?_, rfl, q2 (fun w => z (r2.nil_iff.mpr w)) _ (I.hok.fresh (Nat.le_refl _))⟩
  exact ⟨by rw [List.length_append]; exact hz, _, r1.append r2, ⟨_, Heap.get?_push_size _ rfl, rfl, _, rfl, rfl⟩⟩
end
end L2
namespace L2
open PySem PySem.Spec PyProof.Rows
def ixN (n : Nat) (i : Int) : Option Nat := if 0 ≤ i then (if i < n then some i.toNat else none) else if -(n : Int) ≤ i then some (i + n).toNat else none
def atI {α : Type} (xs : List α) (i : Int) : Option α := (ixN xs.length i).bind fun j => xs[j]?
theorem ixN_seq {n : Nat} {i : Int} {j : Nat} (h : ixN n i = some j) : seqIndex? i n = some j ∧ j < n ∧ -(n : Int) ≤ i ∧ i < n := by
  unfold ixN at h
  by_cases h0 : 0 ≤ i
  · rw [if_pos h0] at h
    by_cases h1 : i < n
    · rw [if_pos h1] at h
      have e : i.toNat = j := Option.some.inj h
      exact ⟨by rw [seqIndex_of h0 h1, e], by omega, by omega, h1⟩
    · rw [if_neg h1] at h; cases h
  · rw [if_neg h0] at h
    by_cases h1 : -(n : Int) ≤ i
    · rw [if_pos h1] at h
      have e : (i + n).toNat = j := Option.some.inj h
      exact ⟨by rw [seqIndex_neg (by omega) h1, e], by omega, h1, by omega⟩
    · rw [if_neg h1] at h; cases h
theorem atI_get {α : Type} {xs : List α} {i : Int} {v : α} (h : atI xs i = some v) : ∃ j, seqIndex? i xs.length = some j ∧ xs[j]? = some v ∧ j < xs.length ∧ -(xs.length : Int) ≤ i ∧ i < xs.length := by
  unfold atI at h
  cases e : ixN xs.length i with
  | none => rw [e] at h; cases h
  | some j =>
    rw [e] at h
    obtain ⟨h1, h2, h3, h4⟩ := ixN_seq e
    exact ⟨j, h1, h, h2, h3, h4⟩
theorem atI_nat {α : Type} {xs : List α} {j : Nat} {v : α} (h : xs[j]? = some v) : atI xs (j : Int) = some v := by
  have hj : j < xs.length := (List.getElem?_eq_some_iff.mp h).1
  have e : ixN xs.length (j : Int) = some j := by
    unfold ixN
    rw [if_pos (by omega), if_pos (by omega)]; simp
  unfold atI; rw [e]; exact h
def PlainIx (b : Expr) : Prop := ∀ o i, subscripted b false o i = operate [o, i] (getItem o i)
def IxR (X : Cx) (r : R2) : Prop :=
  ∀ (value slice : Expr) (pins : List (Addr × Obj)) (s : Shared) (σ : St) (H : Hp) (x y : V) (v u : Value) (Q : VK), Inv X pins σ H s → RelV x v → RelV y u → r x y H Q →
    subscripted slice false v u = operate [v, u] (getItem v u) → wpAny (model X.prog X.w) X.A (subscriptTail value slice v u) (EP X pins σ Q) X.xe s
def MtR (X : Cx) (id : String) (r : V → List V → Hp → VK → Prop) : Prop :=
  ∀ (pins : List (Addr × Obj)) (s : Shared) (σ : St) (H : Hp) (x : V) (xs : List V) (v : Value) (us : List Value) (Q : VK), Inv X pins σ H s → RelV x v → Vals xs us → r x xs H Q →
    wpAny (model X.prog X.w) X.A (call (.builtin id) (v :: us)) (EP X pins σ Q) X.xe s
section
variable {X : Cx} {a b : Expr} {ta tb : TE} {pos : Pos}
theorem pe_ix {r : R2} (hr : IxR X r) (ha : PE X a ta) (hb : PE X b tb) (hs : PlainIx b) : PE X (.Subscript a b pos) (tOp r ta tb) := by
  intro pins s σ H Q I h
  exact Subscript_ (binT ha hb I h fun v u s2 x y H2 I2 rx ry q => hr a b pins s2 σ H2 x y v u Q I2 rx ry q (hs _ _))
def rIxL (K : PySem.W.Frag) : R2 := fun x y H Q => ∃ p xs i v, x = .ref p ∧ y = .int i ∧ SqL K H p xs ∧ atI xs i = some v ∧ Q v H
def rIxT (K : PySem.W.Frag) : R2 := fun x y H Q => ∃ p xs i v, x = .ref p ∧ y = .int i ∧ SqT K H p xs ∧ atI xs i = some v ∧ Q v H
def rIxS : R2 := fun x y H Q => ∃ z i c, x = .str z ∧ y = .int i ∧ z.length ≤ sizeLine ∧ atI z.cps.toList i = some c ∧ Q (.str ⟨#[c]⟩) H
theorem ix_list : IxR X (rIxL X.K) := by
  intro value slice pins s σ H x y v u Q I rx ry h hs
  obtain ⟨p, xs, i, z, rfl, rfl, hq, he, q⟩ := h
  cases rx
  obtain ⟨t, rfl⟩ := ry
  obtain ⟨its, r, pl, hz⟩ := I.list hq
  obtain ⟨j, h1, h2, h3, h4, h5⟩ := atI_get he
  obtain ⟨w, ew, rw'⟩ := r.get h2
  have hl := r.length
  have hn := line63
  have fin : EP X pins σ Q w s := ⟨z, H, I, rw', q⟩
  by_cases h0 : 0 ≤ i
  · have hj : i.toNat = j := by
      rw [seqIndex_of h0 h5] at h1
      exact Option.some.inj h1
    exact item_listR pl.isList h0 (by omega) (by rw [hj]; simpa using ew) fin hs
  · have hj : (i + (its.toArray.size : Int)).toNat = j := by
      rw [seqIndex_neg (by omega) h4] at h1
      rw [List.size_toArray, ← hl]
      exact Option.some.inj h1
    exact subscriptTail_builtinR (x := w) pl.isList.typeIs slot_list_getitem.lookup
      (wpAny_getItem_list_neg (Q := fun r s' => r = w ∧ EP X pins σ Q r s') pl.isList (by omega) (by rw [List.size_toArray] <;> omega) (by omega) (by rw [hj]; simpa using ew) ⟨rfl, fin⟩) hs
theorem ix_tup : IxR X (rIxT X.K) := by
  intro value slice pins s σ H x y v u Q I rx ry h hs
  obtain ⟨p, xs, i, z, rfl, rfl, hq, he, q⟩ := h
  cases rx
  obtain ⟨t, rfl⟩ := ry
  obtain ⟨its, r, pl, hz⟩ := I.tuple hq
  obtain ⟨j, h1, h2, h3, h4, h5⟩ := atI_get he
  obtain ⟨w, ew, rw'⟩ := r.get h2
  have hl := r.length
  have hn := line63
  have fin : EP X pins σ Q w s := ⟨z, H, I, rw', q⟩
  exact subscriptTail_builtinR (x := w) pl.typeIs slot_tuple_getitem.lookup
    (getItem_tuple (j := j) (Q := fun r s' => r = w ∧ EP X pins σ Q r s') pl (by omega) (by omega) (by rw [List.size_toArray, ← hl]; exact h1) (by simpa using ew) ⟨rfl, fin⟩) hs
theorem ix_str : IxR X rIxS := by
  intro value slice pins s σ H x y v u Q I rx ry h hs
  obtain ⟨z, i, c, rfl, rfl, hz, he, q⟩ := h
  obtain ⟨t, rfl⟩ := rx
  obtain ⟨t', rfl⟩ := ry
  obtain ⟨j, h1, h2, h3, h4, h5⟩ := atI_get he
  have hl : z.cps.toList.length = z.length := by simp [Str.length]
  rw [hl] at h1 h4 h5
  have hn := line63
  exact tail_any (typeIs_str s z t) slot_str_getitem.lookup (getItem_str (c := c) (by
    have e1 : decide (i < -(2 ^ 63 : Int)) = false := decide_eq_false (by omega)
    have e2 : decide (i ≥ 2 ^ 63) = false := decide_eq_false (by omega)
    rw [e1, e2, Bool.or_false]) (by rw [h1]; simpa using h2) ⟨.str ⟨#[c]⟩, H, I.tok _, ⟨_, rfl⟩, q⟩) hs
theorem mapSeq_set (its : List Value) (n j : Nat) (u : Value) : Obj.mapSeq (·.setIfInBounds j u) { cls := .type "list", data := .seq its.toArray n } = { cls := .type "list", data := .seq (its.set j u).toArray n } := by
  simp [Obj.mapSeq]
theorem Inv.lst {pins : List (Addr × Obj)} {σ : St} {H : Hp} {s : Shared} {p : Addr} {xs : List V} (I : Inv X pins σ H s) (h : H p = some (.lst xs)) :
    ∃ (its : List Value) (n : Nat), Vals xs its ∧ s.heap.get? p = some { cls := .type "list", data := .seq its.toArray n } ∧ xs.length ≤ sizeLine := by
  obtain ⟨z, its, n, r, e⟩ := I.hok p _ h
  exact ⟨its, n, r, e, z⟩
theorem Inv.lstUpd {pins : List (Addr × Obj)} {σ : St} {H : Hp} {s : Shared} {p : Addr} {xs ys : List V} {its its' : List Value} {n n' : Nat} {f : Obj → Obj} (I : Inv X pins σ H s) (h : H p = some (.lst xs))
    (ho : s.heap.get? p = some { cls := .type "list", data := .seq its.toArray n }) (hf : f { cls := .type "list", data := .seq its.toArray n } = { cls := .type "list", data := .seq its'.toArray n' }) (r : Vals ys its') (hz : ys.length ≤ sizeLine) (t : Nat) :
    Inv X pins σ (upd H p (.lst ys)) { s with heap := s.heap.update p f, toks := t } := by
  have e : (s.heap.update p f).get? p = some { cls := .type "list", data := .seq its'.toArray n' } := by
    rw [Heap.get?_update_self f ho (by rw [hf] <;> rfl), hf]
  refine I.write (x := p) (e := p) (by rw [h]; trivial) (.inl rfl) (fun b u hb q => (Heap.get?_update_other _ _ (Ne.symm hb)).trans q) ⟨_, e⟩ ?_
  exact ⟨hz, its', n', r, e⟩
def rSetL : V → V → V → Hp → (Hp → Prop) → Prop := fun o i v H Q => ∃ p xs k j, o = .ref p ∧ i = .int k ∧ H p = some (.lst xs) ∧ ixN xs.length k = some j ∧ Q (upd H p (.lst (xs.set j v)))
theorem set_list : PSet X rSetL := by
  intro pins s σ H o i v ov iv u Q I ro ri rv h
  obtain ⟨p, xs, k, j, rfl, rfl, hp, hj, q⟩ := h
  cases ro
  obtain ⟨t, rfl⟩ := ri
  obtain ⟨its, n, r, ho, hz⟩ := I.lst hp
  obtain ⟨h1, h2, h3, h4⟩ := ixN_seq hj
  have hl := r.length
  have hn := line63
  have I' : Inv X pins σ (upd H p (.lst (xs.set j v))) { s with heap := s.heap.update p (Obj.mapSeq (·.setIfInBounds j u)) } :=
    I.lstUpd hp ho (mapSeq_set its n j u) (r.set rv j) (by rw [List.length_set]; exact hz) s.toks
  by_cases h0 : 0 ≤ k
  · have hk : k.toNat = j := by
      rw [seqIndex_of h0 h4] at h1
      exact Option.some.inj h1
    exact PySem.W.ki_setAt ho h0 (by omega) (by rw [List.size_toArray, ← hl]; exact h4) (by rw [hk]; exact ⟨_, I', q⟩)
  · have hk : (k + (its.toArray.size : Int)).toNat = j := by
      rw [seqIndex_neg (by omega) h3] at h1
      rw [List.size_toArray, ← hl]
      exact Option.some.inj h1
    exact PySem.W.ki_setBack ho (by omega) (by rw [List.size_toArray, ← hl]; exact h3) (by omega) (by rw [hk]; exact ⟨_, I', q⟩)
theorem slice_bounds (lo hi : Option Int) (n : Nat) : (sliceBounds lo hi none n).1 = ((HT.sIx n 0 lo : Nat) : Int) ∧ (sliceBounds lo hi none n).2.1 = ((HT.sIx n n hi : Nat) : Int) ∧ (sliceBounds lo hi none n).2.2 = 1 := by
  refine ⟨?_, ?_, rfl⟩
  · cases lo with
    | none => simp [sliceBounds, HT.sIx]
    | some i =>
      simp only [sliceBounds, HT.sIx, Option.getD_none, show (1 : Int) > 0 by decide, if_true]
      by_cases h : i < 0
      · simp only [h, if_true] <;> omega
      · simp only [h, if_false] <;> omega
  · cases hi with
    | none => simp [sliceBounds, HT.sIx]
    | some i =>
      simp only [sliceBounds, HT.sIx, Option.getD_none, show (1 : Int) > 0 by decide, if_true]
      by_cases h : i < 0
      · simp only [h, if_true] <;> omega
      · simp only [h, if_false] <;> omega
theorem slicePick_cut (its : List Value) (lo hi : Option Int) : slicePick its.toArray lo hi none = ((its.drop (HT.sIx its.length 0 lo)).take (HT.sIx its.length its.length hi - HT.sIx its.length 0 lo)).toArray := by
  obtain ⟨h1, h2, h3⟩ := slice_bounds lo hi its.toArray.size
  unfold slicePick
  rw [h1, h2, h3]
  simp only [sliceRange_one, pick_run, List.size_toArray] <;> rfl
def rSlL (K : PySem.W.Frag) : V → Option Int → Option Int → Hp → VK → Prop := fun x lo hi H Q => ∃ a xs, x = .ref a ∧ SqL K H a xs ∧ ∀ p, H p = none → Q (.ref p) (upd H p (.lst (cutV xs lo hi)))
theorem sl_list : SlR X (rSlL X.K) := by
  intro pins s σ H x v vl vu lo hi sl Q I rx hs pl pu h
  obtain ⟨a, xs, rfl, hx, q⟩ := h
  cases rx
  obtain ⟨its, r, ht, hz⟩ := I.list hx
  have hlen := r.length
  refine ⟨"list", _, slot_list_getitem.lookup, ht.isList.typeIs, ?_⟩
  refine wpAny_getItem_list_slice ht.isList hs pl pu .none (by simp) ?_ (by rw [List.size_toArray] <;> omega)
  rw [slicePick_cut, ← hlen]
  refine ⟨.ref s.heap.objs.size, _, I.laid (t' := s.toks) (o := .lst (cutV xs lo hi)) (fun b ob q => Heap.get?_push_of_some _ q) (Nat.le_refl _) ?_, rfl, q _ (I.hok.fresh (Nat.le_refl _))⟩
  exact ⟨Nat.le_trans (cutV_length xs lo hi) hz, _, 0, (r.drop (HT.sIx xs.length 0 lo)).take (HT.sIx xs.length xs.length hi - HT.sIx xs.length 0 lo), Heap.get?_push_size _ rfl⟩
def flatV : V → Bool
  | .non => true
  | .bl _ => true
  | .int _ => true
  | .str _ => true
  | _ => false
def eqV : V → V → Bool
  | .non, .non => true
  | .bl a, .bl b => a == b
  | .bl a, .int b => (if a then 1 else 0) == b
  | .int a, .bl b => a == (if b then 1 else 0)
  | .int a, .int b => a == b
  | .str a, .str b => a == b
  | _, _ => false
theorem eqAt_V {A : Around} {s : Shared} {y x : V} {u v : Value} (ry : RelV y u) (rx : RelV x v) (fy : flatV y = true) (fx : flatV x = true) : SeqAt.EqAt A s u v (eqV y x) := by
  cases y with
  | non =>
    cases ry
    cases x with
    | non => cases rx; exact SeqAt.EqAt.same _
    | bl b => cases rx; exact SeqAt.EqAt.none_bool b
    | int b => obtain ⟨t, rfl⟩ := rx; exact SeqAt.EqAt.none_int b t
    | str b => obtain ⟨t, rfl⟩ := rx; exact SeqAt.EqAt.none_str b t
    | _ => exact absurd (show false = true from fx) Bool.false_ne_true
  | bl a =>
    cases ry
    cases x with
    | non => cases rx; exact SeqAt.EqAt.bool_none a
    | bl b => cases rx; exact SeqAt.EqAt.bool_bool a b
    | int b => obtain ⟨t, rfl⟩ := rx; exact SeqAt.EqAt.bool_int a b t
    | str b => obtain ⟨t, rfl⟩ := rx; exact SeqAt.EqAt.bool_str a b t
    | _ => exact absurd (show false = true from fx) Bool.false_ne_true
  | int a =>
    obtain ⟨t', rfl⟩ := ry
    cases x with
    | non => cases rx; exact SeqAt.EqAt.int_none a t'
    | bl b => cases rx; exact SeqAt.EqAt.int_bool a t' b
    | int b => obtain ⟨t, rfl⟩ := rx; exact SeqAt.EqAt.int_int a t' b t
    | str b => obtain ⟨t, rfl⟩ := rx; exact SeqAt.EqAt.int_str a t' b t
    | _ => exact absurd (show false = true from fx) Bool.false_ne_true
  | str a =>
    obtain ⟨t', rfl⟩ := ry
    cases x with
    | non => cases rx; exact SeqAt.EqAt.str_none a t'
    | bl b => cases rx; exact SeqAt.EqAt.str_bool a t' b
    | int b => obtain ⟨t, rfl⟩ := rx; exact SeqAt.EqAt.str_int a t' b t
    | str b => obtain ⟨t, rfl⟩ := rx; exact SeqAt.EqAt.str_str a t' b t
    | _ => exact absurd (show false = true from fx) Bool.false_ne_true
  | _ => exact absurd (show false = true from fy) Bool.false_ne_true
def eqU (x : V) (u : Value) : Bool := match u with
  | .none => eqV .non x
  | .bool b => eqV (.bl b) x
  | .int i _ => eqV (.int i) x
  | .str z _ => eqV (.str z) x
  | _ => false
theorem eqU_of {x y : V} {u : Value} (r : RelV y u) (f : flatV y = true) : eqU x u = eqV y x := by
  cases y with
  | non => cases r; rfl
  | bl b => cases r; rfl
  | int i => obtain ⟨t, rfl⟩ := r; rfl
  | str z => obtain ⟨t, rfl⟩ := r; rfl
  | _ => exact absurd (show false = true from f) Bool.false_ne_true
theorem any_eqU {x : V} : ∀ {xs : List V} {us : List Value}, Vals xs us → xs.all flatV = true → us.any (eqU x) = xs.any fun y => eqV y x
  | _, _, .nil, _ => rfl
  | y :: xs, u :: us, .cons r t, f => by
    rw [List.all_cons, Bool.and_eq_true] at f
    rw [List.any_cons, List.any_cons, eqU_of r f.1, any_eqU t f.2]
theorem mem_eqAt {A : Around} {s : Shared} {x : V} {v : Value} (rx : RelV x v) (fx : flatV x = true) : ∀ {xs : List V} {us : List Value}, Vals xs us → xs.all flatV = true → ∀ u ∈ us, SeqAt.EqAt A s u v (eqU x u)
  | _, _, .nil, _ => fun u hu => by cases hu
  | y :: xs, u :: us, .cons r t, f => fun u' hu => by
    rw [List.all_cons, Bool.and_eq_true] at f
    rcases List.mem_cons.mp hu with rfl | hu
    · rw [eqU_of r f.1]; exact eqAt_V r rx f.1 fx
    · exact mem_eqAt rx fx t f.2 u' hu
def inV (x : V) (xs : List V) : Bool := xs.any fun y => eqV y x
def rIn (K : PySem.W.Frag) (neg : Bool) : R2 := fun x y H Q => ∃ p xs, y = .ref p ∧ (SqL K H p xs ∨ SqT K H p xs) ∧ flatV x = true ∧ xs.all flatV = true ∧ Q (.bl (if neg then !inV x xs else inV x xs)) H
theorem op_in_seq : OpR X (compareOp .In) (rIn X.K false) := by
  intro pins s σ H x y v u Q I rx ry h
  obtain ⟨p, xs, rfl, hq, fx, fs, q⟩ := h
  cases ry
  rcases hq with hq | hq
  · obtain ⟨its, r, pl, hz⟩ := I.list hq
    refine SeqAt.in_listAt (eqU x) pl.isList (fun w hw => mem_eqAt rx fx r fs w (by simpa using hw)) ⟨.bl _, H, I, rfl, ?_⟩
    rw [show its.toArray.any (eqU x) = its.any (eqU x) by simp, any_eqU r fs]
    exact q
  · obtain ⟨its, r, pl, hz⟩ := I.tuple hq
    refine SeqAt.in_tupleAt (eqU x) pl (fun w hw => mem_eqAt rx fx r fs w (by simpa using hw)) ⟨.bl _, H, I, rfl, ?_⟩
    rw [show its.toArray.any (eqU x) = its.any (eqU x) by simp, any_eqU r fs]
    exact q
theorem call_len_seq : CallR X (.builtin "len") (fun xs H Q => ∃ p ys, xs = [.ref p] ∧ (SqL X.K H p ys ∨ SqT X.K H p ys) ∧ Q (.int ys.length) H) := by
  intro pins s σ H xs us Q I r h
  obtain ⟨p, ys, rfl, hq, q⟩ := h
  obtain ⟨u, rfl, rx⟩ := vals1 r
  cases rx
  have hn := line63
  rcases hq with hq | hq
  · obtain ⟨its, r', pl, hz⟩ := I.list hq
    have hlen := r'.length
    exact Calls.call_len_list pl.isList (by simp only [List.size_toArray] <;> omega) ⟨.int ys.length, H, I.tok _, ⟨s.toks + 1, by rw [List.size_toArray, hlen]⟩, q⟩
  · obtain ⟨its, r', pl, hz⟩ := I.tuple hq
    have hlen := r'.length
    exact len_tuple pl (by simp only [List.size_toArray] <;> omega) ⟨.int ys.length, H, I.tok _, ⟨s.toks + 1, by rw [List.size_toArray, hlen]⟩, q⟩
theorem call_list_of : CallR X (.type "list") (fun xs H Q => ∃ p ys, xs = [.ref p] ∧ (SqL X.K H p ys ∨ SqT X.K H p ys) ∧ ∀ l, H l = none → Q (.ref l) (upd H l (.lst ys))) := by
  intro pins s σ H xs us Q I r h
  obtain ⟨p, ys, rfl, hq, q⟩ := h
  obtain ⟨u, rfl, rx⟩ := vals1 r
  cases rx
  have fin : ∀ (its : List Value), Vals ys its → ys.length ≤ sizeLine → ∀ (h' : Heap) (c' : Nat), (∀ b o', s.heap.get? b = some o' → h'.get? b = some o') →
      h'.get? s.heap.objs.size = some { cls := .type "list", dict := none, data := .seq its.toArray c', slots := #[] } → EP X pins σ Q (.ref s.heap.objs.size) { s with heap := h' } := fun its r' hz h' c' kp e =>
    ⟨.ref s.heap.objs.size, _, I.laid (t' := s.toks) kp (Nat.le_refl _) (show ObjOk X.prog X.w _ h' _ (.lst ys) from ⟨hz, its, c', r', e⟩), rfl, q _ (I.hok.fresh (Nat.le_refl _))⟩
  rcases hq with hq | hq
  · obtain ⟨its, r', pl, hz⟩ := I.list hq
    have hlen := r'.length
    obtain ⟨o, ho, hc, n, hd⟩ := pl.isList
    exact call_list_seq p (.inl rfl) ho hc hd (fun h' c' kp e => fin its r' hz h' c' kp e) (by simp only [List.size_toArray] <;> omega)
  · obtain ⟨its, r', pl, hz⟩ := I.tuple hq
    have hlen := r'.length
    obtain ⟨o, ho, hc, n, hd⟩ := pl
    exact call_list_seq p (.inr rfl) ho hc hd (fun h' c' kp e => fin its r' hz h' c' kp e) (by simp only [List.size_toArray] <;> omega)
theorem call_tuple_of : CallR X (.type "tuple") (fun xs H Q => ∃ p ys, xs = [.ref p] ∧ ((SqL X.K H p ys ∧ ∀ l, H l = none → Q (.ref l) (upd H l (.tup ys))) ∨ (SqT X.K H p ys ∧ Q (.ref p) H))) := by
  intro pins s σ H xs us Q I r h
  obtain ⟨p, ys, rfl, h⟩ := h
  obtain ⟨u, rfl, rx⟩ := vals1 r
  cases rx
  rcases h with ⟨hq, q⟩ | ⟨hq, q⟩
  · obtain ⟨its, r', pl, hz⟩ := I.list hq
    have hlen := r'.length
    refine call_tuple_list pl.isList (fun h' kp => ?_) (by simp only [List.size_toArray] <;> omega)
    have I1 : Inv X pins σ H { s with heap := h' } := I.kept (t' := s.toks) kp
    have I2 : Inv X pins σ (upd H h'.objs.size (.tup ys)) { s with heap := h'.push { cls := .type "tuple", data := .seq its.toArray } } :=
      I1.laid (t' := s.toks) (fun b o e => Heap.get?_push_of_some _ e) (Nat.le_refl _) (show ObjOk X.prog X.w _ _ _ (.tup ys) from ⟨hz, its, r', ⟨_, Heap.get?_push_size _ rfl, rfl, _, rfl, rfl⟩⟩)
    exact ⟨.ref h'.objs.size, _, I2, rfl, q _ (I1.hok.fresh (Nat.le_refl _))⟩
  · obtain ⟨its, r', pl, hz⟩ := I.tuple hq
    exact call_tuple_same pl ⟨.ref p, H, I, rfl, q⟩
def tyV (K : PySem.W.Frag) (T : String) (x : V) (H : Hp) : Prop := match x with
  | .str _ => T = "str"
  | .int _ => T = "int"
  | .ref p => (T = "list" ∧ ∃ xs, SqL K H p xs) ∨ (T = "tuple" ∧ ((∃ o, K.lookup p = some o ∧ o.cls = .type "tuple" ∧ o.dict = none) ∨ ∃ xs, H p = some (.tup xs))) ∨
      (T = "dict" ∧ ((∃ kvs, H p = some (.dK kvs)) ∨ ∃ kvs, H p = some (.dT kvs))) ∨ (T = "set" ∧ ∃ S n, H p = some (.set S n))
  | _ => False
theorem tyV_is {pins : List (Addr × Obj)} {σ : St} {H : Hp} {s : Shared} {T : String} {x : V} {v : Value} (I : Inv X pins σ H s) (r : RelV x v) (ty : tyV X.K T x H) :
    s.TypeIs v T ∧ ∀ a, v = .ref a → ∃ ob, s.heap.get? a = some ob ∧ ob.dict = none := by
  cases x with
  | str z =>
    obtain ⟨t, rfl⟩ := r
    cases (show T = "str" from ty)
    exact ⟨typeIs_str s z t, fun _ e => nomatch e⟩
  | int i =>
    obtain ⟨t, rfl⟩ := r
    cases (show T = "int" from ty)
    exact ⟨typeIs_int s i t, fun _ e => nomatch e⟩
  | ref p =>
    cases r
    rcases ty with ⟨rfl, xs, hq⟩ | ⟨rfl, ⟨o, hk, hc, hd⟩ | ⟨xs, hx⟩⟩ | ⟨rfl, hk⟩ | ⟨rfl, S, n, hk⟩
    · obtain ⟨its, _, pl, _⟩ := I.list hq
      refine ⟨pl.isList.typeIs, fun a e => ?_⟩
      cases e
      obtain ⟨o, n, e, c, hd, _⟩ := pl
      exact ⟨o, e, hd⟩
    · refine ⟨⟨o, I.kIn p o hk, hc⟩, fun a e => ?_⟩
      cases e
      exact ⟨o, I.kIn _ o hk, hd⟩
    · obtain ⟨_, its, _, o, h1, h2, n, _, h3⟩ := I.hok p _ hx
      refine ⟨⟨o, h1, h2⟩, fun a e => ?_⟩
      cases e
      exact ⟨o, h1, h3⟩
    · have z : ∃ o, s.heap.get? p = some o ∧ o.ExactDict := by
        rcases hk with ⟨kvs, hk⟩ | ⟨kvs, hk⟩
        · obtain ⟨_, _, _, _, o, _, _, e, ex, _⟩ := I.hok p _ hk
          exact ⟨o, e, ex⟩
        · obtain ⟨_, _, _, _, o, _, _, e, ex, _⟩ := I.hok p _ hk
          exact ⟨o, e, ex⟩
      obtain ⟨o, e, ex⟩ := z
      refine ⟨⟨o, e, ex.1⟩, fun a e2 => ?_⟩
      cases e2
      exact ⟨o, e, ex.2.1⟩
    · obtain ⟨o, _, _, _, e, ex, _⟩ := I.hok p _ hk
      refine ⟨⟨o, e, ex.1⟩, fun a e2 => ?_⟩
      cases e2
      exact ⟨o, e, ex.2.1⟩
  | _ => exact False.elim ty
def tBM0 (K : PySem.W.Frag) (T : String) (r : V → List V → Hp → VK → Prop) (to : TE) : TE := fun σ H Q => to σ H fun x H1 => tyV K T x H1 ∧ r x [] H1 Q
def tBM (K : PySem.W.Frag) (T : String) (r : V → List V → Hp → VK → Prop) (to : TE) (t : TA) : TE := fun σ H Q => to σ H fun x H1 => tyV K T x H1 ∧ t σ H1 fun xs H2 => r x xs H2 Q
variable {o e : Expr} {es : List Expr} {to : TE} {t : TA} {name : Str} {apos cpos : Pos} {T id : String} {r : V → List V → Hp → VK → Prop}
theorem pe_bm0 (pa : PlainAttrs T) (slot : Slot T name id) (hty : typeOf (.builtin id) = pure (.type "method_descriptor")) (hm : MtR X id r) (ho : PE X o to)
    (hbase : attributeBase o name X.env (eval o X.env) = eval o X.env := by rfl) (hline : (apos.endLine == cpos.line) = true := by rfl) : PE X (.Call (.Attribute o name apos) [] [] cpos) (tBM0 X.K T r to) := by
  intro pins s σ H Q I h
  refine wpAny_Call_method0_late hbase hline (thn (ho pins s σ H _ I h) fun v s1 ⟨x, H1, I1, r1, ty, q1⟩ => ?_)
  obtain ⟨h1, h2⟩ := tyV_is I1 r1 ty
  exact ⟨T, id, pa, slot, hty, h1, h2, Calls.callWith_builtin rfl (PySem.evalArgs_none (hm pins s1 σ H1 x [] v [] Q I1 r1 .nil q1))⟩
theorem pe_bm (pa : PlainAttrs T) (slot : Slot T name id) (hty : typeOf (.builtin id) = pure (.type "method_descriptor")) (hm : MtR X id r) (ho : PE X o to) (ha : PA X (e :: es) t)
    (hbase : attributeBase o name X.env (eval o X.env) = eval o X.env := by rfl)
    (hfew : ((backTo cpos (starEach (e :: es) X.env)).all (fun x => !x.1) && (backToKw cpos (keywordEach [] X.env)).all (fun x => x.1.isSome)
      && decide ((e :: es).length + ([] : List Keyword).length + (if ([] : List Keyword).isEmpty then 0 else 1) < 30)) = true := by rfl)
    (hline : (apos.endLine == cpos.line) = true := by rfl) (hs : starEach (e :: es) X.env = (false, eval e X.env) :: starEach es X.env := by rfl) (hplain : (backTo cpos (starEach es X.env)).any (·.1) = false := by rfl) :
    PE X (.Call (.Attribute o name apos) (e :: es) [] cpos) (tBM X.K T r to t) := by
  intro pins s σ H Q I h
  refine wpAny_Call_method_late hbase hfew hline rfl (thn (ho pins s σ H _ I h) fun v s1 ⟨x, H1, I1, r1, ty, q1⟩ => ?_)
  obtain ⟨h1, h2⟩ := tyV_is I1 r1 ty
  refine ⟨T, id, pa, slot, hty, h1, h2, ?_⟩
  have hA := ha cpos pins s1 σ H1 _ I1 q1
  rw [hs] at hA ⊢
  refine Calls.callWith_builtin (by show (false || (backTo cpos (starEach es X.env)).any (·.1)) = false; rw [hplain] <;> rfl) (Calls.evalArgs_plain ?_)
  exact thn hA fun us s2 ⟨vs, H2, I2, r2, q2⟩ => hm pins s2 σ H2 x vs v us Q I2 r1 r2 q2
/- xs.append(e), list.index on a module's tuple .. are MtR facts of 06m -/
end
end L2
namespace L2
open PySem PySem.Spec PyProof.Rows
def MtM (X : Cx) (id : String) (r : V → List V → Hp → VK → Prop) : Prop :=
  ∀ (pins : List (Addr × Obj)) (s : Shared) (σ : St) (H : Hp) (x : V) (xs : List V) (v : Value) (us : List Value) (Q : VK), Inv X pins σ H s → RelV x v → Vals xs us → r x xs H Q →
    wpAny (model X.prog X.w) X.A (call (.builtin id) (v :: us)) (EP X pins σ Q) X.xe s
theorem Vals.one : ∀ {x : V} {us : List Value}, Vals [x] us → ∃ u, us = [u] ∧ RelV x u
  | _, _, .cons r .nil => ⟨_, rfl, r⟩
theorem Vals.zero : ∀ {us : List Value}, Vals [] us → us = []
  | _, .nil => rfl
theorem Vals.dropLast {xs : List V} {us : List Value} (h : Vals xs us) : Vals xs.dropLast us.dropLast := by
  induction h with
  | nil => exact .nil
  | cons r t ih =>
    cases t with
    | nil => exact .nil
    | cons q t' => exact .cons r ih
theorem erase_last {α : Type} (l : List α) : l.eraseIdx (l.length - 1) = l.dropLast := by
  induction l with
  | nil => rfl
  | cons a r ih =>
    cases r with
    | nil => rfl
    | cons b r =>
      have e : (a :: b :: r).length - 1 = ((b :: r).length - 1) + 1 := by
        have h1 : (a :: b :: r).length = r.length + 2 := rfl
        have h2 : (b :: r).length = r.length + 1 := rfl
        omega
      rw [e, List.eraseIdx_cons_succ, ih]
      all_goals rfl
section
variable {X : Cx} {pins : List (Addr × Obj)} {σ : St} {H : Hp} {s : Shared} {l b : Addr} {xs ys zs : List V}
theorem Inv.lset {its its' : List Value} {n : Nat} {f : Array Value → Array Value} {t' : Nat} (I : Inv X pins σ H s) (hH : H l = some (.lst xs))
    (e : s.heap.get? l = some { cls := .type "list", data := .seq its.toArray n }) (hf : f its.toArray = its'.toArray) (hv : Vals ys its') (hz : ys.length ≤ sizeLine) :
    Inv X pins σ (upd H l (.lst ys)) { s with heap := s.heap.update l (Obj.mapSeq f), toks := t' } := by
  have q := PySem.IsL.update e f
  rw [hf] at q
  refine I.write (x := l) (e := l) (by rw [hH]; exact trivial) (.inl rfl) (fun b' u hb hu => (Heap.get?_update_other s.heap (Obj.mapSeq f) (Ne.symm hb)).trans hu) ⟨_, q⟩ ?_
  exact ⟨hz, its', _, hv, q⟩
theorem Inv.lnew {its : List Value} {t' : Nat} (I : Inv X pins σ H s) (hv : Vals ys its) (hz : ys.length ≤ sizeLine) :
    Inv X pins σ (upd H s.heap.objs.size (.lst ys)) { s with heap := s.heap.push { cls := .type "list", data := .seq its.toArray }, toks := t' } :=
  I.laid (fun _ _ q => Heap.get?_push_of_some _ q) (Nat.le_refl _) ⟨hz, its, 0, hv, Heap.get?_push_size _ rfl⟩
theorem Inv.fresh (I : Inv X pins σ H s) : H s.heap.objs.size = none := I.hok.fresh (Nat.le_refl _)
theorem Inv.lstM (I : Inv X pins σ H s) (hH : H l = some (.lst xs)) : xs.length ≤ sizeLine ∧ ∃ (its : List Value) (n : Nat), Vals xs its ∧ xs.length = its.length ∧ s.heap.get? l = some { cls := .type "list", data := .seq its.toArray n } := by
  obtain ⟨z, its, n, r, e⟩ := I.hok l _ hH
  exact ⟨z, its, n, r, r.length, e⟩
end
section
variable {X : Cx}
def rAppend : V → List V → Hp → VK → Prop := fun x vs H Q => ∃ l xs y, x = .ref l ∧ vs = [y] ∧ H l = some (.lst xs) ∧ xs.length < sizeLine ∧ Q .non (upd H l (.lst (xs ++ [y])))
theorem mt_append : MtM X "list.append" rAppend := by
  intro pins s σ H x vs v us Q I rx rv h
  obtain ⟨l, xs, y, rfl, rfl, hH, hz, q⟩ := h
  cases rx
  obtain ⟨u, rfl, ru⟩ := rv.one
  obtain ⟨z, its, n, r, hl, e⟩ := I.lstM hH
  refine call_meets F.slot_list_append ⟨_, e, rfl⟩ F.entry_list_append (F.args_list_append_2 _ _) (PySem.list_append l its.toArray n u (by rw [List.size_toArray]; omega)) ⟨e, ?_⟩
  refine ⟨.non, _, I.lset (its' := its ++ [u]) hH e (by simp) (r.append (.cons ru .nil)) ?_, rfl, q⟩
  rw [List.length_append, List.length_singleton]
  omega
def rPop : V → List V → Hp → VK → Prop := fun x vs H Q => ∃ l xs y, x = .ref l ∧ vs = [] ∧ H l = some (.lst xs) ∧ xs[xs.length - 1]? = some y ∧ Q y (upd H l (.lst xs.dropLast))
theorem mt_pop : MtM X "list.pop" rPop := by
  intro pins s σ H x vs v us Q I rx rv h
  obtain ⟨l, xs, y, rfl, rfl, hH, hy, q⟩ := h
  cases rx
  have hus := rv.zero
  subst hus
  obtain ⟨z, its, n, r, hl, e⟩ := I.lstM hH
  obtain ⟨u, hu, ru⟩ := r.get hy
  have hy' : its.toArray[its.toArray.size - 1]? = some u := by
    show its.toArray[its.length - 1]? = some u
    rw [← Array.getElem?_toList, ← hl]
    exact hu
  refine call_meets F.slot_list_pop ⟨_, e, rfl⟩ F.entry_list_pop (F.args_list_pop_1 _) (MeetsSeq.list_pop_last l its.toArray n u hy' (by rw [List.size_toArray]; omega)) ⟨e, ?_⟩
  refine ⟨y, _, I.lset (its' := its.dropLast) hH e ?_ r.dropLast ?_, ru, q⟩
  · show its.toArray.eraseIdxIfInBounds (its.toArray.size - 1) = its.dropLast.toArray
    rw [List.size_toArray, List.eraseIdxIfInBounds_toArray, erase_last]
  · rw [List.length_dropLast]
    omega
def rCat : R2 := fun x y H Q => ∃ l b xs zs, x = .ref l ∧ y = .ref b ∧ H l = some (.lst xs) ∧ H b = some (.lst zs) ∧ xs.length + zs.length ≤ sizeLine ∧ ∀ p, H p = none → Q (.ref p) (upd H p (.lst (xs ++ zs)))
theorem op_cat : OpR X (binaryOp .Add) rCat := by
  intro pins s σ H x y v u Q I rx ry h
  obtain ⟨l, b, xs, zs, rfl, rfl, hH, hB, hz, q⟩ := h
  cases rx
  cases ry
  obtain ⟨z, its, n, r, hl, e⟩ := I.lstM hH
  obtain ⟨z2, its2, n2, r2, hl2, e2⟩ := I.lstM hB
  refine PySem.P.add_list e e2 ?_ (by rw [List.size_toArray, List.size_toArray]; omega)
  have ea : its.toArray ++ its2.toArray = (its ++ its2).toArray := by simp
  rw [ea]
  exact ⟨.ref _, _, I.lnew (t' := s.toks) (r.append r2) (by rw [List.length_append]; omega), rfl, q _ I.fresh⟩
end
section
variable {prog : Program} {w : World} {A : Around} {E : Value → Shared → Prop} {s : Shared}
set_option maxRecDepth 100000 in
end
section
variable {X : Cx}
end
end L2
namespace Att
open PySem PySem.W PySem.Calls PyProof.Rows
theorem ints_of_wellAll {P : Params} {h : Heap} : ∀ (ns : List Int) (vs : List Value), WellAll P h vs (ns.map WData.int) → IntsAre vs ns := by
  intro ns
  induction ns with
  | nil =>
    intro vs w
    rw [List.map_nil] at w
    cases w
    exact .nil
  | cons n ns ih =>
    intro vs w
    rw [List.map_cons] at w
    cases w with
    | cons a b =>
      cases a
      exact .cons _ _ (ih _ b)
theorem script_of {l : OpenLaw} {n : Nat} (hn : l.most = some n) {P : Params} {h : Heap} {args : List WData} {vals : List Value}
    (hpre : l.row.toRowW.claim.pre args = true) (hwl : WellAll P h vals args) :
    ∃ a vs ns, vals = [Value.ref a] ∧ args = [WData.list (ns.map WData.int)] ∧ h.get? a = some { cls := .type "list", data := .seq vs.toArray } ∧ IntsAre vs ns ∧ ns.length ≤ n := by
  have hsh : WShape.hasAll [] args [.list .int] = true := (pre_splitW hpre).1
  have hc : l.pre.holds [] { args := args } = true := (pre_splitW hpre).2
  obtain ⟨d, r, rfl, h1, h2⟩ := hasAllW_cons hsh
  obtain rfl := hasAllW_nil h2
  obtain ⟨xs, rfl, h3⟩ := hasW_list h1
  obtain ⟨ns, rfl⟩ := items_int h3
  have hlen : ns.length ≤ n := by
    unfold OpenLaw.pre at hc
    have h4 : (WTm.not (.lt (.lit (.int (n : Int))) (.len (.arg 0)))).holds [] { args := [.list (ns.map .int)] } = true := by
      have h4 := (holds_andW hc).1
      rw [hn] at h4
      exact h4
    have h5 := condW_of h4 (w_not (w_lt w_lit (w_len_list (w_arg rfl))))
    rw [List.length_map] at h5
    refine Nat.le_of_not_lt fun q => ?_
    have q' : (n : Int) < ((ns.length : Nat) : Int) := by omega
    first
      | (rw [decide_eq_true q'] at h5; exact absurd h5 (by decide))
      | (simp at h5; omega)
  cases hwl with
  | cons w1 w2 =>
    cases w2
    cases w1 with
    | list ho hall => exact ⟨_, _, ns, rfl, rfl, ho, ints_of_wellAll ns _ hall, hlen⟩
theorem post_true (l : OpenLaw) (args : List WData) : l.row.toRowW.claim.post args (.bool true) args = true :=
  postW_of (r := l.row.toRowW) (X := (true == true))
    (show WShape.has [] (.bool true) .bool = true by first | rfl | decide | simp [WShape.has, WShape.arms, WShape.armsAll])
    (show (WTm.eq .res (.lit (.bool true))).value [] { args := args, res := some (.bool true), after := args } = some (.bool (true == true)) from w_eq_bool (w_res rfl) w_lit) rfl
theorem attach_call {l : OpenLaw} {n : Nat} {q : Program} {loose : List Str} {XP : (Str → Option Value) → Heap → Prop} {YP : World → Heap → Prop} {d : DefRec}
    (hn : l.most = some n) (hdf : d.params.defaults = [])
    (call : ∀ (w : World) (s₀ s₁ : Shared) (mg mb : Str → Option Value) (fa : Addr) (o : Obj) (pm cd doc : Value) (a : Addr) (vs : List Value) (ns : List Int),
      Ground q loose [] XP w s₀ mg mb s₁.heap → YP w s₁.heap →
      s₁.heap.get? fa = some o → o.data = .func (docDef d.name d.params d.body d.scope pm cd doc) → s₁.heap.CodeRec cd d.name → mg d.name = some (.ref fa) →
      s₁.heap.get? a = some { cls := .type "list", data := .seq vs.toArray } → IntsAre vs ns → ns.length ≤ n → s₁.gens = #[] →
      codeAny (model l.prog w) callerA (.call (.ref fa) ⟨[.ref a], []⟩) (fun r s' => r = .ok (.ret (.bool true)) ∧ OldK s₁.heap s'.heap ∧ s'.os = s₁.os ∧ AllBare s'.gens) s₁) :
    WalkO q loose XP YP l.row.toRowW d [] (fun f vs => PySem.call f vs) := by
  intro w s₀ s₁ mg mb G Y fa o pm cd doc dV kV ho hd hcd hD hmg hg args vals as hpre hlay hrd hwl hlo
  obtain rfl : dV = .none := Dflts.none hD hdf
  obtain rfl : kV = .none := Dflts.noKw hD
  obtain ⟨a, vs, ns, rfl, rfl, hobj, hints, hlen⟩ := script_of hn hpre hwl
  refine enter_call (codeAny_mono (call w s₀ s₁ mg mb fa o pm cd doc a vs ns G Y ho (fd_plain hd) hcd hmg hobj hints hlen hg) fun r s' hq => ?_)
  obtain ⟨rfl, h2, h3, h4⟩ := hq
  exact ⟨.inl ⟨.bool true, .bool true, [], rfl, fun _ => rfl, .bool true, post_true l _, fun _ => ⟨List.Pairwise.nil, fun _ hm => (nomatch hm)⟩⟩, h2, h3, h4⟩
section
variable {prog : Program} {w : World} {A : Around} {E : Value → Shared → Prop} {s : Shared} {K : Frag}
def ledger (h : Heap) (L d : Addr) : List (Addr × Obj) := (List.range h.objs.size).filterMap fun a => if a = L ∨ a = d then none else (h.get? a).map fun o => (a, o)
end
end Att
namespace L2
open PySem PySem.Spec PyProof.Rows
theorem vals_ints : ∀ {vs : List Value} {ns : List Int}, IntsAre vs ns → Vals (ns.map V.int) vs
  | _, _, .nil => .nil
  | _, _, .cons n t h => .cons ⟨t, rfl⟩ (vals_ints h)
def Only (H : Hp) : Prop := ∀ b, H b = none ∨ ∃ o xs, H b = some (.frz o (.lst xs))
theorem law_call {P : Program} {w : World} {K : PySem.W.Frag} {mg mb : Str → Option Value} {CX : CXT} {k : Nat} {fa a : Addr} {fd : FuncData} {x : Str} {sp : Sp} {s₁ : Shared} {vs : List Value} {ns : List Int}
    (KX : K.In s₁.heap) (hns : s₁.heap.Ns mainGlobals mg) (hb : s₁.heap.Ns builtinsNs mb) (hbb : ∀ x : Str, x ≠ "__name__" → mb x = bootBuiltins x) (hlim : s₁.heap.NoLimit) (hg : s₁.gens = #[])
    (ha : s₁.heap.get? a = some { cls := .type "list", data := .seq vs.toArray }) (hi : IntsAre vs ns) (hl : ns.length ≤ sizeLine) (hr : Room k callerA)
    (F : ∀ base : Heap, K.In base → base.Ns mainGlobals mg → FnOk P w K mg base CX k fa fd [x] sp) (hbind : ∀ (s : Shared) (u : Value), BindsTo s fd ⟨[u], []⟩ [(x, u)])
    (hsp : ∀ H : Hp, Only H → SqL K H a (ns.map V.int) → sp [.ref a] H (fun v _ => v = .bl true) fun _ _ _ => False)
    (hCX : ∀ H e s', CX [] H s₁ (fun _ _ _ => False) e s' → False) :
    codeAny (model P w) callerA (.call (.ref fa) ⟨[.ref a], []⟩) (fun r s' => r = .ok (.ret (.bool true)) ∧ OldK s₁.heap s'.heap ∧ s'.os = s₁.os ∧ AllBare s'.gens) s₁ := by
  have rv := vals_ints hi
  have lenV := hi.length
  have core : ∀ H : Hp, Only H → SqL K H a (ns.map V.int) → HOk P w H s₁.heap → (∀ b, H b ≠ none → b = a) → (H a ≠ none → K.lookup a = none) →
      codeAny (model P w) callerA (.call (.ref fa) ⟨[.ref a], []⟩) (fun r s' => r = .ok (.ret (.bool true)) ∧ OldK s₁.heap s'.heap ∧ s'.os = s₁.os ∧ AllBare s'.gens) s₁ := by
    intro H hO hS hok hA hK
    have base_of : ∀ {b : Addr} {o : Obj}, s₁.heap.get? b = some o → H b = none → (hidT s₁.heap H).get? b = some o := fun e n => hidT_get e n
    have noA : ∀ {b : Addr} {o : Obj} {es : Array DictEntry} {ep : Nat}, s₁.heap.get? b = some o → o.data = .dict es ep → H b = none := fun {b o es ep} e d => by
      cases q : H b with
      | none => rfl
      | some u =>
        have e' : b = a := hA b (by rw [q]; simp)
        subst e'
        rw [ha] at e; cases e
        have d' : Data.seq vs.toArray _ = Data.dict es ep := d
        cases d'
    have nsK : ∀ {b : Addr} {m : Str → Option Value}, s₁.heap.Ns b m → (hidT s₁.heap H).Ns b m := fun {b m} ⟨o, es, ep, e, d, r⟩ => ⟨o, es, ep, base_of e (noA e d), d, r⟩
    have hKb : K.In (hidT s₁.heap H) := fun b o e => base_of (KX b o e) (by
      cases q : H b with
      | none => rfl
      | some u =>
        have e' : b = a := hA b (by rw [q]; simp)
        subst e'
        rw [hK (by rw [q]; simp)] at e; cases e)
    have hM : Mod K mg (hidT s₁.heap H) := ⟨hKb, nsK hns, ⟨mb, nsK hb, hbb⟩, let ⟨mc, h1, h2⟩ := hlim; ⟨mc, nsK h1, h2⟩⟩
    have e0 : Env0 P w K mg (hidT s₁.heap H) callerA [] s₁ H := ⟨rfl, hM, fun b o e => of_hidT e, Nat.le_of_eq (hidT_size _ _), trivial, fun b hb => absurd (show b ∈ ([] : List Addr) from hb) (by simp), hok, .of_eq hg⟩
    refine codeAny_mono ((F _ hKb (nsK hns)).run callerA [] s₁ H ⟨[.ref a], []⟩ [.ref a] [.ref a] _ _ hr e0 (hbind s₁ (.ref a)) (.cons rfl .nil) (hsp H hO hS)) fun r s' h => ?_
    cases r with
    | error e => exact (hCX H e s' h).elim
    | ok fl =>
      cases fl with
      | next => exact False.elim h
      | brk => exact False.elim h
      | cont => exact False.elim h
      | ret u =>
        obtain ⟨v, H', os, bare, un, hok', r', q⟩ := h
        have q' : v = .bl true := q
        subst q'
        obtain rfl : u = Value.bool true := r'
        refine ⟨rfl, OldK.of_keep fun b o e => ?_, os, bare⟩
        cases q : H b with
        | none => exact un.keep b o e q (by intro z; exact absurd (show b ∈ ([] : List Addr) from z) (by simp)) (by simp)
        | some u =>
          rcases hO b with z | ⟨ob, xs, z⟩
          · rw [q] at z; cases z
          · have z2 := un.frzs b ob _ z
            obtain ⟨e1, _⟩ := hok b _ z
            obtain ⟨e2, _⟩ := hok' b _ z2
            rw [e] at e1; cases e1
            exact e2
  cases hk : K.lookup a with
  | some o =>
    have e := KX a o hk
    rw [ha] at e
    cases e
    refine core (fun _ => none) (fun _ => .inl rfl) (.inr ⟨_, vs.toArray, _, hk, rfl, rfl, rfl, by rw [List.size_toArray, lenV]; exact hl, by simpa using rv⟩) (fun b u z => by have z' : (none : Option HO) = some u := z; cases z') (fun b z => absurd rfl z) fun z => absurd rfl z
  | none =>
    refine core (fun b => if b = a then some (.frz { cls := .type "list", data := .seq vs.toArray } (.lst (ns.map V.int))) else none) (fun b => ?_) (.inl (.inr ⟨{ cls := .type "list", data := .seq vs.toArray }, if_pos rfl⟩)) (fun b u z => ?_) (fun b z => ?_) fun _ => hk
    · by_cases hb : b = a
      · exact .inr ⟨_, _, if_pos hb⟩
      · exact .inl (if_neg hb)
    · by_cases hb : b = a
      · have z' := (if_pos hb).symm.trans z
        cases z'
        subst hb
        exact ⟨ha, by rw [List.length_map]; exact hl, vs, _, rv, ha⟩
      · have z' := (if_neg hb).symm.trans z
        cases z'
    · by_cases hb : b = a
      · exact hb
      · exact absurd (if_neg hb) z
end L2
namespace L2
open PySem PySem.Spec PyProof.Rows
abbrev KOf {K : PySem.W.Frag} {h : Heap} (_ : K.In h) : PySem.W.Frag := K
theorem walk_of {l : PySem.W.OpenLaw} {n k : Nat} {q : Program} {loose : List Str} {XP : (Str → Option Value) → Heap → Prop} {YP : World → Heap → Prop} {d : DefRec} {K : Params → PySem.W.Frag} {CX : World → CXT} {sp : World → Sp} {x : Str}
    (hn : l.most = some n) (hn2 : n ≤ sizeLine) (hdf : d.params.defaults = []) (hr : Room k callerA)
    (hY : ∀ (w : World) (h : Heap), YP w h → (K w.params).In h)
    (F : ∀ (w : World) (mg : Str → Option Value) (fa : Addr) (h : Heap), (K w.params).In h → h.Ns mainGlobals mg → mg d.name = some (.ref fa) →
      ∃ fd : FuncData, (∀ (s : Shared) (u : Value), BindsTo s fd ⟨[u], []⟩ [(x, u)]) ∧
        ∀ base : Heap, (K w.params).In base → base.Ns mainGlobals mg → FnOk l.prog w (K w.params) mg base (CX w) k fa fd [x] (sp w))
    (hsp : ∀ (w : World) (H : Hp) (a : Addr) (ns : List Int), ns.length ≤ n → Only H → SqL (K w.params) H a (ns.map V.int) → sp w [.ref a] H (fun v _ => v = .bl true) fun _ _ _ => False)
    (hCX : ∀ (w : World) (H : Hp) (s : Shared) (e : Value) (s' : Shared), CX w [] H s (fun _ _ _ => False) e s' → False) :
    PySem.W.WalkO q loose XP YP l.row.toRowW d [] (fun f vs => PySem.call f vs) := by
  refine Att.attach_call hn hdf fun w s₀ s₁ mg mb fa o pm cd doc a vs ns G Y ho hd hcd hmg hobj hints hlen hg => ?_
  have KX := hY w _ Y
  obtain ⟨fd, hb, hF⟩ := F w mg fa _ KX G.T.g hmg
  exact law_call KX G.T.g G.T.b G.T.builtins G.T.nolimit hg hobj hints (Nat.le_trans hlen hn2) hr hF hb (fun H hO hS => hsp w H a ns hlen hO hS) fun H e s' => hCX w H s₁ e s'
end L2
/- THE LAST THEOREM (shape; LID, My.* are yours):
   My.Adr: a structure of the addresses that your layer names (classes, functions); My.Txt K t: a structure (Prop) of the equations over K;
   My.txt_mk : {K} {implicit addresses ..} (e1 : nsIn K mainGlobals "law" = some (some (.ref f))) (e2 : K.lookup f = some ⟨oc, od, .func (fnOf "law" "law" params body scope dV kV doc pm an cdv ct), sl⟩) (e3 : codeIn K cdv "law" = true) .. : ∃ t, My.Txt K t
set_option maxRecDepth 100000 in
set_option maxHeartbeats 0 in
theorem PySem.Challenge.cw_LID_holds : PySem.Challenge.rw_LID.Holds := by
  w_on; o_law; k_head; (case hw => w_witness2)
  k_fill
  refine L2.walk_of (l := PySem.Challenge.rw_LID) (n := 63) (k := 40) (x := "script") (CX := fun w => ..) (sp := fun _ => My.sp_law) rfl (by decide) rfl ⟨rfl, by decide, by decide⟩ (fun w h Y => PySem.W.kIn_of Y) ?F ?S ?C
  case F =>
    intro w mg fa h KX G hmg
    have T : ∃ t, My.Txt (L2.KOf KX) t := by
      dsimp only [L2.KOf]                          -- K must stand as «<heap const> w.params» for k_is
      refine' My.txt_mk ?e1 ?e2 ?e3 ..
      (case e1 => PySem.W.k_is)                    -- in the order: a name -> its address -> its object -> its parts
      (case e2 => PySem.W.k_is)
      ..
    obtain ⟨t, T⟩ := T
    have e0 := hmg.symm.trans (PySem.W.mg_of KX G T.law)
    cases e0                                       -- fa is the law's own address
    exact ⟨_, fun s u => .of_eq rfl, fun base kb nb => My.law_fn T kb nb⟩     -- if «.of_eq rfl» comes too early: refine' ⟨_, ?b, fun base kb nb => My.law_fn T kb nb⟩; exact fun s u => .of_eq rfl
  case S => exact fun w H a ns hl hO hS => ..
  case C => exact ..
(the tactic k_is has no namespace: write k_is) -/
namespace L2
open PySem PySem.Spec PyProof.Rows
def defArgs (s : Stmt) : Arguments := match s with
  | .FunctionDef _ a _ _ _ _ _ _ _ _ => a
  | _ => { posonlyargs := [], args := [], vararg := none, kwonlyargs := [], kw_defaults := [], kwarg := none, defaults := [] }
def defBody (s : Stmt) : List Stmt := match s with
  | .FunctionDef _ _ b _ _ _ _ _ _ _ => b
  | _ => []
def defScope (s : Stmt) : Scope := match s with
  | .FunctionDef _ _ _ _ _ _ sc _ _ _ => sc
  | _ => { kind := .function, names := [], isGenerator := false, isCoroutine := false }
abbrev CX0 : CXT := fun _ _ _ _ _ _ => False
abbrev E0 : XK := fun _ _ _ => False
theorem pass0 {X : Cx} : Passes CX0 X E0 := fun _ _ _ _ _ _ _ h => h.elim
structure Fun (K : PySem.W.Frag) (x qual : Str) (st : Stmt) (f : Addr) (fd : FuncData) : Prop where
  ex : ∃ (oc : Value) (od : Option Addr) (kV doc pm : Value) (an : Option Addr) (cdv ct : Value) (osl : Array (Option Value)),
    fd = PySem.W.fnOf x qual (defArgs st) (defBody st) (defScope st) .none kV doc pm an cdv ct ∧ K.lookup f = some ⟨oc, od, .func fd, osl⟩ ∧ PySem.W.codeIn K cdv qual = true
  kp : PySem.W.keepIn K (.ref f) = true
section
variable {P : Program} {w : World} {K : PySem.W.Frag} {mg : Str → Option Value} {base : Heap}
theorem Fun.ok {x qual : Str} {st : Stmt} {f : Addr} {fd : FuncData} {N ps : List Str} {k : Nat} {sp : Sp} (F : Fun K x qual st f fd) (S : FnScope N ps (defScope st)) (len : ∀ vs H Q E, sp vs H Q E → vs.length = ps.length)
    (hbody : ∀ (cdv : Value) (A : Around) (outer : List Env) (s : Shared) (H : Hp) (vs : List V) (Q : VK) (E : XK), Room k (A.deeper (envOfC qual (defScope st) s.heap.objs.size f cdv)) → sp vs H Q E →
      ∃ t, PSs (cxOf CX0 P w K mg base N qual (defScope st) f cdv A outer s H E).nox (defBody st) t ∧ t { nx := fun _ H' => Q .non H', rt := Q } (start N vs) H) : FnOk P w K mg base CX0 (k + 1) f fd ps sp := by
  obtain ⟨oc, od, kV, doc, pm, an, cdv, ct, osl, rfl, lk, hcd⟩ := F.ex
  refine fn_of lk hcd S len fun A outer s H vs Q E hr hsp => ?_
  obtain ⟨t, h, q⟩ := hbody cdv A outer s H vs Q E hr hsp
  exact ⟨t, h.nox, q⟩
theorem Fun.binds {x qual : Str} {st : Stmt} {f : Addr} {fd : FuncData} {ps : List Str} (F : Fun K x qual st f fd)
    (h : ∀ (kV doc pm : Value) (an : Option Addr) (cdv ct : Value) (us : List Value), us.length = ps.length → bindArgs (PySem.W.fnOf x qual (defArgs st) (defBody st) (defScope st) .none kV doc pm an cdv ct) ⟨us, []⟩ = pure (ps.zip us)) : Binds K fd ps [] := by
  obtain ⟨oc, od, kV, doc, pm, an, cdv, ct, osl, rfl, lk, hcd⟩ := F.ex
  exact .all (h kV doc pm an cdv ct)
theorem fun_mk {x qual : Str} {st : Stmt} {f : Addr} {oc : Value} {od an : Option Addr} {osl : Array (Option Value)} {kV doc pm cdv ct : Value} (l : K.lookup f = some ⟨oc, od, .func (PySem.W.fnOf x qual (defArgs st) (defBody st) (defScope st) .none kV doc pm an cdv ct), osl⟩)
    (c : PySem.W.codeIn K cdv qual = true) (k : PySem.W.keepIn K (.ref f) = true) : Fun K x qual st f (PySem.W.fnOf x qual (defArgs st) (defBody st) (defScope st) .none kV doc pm an cdv ct) := ⟨⟨oc, od, kV, doc, pm, an, cdv, ct, osl, rfl, l, c⟩, k⟩
end
theorem hu_of {A : Around} {k : Nat} (hr : Room k A) : A.units + 1 < cLine := Nat.lt_of_le_of_lt (Nat.add_le_add_left (by decide : 1 ≤ 64) _) hr.units
section
variable {X : Cx}
theorem pv (i : Nat) {x : Str} {pos : Pos} (hN : X.N[i]? = some x := by rfl) (hv : Vis X.env.scope x := by first | exact Or.inl rfl | exact Or.inr (Or.inl rfl) | exact Or.inr (Or.inr rfl)) (hd : (x == ("__debug__" : Str)) = false := by decide)
    (hcd : (x == ("__classdict__" : Str)) = false := by decide) : PE X (.Name x pos) (tVar i) := pe_var hN hv hd hcd
end
theorem iteF {A B : Prop} (h : B) : if false = true then A else B := by
  rw [if_neg Bool.false_ne_true]
  exact h
theorem iteT {A B : Prop} (h : A) : if true = true then A else B := by
  rw [if_pos rfl]
  exact h
theorem ite2 {c A B : Prop} [Decidable c] (h1 : c → A) (h2 : ¬ c → B) : if c then A else B := by
  by_cases h : c
  · rw [if_pos h]
    exact h1 h
  · rw [if_neg h]
    exact h2 h
def Same (H H' : Hp) : Prop := ∀ b o, H b = some o → H' b = some o
theorem Same.refl (H : Hp) : Same H H := fun _ _ h => h
theorem Same.trans {H H1 H2 : Hp} (a : Same H H1) (b : Same H1 H2) : Same H H2 := fun c o h => b c o (a c o h)
theorem Same.free {H H' : Hp} (e : Same H H') {l : Addr} (h : H' l = Option.none) : H l = Option.none := by
  cases q : H l with
  | none => rfl
  | some o =>
    rw [e l o q] at h
    cases h
theorem Same.seq {K : PySem.W.Frag} {H H' : Hp} {a : Addr} {xs : List V} (e : Same H H') (h : SqL K H a xs) : SqL K H' a xs := by
  rcases h with (h | ⟨o, h⟩) | h
  · exact .inl (.inl (e _ _ h))
  · exact .inl (.inr ⟨o, e _ _ h⟩)
  · exact .inr h
end L2
namespace L2
open PySem PySem.Spec PyProof.Rows
section
variable {κ : Type} [DecidableEq κ]
def valV (kvs : List (κ × V)) (k : κ) : Option V := (kvs.find? fun kv => decide (kv.1 = k)).map (·.2)
def putK (kvs : List (κ × V)) (k : κ) (v : V) : List (κ × V) :=
  if (kvs.any fun kv => decide (kv.1 = k)) = true then kvs.map (fun kv => if kv.1 = k then (kv.1, v) else kv) else kvs ++ [(k, v)]
def dropK (kvs : List (κ × V)) (k : κ) : List (κ × V) := kvs.filter fun kv => decide (kv.1 ≠ k)
theorem valV_pos {p : κ × V} {r : List (κ × V)} {k : κ} (e : p.1 = k) : valV (p :: r) k = some p.2 := by simp [valV, List.find?_cons, e]
theorem valV_neg {p : κ × V} {r : List (κ × V)} {k : κ} (e : ¬ p.1 = k) : valV (p :: r) k = valV r k := by simp [valV, List.find?_cons, e]
theorem valV_any (k : κ) : ∀ kvs : List (κ × V), (kvs.any fun kv => decide (kv.1 = k)) = (valV kvs k).isSome
  | [] => rfl
  | p :: r => by
    rw [List.any_cons]
    by_cases e : p.1 = k
    · simp only [valV_pos e, decide_eq_true e, Bool.true_or, Option.isSome_some]
    · rw [valV_neg e, decide_eq_false e, Bool.false_or]; exact valV_any k r
theorem valV_map (k j : κ) (y : V) : ∀ kvs : List (κ × V), valV (kvs.map fun kv => if kv.1 = k then (kv.1, y) else kv) j = (valV kvs j).map fun x => if j = k then y else x
  | [] => rfl
  | p :: r => by
    have ih := valV_map k j y r
    rw [List.map_cons]
    by_cases h : p.1 = k
    · rw [if_pos h]
      by_cases e : p.1 = j
      · rw [valV_pos (p := (p.1, y)) e, valV_pos e, Option.map_some, if_pos (e.symm.trans h)]
      · rw [valV_neg (p := (p.1, y)) e, valV_neg e, ih]
    · rw [if_neg h]
      by_cases e : p.1 = j
      · rw [valV_pos (p := p) e, valV_pos e, Option.map_some, if_neg (fun z => h (e.trans z))]
      · rw [valV_neg (p := p) e, valV_neg e, ih]
theorem valV_snoc (k j : κ) (y : V) : ∀ kvs : List (κ × V), valV kvs k = none → valV (kvs ++ [(k, y)]) j = if j = k then some y else valV kvs j
  | [], _ => by
    by_cases e : k = j
    · rw [if_pos e.symm]; exact valV_pos (p := (k, y)) e
    · rw [if_neg (fun z => e z.symm)]; exact valV_neg (p := (k, y)) e
  | p :: r, hn => by
    rw [List.cons_append]
    have hk : ¬ p.1 = k := fun z => by rw [valV_pos z] at hn; cases hn
    rw [valV_neg hk] at hn
    have ih := valV_snoc k j y r hn
    by_cases e : p.1 = j
    · rw [valV_pos e, valV_pos e, if_neg (fun z => hk (e.trans z))]
    · rw [valV_neg e, valV_neg e, ih]
theorem valV_put (kvs : List (κ × V)) (k j : κ) (y : V) : valV (putK kvs k y) j = if j = k then some y else valV kvs j := by
  unfold putK
  by_cases a : (kvs.any fun kv => decide (kv.1 = k)) = true
  · rw [if_pos a, valV_map]
    rw [valV_any] at a
    by_cases e : j = k
    · obtain ⟨x, hx⟩ := Option.isSome_iff_exists.mp a
      rw [if_pos e, e, hx, Option.map_some, if_pos rfl]
    · rw [if_neg e]
      cases valV kvs j with
      | none => rfl
      | some x => rw [Option.map_some, if_neg e]
  · rw [if_neg a]
    refine valV_snoc k j y kvs ?_
    rw [valV_any] at a
    cases q : valV kvs k with
    | none => rfl
    | some x => rw [q] at a; exact (a rfl).elim
theorem length_putK (kvs : List (κ × V)) (k : κ) (v : V) : (putK kvs k v).length ≤ kvs.length + 1 := by
  unfold putK
  split
  · rw [List.length_map]; omega
  · rw [List.length_append, List.length_cons, List.length_nil]; omega
theorem RelO.isSome_eq {o : Option V} {u : Option Value} (r : RelO o u) : o.isSome = u.isSome := by
  cases o with
  | none => cases u with
    | none => rfl
    | some _ => exact (show False from r).elim
  | some _ => cases u with
    | none => exact (show False from r).elim
    | some _ => rfl
theorem RelO.getD {o : Option V} {u : Option Value} {d : V} {d' : Value} (r : RelO o u) (rd : RelV d d') : RelV (o.getD d) (u.getD d') := by
  cases o with
  | none => cases u with
    | none => exact rd
    | some _ => exact (show False from r).elim
  | some _ => cases u with
    | none => exact (show False from r).elim
    | some _ => exact r
theorem KV.val {kvs : List (κ × V)} {vs : List (κ × Value)} (r : KV kvs vs) (k : κ) : RelO (valV kvs k) (valueAt vs k) := by
  unfold KV at r
  induction r with
  | nil => exact True.intro
  | @cons p q ps qs h t ih =>
    obtain ⟨h1, h2⟩ := h
    by_cases e : p.1 = k
    · have e' : q.1 = k := h1.symm.trans e
      have b : valueAt (q :: qs) k = some q.2 := by simp [valueAt, List.find?_cons, e']
      rw [valV_pos e, b]; exact h2
    · have e' : ¬ q.1 = k := fun z => e (h1.trans z)
      have b : valueAt (q :: qs) k = valueAt qs k := by simp [valueAt, List.find?_cons, e']
      rw [valV_neg e, b]; exact ih
theorem KV.any {kvs : List (κ × V)} {vs : List (κ × Value)} (r : KV kvs vs) (k : κ) : (kvs.any fun kv => decide (kv.1 = k)) = vs.any fun kv => decide (kv.1 = k) := by
  unfold KV at r
  induction r with
  | nil => rfl
  | cons h t ih => rw [List.any_cons, List.any_cons, ih, h.1]
theorem KV.repl {kvs : List (κ × V)} {vs : List (κ × Value)} (r : KV kvs vs) (k : κ) {y : V} {u : Value} (ry : RelV y u) :
    KV (kvs.map fun kv => if kv.1 = k then (kv.1, y) else kv) (vs.map fun kv => if kv.1 = k then (kv.1, u) else kv) := by
  unfold KV at r ⊢
  induction r with
  | nil => exact .nil
  | @cons p q ps qs h t ih =>
    rw [List.map_cons, List.map_cons]
    refine .cons ?_ ih
    obtain ⟨h1, h2⟩ := h
    by_cases e : p.1 = k
    · rw [if_pos e, if_pos (h1.symm.trans e)]; exact ⟨h1, ry⟩
    · rw [if_neg e, if_neg (fun z => e (h1.trans z))]; exact ⟨h1, h2⟩
theorem KV.put {kvs : List (κ × V)} {vs : List (κ × Value)} (r : KV kvs vs) (k : κ) {y : V} {u : Value} (ry : RelV y u) : KV (putK kvs k y) (stored vs k u) := by
  unfold putK stored
  rw [r.any k]
  by_cases e : (vs.any fun kv => decide (kv.1 = k)) = true
  · rw [if_pos e, if_pos e]; exact r.repl k ry
  · rw [if_neg e, if_neg e]; exact Paired.snoc r ⟨rfl, ry⟩
theorem KV.keys {kvs : List (κ × V)} {vs : List (κ × Value)} (r : KV kvs vs) : kvs.map (·.1) = vs.map (·.1) := by
  unfold KV at r
  induction r with
  | nil => rfl
  | cons h t ih => rw [List.map_cons, List.map_cons, ih, h.1]
theorem KV.length {kvs : List (κ × V)} {vs : List (κ × Value)} (r : KV kvs vs) : kvs.length = vs.length := Paired.length r
end
theorem kV_is {P : Program} {w : World} {k : Key} {u : Value} (r : RelV (kV k) u) : (mixKind P w).is k u = true := by
  cases k with
  | inl i => obtain ⟨t, e⟩ := (show ∃ t, u = Value.int i t from r); subst e; exact mixKind_int P w i t
  | inr x => obtain ⟨t, e⟩ := (show ∃ t, u = Value.str x t from r); subst e; exact mixKind_str P w x t
theorem items_are {P : Program} {w : World} : ∀ {ks : List Key} {us : List Value}, Vals (ks.map kV) us → ItemsAre (mixKind P w) ks us
  | [], _, r => by rw [List.map_nil] at r; cases r; exact .nil
  | k :: ks, _, r => by
    rw [List.map_cons] at r
    cases r with
    | cons h t => exact .cons (kV_is h) (items_are t)
abbrev KT (H : Hp) : List (List Key × V) → List (List Key × Addr × Value) → Prop := Paired fun p q => p.1 = q.1 ∧ H q.2.1 = some (.tup (p.1.map kV)) ∧ RelV p.2 q.2.2
theorem KT.val {H : Hp} {kvs : List (List Key × V)} {xs : List (List Key × Addr × Value)} (r : KT H kvs xs) (k : List Key) : RelO (valV kvs k) ((atKey xs k).map (·.2)) := by
  induction r with
  | nil => exact True.intro
  | @cons p q ps qs h t ih =>
    obtain ⟨h1, _, h2⟩ := h
    by_cases e : p.1 = k
    · have e' : q.1 = k := h1.symm.trans e
      have b : atKey (q :: qs) k = some q.2 := by simp [atKey, List.find?_cons, e']
      rw [valV_pos e, b]; exact h2
    · have e' : ¬ q.1 = k := fun z => e (h1.trans z)
      have b : atKey (q :: qs) k = atKey qs k := by simp [atKey, List.find?_cons, e']
      rw [valV_neg e, b]; exact ih
theorem KT.repl {H : Hp} {kvs : List (List Key × V)} {xs : List (List Key × Addr × Value)} (r : KT H kvs xs) (k : List Key) {y : V} {u : Value} (ry : RelV y u) :
    KT H (kvs.map fun kv => if kv.1 = k then (kv.1, y) else kv) (xs.map (putAt k u)) := by
  induction r with
  | nil => exact .nil
  | @cons p q ps qs h t ih =>
    rw [List.map_cons, List.map_cons]
    refine .cons ?_ ih
    obtain ⟨h1, h2, h3⟩ := h
    unfold putAt
    by_cases e : p.1 = k
    · rw [if_pos e, if_pos (h1.symm.trans e)]; exact ⟨h1, h2, ry⟩
    · rw [if_neg e, if_neg (fun z => e (h1.trans z))]; exact ⟨h1, h2, h3⟩
theorem KT.put {H : Hp} {kvs : List (List Key × V)} {xs : List (List Key × Addr × Value)} (r : KT H kvs xs) (k : List Key) {b : Addr} {y : V} {u : Value} (hb : H b = some (.tup (k.map kV))) (ry : RelV y u) :
    KT H (putK kvs k y) (storedH xs k b u) := by
  have e : (kvs.any fun kv => decide (kv.1 = k)) = (atKey xs k).isSome := by
    rw [valV_any, (r.val k).isSome_eq, Option.isSome_map]
  unfold putK storedH
  rw [e]
  by_cases q : (atKey xs k).isSome = true
  · rw [if_pos q, if_pos q]; exact r.repl k ry
  · rw [if_neg q, if_neg q]; exact Paired.snoc r ⟨rfl, hb, ry⟩
theorem KT.keeps {H H' : Hp} {kvs : List (List Key × V)} {xs : List (List Key × Addr × Value)} (r : KT H kvs xs) (ht : ∀ b ys, H b = some (.tup ys) → H' b = some (.tup ys)) : KT H' kvs xs :=
  Paired.mapP r fun _ _ z => ⟨z.1, ht _ _ z.2.1, z.2.2⟩
section
variable {P : Program} {w : World} {H : Hp} {h : Heap} {a : Addr}
theorem rd_of {u : HO} (ok : HOk P w H h) (e : Rd H a u) : ObjOk P w H h a u := e.ok ok
theorem dk_rd {kvs : List (Key × V)} (ok : HOk P w H h) (e : Rd H a (.dK kvs)) : kvs.length ≤ sizeLine ∧ (a == sysModules) = false ∧ ∃ vs, KV kvs vs ∧ h.DictOf (mixKind P w) a vs :=
  show ObjOk P w H h a (.dK kvs) from rd_of ok e
theorem dk_of {kvs : List (Key × V)} (ok : HOk P w H h) (e : H a = some (.dK kvs)) : kvs.length ≤ sizeLine ∧ (a == sysModules) = false ∧ ∃ vs, KV kvs vs ∧ h.DictOf (mixKind P w) a vs := dk_rd ok (.inl e)
theorem key_of {ks : List Key} (ok : HOk P w H h) (e : H a = some (.tup (ks.map kV))) : (tupleKind (mixKind P w)).is h ks a := by
  obtain ⟨_, its, r, o, h1, h2, n, h3, _⟩ := (show ObjOk P w H h a (.tup (ks.map kV)) from ok a _ e)
  exact ⟨o, its.toArray, n, h1, h2, h3, by simpa using items_are r⟩
theorem dt_rd {kvs : List (List Key × V)} (ok : HOk P w H h) (e : Rd H a (.dT kvs)) : kvs.length ≤ sizeLine ∧ (a == sysModules) = false ∧
    ∃ xs, KT H kvs xs ∧ h.DictOfH (tupleKind (mixKind P w)) a xs := by
  obtain ⟨z, y, xs, r, o, es, ep, h1, h2, h3, h4, h5⟩ := (show ObjOk P w H h a (.dT kvs) from rd_of ok e)
  refine ⟨z, y, xs, r, o, es, ep, h1, h2, h3, h4, fun x hx => ?_, h5⟩
  have all : ∀ {l : List (List Key × V)} {m : List (List Key × Addr × Value)}, KT H l m → ∀ x ∈ m, (tupleKind (mixKind P w)).is h x.1 x.2.1 := by
    intro l m q
    induction q with
    | nil => intro x hx; exact nomatch hx
    | @cons p q ps qs hq t ih =>
      intro x hx
      rcases List.mem_cons.mp hx with e | hx
      · subst e
        exact key_of ok (by rw [← hq.1]; exact hq.2.1)
      · exact ih x hx
  exact all r x hx
theorem dt_of {kvs : List (List Key × V)} (ok : HOk P w H h) (e : H a = some (.dT kvs)) : kvs.length ≤ sizeLine ∧ (a == sysModules) = false ∧
    ∃ xs, KT H kvs xs ∧ h.DictOfH (tupleKind (mixKind P w)) a xs := dt_rd ok (.inl e)
end
def DGet (H : Hp) (a : Addr) (y : V) (r : Option V) : Prop :=
  (∃ kvs k, Rd H a (.dK kvs) ∧ y = kV k ∧ r = valV kvs k) ∨ ∃ kvs k b, Rd H a (.dT kvs) ∧ y = .ref b ∧ H b = some (.tup (k.map kV)) ∧ r = valV kvs k
def DPut (H : Hp) (a : Addr) (y v : V) (H' : Hp) : Prop :=
  (∃ kvs k, H a = some (.dK kvs) ∧ y = kV k ∧ kvs.length < sizeLine ∧ H' = upd H a (.dK (putK kvs k v))) ∨
  ∃ kvs k b, H a = some (.dT kvs) ∧ y = .ref b ∧ H b = some (.tup (k.map kV)) ∧ kvs.length < sizeLine ∧ H' = upd H a (.dT (putK kvs k v))
theorem DGet.k {H : Hp} {a : Addr} {kvs : List (Key × V)} {k : Key} (e : H a = some (.dK kvs)) : DGet H a (kV k) (valV kvs k) := .inl ⟨kvs, k, .inl e, rfl, rfl⟩
theorem DGet.t {H : Hp} {a b : Addr} {kvs : List (List Key × V)} {k : List Key} (e : H a = some (.dT kvs)) (eb : H b = some (.tup (k.map kV))) : DGet H a (.ref b) (valV kvs k) := .inr ⟨kvs, k, b, .inl e, rfl, eb, rfl⟩
theorem DPut.k {H : Hp} {a : Addr} {kvs : List (Key × V)} {k : Key} {v : V} (e : H a = some (.dK kvs)) (hl : kvs.length < sizeLine) : DPut H a (kV k) v (upd H a (.dK (putK kvs k v))) := .inl ⟨kvs, k, e, rfl, hl, rfl⟩
theorem DPut.t {H : Hp} {a b : Addr} {kvs : List (List Key × V)} {k : List Key} {v : V} (e : H a = some (.dT kvs)) (eb : H b = some (.tup (k.map kV))) (hl : kvs.length < sizeLine) :
    DPut H a (.ref b) v (upd H a (.dT (putK kvs k v))) := .inr ⟨kvs, k, b, e, rfl, eb, hl, rfl⟩
section
variable {X : Cx} {pins : List (Addr × Obj)} {σ : St} {H : Hp} {s : Shared} {a : Addr} {y v : V} {u r : Value} {o : Option V} {A : Around} {E : Value → Shared → Prop}
theorem Inv.big (I : Inv X pins σ H s) : sysModules < s.heap.objs.size := by
  have h : mainGlobals < s.heap.objs.size := (I.mod.glob.keeps I.bk).lt
  exact Nat.lt_trans (by decide) h
theorem d_getItem {Q : Value → Shared → Prop} (hu : A.units + 1 < cLine) (I : Inv X pins σ H s) (g : DGet H a y (some v)) (ry : RelV y u) (h : ∀ w' s', Inv X pins σ H s' → RelV v w' → Q w' s') :
    wpAny (model X.prog X.w) A (getItem (.ref a) u) Q E s := by
  rcases g with ⟨kvs, k, e, ey, l⟩ | ⟨kvs, k, b, e, ey, eb, l⟩
  · subst ey
    obtain ⟨z, hd, vs, rel, dd⟩ := dk_rd I.hok e
    obtain ⟨w', hw, rw'⟩ := RelO.some_of (v := v) (o := valueAt vs k) (by rw [l]; exact rel.val k)
    exact wpAny_getItem_of (kV_is ry) dd.mapOf hw (h w' _ (I.tok _) rw')
  · subst ey
    cases (show u = Value.ref b from ry)
    obtain ⟨z, hd, xs, rel, dd⟩ := dt_rd I.hok e
    obtain ⟨w', hw, rw'⟩ := RelO.some_of (v := v) (o := (atKey xs k).map (·.2)) (by rw [l]; exact rel.val k)
    obtain ⟨p, hp, hp2⟩ := Option.map_eq_some_iff.mp hw
    refine wpAny_getItem_heap (tupleKind_room_in1 hu) (key_of I.hok eb) dd hp ?_
    rw [hp2]
    exact h w' _ (I.tok _) rw'
theorem d_notIn {Q : Value → Shared → Prop} (hu : A.units + 1 < cLine) (I : Inv X pins σ H s) (g : DGet H a y o) (ry : RelV y u) (h : ∀ s', Inv X pins σ H s' → Q (.bool (!o.isSome)) s') :
    wpAny (model X.prog X.w) A (compareOp .NotIn u (.ref a)) Q E s := by
  rcases g with ⟨kvs, k, e, ey, l⟩ | ⟨kvs, k, b, e, ey, eb, l⟩
  · subst ey
    obtain ⟨z, hd, vs, rel, dd⟩ := dk_rd I.hok e
    refine wpAny_notIn_of (kV_is ry) hd dd.mapOf ?_
    rw [← (rel.val k).isSome_eq, ← l]
    exact h _ (I.tok _)
  · subst ey
    cases (show u = Value.ref b from ry)
    obtain ⟨z, hd, xs, rel, dd⟩ := dt_rd I.hok e
    refine wpAny_notIn_heap (tupleKind_room_in1 hu) (key_of I.hok eb) hd dd ?_
    have q := (rel.val k).isSome_eq
    rw [Option.isSome_map] at q
    rw [← q, ← l]
    exact h _ (I.tok _)
theorem d_write {h' : Heap} {t' : Nat} {ob : HO} (I : Inv X pins σ H s) (mu : Mut (H a)) (hs : Heap.SameBut a s.heap h') (he : ∃ q, h'.get? a = some q) (new : ObjOk X.prog X.w (upd H a ob) h' a ob) :
    Inv X pins σ (upd H a ob) { s with heap := h', toks := t' } :=
  I.write (x := a) (e := a) mu (.inl rfl) (fun b q hb z => (hs.2 b hb).trans z) he new
theorem dk_new {P : Program} {w : World} {H' : Hp} {h' : Heap} {kvs : List (Key × V)} {vs : List (Key × Value)} (z : kvs.length ≤ sizeLine) (hd : (a == sysModules) = false) (rel : KV kvs vs) (dd : h'.DictOf (mixKind P w) a vs) :
    ObjOk P w H' h' a (.dK kvs) := ⟨z, hd, vs, rel, dd⟩
theorem d_setItem {H' : Hp} {Q : Unit → Shared → Prop} (hu : A.units + 1 < cLine) (I : Inv X pins σ H s) (g : DPut H a y v H') (ry : RelV y u) (rv : RelV v r) (h : ∀ s', Inv X pins σ H' s' → Q () s') :
    wpAny (model X.prog X.w) A (setItem (.ref a) u r) Q E s := by
  rcases g with ⟨kvs, k, e, ey, l, eH⟩ | ⟨kvs, k, b, e, ey, eb, l, eH⟩
  · subst ey eH
    obtain ⟨z, hd, vs, rel, dd⟩ := dk_of I.hok e
    have hz : vs.length ≤ sizeLine := by rw [← rel.length]; exact z
    have hl : (putK kvs k v).length ≤ sizeLine := by have := length_putK kvs k v; omega
    refine wpAny_setItem_pairs (hsz := hz) (kV_is ry) dd fun h' dd' hs => h _ ?_
    have he : ∃ q, h'.get? a = some q := let ⟨q, _, _, hq, _⟩ := dd'; ⟨q, hq⟩
    exact d_write I (by rw [e]; exact True.intro) hs he (dk_new hl hd (rel.put k rv) dd')
  · subst ey eH
    cases (show u = Value.ref b from ry)
    obtain ⟨z, hd, xs, rel, dd⟩ := dt_of I.hok e
    have hz : xs.length ≤ sizeLine := by rw [← Paired.length rel]; exact z
    have hl : (putK kvs k v).length ≤ sizeLine := by have := length_putK kvs k v; omega
    refine wpAny_setItem_heap (hsz := hz) (tupleKind_room_in1 hu) (key_of I.hok eb) dd fun h' dd' hs => h _ ?_
    obtain ⟨q, es, ep, hq, h2, h3, h4, _, h5⟩ := dd'
    refine d_write I (by rw [e]; exact True.intro) hs ⟨q, hq⟩ ⟨hl, hd, _, (rel.put k eb rv).keeps fun c ys ec => ?_, q, es, ep, hq, h2, h3, h4, h5⟩
    rw [upd_ne (ne_of ec e (fun z => nomatch z))]
    exact ec
end
section
variable {X : Cx} {pins : List (Addr × Obj)} {σ : St} {H : Hp} {s : Shared} {a : Addr} {kvs : List (Key × V)} {k : Key} {u : Value} {A : Around} {E : Value → Shared → Prop}
end
def NoSl (i : Expr) : Prop := ∀ ov iv, subscripted i false ov iv = operate [ov, iv] (getItem ov iv)
theorem subD_of {prog : Program} {w : World} {A : Around} {E : Value → Shared → Prop} {s : Shared} {env : Env} {value slice : Expr} {pos : Pos} {T id : String} {Q : Value → Shared → Prop}
    (hl : typeLookup (.type T) "__getitem__" = pure (some (.builtin id))) (hs : NoSl slice)
    (h : wpAny (model prog w) A (eval value env) (fun o s₁ => wpAny (model prog w) A (eval slice env) (fun i s₂ => s₂.TypeIs o T ∧ wpAny (model prog w) A (getItem o i) Q E s₂) E s₁) E s) :
    wpAny (model prog w) A (eval (.Subscript value slice pos) env) Q E s := by
  refine Subscript_ (wpAny_mono h (fun o s₁ h₁ => wpAny_mono h₁ (fun i s₂ h₂ => ?_) fun _ _ x => x) fun _ _ x => x)
  obtain ⟨hT, h₂⟩ := h₂
  unfold subscriptTail
  refine wpAny_bind ?_
  rw [getitemInPython_of_ne hT.not_modules]
  refine wpAny_bind (wpAny_specialOf hT hl ?_)
  have fin : wpAny (model prog w) A (subscripted slice false o i) (fun r s₃ => wpAny (model prog w) A (letTemporaryGo value o r >>= fun _ => pure r) Q E s₃) E s₂ := by
    rw [hs o i]
    exact wpAny_operating (wpAny_mono h₂ (fun r s₃ h₃ => wpAny_bind (wpAny_letTemporaryGo (wpAny_pure h₃))) fun _ _ x => x)
  first
    | exact wpAny_pure (wpAny_bind fin)
    | exact wpAny_bind (wpAny_pure (wpAny_bind fin))
    | exact wpAny_bind fin
theorem dict_typeIs {X : Cx} {pins : List (Addr × Obj)} {σ : St} {H : Hp} {s : Shared} {a : Addr} {y : V} {o : Option V} (I : Inv X pins σ H s) (g : DGet H a y o) : s.TypeIs (.ref a) "dict" := by
  rcases g with ⟨kvs, k, e, _, _⟩ | ⟨kvs, k, b, e, _, _, _⟩
  · obtain ⟨_, _, vs, _, dd⟩ := dk_rd I.hok e
    exact dd.typeIs
  · obtain ⟨_, _, xs, _, dd⟩ := dt_rd I.hok e
    exact dd.typeIs
def tDGet (td ty : TE) : TE := fun σ H Q => td σ H fun x H1 => ty σ H1 fun y H2 => ∃ a v, x = .ref a ∧ DGet H2 a y (some v) ∧ Q v H2
def tDIn (ty td : TE) : TE := fun σ H Q => ty σ H fun y H1 => td σ H1 fun x H2 => ∃ a o, x = .ref a ∧ DGet H2 a y o ∧ Q (.bl o.isSome) H2
def tDNotIn (ty td : TE) : TE := fun σ H Q => ty σ H fun y H1 => td σ H1 fun x H2 => ∃ a o, x = .ref a ∧ DGet H2 a y o ∧ Q (.bl (!o.isSome)) H2
def sDPut (td ty tv : TE) : TS := fun D σ H => tv σ H fun v H1 => td σ H1 fun x H2 => ty σ H2 fun y H3 => ∃ a H4, x = .ref a ∧ DPut H3 a y v H4 ∧ D.nx σ H4
section
variable {X : Cx} {o i e value : Expr} {pos pos' tpos : Pos} {td ty tv : TE}
theorem pe_dget (hu : X.A.units + 1 < cLine) (ho : PE X o td) (hi : PE X i ty) (hs : NoSl i) : PE X (.Subscript o i pos) (tDGet td ty) := by
  intro pins s σ H Q I h
  refine subD_of PySem.F.slot_dict_getitem.lookup hs (thn (ho pins s σ H _ I h) fun u s1 ⟨x, H1, I1, rx, q1⟩ => thn (hi pins s1 σ H1 _ I1 q1) fun iv s2 ⟨y, H2, I2, ry, a, v, ex, g, q2⟩ => ?_)
  subst ex
  obtain rfl : u = Value.ref a := rx
  exact ⟨dict_typeIs I2 g, d_getItem hu I2 g ry fun w' s3 I3 rw' => ⟨v, H2, I3, rw', q2⟩⟩
theorem pc_dnotin (hu : X.A.units + 1 < cLine) (hi : PE X i ty) (ho : PE X o td) : PC X .NotIn i o (tDNotIn ty td) := by
  intro pins s σ H Q I h
  refine thn (hi pins s σ H _ I h) fun iv s1 ⟨y, H1, I1, ry, q1⟩ => thn (ho pins s1 σ H1 _ I1 q1) fun u s2 ⟨x, H2, I2, rx, a, ov, ex, g, q2⟩ => ?_
  subst ex
  obtain rfl : u = Value.ref a := rx
  exact d_notIn hu I2 g ry fun s3 I3 => ⟨.bl (!ov.isSome), H2, I3, rfl, q2⟩
theorem ps_dput (hu : X.A.units + 1 < cLine) (ho : PE X o td) (hi : PE X i ty) (hv : PE X value tv) (hs : swapsWith value (some (.Subscript o i pos')) pos.line X.env = pure false) :
    PS X (.Assign [.Subscript o i pos'] value pos) (sDPut td ty tv) := by
  intro pins s σ H D I h
  refine wpAny_Assign_Subscript (thn (hv pins s σ H _ I h) fun r s1 ⟨v, H1, I1, rv, q1⟩ => thn (ho pins s1 σ H1 _ I1 q1) fun u s2 ⟨x, H2, I2, rx, q2⟩ => thn (hi pins s2 σ H2 _ I2 q2) fun iv s3 ⟨y, H3, I3, ry, a, H4, ex, g, q3⟩ => ?_) hs
  subst ex
  obtain rfl : u = Value.ref a := rx
  exact d_setItem hu I3 g ry rv fun s4 I4 => ⟨σ, H4, I4, q3⟩
end
theorem dk_empty {P : Program} {w : World} {H : Hp} (h : Heap) (hb : sysModules < h.objs.size) : ObjOk P w H (h.push { cls := .type "dict", data := .dict #[] }) h.objs.size (.dK []) :=
  ⟨Nat.zero_le _, beq_eq_false_iff_ne.mpr (Ne.symm (Nat.ne_of_lt hb)), [], .nil, Heap.DictOf.new h⟩
theorem dt_empty {P : Program} {w : World} {H : Hp} (h : Heap) (hb : sysModules < h.objs.size) : ObjOk P w H (h.push { cls := .type "dict", data := .dict #[] }) h.objs.size (.dT []) :=
  ⟨Nat.zero_le _, beq_eq_false_iff_ne.mpr (Ne.symm (Nat.ne_of_lt hb)), [], .nil, _, #[], 0, Heap.get?_push_size _ rfl, ⟨rfl, rfl, rfl⟩, rfl, rfl, List.nodup_nil⟩
def tDNewK : TE := fun _ H Q => ∀ p, H p = none → Q (.ref p) (upd H p (.dK []))
def tDNewT : TE := fun _ H Q => ∀ p, H p = none → Q (.ref p) (upd H p (.dT []))
section
variable {X : Cx} {pos : Pos}
theorem pe_dnewK : PE X (.Dict [] [] pos) tDNewK := fun pins s σ H Q I h =>
  wpAny_Dict_empty ⟨.ref s.heap.objs.size, _, I.laid (a := s.heap.objs.size) (o := .dK []) (t' := s.toks) (fun _ _ q => Heap.get?_push_of_some _ q) (Nat.le_refl _) (dk_empty s.heap I.big), rfl, h _ (I.hok.fresh (Nat.le_refl _))⟩
theorem pe_dnewT : PE X (.Dict [] [] pos) tDNewT := fun pins s σ H Q I h =>
  wpAny_Dict_empty ⟨.ref s.heap.objs.size, _, I.laid (a := s.heap.objs.size) (o := .dT []) (t' := s.toks) (fun _ _ q => Heap.get?_push_of_some _ q) (Nat.le_refl _) (dt_empty s.heap I.big), rfl, h _ (I.hok.fresh (Nat.le_refl _))⟩
end
structure M2 (X : Cx) (o : Expr) (m : Str) (apos : Pos) (e f : Expr) (cpos : Pos) : Prop where
  base : attributeBase o m X.env (eval o X.env) = eval o X.env
  few : ((backTo cpos (starEach [e, f] X.env)).all (fun x => !x.1) && (backToKw cpos (keywordEach [] X.env)).all (fun x => x.1.isSome)
    && decide (([e, f] : List Expr).length + ([] : List Keyword).length + (if ([] : List Keyword).isEmpty then 0 else 1) < 30)) = true
  line : (apos.endLine == cpos.line) = true
  trees : backTo cpos (starEach [e, f] X.env) = [(false, eval e X.env), (false, eval f X.env)]
section
variable {X : Cx} {pins : List (Addr × Obj)} {σ : St} {H : Hp} {s : Shared} {a : Addr} {y d : V} {u r : Value} {o : Option V} {A : Around} {E : Value → Shared → Prop}
end
section
variable {X : Cx} {o e f : Expr} {apos cpos : Pos} {td ty tx : TE}
end
section
variable {X : Cx} {pins : List (Addr × Obj)} {σ : St} {H : Hp} {s : Shared} {a : Addr} {kvs : List (Key × V)} {A : Around} {E : Value → Shared → Prop}
end
section
variable {X : Cx} {pins : List (Addr × Obj)} {σ : St} {H : Hp} {s : Shared} {a : Addr} {y : V} {u : Value} {A : Around} {E : Value → Shared → Prop}
end
end L2
namespace L2
open PySem PySem.Spec PyProof.Rows
section
variable {X : Cx}
end
section
variable {κ : Type} [DecidableEq κ]
end
end L2
namespace L2
open PySem PySem.Spec PyProof.Rows
def tVarD (i : Nat) : TE := fun σ H Q => match σ[i]? with | some (some v) => Q v H | _ => False
theorem pvD {X : Cx} (i : Nat) {x : Str} {pos : Pos} (hN : X.N[i]? = some x) (hv : Vis X.env.scope x) (hd : (x == ("__debug__" : Str)) = false) (hcd : (x == ("__classdict__" : Str)) = false) : PE X (.Name x pos) (tVarD i) := fun pins s σ H Q I h => pv i hN hv hd hcd pins s σ H Q I (by
  unfold tVarD at h
  split at h
  · exact ⟨_, ‹_›, h⟩
  · exact h.elim)
theorem tVarD_any {i : Nat} {σ : L2.St} {H : Hp} {Q : VK} : tVarD i σ H Q = ∃ v, σ[i]? = some (some v) ∧ Q v H := by
  unfold tVarD
  refine propext ⟨fun h => ?_, fun ⟨v, e, h⟩ => ?_⟩
  · split at h
    · exact ⟨_, ‹_›, h⟩
    · exact h.elim
  · rw [e]
    exact h
theorem cons_same {α : Type} {a : α} {x y : List α} : (a :: x = a :: y) = (x = y) := propext ⟨fun h => (List.cons.inj h).2, fun h => by rw [h]⟩
theorem l1_same {α : Type} {a b : α} : ([a] = [b]) = (a = b) := propext ⟨fun h => (List.cons.inj h).1, fun h => by rw [h]⟩
theorem l2_same {α : Type} {a b c d : α} : ([a, c] = [b, d]) = (a = b ∧ c = d) := propext ⟨fun h => ⟨(List.cons.inj h).1, (List.cons.inj (List.cons.inj h).2).1⟩, fun ⟨h, k⟩ => by rw [h, k]⟩
theorem l3_same {α : Type} {a b c d e f : α} : ([a, c, e] = [b, d, f]) = (a = b ∧ c = d ∧ e = f) := propext ⟨fun h => ⟨(List.cons.inj h).1, (List.cons.inj (List.cons.inj h).2).1, (List.cons.inj (List.cons.inj (List.cons.inj h).2).2).1⟩, fun ⟨h, k, l⟩ => by rw [h, k, l]⟩
theorem int_ex {a : Int} {p : Int → Prop} : (∃ x, V.int a = V.int x ∧ p x) = p a := propext ⟨fun ⟨x, e, h⟩ => by cases e; exact h, fun h => ⟨a, rfl, h⟩⟩
theorem ref_ex {a : Addr} {p : Addr → Prop} : (∃ x, V.ref a = V.ref x ∧ p x) = p a := propext ⟨fun ⟨x, e, h⟩ => by cases e; exact h, fun h => ⟨a, rfl, h⟩⟩
theorem bl_ex {a : Bool} {p : Bool → Prop} : (∃ x, V.bl a = V.bl x ∧ p x) = p a := propext ⟨fun ⟨x, e, h⟩ => by cases e; exact h, fun h => ⟨a, rfl, h⟩⟩
theorem int_ex2 {a b : Int} {p : Int → Int → Prop} : (∃ x y, V.int a = V.int x ∧ V.int b = V.int y ∧ p x y) = p a b := propext ⟨fun ⟨x, y, e, e2, h⟩ => by cases e; cases e2; exact h, fun h => ⟨a, b, rfl, rfl, h⟩⟩
theorem ifY {c : Prop} [Decidable c] {A B : Prop} (hc : c) (h : A) : if c then A else B := by rw [if_pos hc]; exact h
theorem ifN {c : Prop} [Decidable c] {A B : Prop} (hc : ¬ c) (h : B) : if c then A else B := by rw [if_neg hc]; exact h
theorem us1 {P : List Value → Prop} {us : List Value} (hl : us.length = 1) (h : ∀ a, P [a]) : P us := by
  match us, hl with
  | [a], _ => exact h a
theorem us2 {P : List Value → Prop} {us : List Value} (hl : us.length = 2) (h : ∀ a b, P [a, b]) : P us := by
  match us, hl with
  | [a, b], _ => exact h a b
theorem us3 {P : List Value → Prop} {us : List Value} (hl : us.length = 3) (h : ∀ a b c, P [a, b, c]) : P us := by
  match us, hl with
  | [a, b, c], _ => exact h a b c
theorem us5 {P : List Value → Prop} {us : List Value} (hl : us.length = 5) (h : ∀ a b c d e, P [a, b, c, d, e]) : P us := by
  match us, hl with
  | [a, b, c, d, e], _ => exact h a b c d e
end L2
namespace L2
open PySem PySem.Spec PyProof.Rows
theorem lookup_mem {α : Type} {x : Str} {c : α} : ∀ {l : List (Str × α)}, l.lookup x = some c → (x, c) ∈ l
  | [], h => by cases h
  | (y, d) :: r, h => by
    rw [List.lookup_cons] at h
    cases e : x == y with
    | true =>
      rw [e] at h
      have e' : x = y := eq_of_beq e
      cases h
      subst e'
      exact List.mem_cons_self
    | false =>
      rw [e] at h
      exact List.mem_cons_of_mem _ (lookup_mem h)
def frOf (ix : List Nat) (σ : St) : St := ix.map fun j => (σ[j]?).getD none
def SubP (cs : List (Str × Addr)) : List (Str × Addr) → Prop
  | [] => True
  | p :: r => cs.lookup p.1 = some p.2 ∧ SubP cs r
theorem SubP.of {cs : List (Str × Addr)} : ∀ {cl : List (Str × Addr)}, SubP cs cl → ∀ p ∈ cl, cs.lookup p.1 = some p.2
  | [], _, _, h => by cases h
  | p :: r, ⟨h1, h2⟩, q, hq => by
    rcases List.mem_cons.mp hq with e | e
    · rw [e]; exact h1
    · exact SubP.of h2 q e
def OutP (X : Cx) (scope : Scope) : List Str → List Nat → Prop
  | [], [] => True
  | x :: fr, j :: ix => (X.N[j]? = some x ∧ X.env.kindOf x = some .cell ∧ (relabel scope X.env).names.lookup x = some .cell) ∧ OutP X scope fr ix
  | _, _ => False
theorem OutP.len {X : Cx} {scope : Scope} : ∀ {fr : List Str} {ix : List Nat}, OutP X scope fr ix → fr.length = ix.length
  | [], [], _ => rfl
  | x :: fr, j :: ix, h => by rw [List.length_cons, List.length_cons, OutP.len h.2]
  | [], _ :: _, h => h.elim
  | _ :: _, [], h => h.elim
theorem OutP.get {X : Cx} {scope : Scope} : ∀ {fr : List Str} {ix : List Nat}, OutP X scope fr ix → ∀ (k j : Nat), ix[k]? = some j → ∃ x, fr[k]? = some x ∧ X.N[j]? = some x ∧ X.env.kindOf x = some .cell ∧ (relabel scope X.env).names.lookup x = some .cell
  | [], [], _, k, j, e => by simp at e
  | x :: fr, i :: ix, h, 0, j, e => by
    have e' : i = j := by simpa using e
    subst e'
    exact ⟨x, rfl, h.1⟩
  | x :: fr, i :: ix, h, k + 1, j, e => by
    obtain ⟨y, hy, r⟩ := OutP.get h.2 k j (by simpa using e)
    exact ⟨y, by simpa using hy, r⟩
  | [], _ :: _, h, _, _, _ => h.elim
  | _ :: _, [], h, _, _, _ => h.elim
structure ClOk (X : Cx) (scope : Scope) (own fr : List Str) (ix : List Nat) (cl : List (Str × Addr)) : Prop where
  clos : closureFor scope X.env = pure cl
  kind : scope.kind = .function
  nocell : (scope.names.all fun y => decide (y.2 ≠ .cell)) = true
  names : (scope.names.all fun y => decide (y.2 ≠ .local) || decide (scope.names.lookup y.1 = some .local)) = true
  sub : SubP X.env.cells cl
  has : ((relabel scope X.env).names.all fun y => !(decide (y.2 = .cell) || decide (y.2 = .free)) || (cl.lookup y.1).isSome) = true
  out' : OutP X scope fr ix
section
variable {X : Cx} {scope : Scope} {own fr : List Str} {ix : List Nat} {cl : List (Str × Addr)}
theorem ClOk.len (C : ClOk X scope own fr ix cl) : fr.length = ix.length := C.out'.len
theorem ClOk.out (C : ClOk X scope own fr ix cl) : ∀ (k j : Nat), ix[k]? = some j → ∃ x, fr[k]? = some x ∧ X.N[j]? = some x ∧ Vis X.env.scope x ∧ X.env.kindOf x ≠ some .local ∧ (relabel scope X.env).names.lookup x ≠ some .local := fun k j e => by
  obtain ⟨x, h1, h2, h3, h4⟩ := C.out'.get k j e
  exact ⟨x, h1, h2, .inr (.inl h3), (by rw [h3]; intro z; cases z), (by rw [h4]; intro z; cases z)⟩
theorem ClOk.nocell' (C : ClOk X scope own fr ix cl) : ∀ x ∈ scope.names, x.2 ≠ .cell := fun x hx => of_decide_eq_true (List.all_eq_true.mp C.nocell x hx)
theorem ClOk.names' (C : ClOk X scope own fr ix cl) : ∀ x ∈ scope.names, x.2 = .local → scope.names.lookup x.1 = some .local := fun x hx e => by
  have h := List.all_eq_true.mp C.names x hx
  rw [Bool.or_eq_true] at h
  rcases h with h | h
  · exact absurd e (of_decide_eq_true h)
  · exact of_decide_eq_true h
theorem ClOk.sub' (C : ClOk X scope own fr ix cl) : ∀ x c, cl.lookup x = some c → X.env.cells.lookup x = some c := fun x c h => C.sub.of _ (lookup_mem h)
theorem ClOk.has' (C : ClOk X scope own fr ix cl) : ∀ x, ((relabel scope X.env).names.lookup x = some .cell ∨ (relabel scope X.env).names.lookup x = some .free) → ∃ c, cl.lookup x = some c := fun x hx => by
  have key : ∀ k, (relabel scope X.env).names.lookup x = some k → (k = .cell ∨ k = .free) → ∃ c, cl.lookup x = some c := fun k e hk => by
    have h := List.all_eq_true.mp C.has (x, k) (lookup_mem e)
    rw [Bool.or_eq_true] at h
    rcases h with h | h
    · rcases hk with rfl | rfl
      · simp at h
      · simp at h
    · exact Option.isSome_iff_exists.mp h
  rcases hx with h | h
  · exact key _ h (.inl rfl)
  · exact key _ h (.inr rfl)
end
def cxC (X : Cx) (scope : Scope) (cl : List (Str × Addr)) (ns : List Str) (fp : List Addr) (s : Shared) (H : Hp) : Cx where
  prog := X.prog
  w := X.w
  K := X.K
  mg := X.mg
  base := X.base
  A := X.A
  N := ns
  s₀ := s
  H₀ := H
  env := compEnvC scope cl s.heap.objs.size X.env
  outer := X.stack
  stack := X.stack
  ex := fp
  fn := fun _ => false
  calm := X.calm
  pn := []
  xe := fun _ _ => False
section
variable {X : Cx} {scope : Scope} {own fr : List Str} {ix : List Nat} {cl : List (Str × Addr)} {pins : List (Addr × Obj)} {σ : St} {H : Hp} {s : Shared} {fp : List Addr}
theorem cxC_ok (C : ClOk X scope own fr ix cl) (I : Inv X pins σ H s) (f : ∀ b ∈ fp, FpOk X pins H b) (lt : ∀ b ∈ fp, b < s.heap.objs.size) : (cxC X scope cl (own ++ fr) fp s H).Ok where
  mod := I.ok.mod
  kind := C.kind
  glob := I.ok.glob
  blt := I.ok.blt
  above := Nat.le_refl _
  inj := fun x y c h1 h2 => I.ok.inj x y c (C.sub' x c h1) (C.sub' y c h2)
  has := fun x hx => C.has' x hx
  cab := fun x c h _ => Bool.noConfusion h
  hd := I.ok.hd
  frames := I.ok.frames
  stk := .inl rfl
  exf := fun b hb => ⟨Nat.ne_of_lt (lt b hb), fun x c e => (f b hb).2.2.2.2.1 x c (C.sub' x c e)⟩
  bs := fun b o e => I.bs b o e
  bsz := Nat.le_trans I.ok.bsz I.sz
  noex := fun b o e hb => by
    rcases (f b hb).2.2.2.1 with z | z
    · exact I.ok.noex b o e z
    · exact absurd (Nat.lt_of_lt_of_le (Heap.lt_size e) (Nat.le_trans I.ok.bsz z)) (Nat.lt_irrefl _)
  exfs := fun b hb z => by
    rcases List.mem_cons.mp (I.stkSub b z) with q | q
    · exact (f b hb).2.1 q
    · exact (f b hb).2.2.1 q
  funs := I.stack
  frf := I.stkFree
theorem inv_comp (C : ClOk X scope own fr ix cl) (I : Inv X pins σ H s) (f : ∀ b ∈ fp, FpOk X pins H b) (lt : ∀ b ∈ fp, b < s.heap.objs.size) {h₁ : Heap} {t : Nat} {m : Str → Option Value}
    (hns : h₁.Ns s.heap.objs.size m) (k : ∀ b o, s.heap.get? b = some o → h₁.get? b = some o) :
    Inv (cxC X scope cl (own ++ fr) fp s H) [] (List.replicate own.length none ++ frOf ix σ) H { s with heap := h₁, toks := t } where
  ok := cxC_ok C I f lt
  os := rfl
  bare := I.bare
  base := Un.kept k
  loc := ⟨m, hns, fun i x v e1 e2 e3 => by
    have e1 : (own ++ fr)[i]? = some x := e1
    by_cases hi : i < own.length
    · rw [List.getElem?_append_left (by simpa using hi), List.getElem?_replicate] at e2
      rw [if_pos hi] at e2
      cases e2
    · have hi' : own.length ≤ i := Nat.le_of_not_lt hi
      rw [List.getElem?_append_right (by simpa using hi')] at e2
      rw [List.getElem?_append_right hi'] at e1
      rw [List.length_replicate] at e2
      unfold frOf at e2
      rw [List.getElem?_map] at e2
      cases q : ix[i - own.length]? with
      | none => rw [q] at e2; cases e2
      | some j =>
        rw [q] at e2
        have e2' : (σ[j]?).getD none = some v := Option.some.inj e2
        obtain ⟨x', hx', hN, hv, hk, hl'⟩ := C.out _ j q
        rw [e1] at hx'
        cases hx'
        have e4 : σ[j]? = some (some v) := by
          cases z : σ[j]? with
          | none => rw [z] at e2'; cases e2'
          | some w => rw [z] at e2'; exact congrArg some e2'
        obtain ⟨mX, hnX, hl⟩ := I.loc
        obtain ⟨u, r, l⟩ := hl j x v hN e4 hv
        rcases l with ⟨kl, _⟩ | ⟨kk, c, ec, z⟩
        · exact absurd kl hk
        · have kY : (relabel scope X.env).names.lookup x = some .cell ∨ (relabel scope X.env).names.lookup x = some .free := by
            rcases e3 with e3 | e3 | e3
            · exact absurd e3 hl'
            · exact .inl e3
            · exact .inr e3
          obtain ⟨c', hc'⟩ := C.has' x kY
          have hcc := C.sub' x c' hc'
          rw [ec] at hcc
          cases hcc
          obtain ⟨o, ho, hd⟩ := z
          exact ⟨u, r, .inr ⟨kY, c, hc', ⟨o, k c o ho, hd⟩⟩⟩⟩
  cell := fun x c e => by
    obtain ⟨v, o, ho, hd⟩ := I.cell x c (C.sub' x c e)
    exact ⟨v, o, k c o ho, hd⟩
  free := I.hok.fresh (Nat.le_refl _)
  freeC := fun x c e => I.freeC x c (C.sub' x c e)
  pin := fun p hp => by cases hp
  hok := I.hok.kept k
  len := by
    show (List.replicate own.length none ++ frOf ix σ).length = (own ++ fr).length
    rw [List.length_append, List.length_append, List.length_replicate, C.len]
    unfold frOf
    rw [List.length_map]
theorem inv_back (I : Inv X pins σ H s) (f : ∀ b ∈ fp, FpOk X pins H b) {ns : List Str} {τ : St} {H' : Hp} {s' : Shared} {pins' : List (Addr × Obj)} (J : Inv (cxC X scope cl ns fp s H) pins' τ H' s') : Inv X pins σ H' s' :=
  I.call' (ch := fp) J.os J.base J.hok J.bare fun b hb => ⟨(f b hb).2.2.2.1, (f b hb).2.1, (f b hb).2.2.2.2.1, (f b hb).2.2.2.2.2⟩
theorem inv_gone {σ' : St} (I : Inv X pins σ H s) {H' : Hp} {s' : Shared} {h' : Heap} (J : Inv X pins σ' H' s') (free : H' s.heap.objs.size = none) (sb : Heap.SameBut s.heap.objs.size s'.heap h') : Inv X pins σ' H' { s' with heap := h' } :=
  J.turned (it := s.heap.objs.size) (t' := s'.toks) (fun b o hb e => (sb.2 b hb).trans e) free (Nat.ne_of_gt I.lt) (.inr I.sz)
    (fun x c e z => by
      obtain ⟨v, q⟩ := I.cell x c e
      exact absurd (z ▸ q.lt) (Nat.lt_irrefl _))
    (fun p hp z => absurd (z ▸ Heap.lt_size (I.pin p hp).1) (Nat.lt_irrefl _))
end
section
variable {prog : Program} {w : World} {A : Around} {R : Result → Shared → Prop} {s : Shared}
theorem compLoop_any {elt target iter : Expr} {ifs : List Expr} {scope : Scope} {pos : Pos} {it acc : Value} {env : Env} (I : Nat → Shared → Prop)
    (turn : ∀ n s, I n s → wpAny (model prog w) A (pyNext it) (fun r s₁ => match r with
      | none => R (.ok .next) s₁
      | some v => wpAny (model prog w) A (letOwnedTupleGo target it v) (fun _ s₁' => wpAny (model prog w) A (assign target env v) (fun _ s₂ =>
          wpAny (model prog w) A (forIn ifs true fun c r => if r = true then do let ok ← isTrue c env (eval c env); pure (ForInStep.yield ok) else pure (ForInStep.yield r)) (fun ok s₃ =>
            if ok = true then wpAny (model prog w) A (eval elt env) (fun x s₄ =>
              wpAny (model prog w) A (call (.builtin "list.append") [acc, x]) (fun _ s₅ => ∃ m, m < n ∧ I m s₅) (notedBy (model prog w) A env fun e s' => R (.error e) s') s₄) (notedBy (model prog w) A env fun e s' => R (.error e) s') s₃
            else ∃ m, m < n ∧ I m s₃) (notedBy (model prog w) A env fun e s' => R (.error e) s') s₂) (notedBy (model prog w) A env fun e s' => R (.error e) s') s₁') (notedBy (model prog w) A env fun e s' => R (.error e) s') s₁)
        (notedBy (model prog w) A env fun e s' => R (.error e) s') s)
    (n : Nat) (h : I n s) :
    codeAny (model prog w) A (.compLoop (.ListComp elt [⟨target, iter, ifs, 0⟩] scope pos) 0 it acc env) R s := by
  refine codeAny_loop rfl I (fun n s hI => ?_) n h
  show wpAny _ A ((compTurn (.ListComp elt [⟨target, iter, ifs, 0⟩] scope pos) 0 it acc env).onRaise (fun x => do noteFrame x env; theTreesLotGoes x)) _ _ s
  refine wpAny_noted ?_
  rw [compTurn_list]
  refine wpAny_bind (wpAny_standAt (wpAny_bind (wpAny_mono (turn n s hI) (fun r s₁ h₁ => ?_) fun _ _ h' => h')))
  cases r with
  | none => exact wpAny_pure h₁
  | some v =>
    refine wpAny_bind (wpAny_mono h₁ (fun _ s₁' h₁' => ?_) fun _ _ h' => h')
    refine wpAny_bind (wpAny_mono h₁' (fun _ s₂ h₂ => wpAny_bind (wpAny_mono h₂ (fun ok s₃ h₃ => ?_) fun _ _ h' => h')) fun _ _ h' => h')
    cases ok with
    | false => exact wpAny_pure ⟨rfl, h₃⟩
    | true =>
      exact wpAny_bind (wpAny_bind (wpAny_mono h₃ (fun x s₄ h₄ => wpAny_bind (wpAny_mono h₄ (fun _ s₅ h₅ => wpAny_pure (wpAny_pure ⟨rfl, h₅⟩)) fun _ _ h' => h')) fun _ _ h' => h'))
end
def PIfs (X : Cx) (ifs : List Expr) (t : TT) : Prop :=
  ∀ (pins : List (Addr × Obj)) (s : Shared) (σ : St) (H : Hp) (Q : Bool → Hp → Prop), Inv X pins σ H s → t σ H Q →
    wpAny (model X.prog X.w) X.A (forIn ifs true fun c r => if r = true then do let ok ← isTrue c X.env (eval c X.env); pure (ForInStep.yield ok) else pure (ForInStep.yield r)) (TP X pins σ Q) X.xe s
def tNoIf : TT := fun _ H Q => Q true H
theorem pif0 {X : Cx} : PIfs X [] tNoIf := fun pins s σ H Q I h => wpAny_tests_nil ⟨H, I, h⟩
theorem pif1 {X : Cx} {c : Expr} {t : TT} (h : PT X c t) : PIfs X [c] t := fun pins s σ H Q I q => wpAny_tests_one (h pins s σ H Q I q)
def LC (n : Nat) (fr : St) (g : TG) (tc : TT) (te : TE) (J : It) (D : Addr) (H1 : Hp) (Q : Hp → Prop) : Prop :=
  ∃ W : Nat → Nat → Hp → Prop, (∃ m, W 0 m (upd H1 D (.lst []))) ∧ ∀ i m H, W i m H →
    (J.stop i H ∧ Q H) ∨ (J.go i H ∧ ∀ (τ : St) x H', τ.length = n → J.yld i H x H' → g x (τ ++ fr) H' fun σ2 H2 => (∃ τ' : St, τ'.length = n ∧ σ2 = τ' ++ fr) ∧ tc σ2 H2 fun b H3 =>
      if b = true then te σ2 H3 fun y H4 => ∃ ys, H4 D = some (.lst ys) ∧ ys.length < sizeLine ∧ ∃ m', m' < m ∧ W (i + 1) m' (upd H4 D (.lst (ys ++ [y]))) else ∃ m', m' < m ∧ W (i + 1) m' H3)
def tLC (n : Nat) (ix : List Nat) (wi : TI) (g : TG) (tc : TT) (te : TE) : TE := fun σ H Q => wi σ H fun J H1 => ∀ D, H1 D = none → LC n (frOf ix σ) g tc te J D H1 fun H' => Q (.ref D) H'
section
variable {X : Cx} {scope : Scope} {own fr : List Str} {ix : List Nat} {cl : List (Str × Addr)} {elt iter tg : Expr} {ifs : List Expr} {pos : Pos} {wi : TI} {g : TG} {tc : TT} {te : TE}
theorem comp_block {E : Value → Shared → Prop} {RR : Value → Addr → Result → Shared → Prop} (C : ClOk X scope own fr ix cl) (hc : X.calm = true)
    (hg : ∀ fp s H, PG (cxC X scope cl (own ++ fr) fp s H) tg g) (ht : ∀ fp s H, PIfs (cxC X scope cl (own ++ fr) fp s H) ifs tc) (he : ∀ fp s H, PE (cxC X scope cl (own ++ fr) fp s H) elt te)
    {pins : List (Addr × Obj)} {σ : St} {H2 : Hp} {s2 : Shared} {it : Addr} {fp : List Addr} {tn : Nat → Heap → Prop} {J : It} {Q : Hp → Prop} (I2 : Inv X pins σ H2 s2) (T : Turn X.prog X.w X.K tg J fp it tn) (st2 : tn 0 s2.heap) (f2 : ∀ b ∈ fp, FpOk X pins H2 b)
    (q : LC own.length (frOf ix σ) g tc te J s2.heap.objs.size H2 Q)
    (hRR : ∀ (s3 s' : Shared) (H3 H' : Hp) (τ : St), Inv X pins σ H3 s3 → Inv X pins σ H' s' → H' s3.heap.objs.size = none → (∃ m, s'.heap.Ns s3.heap.objs.size m) → Q H' → RR (.ref s2.heap.objs.size) s3.heap.objs.size (.ok .next) s') :
    wpAny (model X.prog X.w) X.A (newList []) (fun acc s₃ => wpAny (model X.prog X.w) X.A (newFunctionEnv scope X.env.globals cl [] X.env.qual none .none (some X.env)) (fun cenv s₄ =>
      codeAny (model X.prog X.w) X.A (.compStart (.ListComp elt [⟨tg, iter, ifs, 0⟩] scope pos) 0 (.ref it) acc { cenv with scope := relabel scope X.env }) (RR acc cenv.locals) s₄) E s₃) E s2 := by
  refine wpAny_newObj_type ?_
  have I3 : Inv X pins σ (upd H2 s2.heap.objs.size (.lst [])) { s2 with heap := s2.heap.push { cls := .type "list", dict := none, data := .seq ([] : List Value).toArray } } := I2.lnew (t' := s2.toks) (its := []) .nil (Nat.zero_le _)
  have lt2 : ∀ b ∈ fp, b < s2.heap.objs.size := fun b hb => by
    obtain ⟨o, e, _⟩ := T.obj 0 _ st2 b hb
    exact Heap.lt_size e
  have fneD : ∀ b ∈ fp, b ≠ s2.heap.objs.size := fun b hb => Nat.ne_of_lt (lt2 b hb)
  generalize hs3 : ({ s2 with heap := s2.heap.push { cls := .type "list", dict := none, data := .seq ([] : List Value).toArray } } : Shared) = s3 at I3 ⊢
  have hsz : s3.heap.objs.size = s2.heap.objs.size + 1 := by rw [← hs3]; exact Heap.size_push ..
  have kp23 : ∀ b o, s2.heap.get? b = some o → s3.heap.get? b = some o := fun b o e => by rw [← hs3]; exact Heap.get?_push_of_some _ e
  have f3 : ∀ b ∈ fp, FpOk X pins (upd H2 s2.heap.objs.size (.lst [])) b := fun b hb => by
    obtain ⟨f0, fr⟩ := f2 b hb
    exact ⟨by rw [upd_ne (fneD b hb)]; exact f0, fr⟩
  have lt3 : ∀ b ∈ fp, b < s3.heap.objs.size := fun b hb => by rw [hsz]; exact Nat.lt_succ_of_lt (lt2 b hb)
  refine wpAny_newFunctionEnv C.nocell' (by intro y hy; simp at hy) (fun h₁ hns₁ hsb₁ => ?_) C.kind
  have k34 : ∀ b o, s3.heap.get? b = some o → h₁.get? b = some o := fun b o e =>
    (hsb₁.2 b (Nat.ne_of_lt (Heap.lt_size e))).trans (Heap.get?_push_of_some _ e)
  have I4 := inv_comp C I3 f3 lt3 (t := s3.toks + ([] : List (Str × Value)).length) hns₁ k34
  have st4 : tn 0 h₁ := T.keep 0 _ _ st2 fun b _ o e => k34 b o (kp23 b o e)
  obtain ⟨W, ⟨m0, w0⟩, turn⟩ := q
  have loop : ∀ s4 : Shared, s4 = { s3 with heap := h₁, toks := s3.toks + ([] : List (Str × Value)).length } →
      codeAny (model X.prog X.w) X.A (.compLoop (.ListComp elt [⟨tg, iter, ifs, 0⟩] scope pos) 0 (.ref it) (.ref s2.heap.objs.size) (compEnvC scope cl s3.heap.objs.size X.env)) (RR (.ref s2.heap.objs.size) s3.heap.objs.size) s4 := by
    rintro s4 rfl
    have stat : ∀ {H' : Hp}, (∀ b ∈ fp, H' b = none) → ∀ b ∈ fp, FpOk (cxC X scope cl (own ++ fr) fp s3 (upd H2 s2.heap.objs.size (.lst []))) [] H' b := fun {H'} hn b hb =>
      ⟨hn b hb, Nat.ne_of_lt (lt3 b hb), I4.ok.exfs b hb, .inl hb, (I4.ok.exf b hb).2, fun p hp => by cases hp⟩
    refine compLoop_any (fun n s' => ∃ i τ H', τ.length = own.length ∧ Inv (cxC X scope cl (own ++ fr) fp s3 (upd H2 s2.heap.objs.size (.lst []))) [] (τ ++ frOf ix σ) H' s' ∧ tn i s'.heap ∧ (∀ b ∈ fp, H' b = none) ∧ W i n H') ?_ m0
      ⟨0, List.replicate own.length none, _, List.length_replicate, I4, st4, fun b hb => (f3 b hb).1, w0⟩
    rintro n s5 ⟨i, τ, H5, hτ, I5, st5, fr5, w5⟩
    rcases turn i n H5 w5 with ⟨stop, qn⟩ | ⟨go, step⟩
    · refine wpAny_mono (T.done (cxC X scope cl (own ++ fr) fp s3 (upd H2 s2.heap.objs.size (.lst []))) rfl rfl rfl hc i [] s5 _ H5 (fun _ _ => False) I5 (stat fr5) st5 stop) (fun r s6 ⟨hr, I6⟩ => ?_) fun _ _ z => z.elim
      subst hr
      obtain ⟨mm, hmm, _⟩ := I6.loc
      exact hRR s3 s6 _ H5 τ I3 (inv_back I3 f3 I6) I6.free ⟨mm, hmm⟩ qn
    · refine wpAny_mono (T.item (cxC X scope cl (own ++ fr) fp s3 (upd H2 s2.heap.objs.size (.lst []))) rfl rfl rfl hc i [] s5 _ H5 (fun _ _ => False) I5 (stat fr5) st5 go) (fun r s6 ⟨u, hr, h6⟩ => ?_) fun _ _ z => z.elim
      subst hr
      refine wpAny_mono h6 (fun _ s7 ⟨x, H7, I7, r7, y7, st7, fr7⟩ => ?_) fun _ _ z => z.elim
      have I7' := I7.pinned (stat fr7) (T.obj _ _ st7)
      refine wpAny_mono (hg fp s3 _ _ s7 _ H7 x u _ I7' r7 (step τ x H7 hτ y7)) (fun _ s8 ⟨σ8, H8, I8, ⟨τ', hτ', e8⟩, q8⟩ => ?_) fun _ _ z => z.elim
      have fin : ∀ {H9 : Hp} {s9 : Shared}, Inv (cxC X scope cl (own ++ fr) fp s3 (upd H2 s2.heap.objs.size (.lst []))) ([] ++ pinsAt fp s7.heap) σ8 H9 s9 → (∃ m', m' < n ∧ W (i + 1) m' H9) →
          ∃ m, m < n ∧ ∃ i τ H', τ.length = own.length ∧ Inv (cxC X scope cl (own ++ fr) fp s3 (upd H2 s2.heap.objs.size (.lst []))) [] (τ ++ frOf ix σ) H' s9 ∧ tn i s9.heap ∧ (∀ b ∈ fp, H' b = none) ∧ W i m H' := fun {H9 s9} I9 hw => by
        obtain ⟨m', hm, w9⟩ := hw
        refine ⟨m', hm, i + 1, τ', H9, hτ', e8 ▸ I9.unpinned, T.keep _ _ _ st7 fun b hb o e => (I9.pin (b, o) (List.mem_append_right _ (List.mem_append_right _ (mem_pinsAt hb e)))).1, fun b hb => ?_, w9⟩
        obtain ⟨o, e, d⟩ := T.obj _ _ st7 b hb
        exact (I9.pin (b, o) (List.mem_append_right _ (List.mem_append_right _ (mem_pinsAt hb e)))).2.1
      refine wpAny_mono (ht fp s3 _ _ s8 σ8 H8 _ I8 q8) (fun ok s9 ⟨H9, I9, q9⟩ => ?_) fun _ _ z => z.elim
      cases ok with
      | false => exact fin I9 q9
      | true =>
        refine wpAny_mono (he fp s3 _ _ s9 σ8 H9 _ I9 q9) (fun y s10 ⟨v10, H10, I10, r10, ys, hD, hz, q10⟩ => ?_) fun _ _ z => z.elim
        refine wpAny_mono (mt_append (X := cxC X scope cl (own ++ fr) fp s3 (upd H2 s2.heap.objs.size (.lst []))) _ s10 σ8 H10 (.ref s2.heap.objs.size) [v10] _ [y] (fun _ H' => ∃ m', m' < n ∧ W (i + 1) m' H') I10 rfl (.cons r10 .nil) ⟨_, ys, v10, rfl, rfl, hD, hz, q10⟩) (fun _ s11 ⟨_, H11, I11, _, q11⟩ => ?_) fun _ _ z => z.elim
        exact fin I11 q11
  exact codeAny_compStart_list (loop _ rfl) (T.self _ 0 _ _ _ st4 (loop _ rfl))
theorem pe_lc (C : ClOk X scope own fr ix cl) (hc : X.calm = true) (hi : PI X tg iter wi) (hg : ∀ fp s H, PG (cxC X scope cl (own ++ fr) fp s H) tg g)
    (ht : ∀ fp s H, PIfs (cxC X scope cl (own ++ fr) fp s H) ifs tc) (he : ∀ fp s H, PE (cxC X scope cl (own ++ fr) fp s H) elt te)
    (hs : ∀ x, foldedSetIterable iter X.env x = pure x := by intro _; rfl) : PE X (.ListComp elt [⟨tg, iter, ifs, 0⟩] scope pos) (tLC own.length ix wi g tc te) := by
  intro pins s σ H Q I h
  rw [eval_ListComp]
  refine wpAny_comprehension_free (use := none) rfl hs C.clos C.kind C.names' (thn (hi pins s σ H _ I h) fun v s1 h1 => thn h1 fun itv s2 h2 => ?_)
  obtain ⟨it, fp, tn, J, H2, e, I2, T, st2, f2, q⟩ := h2
  subst e
  refine comp_block (RR := fun acc D => compPost (model X.prog X.w) X.A X.xe none (EP X pins σ Q) acc D) C hc hg ht he I2 T st2 f2 (q _ (I2.hok.fresh (Nat.le_refl _))) fun s3 s' H3 H' τ I3 I' hn hm q' => ?_
  obtain ⟨m, hm⟩ := hm
  exact ⟨m, hm, fun h' sb => ⟨.ref s2.heap.objs.size, H', inv_gone I3 I' hn sb, rfl, q'⟩⟩
def tSetLC (i n : Nat) (ix : List Nat) (wi : TI) (g : TG) (tc : TT) (te : TE) : TS := fun D σ H => wi σ H fun J H1 => ∀ l, H1 l = none → LC n (frOf ix σ) g tc te J l H1 fun H' => D.nx (σ.set i (some (.ref l))) H'
theorem ps_setlc {i : Nat} {x : Str} {px spos : Pos} (hN : X.N.Nodup) (hx : X.N[i]? = some x) (hl : Loc X.env.scope x) (C : ClOk X scope own fr ix cl) (hc : X.calm = true) (hi : PI X tg iter wi)
    (hg : ∀ fp s H, PG (cxC X scope cl (own ++ fr) fp s H) tg g) (ht : ∀ fp s H, PIfs (cxC X scope cl (own ++ fr) fp s H) ifs tc) (he : ∀ fp s H, PE (cxC X scope cl (own ++ fr) fp s H) elt te)
    (hsw : swapsWith (.ListComp elt [⟨tg, iter, ifs, 0⟩] scope pos) (some (.Name x px)) spos.line X.env = pure true := by rfl)
    (hs : ∀ x, foldedSetIterable iter X.env x = pure x := by intro _; rfl) (hf : X.fn x = true ∨ X.env.scope.names.lookup x = some .local := by first | exact .inl rfl | exact .inr rfl | assumption) :
    PS X (.Assign [.Name x px] (.ListComp elt [⟨tg, iter, ifs, 0⟩] scope pos) spos) (tSetLC i own.length ix wi g tc te) := by
  intro pins s σ H D I h
  rw [exec_Assign_Name_used _ _ _ _ hsw]
  refine wpAny_bind (wpAny_standAt (wpAny_bind ?_))
  show wpAny _ X.A (do let _ ← comprehension (.ListComp elt [⟨tg, iter, ifs, 0⟩] scope pos) scope X.env _ (newList []) false (eval iter X.env) (some (assign (.Name x px) X.env))) _ _ s
  refine wpAny_bind (wpAny_mono (wpAny_comprehension_free (use := some (assign (.Name x px) X.env)) (Q := fun _ s' => SP X pins D .next s') rfl hs C.clos C.kind C.names'
    (thn (hi pins s σ H _ I h) fun v s1 h1 => thn h1 fun itv s2 h2 => ?_)) (fun _ s' hq => wpAny_pure (wpAny_pure hq)) fun _ _ e => e)
  obtain ⟨it, fp, tn, J, H2, e, I2, T, st2, f2, q⟩ := h2
  subst e
  refine comp_block (RR := fun acc C => compPost (model X.prog X.w) X.A X.xe (some (assign (.Name x px) X.env)) (fun _ s' => SP X pins D .next s') acc C) C hc hg ht he I2 T st2 f2 (q _ (I2.hok.fresh (Nat.le_refl _))) fun s3 s' H3 H' τ I3 I' hn hm q' => ?_
  obtain ⟨m, hm⟩ := hm
  show wpAny _ X.A (assign (.Name x px) X.env (.ref s2.heap.objs.size)) _ _ _
  refine wpAny_assign_Name (store_ok2 I' hN hx hl (v := .ref s2.heap.objs.size) rfl (fun s'' I'' hsb => ?_) hf)
  obtain ⟨a, sba, ha⟩ := hsb
  have hne : s3.heap.objs.size ≠ a := by
    rcases ha with rfl | ha
    · exact Nat.ne_of_gt I3.lt
    · obtain ⟨v, qv⟩ := I3.cell x a ha
      exact Nat.ne_of_gt qv.lt
  exact ⟨m, hm.sameBut sba hne, fun h' sb => ⟨_, H', inv_gone I3 I'' hn sb, q'⟩⟩
end
end L2
namespace L2
open PySem PySem.Spec PyProof.Rows
def Its (z : Str) : It := ⟨fun i _ => i < z.cps.size, fun i H x H' => H' = H ∧ ∃ c, z.cps[i]? = some c ∧ x = .str ⟨#[c]⟩, fun i _ => i = z.cps.size⟩
def iStr (tl : TE) : TI := fun σ H R => tl σ H fun x H1 => ∃ z, x = .str z ∧ R (Its z) H1
section
variable {X : Cx} {tg : Expr}
end
section
variable {X : Cx}
end
def cutS (z : Str) (lo hi : Option Int) : Str := ⟨((z.cps.toList.drop (HT.sIx z.length 0 lo)).take (HT.sIx z.length z.length hi - HT.sIx z.length 0 lo)).toArray⟩
theorem cutS_le (z : Str) (lo hi : Option Int) : (cutS z lo hi).length ≤ z.length := by
  show ((z.cps.toList.drop _).take _).toArray.size ≤ z.cps.size
  rw [List.size_toArray, List.length_take, List.length_drop, Array.length_toList]
  omega
theorem clip_lo (n : Nat) (lo : Option Int) : (match lo with | none => (0 : Int) | some i => max 0 (min (if i < 0 then i + (n : Int) else i) n)) = ((HT.sIx n 0 lo : Nat) : Int) := by
  cases lo with
  | none => rfl
  | some i =>
    show max 0 (min (if i < 0 then i + (n : Int) else i) n) = ((HT.sIx n 0 (some i) : Nat) : Int)
    unfold HT.sIx
    by_cases h : i < 0
    · simp only [h, if_true] <;> omega
    · simp only [h, if_false] <;> omega
theorem clip_hi (n : Nat) (hi : Option Int) : (match hi with | none => (n : Int) | some i => max 0 (min (if i < 0 then i + (n : Int) else i) n)) = ((HT.sIx n n hi : Nat) : Int) := by
  cases hi with
  | none => rfl
  | some i =>
    show max 0 (min (if i < 0 then i + (n : Int) else i) n) = ((HT.sIx n n (some i) : Nat) : Int)
    unfold HT.sIx
    by_cases h : i < 0
    · simp only [h, if_true] <;> omega
    · simp only [h, if_false] <;> omega
theorem strSlice_run (lo hi : Option Int) (n : Nat) : Builtin.Str.strSliceIndices lo hi 1 n = (List.range (HT.sIx n n hi - HT.sIx n 0 lo)).map (HT.sIx n 0 lo + ·) := by
  have e : Builtin.Str.strSliceIndices lo hi 1 n = sliceRange (match lo with | none => (0 : Int) | some i => max 0 (min (if i < 0 then i + (n : Int) else i) n)) (match hi with | none => (n : Int) | some i => max 0 (min (if i < 0 then i + (n : Int) else i) n)) 1 := by
    cases lo <;> cases hi <;> rfl
  rw [e, clip_lo n lo, clip_hi n hi, sliceRange_one]
theorem cutS_made (z : Str) (lo hi : Option Int) : (⟨((Builtin.Str.strSliceIndices lo hi 1 z.length).filterMap (z.cps[·]?)).toArray⟩ : Str) = cutS z lo hi := by
  rw [strSlice_run, pick_run]
  rfl
theorem cutS_whole (z : Str) (lo hi : Option Int) (h : (Builtin.Str.strSliceIndices lo hi 1 z.length).length = z.length) : cutS z lo hi = z := by
  rw [strSlice_run, List.length_map, List.length_range] at h
  have h1 : HT.sIx z.length 0 lo ≤ z.length := HT.sIx_le _ _ (Nat.zero_le _) lo
  have h2 : HT.sIx z.length z.length hi ≤ z.length := HT.sIx_le _ _ (Nat.le_refl _) hi
  unfold cutS
  by_cases h0 : z.length = 0
  · have e0 : z.cps.toList = [] := by
      apply List.eq_nil_of_length_eq_zero
      rw [Array.length_toList]
      exact h0
    rw [e0]
    have e1 : z.cps = #[] := by
      apply Array.eq_empty_of_size_eq_zero
      exact h0
    cases z with
    | mk c => cases e1; simp
  · have a : HT.sIx z.length 0 lo = 0 := by omega
    have b : HT.sIx z.length z.length hi = z.length := by omega
    rw [a, b, List.drop_zero, Nat.sub_zero]
    have e : z.cps.toList.take z.length = z.cps.toList := by
      apply List.take_of_length_le
      rw [Array.length_toList]
      exact Nat.le_refl _
    rw [e]
section
variable {X : Cx}
def rSlS : V → Option Int → Option Int → Hp → VK → Prop := fun x lo hi H Q => ∃ z, x = .str z ∧ z.length ≤ sizeLine ∧ Q (.str (cutS z lo hi)) H
theorem part_of {v : Value} {o : Option Int} (p : IsPart v o) : ∃ l : Option (Int × Tok), partValue l = v ∧ l.map (·.1) = o := by
  cases p with
  | none => exact ⟨none, rfl, rfl⟩
  | int i t => exact ⟨some (i, t), rfl, rfl⟩
theorem sl_str : SlR X rSlS := by
  intro pins s σ H x v vl vu lo hi sl Q I rx hs pl pu h
  obtain ⟨z, rfl, hz, q⟩ := h
  obtain ⟨t, rfl⟩ := rx
  obtain ⟨l, el, e1⟩ := part_of pl
  obtain ⟨u, eu, e2⟩ := part_of pu
  subst el eu e1 e2
  refine ⟨"str", _, F.slot_str_getitem.lookup, typeIs_str s z t, wpAny_getItem_str_slice (l := l) (u := u) (st := none) hs rfl ?_⟩
  unfold sliceMade slicePicked
  by_cases c : (((none : Option (Int × Tok)).map (·.1)).getD 1 == 1 && (Builtin.Str.strSliceIndices (l.map (·.1)) (u.map (·.1)) (((none : Option (Int × Tok)).map (·.1)).getD 1) z.length).length == z.length) = true
  · rw [if_pos c]
    rw [Bool.and_eq_true] at c
    have c2 : (Builtin.Str.strSliceIndices (l.map (·.1)) (u.map (·.1)) 1 z.length).length = z.length := eq_of_beq c.2
    have e := cutS_whole z _ _ c2
    rw [e] at q
    exact ⟨.str z, H, I, ⟨t, rfl⟩, q⟩
  · rw [if_neg c]
    have e := cutS_made z (l.map (·.1)) (u.map (·.1))
    show ((⟨((Builtin.Str.strSliceIndices (l.map (·.1)) (u.map (·.1)) 1 z.length).filterMap (z.cps[·]?)).toArray⟩ : Str).length ≤ sizeLine ∧ EP X pins σ Q (.str ⟨((Builtin.Str.strSliceIndices (l.map (·.1)) (u.map (·.1)) 1 z.length).filterMap (z.cps[·]?)).toArray⟩ s.toks) { s with toks := s.toks + 1 })
    rw [e]
    exact ⟨Nat.le_trans (cutS_le z _ _) hz, ⟨.str _, H, I.tok _, ⟨_, rfl⟩, q⟩⟩
def mulS (z : Str) (n : Nat) : Str := ⟨(List.replicate n z.cps.toList).flatten.toArray⟩
theorem foldl_cat (x : List Nat) : ∀ (n : Nat) (acc : Array Nat), (List.replicate n x.toArray).foldl (· ++ ·) acc = acc ++ (List.replicate n x).flatten.toArray
  | 0, acc => by simp
  | n + 1, acc => by
    rw [List.replicate_succ, List.foldl_cons, foldl_cat x n, List.replicate_succ, List.flatten_cons]
    apply Array.toList_inj.mp
    simp
theorem mulS_eq (z : Str) (n : Int) (h : 0 ≤ n) : Txt.mul z n = mulS z n.toNat := by
  unfold Txt.mul mulS
  by_cases h1 : n < 1
  · rw [if_pos h1]
    have e : n.toNat = 0 := by omega
    rw [e]
    rfl
  · rw [if_neg h1]
    by_cases h2 : (n == 1 || z.length == 0) = true
    · rw [if_pos h2]
      rw [Bool.or_eq_true] at h2
      rcases h2 with h2 | h2
      · have e : n = 1 := eq_of_beq h2
        subst e
        show z = ⟨(List.replicate 1 z.cps.toList).flatten.toArray⟩
        simp
      · have e : z.length = 0 := eq_of_beq h2
        have e0 : z.cps = #[] := Array.eq_empty_of_size_eq_zero e
        cases z with
        | mk c => cases e0; simp
    · rw [if_neg h2]
      have e := foldl_cat z.cps.toList n.toNat #[]
      have e3 : z.cps.toList.toArray = z.cps := by simp
      rw [e3] at e
      rw [e]
      simp
theorem op_mul_str : OpR X (binaryOp .Mult) (fun x y H Q => ∃ z n, x = .str z ∧ y = .int n ∧ 0 ≤ n ∧ n ≤ 1000 ∧ z.length ≤ 1000 ∧ Q (.str (mulS z n.toNat)) H) := by
  intro pins s σ H x y v u Q I rx ry h
  obtain ⟨z, n, rfl, rfl, h0, h1, h2, q⟩ := h
  obtain ⟨t, rfl⟩ := rx
  obtain ⟨t', rfl⟩ := ry
  have hb : z.length * n.toNat ≤ 1000 * 1000 := Nat.mul_le_mul h2 (by omega)
  refine SB.mul ⟨by rw [Bool.or_eq_false_iff]; exact ⟨decide_eq_false (by omega), decide_eq_false (by omega)⟩, fun hn1 _ => ?_, fun _ _ => ?_⟩ fun t' k => ⟨.str _, H, I.tok _, ⟨_, rfl⟩, by rw [mulS_eq z n h0]; exact q⟩
  · have hp : 0 < n := by omega
    have h3 : (z.length : Int) * n ≤ 1000 * n := Int.mul_le_mul_of_nonneg_right (by omega) h0
    have h4 : (z.length : Int) ≤ (2 ^ 63 - 1) / n := Int.le_ediv_of_mul_le hp (by omega)
    omega
  · unfold Builtin.Str.tooLong
    exact decide_eq_false (by have := sizeLine_eq; omega)
theorem strsAre_of : ∀ {ys : List Str} {us : List Value}, Vals (ys.map V.str) us → StrsAre us ys
  | [], _, .nil => .nil
  | y :: ys, u :: us, .cons r t => by
    obtain ⟨t', rfl⟩ := r
    exact .cons _ _ (strsAre_of t)
theorem mt_join : MtR X "str.join" (fun x xs H Q => ∃ sep p ys, x = .str sep ∧ xs = [.ref p] ∧ SqL X.K H p (List.map V.str ys) ∧ (ys.map (·.length)).sum + ys.length * sep.length ≤ 1000000 ∧ Q (.str (Txt.join sep ys)) H) := by
  intro pins s σ H x xs v us Q I rx rv h
  obtain ⟨sep, p, ys, rfl, rfl, hq, hb, q⟩ := h
  obtain ⟨t, rfl⟩ := rx
  obtain ⟨u, rfl, ru⟩ := rv.one
  cases ru
  obtain ⟨its, r, pl, hz⟩ := I.list hq
  exact join_list pl.isList (by simpa using strsAre_of r) (by omega) fun t' k => ⟨.str _, H, I.tok _, ⟨_, rfl⟩, q⟩
theorem call_isinst : CallR X (.builtin "isinstance") (fun xs H Q => ∃ x n t b, xs = [x, .ty n] ∧ TyOf X.K H x t ∧ PySem.W.kitOne X.K t (.type n) = some b ∧ Q (.bl b) H) := by
  intro pins s σ H xs us Q I r h
  obtain ⟨x, n, t, b, rfl, ty, e, q⟩ := h
  obtain ⟨u, u2, rfl, r1, r2⟩ := vals2 r
  cases (show u2 = Value.type n from r2)
  exact isinst_ok I r1 ty e fun tk => ⟨.bl b, H, I.tok tk, rfl, q⟩
end
end L2
namespace L2
open PySem PySem.Spec PyProof.Rows
theorem same_new {H : Hp} {p : Addr} (h : H p = none) (o : HO) : Same H (upd H p o) := fun b u q => by rw [upd_ne (ne_of_none q h)]; exact q
theorem Same.upd {H H' : Hp} {p : Addr} (e : Same H H') (h : H p = none) (o : HO) : Same H (L2.upd H' p o) := fun b u q => by rw [upd_ne (ne_of_none q h)]; exact e b u q
theorem Same.tup {K : PySem.W.Frag} {H H' : Hp} {a : Addr} {xs : List V} (e : Same H H') (h : SqT K H a xs) : SqT K H' a xs := by
  rcases h with (h | ⟨o, h⟩) | h
  · exact .inl (.inl (e _ _ h))
  · exact .inl (.inr ⟨o, e _ _ h⟩)
  · exact .inr h
def Has (P : Program) (w : World) (K : PySem.W.Frag) (mg : Str → Option Value) (base : Heap) (k : Nat) (x : Str) (ps : List Str) (sp : Sp) : Prop :=
  ∃ (f : Addr) (fd : FuncData), FnOk P w K mg base CX0 k f fd ps sp ∧ Binds K fd ps [] ∧ PySem.W.keepIn K (.ref f) = true ∧ mg x = some (.ref f)
theorem Has.up {P : Program} {w : World} {K : PySem.W.Frag} {mg : Str → Option Value} {base : Heap} {j k : Nat} {x : Str} {ps : List Str} {sp : Sp} (h : Has P w K mg base j x ps sp) (l : j ≤ k) : Has P w K mg base k x ps sp := by
  obtain ⟨f, fd, F, r⟩ := h
  exact ⟨f, fd, F.mono l, r⟩
def Def (K : PySem.W.Frag) (mg : Str → Option Value) (x : Str) (st : Stmt) (ps : List Str) : Prop :=
  ∃ (f : Addr) (fd : FuncData), Fun K x x st f fd ∧ Binds K fd ps [] ∧ mg x = some (.ref f)
theorem Def.has {P : Program} {w : World} {K : PySem.W.Frag} {mg : Str → Option Value} {base : Heap} {k : Nat} {x : Str} {st : Stmt} {N ps : List Str} {sp : Sp} (D : Def K mg x st ps) (S : FnScope N ps (defScope st)) (len : ∀ vs H Q E, sp vs H Q E → vs.length = ps.length)
    (hbody : ∀ (f : Addr) (cdv : Value) (A : Around) (outer : List Env) (s : Shared) (H : Hp) (vs : List V) (Q : VK) (E : XK), Room k (A.deeper (envOfC x (defScope st) s.heap.objs.size f cdv)) → sp vs H Q E →
      ∃ t, PSs (cxOf CX0 P w K mg base N x (defScope st) f cdv A outer s H E).nox (defBody st) t ∧ t { nx := fun _ H' => Q .non H', rt := Q } (start N vs) H) : Has P w K mg base (k + 1) x ps sp := by
  obtain ⟨f, fd, F, b, m⟩ := D
  exact ⟨f, fd, F.ok S len fun cdv A outer s H vs Q E hr h => hbody f cdv A outer s H vs Q E hr h, b, F.kp, m⟩
section
variable {X : Cx} {k : Nat} {ps : List Str} {sp : Sp} {x : Str} {p pos : Pos} {e : Expr} {es : List Expr} {t : TA}
theorem pe_has (h : Has X.prog X.w X.K X.mg X.base k x ps sp) (hr : Room k X.A) (ha : PA X (e :: es) t) (hg : Gl X x := by rfl) (hdb : (x == ("__debug__" : Str)) = false := by decide +kernel)
    (he : starEach (e :: es) X.env = (false, eval e X.env) :: starEach es X.env := by rfl) (hpl : (backTo pos (starEach es X.env)).any (·.1) = false := by rfl) :
    PE X (.Call (.Name x p) (e :: es) [] pos) (tCall sp [] E0 t) := by
  obtain ⟨f, fd, F, b, kp, m⟩ := h
  exact pe_call F hr hg m kp b .nil pass0 ha hdb he hpl
end
theorem lc_gen {J : It} {fr : St} {tc : TT} {te : TE} {D : Addr} {H1 : Hp} {Q : Hp → Prop} (n : Nat) (item : Nat → V) (P : Nat → List V → Prop) (hn : n < sizeLine) (hD : H1 D = none)
    (hgo : ∀ i H, i < n → Same H1 H → J.go i H) (hyld : ∀ i H x H', i < n → Same H1 H → J.yld i H x H' → H' = H ∧ x = item i) (hstop : ∀ H, Same H1 H → J.stop n H)
    (h0 : P 0 [])
    (step : ∀ i ys H (G : Hp → Prop) (K' : V → Hp → Prop), i < n → P i ys → ys.length ≤ i → Same H1 H → (∀ H3, Same H H3 → P (i + 1) ys → G H3) → (∀ y H4, Same H H4 → P (i + 1) (ys ++ [y]) → K' y H4) → tc ([some (item i)] ++ fr) H fun b H3 => if b = true then te ([some (item i)] ++ fr) H3 K' else G H3)
    (done : ∀ ys H, P n ys → ys.length ≤ n → Same H1 H → H D = some (.lst ys) → Q H) : LC 1 fr (gName 0) tc te J D H1 Q := by
  refine ⟨fun i m H => m = n - i ∧ i ≤ n ∧ ∃ ys, H D = some (.lst ys) ∧ P i ys ∧ ys.length ≤ i ∧ Same H1 H, ⟨n, by simp, Nat.zero_le _, [], upd_same, h0, Nat.le_refl _, same_new hD _⟩, ?_⟩
  rintro i m H ⟨rfl, hi, ys, hys, hP, hl, hS⟩
  by_cases hlt : i < n
  · refine .inr ⟨hgo i H hlt hS, fun τ x H' hτ hy => ?_⟩
    obtain ⟨e1, e2⟩ := hyld i H x H' hlt hS hy
    subst e1 e2
    obtain ⟨a, rfl⟩ : ∃ a, τ = [a] := by
      match τ, hτ with
      | [a], _ => exact ⟨a, rfl⟩
    refine ⟨⟨[some (item i)], rfl, rfl⟩, step i ys H' (fun H3 => ∃ m', m' < n - i ∧ m' = n - (i + 1) ∧ i + 1 ≤ n ∧ ∃ ys, H3 D = some (.lst ys) ∧ P (i + 1) ys ∧ ys.length ≤ i + 1 ∧ Same H1 H3)
      (fun y H4 => ∃ zs, H4 D = some (.lst zs) ∧ zs.length < sizeLine ∧ ∃ m', m' < n - i ∧ m' = n - (i + 1) ∧ i + 1 ≤ n ∧ ∃ ys, upd H4 D (.lst (zs ++ [y])) D = some (.lst ys) ∧ P (i + 1) ys ∧ ys.length ≤ i + 1 ∧ Same H1 (upd H4 D (.lst (zs ++ [y])))) hlt hP hl hS (fun H3 q1 q2 => ?_) (fun y H4 q1 q2 => ?_)⟩
    · exact ⟨n - (i + 1), by omega, rfl, hlt, ys, q1 _ _ hys, q2, Nat.le_succ_of_le hl, hS.trans q1⟩
    · refine ⟨ys, q1 _ _ hys, by omega, n - (i + 1), by omega, rfl, hlt, ys ++ [y], upd_same, q2, ?_, (hS.trans q1).upd hD _⟩
      rw [List.length_append, List.length_singleton]
      omega
  · have e : i = n := by omega
    subst e
    exact .inl ⟨hstop H hS, done ys H hP hl hS hys⟩
theorem lc_list {K : PySem.W.Frag} {a : Addr} {xs : List V} {fr : St} {tc : TT} {te : TE} {D : Addr} {H1 : Hp} {Q : Hp → Prop} (P : Nat → List V → Prop) (hS : SqL K H1 a xs) (hn : xs.length < sizeLine) (hD : H1 D = none) (h0 : P 0 [])
    (step : ∀ i x ys H (G : Hp → Prop) (K' : V → Hp → Prop), xs[i]? = some x → P i ys → ys.length ≤ i → Same H1 H → (∀ H3, Same H H3 → P (i + 1) ys → G H3) → (∀ y H4, Same H H4 → P (i + 1) (ys ++ [y]) → K' y H4) → tc ([some x] ++ fr) H fun b H3 => if b = true then te ([some x] ++ fr) H3 K' else G H3)
    (done : ∀ ys H, P xs.length ys → ys.length ≤ xs.length → Same H1 H → H D = some (.lst ys) → Q H) : LC 1 fr (gName 0) tc te (Itl K a) D H1 Q := by
  have at' : ∀ i, i < xs.length → xs[i]? = some (xs.getD i .non) := fun i hi => by
    rw [List.getD_eq_getElem?_getD, List.getElem?_eq_getElem hi]
    rfl
  exact lc_gen xs.length (fun i => xs.getD i .non) P hn hD (fun i H hi hs => ⟨xs, _, hs.seq hS, at' i hi⟩)
    (fun i H x H' hi hs hy => ⟨hy.1, Option.some.inj ((hy.2 xs (hs.seq hS)).symm.trans (at' i hi))⟩) (fun H hs => ⟨xs, hs.seq hS, Nat.le_refl _⟩) h0
    (fun i ys H G K' hi hp hl hs hG hK => step i _ ys H G K' (at' i hi) hp hl hs hG hK) done
theorem lc_tup {K : PySem.W.Frag} {a : Addr} {xs : List V} {fr : St} {tc : TT} {te : TE} {D : Addr} {H1 : Hp} {Q : Hp → Prop} (P : Nat → List V → Prop) (hS : SqT K H1 a xs) (hn : xs.length < sizeLine) (hD : H1 D = none) (h0 : P 0 [])
    (step : ∀ i x ys H (G : Hp → Prop) (K' : V → Hp → Prop), xs[i]? = some x → P i ys → ys.length ≤ i → Same H1 H → (∀ H3, Same H H3 → P (i + 1) ys → G H3) → (∀ y H4, Same H H4 → P (i + 1) (ys ++ [y]) → K' y H4) → tc ([some x] ++ fr) H fun b H3 => if b = true then te ([some x] ++ fr) H3 K' else G H3)
    (done : ∀ ys H, P xs.length ys → ys.length ≤ xs.length → Same H1 H → H D = some (.lst ys) → Q H) : LC 1 fr (gName 0) tc te (Itt K a) D H1 Q := by
  have at' : ∀ i, i < xs.length → xs[i]? = some (xs.getD i .non) := fun i hi => by
    rw [List.getD_eq_getElem?_getD, List.getElem?_eq_getElem hi]
    rfl
  exact lc_gen xs.length (fun i => xs.getD i .non) P hn hD (fun i H hi hs => ⟨xs, _, hs.tup hS, at' i hi⟩)
    (fun i H x H' hi hs hy => ⟨hy.1, Option.some.inj ((hy.2 xs (hs.tup hS)).symm.trans (at' i hi))⟩) (fun H hs => ⟨xs, hs.tup hS, Nat.le_refl _⟩) h0
    (fun i ys H G K' hi hp hl hs hG hK => step i _ ys H G K' (at' i hi) hp hl hs hG hK) done
theorem lc_range {lo : Int} {n : Nat} {fr : St} {tc : TT} {te : TE} {D : Addr} {H1 : Hp} {Q : Hp → Prop} (P : Nat → List V → Prop) (hn : n < sizeLine) (hD : H1 D = none) (h0 : P 0 [])
    (step : ∀ (i : Nat) ys H (G : Hp → Prop) (K' : V → Hp → Prop), i < n → P i ys → ys.length ≤ i → Same H1 H → (∀ H3, Same H H3 → P (i + 1) ys → G H3) → (∀ y H4, Same H H4 → P (i + 1) (ys ++ [y]) → K' y H4) → tc ([some (.int (lo + i))] ++ fr) H fun b H3 => if b = true then te ([some (.int (lo + i))] ++ fr) H3 K' else G H3)
    (done : ∀ ys H, P n ys → ys.length ≤ n → Same H1 H → H D = some (.lst ys) → Q H) : LC 1 fr (gName 0) tc te (Itr lo n) D H1 Q :=
  lc_gen n (fun i => .int (lo + i)) P hn hD (fun i H hi _ => hi) (fun i H x H' hi hs hy => hy) (fun H hs => Nat.le_refl _) h0 step done
end L2
namespace L2
open PySem PySem.Spec PyProof.Rows
section
variable {X : Cx} {x : Str} {pos : Pos}
theorem pe_gref {a : Addr} (hm : X.mg x = some (.ref a)) (hg : Gl X x := by rfl) (hd : (x == ("__debug__" : Str)) = false := by decide +kernel) : PE X (.Name x pos) (tC (.ref a)) := pe_glob hg hm rfl hd
theorem pe_gty {T : String} (hm : X.mg x = none) (hv : bootBuiltins x = some (.type T)) (hg : Gl X x := by rfl) (hn : x ≠ "__name__" := by decide +kernel) (hd : (x == ("__debug__" : Str)) = false := by decide +kernel) : PE X (.Name x pos) (tC (.ty T)) := pe_bltn hg hm hv rfl hn hd
end
theorem b_len : bootBuiltins "len" = some (.builtin "len") := by decide +kernel
theorem b_sum : bootBuiltins "sum" = some (.builtin "sum") := by decide +kernel
theorem b_isinstance : bootBuiltins "isinstance" = some (.builtin "isinstance") := by decide +kernel
theorem b_int : bootBuiltins "int" = some (.type "int") := by decide +kernel
theorem b_str : bootBuiltins "str" = some (.type "str") := by decide +kernel
theorem b_list : bootBuiltins "list" = some (.type "list") := by decide +kernel
theorem b_tuple : bootBuiltins "tuple" = some (.type "tuple") := by decide +kernel
theorem b_dict : bootBuiltins "dict" = some (.type "dict") := by decide +kernel
theorem b_sorted : bootBuiltins "sorted" = some (.builtin "sorted") := by decide +kernel
end L2
namespace L2
open PySem PySem.Spec PyProof.Rows
theorem str_eq {a b : Str} : a = b ↔ a.cps.toList = b.cps.toList := by
  constructor
  · intro e; rw [e]
  · intro e
    cases a; cases b
    exact congrArg Str.mk (Array.toList_inj.mp e)
theorem cxOf_K {CX : CXT} {P : Program} {w : World} {K : PySem.W.Frag} {mg : Str → Option Value} {base : Heap} {N : List Str} {qual : Str} {scope : Scope} {f : Addr} {cd : Value} {A : Around} {outer : List Env} {s : Shared} {H : Hp} {E : XK} : (cxOf CX P w K mg base N qual scope f cd A outer s H E).K = K := rfl
theorem nox_K {X : Cx} : X.nox.K = X.K := rfl
end L2
namespace L2
open PySem PySem.Spec PyProof.Rows
inductive CsOk : List Expr → List V → Prop where
  | nil : CsOk [] []
  | str {x : Str} {j : Nat} {pos : Pos} {es : List Expr} {vs : List V} (h : CsOk es vs) : CsOk (.Constant (.str x) j pos :: es) (.str x :: vs)
  | int {i : Int} {j : Nat} {pos : Pos} {es : List Expr} {vs : List V} (h : CsOk es vs) : CsOk (.Constant (.int i) j pos :: es) (.int i :: vs)
def tVals (vs : List V) : TA := fun _ H Q => Q vs H
theorem pa_const {X : Cx} {es : List Expr} {vs : List V} (h : CsOk es vs) : PA X es (tVals vs) := by
  induction h with
  | nil => exact pa_nil
  | str _ ih => exact pa_cons pe_str ih
  | int _ ih => exact pa_cons pe_int ih
end L2
namespace L2
open PySem PySem.Spec PyProof.Rows
def ForW (g : TG) (tb : TS) (D : Ends) (J : It) (σ : St) (H1 : Hp) : Prop := ∃ W : Nat → Nat → St → Hp → Prop, (∃ m, W 0 m σ H1) ∧ ∀ i m σ H, W i m σ H →
  (J.stop i H ∧ D.nx σ H) ∨ (J.go i H ∧ ∃ N : St → Hp → Prop, (∀ σ' H', N σ' H' → ∃ m', m' < m ∧ W (i + 1) m' σ' H') ∧ ∀ x H', J.yld i H x H' → g x σ H' fun σ2 H2 => tb { D with nx := N, ct := N, bk := D.nx } σ2 H2)
theorem tFor_eq (wi : TI) (g : TG) (tb : TS) (D : Ends) (σ : St) (H : Hp) : tFor wi g tb D σ H = wi σ H fun J H1 => ForW g tb D J σ H1 := rfl
section
variable {K : PySem.W.Frag} {a : Addr} {xs : List V} {g : TG} {tb : TS} {D : Ends} {σ : St} {H : Hp}
theorem forW_list (Pv : Nat → St → Hp → Prop) (h0 : Pv 0 σ H) (hl : ∀ i σ H, i ≤ xs.length → Pv i σ H → SqL K H a xs)
    (hs : ∀ i x σ H, xs[i]? = some x → Pv i σ H → g x σ H fun σ2 H2 => tb { D with nx := Pv (i + 1), ct := Pv (i + 1), bk := D.nx } σ2 H2) (hd : ∀ σ H, Pv xs.length σ H → D.nx σ H) : ForW g tb D (Itl K a) σ H := for_list Pv h0 hl hs hd
theorem forW_tup (Pv : Nat → St → Hp → Prop) (h0 : Pv 0 σ H) (hl : ∀ i σ H, i ≤ xs.length → Pv i σ H → SqT K H a xs)
    (hs : ∀ i x σ H, xs[i]? = some x → Pv i σ H → g x σ H fun σ2 H2 => tb { D with nx := Pv (i + 1), ct := Pv (i + 1), bk := D.nx } σ2 H2) (hd : ∀ σ H, Pv xs.length σ H → D.nx σ H) : ForW g tb D (Itt K a) σ H := for_tup Pv h0 hl hs hd
theorem forW_range {lo : Int} {n : Nat} (Pv : Nat → St → Hp → Prop) (h0 : Pv 0 σ H)
    (hs : ∀ i σ H, i < n → Pv i σ H → g (.int (lo + i)) σ H fun σ2 H2 => tb { D with nx := Pv (i + 1), ct := Pv (i + 1), bk := D.nx } σ2 H2) (hd : ∀ σ H, Pv n σ H → D.nx σ H) : ForW g tb D (Itr lo n) σ H := for_range Pv h0 hs hd
end
end L2
namespace L2
open PySem PySem.Spec PyProof.Rows Builtin Builtin.Str
def ModD (w : World) (K : PySem.W.Frag) (a : Addr) (kvs : List (Key × V)) : Prop :=
  (a == sysModules) = false ∧ ∀ (P : Program) (h : Heap), K.In h → ∃ vs, KV kvs vs ∧ h.DictOf (mixKind P w) a vs
abbrev SIRow := Int × Str × Tok × Int × Tok
def siE (e : SIRow) : DictEntry := ⟨e.1, .str e.2.1 e.2.2.1, .int e.2.2.2.1 e.2.2.2.2⟩
theorem si_pairs (P : Program) (w : World) : ∀ es : List SIRow, Pairs (mixKind P w) (es.map siE) (es.map fun e => ((Sum.inr e.2.1 : Key), Value.int e.2.2.2.1 e.2.2.2.2))
  | [] => .nil
  | e :: r => .cons (mixKind_str P w e.2.1 e.2.2.1) rfl (si_pairs P w r)
theorem si_kv : ∀ es : List SIRow, KV (es.map fun e => ((Sum.inr e.2.1 : Key), V.int e.2.2.2.1)) (es.map fun e => ((Sum.inr e.2.1 : Key), Value.int e.2.2.2.1 e.2.2.2.2))
  | [] => .nil
  | e :: r => .cons ⟨rfl, ⟨_, rfl⟩⟩ (si_kv r)
theorem modD_mk {w : World} {K : PySem.W.Frag} {a : Addr} {ep : Nat} (es : List SIRow) (hl : K.lookup a = some ⟨.type "dict", none, .dict (es.map siE).toArray ep, #[]⟩) (ha : (a == sysModules) = false)
    (hh : ∀ e ∈ es, e.1 = hashStr w e.2.1) (nd : (es.map fun e => (Sum.inr e.2.1 : Key)).Nodup) : ModD w K a (es.map fun e => (Sum.inr e.2.1, V.int e.2.2.2.1)) := by
  refine ⟨ha, fun P h hk => ⟨_, si_kv es, _, _, ep, hk a _ hl, ⟨rfl, rfl, rfl⟩, rfl, fun e he => ?_, by simpa using si_pairs P w es, ?_⟩⟩
  · have he' : e ∈ es.map siE := List.mem_toArray.mp he
    obtain ⟨r, hr, rfl⟩ := List.mem_map.mp he'
    exact ⟨Sum.inr r.2.1, mixKind_str P w r.2.1 r.2.2.1, hh r hr⟩
  · rw [List.map_map]
    exact nd
section
variable {X : Cx} {a : Addr} {kvs : List (Key × V)}
theorem op_in_mod (md : ModD X.w X.K a kvs) : OpR X (compareOp .In) (fun x y H Q => ∃ k, x = kV k ∧ y = .ref a ∧ Q (.bl (valV kvs k).isSome) H) := by
  intro pins s σ H x y v u Q I rx ry h
  obtain ⟨k, rfl, rfl, q⟩ := h
  cases (show u = Value.ref a from ry)
  obtain ⟨vs, rel, dd⟩ := md.2 X.prog _ I.kIn
  refine wpAny_in_of (kV_is rx) md.1 dd.mapOf ?_
  rw [← (rel.val k).isSome_eq]
  exact ⟨.bl _, H, I.tok _, rfl, q⟩
theorem call_sum_list (hc : X.calm = true) : CallR X (.builtin "sum") (fun xs H Q => ∃ p ns, xs = [.ref p] ∧ SqL X.K H p (List.map V.int ns) ∧ Q (.int ns.sum) H) := by
  intro pins s σ H xs us Q I r h
  obtain ⟨p, ns, rfl, hq, q⟩ := h
  obtain ⟨u, rfl, rx⟩ := vals1 r
  cases rx
  obtain ⟨its, rv, pl, hz⟩ := I.list hq
  have hi : IntsAre its ns := L2.intsAre_of rv
  obtain ⟨ys, hy⟩ := hi.allInts.items
  refine sum_intListG (I.ok.hd hc) (by rw [← hy]; exact pl.isList) fun h' tk t' hk => ⟨.int ns.sum, H, I.kept hk, ⟨t', ?_⟩, q⟩
  have e : ys.toList.map (·.1) = ns := by
    rw [← nums_intItems, ← hy]
    exact hi.numsOf
  rw [preSum_eq, List.take_of_length_le (by simp), e]
def textV : V → Str
  | .str z => z
  | .int i => (toString i : String)
  | _ => Str.empty
def wordV : V → Prop
  | .str _ => True
  | .int i => i.natAbs.log2 < 1920
  | _ => False
end
end L2
namespace L2
open PySem PySem.Spec PyProof.Rows
section
variable {X : Cx} (K : PySem.W.Frag) (hK : X.K = K)
include hK
theorem ix_listK : IxR X (rIxL K) := by subst hK; exact ix_list
theorem op_in_seqK : OpR X (compareOp .In) (rIn K false) := by subst hK; exact op_in_seq
end
end L2
namespace L2
open PySem PySem.Spec PyProof.Rows
def tMid (t u : TS) : TS := fun D σ H => ∃ M : St → Hp → Prop, t { D with nx := M } σ H ∧ ∀ σ' H', M σ' H' → u D σ' H'
theorem tMid_of {t u : TS} {D : Ends} {σ : St} {H : Hp} (M : St → Hp → Prop) (h1 : t { D with nx := M } σ H) (h2 : ∀ σ' H', M σ' H' → u D σ' H') : tMid t u D σ H := ⟨M, h1, h2⟩
section
variable {X : Cx} {st : Stmt} {rest : List Stmt} {t u : TS}
theorem pss_mid (h1 : PS X st t) (h2 : PSs X rest u) : PSs X (st :: rest) (tMid t u) := by
  intro pins s σ H D I h
  obtain ⟨M, h, hM⟩ := h
  refine wpAny_execs_cons (thn (h1 pins s σ H { D with nx := M } I h) fun f s1 q => ?_)
  cases f with
  | next =>
    obtain ⟨σ', H', I', q⟩ := q
    exact h2 pins s1 σ' H' D I' (hM σ' H' q)
  | ret v => exact q
  | brk => exact q
  | cont => exact q
end
theorem tyV_str {K : PySem.W.Frag} {z : Str} {H : Hp} : tyV K "str" (.str z) H = True := eq_true rfl
theorem tyV_list {K : PySem.W.Frag} {a : Addr} {xs : List V} {H : Hp} (h : H a = some (.lst xs)) : tyV K "list" (.ref a) H := .inl ⟨rfl, xs, SqL.of h⟩
theorem rIxT_ok {K : PySem.W.Frag} {H : Hp} {t : Addr} {xs : List V} {i : Int} {v : V} {Q : VK} (h : H t = some (.tup xs)) (hv : atI xs i = some v) (q : Q v H) : rIxT K (.ref t) (.int i) H Q := ⟨t, xs, i, v, rfl, rfl, SqT.of h, hv, q⟩
theorem rIxL_ok {K : PySem.W.Frag} {H : Hp} {t : Addr} {xs : List V} {i : Int} {v : V} {Q : VK} (h : H t = some (.lst xs)) (hv : atI xs i = some v) (q : Q v H) : rIxL K (.ref t) (.int i) H Q := ⟨t, xs, i, v, rfl, rfl, SqL.of h, hv, q⟩
theorem rCat_ok {H : Hp} {a b : Addr} {xs ys : List V} {Q : VK} (h1 : H a = some (.lst xs)) (h2 : H b = some (.lst ys)) (hz : xs.length + ys.length ≤ sizeLine) (q : ∀ p, H p = none → Q (.ref p) (upd H p (.lst (xs ++ ys)))) : rCat (.ref a) (.ref b) H Q := ⟨a, b, xs, ys, rfl, rfl, h1, h2, hz, q⟩
theorem append_ok {K : PySem.W.Frag} {H : Hp} {l : Addr} {xs : List V} {y : V} {Q : VK} (h : H l = some (.lst xs)) (hz : xs.length < sizeLine) (q : Q .non (upd H l (.lst (xs ++ [y])))) : tyV K "list" (.ref l) H ∧ rAppend (.ref l) [y] H Q :=
  ⟨tyV_list h, l, xs, y, rfl, rfl, h, hz, q⟩
end L2
namespace HT
open PySem PySem.Spec PyProof.Rows L2
section
variable {prog : Program} {w : World} {A : Around} {E : Value → Shared → Prop} {s : Shared}
theorem cat_tup0 {t b : Addr} {vs ws : List Value} {Q : Value → Shared → Prop} (ht : IsTup s.heap t vs.toArray) (hb : IsTup s.heap b ws.toArray) (hv : vs = []) (h1 : Q (.ref b) s) : wpAny (model prog w) A (binaryOp .Add (.ref t) (.ref b)) Q E s := by
  obtain ⟨⟨cls, dd, data, sl⟩, ho, hc, n, hd⟩ := id ht
  obtain ⟨⟨cls2, dd2, data2, sl2⟩, ho2, hc2, n2, hd2⟩ := id hb
  simp only at hc hd hc2 hd2
  subst hc hd hc2 hd2
  exact concat_meets ⟨_, ho, rfl⟩ ⟨_, ho2, rfl⟩ noFill_tuple_add seq_tuple_add PySem.F.slot_tuple_add PySem.F.entry_tuple_add (PySem.F.args_tuple_add_2 _ _)
    (tuple_addW0 t b vs.toArray ws.toArray n n2 dd dd2 sl sl2 (by simp [hv])) ⟨ho, ho2, h1⟩
theorem getItem_tuple_whole {t sl : Addr} {items : Array Value} {vl vu : Value} {lo hi : Option Int} {Q : Value → Shared → Prop} (ht : IsTup s.heap t items) (hs : s.heap.IsSliceOf sl vl vu .none) (pl : IsPart vl lo) (pu : IsPart vu hi)
    (hw : sIx items.size 0 lo = 0 ∧ sIx items.size items.size hi = items.size) (h : Q (.ref t) s) (hsz : items.size ≤ sizeLine) : wpAny (model prog w) A (getItem (.ref t) (.ref sl)) Q E s := by
  obtain ⟨os, hos, hcs, hds⟩ := id hs
  have hTs : s.TypeIs (.ref sl) "slice" := ⟨os, hos, hcs⟩
  unfold getItem
  try with_reducible refine wpAny_holding ?_
  first | refine wpAny_bind (wpAny_pure ?_) | skip
  refine wpAny_bind (wpAny_sequenceKey ht.typeIs (by decide) ?_)
  refine wpAny_bind (wpAny_callSpecial?_slot (name := Str.ofString "__getitem__") ht.typeIs PyProof.Rows.slot_tuple_getitem
    (wpAny_call_entry PyProof.Rows.slot_tuple_getitem ht.typeIs entry_tuple_getitem ?_ (args_tuple_getitem _ _)))
  show wpAny _ _ (Builtin.Tuple.tupleItemsOf (.ref t) >>= _) _ _ s
  refine wpAny_bind (tupleItemsOf_ ht ?_)
  refine wpAny_bind (wpAny_typeOf hTs ?_)
  rw [if_pos (by decide)]
  refine wpAny_bind (sliceApplied_gen hs pl pu ?_)
  have hyes : ((((sIx items.size 0 lo : Nat) : Int) == 0 && (1 : Int) == 1 && (sIx items.size items.size hi - sIx items.size 0 lo) == items.size) = true) := by
    rw [hw.1, hw.2]
    simp
  show wpAny _ _ (if (((sIx items.size 0 lo : Nat) : Int) == 0 && (1 : Int) == 1 && (sIx items.size items.size hi - sIx items.size 0 lo) == items.size) = true then _ else _) _ _ s
  rw [if_pos hyes]
  refine wpAny_bind ?_
  show wpAny _ _ (typeOf (.ref t) >>= fun v => pure (v == .type "tuple")) _ _ s
  refine wpAny_bind (wpAny_typeOf ht.typeIs (wpAny_pure ?_))
  rw [if_pos (by decide)]
  refine wpAny_bind (wpAny_rule ?_)
  first
    | exact wpAny_bind (wpAny_pure (wpAny_pure ⟨_, rfl, wpAny_pure h⟩))
    | exact wpAny_pure ⟨_, rfl, wpAny_pure h⟩
    | exact wpAny_bind (wpAny_pure ⟨_, rfl, wpAny_pure h⟩)
end
end HT
namespace L2
open PySem PySem.Spec PyProof.Rows
section
variable {X : Cx}
def rCatU : R2 := fun x y H Q => ∃ a b xs ys, x = .ref a ∧ y = .ref b ∧ H a = some (.tup xs) ∧ H b = some (.tup ys) ∧ xs.length + ys.length ≤ sizeLine ∧ ∀ p H', Same H H' → H' p = some (.tup (xs ++ ys)) → Q (.ref p) H'
theorem op_catU : OpR X (binaryOp .Add) rCatU := by
  intro pins s σ H x y v u Q I rx ry h
  obtain ⟨a, b, xs, ys, rfl, rfl, ha, hb, hz, q⟩ := h
  by_cases hx : xs = []
  · subst hx
    cases rx
    cases ry
    obtain ⟨its, r1, p1, _⟩ := I.tuple (SqT.of ha)
    obtain ⟨its2, r2, p2, _⟩ := I.tuple (SqT.of hb)
    exact HT.cat_tup0 p1 p2 (r1.nil_iff.mpr rfl) ⟨.ref b, H, I, rfl, q b H (Same.refl H) hb⟩
  · refine op_catT pins s σ H _ _ v u Q I rx ry ⟨a, b, xs, ys, rfl, rfl, SqT.of ha, SqT.of hb, hx, hz, fun e => ?_, fun _ p hp => q p _ (fun c o h => by rw [upd_ne (ne_of_none h hp)]; exact h) upd_same⟩
    subst e
    exact q a H (Same.refl H) (by rw [List.append_nil]; exact ha)
theorem rCatU_ok {H : Hp} {a b : Addr} {xs ys : List V} {Q : VK} (ha : H a = some (.tup xs)) (hb : H b = some (.tup ys)) (hz : xs.length + ys.length ≤ sizeLine) (q : ∀ p H', Same H H' → H' p = some (.tup (xs ++ ys)) → Q (.ref p) H') : rCatU (.ref a) (.ref b) H Q := ⟨a, b, xs, ys, rfl, rfl, ha, hb, hz, q⟩
def rSlU : V → Option Int → Option Int → Hp → VK → Prop := fun x lo hi H Q => ∃ a xs, x = .ref a ∧ H a = some (.tup xs) ∧ ∀ p H', Same H H' → H' p = some (.tup (cutV xs lo hi)) → Q (.ref p) H'
theorem cutV_all {xs : List V} {lo hi : Option Int} (h : HT.sIx xs.length 0 lo = 0 ∧ HT.sIx xs.length xs.length hi = xs.length) : cutV xs lo hi = xs := by
  unfold cutV
  rw [h.1, h.2, List.drop_zero, Nat.sub_zero, List.take_length]
theorem sl_tupU : SlR X rSlU := by
  intro pins s σ H x v vl vu lo hi sl Q I rx hs pl pu h
  obtain ⟨a, xs, rfl, ha, q⟩ := h
  by_cases hw : HT.sIx xs.length 0 lo = 0 ∧ HT.sIx xs.length xs.length hi = xs.length
  · cases rx
    obtain ⟨its, r, ht, hz⟩ := I.tuple (SqT.of ha)
    have hlen : its.toArray.size = xs.length := by rw [List.size_toArray]; exact r.length.symm
    exact ⟨"tuple", _, PyProof.Rows.slot_tuple_getitem.lookup, ht.typeIs, HT.getItem_tuple_whole ht hs pl pu (by rw [hlen]; exact hw) ⟨.ref a, H, I, rfl, q a H (Same.refl H) (by rw [cutV_all hw]; exact ha)⟩ (by rw [hlen]; exact hz)⟩
  · exact sl_tup pins s σ H _ v vl vu lo hi sl Q I rx hs pl pu ⟨a, xs, rfl, SqT.of ha, hw, fun p hp => q p _ (fun c o h => by rw [upd_ne (ne_of_none h hp)]; exact h) upd_same⟩
theorem rSlU_ok {H : Hp} {a : Addr} {xs : List V} {lo hi : Option Int} {Q : VK} (ha : H a = some (.tup xs)) (q : ∀ p H', Same H H' → H' p = some (.tup (cutV xs lo hi)) → Q (.ref p) H') : rSlU (.ref a) lo hi H Q := ⟨a, xs, rfl, ha, q⟩
theorem kV_flat (k : Key) : flatV (kV k) = true := by cases k <;> rfl
theorem eqV_kV (a b : Key) : eqV (kV a) (kV b) = decide (a = b) := by
  cases a <;> cases b <;> simp [eqV, kV] <;> exact Bool.beq_eq_decide_eq _ _
theorem keys_eqAt {A : Around} {s : Shared} {as bs : List Key} {us ws : List Value} (r1 : Vals (as.map kV) us) (r2 : Vals (bs.map kV) ws) (j : Nat) (h1 : j < us.toArray.size) (h2 : j < ws.toArray.size) :
    SeqAt.EqAt A s us.toArray[j] ws.toArray[j] (decide (as[j]? = bs[j]?)) := by
  have l1 := r1.length
  have l2 := r2.length
  rw [List.length_map] at l1 l2
  have j1 : j < as.length := by rw [l1]; simpa using h1
  have j2 : j < bs.length := by rw [l2]; simpa using h2
  obtain ⟨u, hu, ru⟩ := r1.get (i := j) (x := kV as[j]) (by rw [List.getElem?_map, List.getElem?_eq_getElem j1]; rfl)
  obtain ⟨w, hw, rw'⟩ := r2.get (i := j) (x := kV bs[j]) (by rw [List.getElem?_map, List.getElem?_eq_getElem j2]; rfl)
  have e1 : us.toArray[j] = u := by
    have : us[j]'(by simpa using h1) = u := by rw [List.getElem?_eq_getElem (by simpa using h1)] at hu; exact Option.some.inj hu
    simpa using this
  have e2 : ws.toArray[j] = w := by
    have : ws[j]'(by simpa using h2) = w := by rw [List.getElem?_eq_getElem (by simpa using h2)] at hw; exact Option.some.inj hw
    simpa using this
  rw [e1, e2, List.getElem?_eq_getElem j1, List.getElem?_eq_getElem j2]
  have e3 : decide (some as[j] = some bs[j]) = eqV (kV as[j]) (kV bs[j]) := by
    rw [eqV_kV]
    apply decide_eq_decide.mpr
    exact ⟨fun h => Option.some.inj h, fun h => by rw [h]⟩
  rw [e3]
  exact eqAt_V ru rw' (kV_flat _) (kV_flat _)
end
section
variable {X : Cx} {k : Nat} {ps : List Str} {sp : Sp} {x : Str} {p pos : Pos} {e : Expr} {es : List Expr} {t : TA}
def FnV (P : Program) (w : World) (K : PySem.W.Frag) (mg : Str → Option Value) (base : Heap) (k : Nat) (ps : List Str) (sp : Sp) (v : V) : Prop :=
  ∃ (f : Addr) (fd : FuncData), v = .ref f ∧ FnOk P w K mg base CX0 k f fd ps sp ∧ Binds K fd ps [] ∧ PySem.W.keepIn K (.ref f) = true
theorem Has.val {P : Program} {w : World} {K : PySem.W.Frag} {mg : Str → Option Value} {base : Heap} (h : Has P w K mg base k x ps sp) : ∃ a, mg x = some (.ref a) ∧ FnV P w K mg base k ps sp (.ref a) := by
  obtain ⟨f, fd, F, b, kp, m⟩ := h
  exact ⟨f, m, f, fd, rfl, F, b, kp⟩
def tCallV (P : Program) (w : World) (K : PySem.W.Frag) (mg : Str → Option Value) (base : Heap) (k : Nat) (ps : List Str) (i : Nat) (t : TA) : TE := fun σ H Q => ∃ v sp, σ[i]? = some (some v) ∧ FnV P w K mg base k ps sp v ∧ t σ H fun vs H1 => sp vs H1 Q E0
theorem pe_callV (i : Nat) (ps : List Str) (hN : X.N[i]? = some x) (hv : Vis X.env.scope x) (hr : Room k X.A) (ha : PA X (e :: es) t) (hd : (x == ("__debug__" : Str)) = false := by decide +kernel) (hcd : (x == ("__classdict__" : Str)) = false := by decide +kernel)
    (he : starEach (e :: es) X.env = (false, eval e X.env) :: starEach es X.env := by rfl) (hpl : (backTo pos (starEach es X.env)).any (·.1) = false := by rfl) :
    PE X (.Call (.Name x p) (e :: es) [] pos) (tCallV X.prog X.w X.K X.mg X.base k ps i t) := by
  intro pins s σ H Q I h
  obtain ⟨v, sp, hσ, ⟨f, fd, rfl, F, hb, hk⟩, h⟩ := h
  refine wpAny_Call_Name_kw (thn (pe_var (pos := p) hN hv hd hcd pins s σ H (fun y H1 => y = .ref f ∧ H1 = H) I ⟨_, hσ, rfl, rfl⟩) fun u s1 ⟨y, H1, I1, ry, ey, eH⟩ => ?_)
  subst ey eH
  cases (show u = Value.ref f from ry)
  refine PySem.W.callWith_K (h₀ := X.base) I1.ok.mod.kin hk (thn (ha pos pins s1 σ H1 _ I1 h) fun us s2 ⟨vs, H2, I2, r, q⟩ => ⟨I2.kIn, ?_⟩) he hpl
  exact run_fn F hr hb .nil pass0 I2 r (by rw [List.append_nil]; exact q)
end
end L2
namespace L2
open PySem PySem.Spec PyProof.Rows
def Itv (K : PySem.W.Frag) (a : Addr) (n : Nat) : It :=
  ⟨fun i H => i < n ∧ ∃ xs, SqL K H a xs ∧ xs.length = n, fun i H x H' => H' = H ∧ ∀ xs, SqL K H a xs → xs[n - 1 - i]? = some x, fun i H => i = n⟩
theorem turn_rev {P : Program} {w : World} {K : PySem.W.Frag} {tg : Expr} (a it : Addr) (n : Nat) : Turn P w K tg (Itv K a n) [it] it (fun i h => i ≤ n ∧ h.IsRevIter it a ((n : Int) - 1 - (i : Int))) where
  mem := by simp
  obj := fun i h st b hb => by
    have e : b = it := by simpa using hb
    subst e
    obtain ⟨_, o, e, c, d⟩ := st
    exact ⟨o, e, fun v z => by rw [d] at z; cases z⟩
  keep := fun i h h' st k => ⟨st.1, st.2.at fun o e => k it (by simp) o e⟩
  item := by
    intro X hP hw hK hc i pins s σ H E I hf st hg
    subst hP hw hK
    obtain ⟨hi, xs, hq, hn⟩ := hg
    have hx : xs[n - 1 - i]? = some (xs[n - 1 - i]'(by omega)) := List.getElem?_eq_getElem (by omega)
    obtain ⟨its, rv, p, hz⟩ := I.list hq
    obtain ⟨u, hu, ru⟩ := rv.get hx
    obtain ⟨f0, f1, f2, f3, f4, f5⟩ := hf it (by simp)
    have e : (n : Int) - 1 - (i : Int) = ((n - 1 - i : Nat) : Int) := by omega
    have st2 := st.2
    rw [e] at st2
    refine wpAny_pyNext_rev_item st2 p.isList (x := u) (by simpa using hu) fun h' st' sb => ?_
    have e2 : ((n - 1 - i : Nat) : Int) - 1 = (n : Int) - 1 - ((i + 1 : Nat) : Int) := by omega
    rw [e2] at st'
    have I1 : Inv X pins σ H { s with heap := h' } := I.turned (t' := s.toks) (fun b o hb e => (sb.2 b hb).trans e) f0 f1 f3 f4 f5
    obtain ⟨o, e, c, d⟩ := id st'
    exact ⟨u, rfl, go_of (s := { s with heap := h' }) e c d (by decide) ⟨_, H, I1, ru, ⟨rfl, fun ys hy => by rw [I.list_inj hy hq]; exact hx⟩, ⟨hi, st'⟩, fun b hb => (hf b hb).1⟩⟩
  done := by
    intro X hP hw hK hc i pins s σ H E I hf st hg
    subst hP hw hK
    obtain ⟨f0, f1, f2, f3, f4, f5⟩ := hf it (by simp)
    have hg : i = n := hg
    subst hg
    have e : (i : Int) - 1 - (i : Int) = -1 := by omega
    have st2 := st.2
    rw [e] at st2
    exact wpAny_pyNext_rev_end (I.ok.hd hc) st2 fun h' eb => ⟨rfl, I.turned (t' := s.toks) (fun b o hb e => eb b o hb e) f0 f1 f3 f4 f5⟩
  self := fun _ _ _ _ _ st h => wpAny_pyIter_revIter st.2 h
def iRev (K : PySem.W.Frag) (ta : TA) : TI := fun σ H R => ta σ H fun vs H1 => ∃ a xs, vs = [.ref a] ∧ SqL K H1 a xs ∧ R (Itv K a xs.length) H1
theorem b_reversed : bootBuiltins "reversed" = some (.type "reversed") := by decide +kernel
section
variable {X : Cx} {tg : Expr}
theorem pi_rev {a : Expr} {ta : TA} {p pos : Pos} (hg : Gl X "reversed") (hm : X.mg "reversed" = none) (ha : PA X [a] ta) (hs : starEach [a] X.env = [(false, eval a X.env)] := by rfl) : PI X tg (.Call (.Name "reversed" p) [a] [] pos) (iRev X.K ta) := by
  intro pins s σ H R I h
  refine Call_ (ld_blt I hg hm b_reversed (PyProof.Rows.callWith_type1 (thn (ha pos pins s σ H _ I h) fun us s1 ⟨vs, H1, I1, r1, q1⟩ => ?_) hs rfl))
  obtain ⟨l, xs, e, hq, q⟩ := q1
  subst e
  cases r1 with
  | cons r rr =>
    cases rr
    cases (show _ = Value.ref l from r)
    obtain ⟨its, rv, pl, hz⟩ := I1.list hq
    refine call_reversed_list pl.isList ?_
    have hlen : ((its.toArray.size : Nat) : Int) - 1 = (xs.length : Int) - 1 - ((0 : Nat) : Int) := by
      rw [List.size_toArray, ← rv.length]
      omega
    have st : Heap.IsRevIter (s1.heap.push (revObj l ((its.toArray.size : Int) - 1))) s1.heap.objs.size l ((xs.length : Int) - 1 - ((0 : Nat) : Int)) := by
      rw [← hlen]
      exact ⟨_, Heap.get?_push_size _ rfl, rfl, rfl⟩
    refine wpAny_pyIter_revIter st ?_
    refine ⟨s1.heap.objs.size, [s1.heap.objs.size], _, _, H1, rfl, I1.kept (t' := s1.toks) fun b o e => Heap.get?_push_of_some _ e, turn_rev l _ xs.length, ⟨Nat.zero_le _, st⟩, fun b hb => ?_, q⟩
    have e : b = s1.heap.objs.size := by simpa using hb
    subst e
    exact I1.fpOk (Nat.le_refl _) (I1.hok.fresh (Nat.le_refl _))
end
theorem forW_rev {K : PySem.W.Frag} {a : Addr} {xs : List V} {g : TG} {tb : TS} {D : Ends} {σ : St} {H : Hp} (Pv : Nat → St → Hp → Prop) (h0 : Pv 0 σ H) (hl : ∀ i σ H, i ≤ xs.length → Pv i σ H → SqL K H a xs)
    (hs : ∀ i x σ H, i < xs.length → xs[xs.length - 1 - i]? = some x → Pv i σ H → g x σ H fun σ2 H2 => tb { D with nx := Pv (i + 1), ct := Pv (i + 1), bk := D.nx } σ2 H2) (hd : ∀ σ H, Pv xs.length σ H → D.nx σ H) : ForW g tb D (Itv K a xs.length) σ H := by
  refine ⟨fun i m σ H => m = xs.length - i ∧ i ≤ xs.length ∧ Pv i σ H, ⟨xs.length, by simp, Nat.zero_le _, h0⟩, ?_⟩
  rintro i m σ H ⟨rfl, hi, p⟩
  have q := hl i σ H hi p
  by_cases hlt : i < xs.length
  · refine .inr ⟨⟨hlt, xs, q, rfl⟩, Pv (i + 1), fun σ' H' p' => ⟨xs.length - (i + 1), by omega, rfl, hlt, p'⟩, fun x H' y => ?_⟩
    obtain ⟨e, y⟩ := y
    subst e
    exact hs i x σ _ hlt (y xs q) p
  · have e : i = xs.length := by omega
    subst e
    exact .inl ⟨rfl, hd σ H p⟩
end L2
namespace L2
open PySem PySem.Spec PyProof.Rows
section
variable {CX : CXT} {P : Program} {w : World} {K : PySem.W.Frag} {mg : Str → Option Value} {base : Heap} {N : List Str} {qual : Str} {scope : Scope} {f : Addr} {cd : Value} {A : Around} {outer : List Env} {s : Shared} {H : Hp} {E : XK}
theorem cxOf_P : (cxOf CX P w K mg base N qual scope f cd A outer s H E).prog = P := rfl
theorem cxOf_w : (cxOf CX P w K mg base N qual scope f cd A outer s H E).w = w := rfl
theorem cxOf_mg : (cxOf CX P w K mg base N qual scope f cd A outer s H E).mg = mg := rfl
theorem cxOf_b : (cxOf CX P w K mg base N qual scope f cd A outer s H E).base = base := rfl
end
theorem pop_ok {K : PySem.W.Frag} {H : Hp} {l : Addr} {xs : List V} {y : V} {Q : VK} (h : H l = some (.lst (xs ++ [y]))) (q : Q y (upd H l (.lst xs))) : tyV K "list" (.ref l) H ∧ rPop (.ref l) [] H Q :=
  ⟨tyV_list h, l, xs ++ [y], y, rfl, rfl, h, by rw [List.length_append, List.length_singleton, Nat.add_sub_cancel, List.getElem?_append_right (Nat.le_refl _), Nat.sub_self]; rfl, by rw [List.dropLast_concat]; exact q⟩
end L2
namespace Pc
def eat : Nat → List Nat → Option Nat
  | 0, _ => some 0
  | _ + 1, [] => none
  | l + 1, a :: r => (eat (l + a) r).map (· + 1)
def pend : Nat → List Nat → Option Nat
  | l, [] => some l
  | 0, _ :: _ => none
  | l + 1, a :: r => pend (l + a) r
theorem eat_zero (r : List Nat) : eat 0 r = some 0 := by cases r <;> rfl
theorem eat_cons (l a : Nat) (r : List Nat) : eat (l + 1) (a :: r) = (eat (l + a) r).map (· + 1) := rfl
theorem pend_app : ∀ (xs ys : List Nat) (l : Nat), pend l (xs ++ ys) = (pend l xs).bind fun m => pend m ys
  | [], ys, l => by cases l <;> rfl
  | a :: r, ys, 0 => rfl
  | a :: r, ys, l + 1 => by
    show pend (l + a) (r ++ ys) = (pend (l + a) r).bind _
    exact pend_app r ys (l + a)
theorem pend_one (l a : Nat) (h : 0 < l) : pend l [a] = some (l - 1 + a) := by
  cases l with
  | zero => omega
  | succ l => show some (l + a) = some (l + 1 - 1 + a); rw [Nat.add_sub_cancel]
theorem pend_snoc (xs : List Nat) (a l d : Nat) (h : pend l xs = some d) (hd : 0 < d) : pend l (xs ++ [a]) = some (d - 1 + a) := by
  rw [pend_app, h]
  exact pend_one d a hd
theorem eat_le : ∀ (r : List Nat) (l n : Nat), eat l r = some n → n ≤ r.length
  | r, 0, n, h => by rw [eat_zero] at h; cases h; exact Nat.zero_le _
  | [], l + 1, n, h => by cases h
  | a :: r, l + 1, n, h => by
    rw [eat_cons] at h
    obtain ⟨m, hm, rfl⟩ := Option.map_eq_some_iff.mp h
    have := eat_le r (l + a) m hm
    rw [List.length_cons]
    omega
theorem pend_drop (r : List Nat) (l : Nat) (h : pend l r = some 0) (p : Nat) : ∃ m, pend m (r.drop p) = some 0 := by
  have e : r = r.take p ++ r.drop p := (List.take_append_drop p r).symm
  rw [e, pend_app] at h
  cases q : pend l (r.take p) with
  | none => rw [q] at h; cases h
  | some m => rw [q] at h; exact ⟨m, h⟩
theorem pend_pos {m : Nat} {r : List Nat} (h : pend m r = some 0) (hr : r ≠ []) : 0 < m := by
  cases r with
  | nil => exact absurd rfl hr
  | cons a r =>
    cases m with
    | zero => cases h
    | succ m => omega
theorem pend_split : ∀ (r : List Nat) (l m : Nat), pend (l + m) r = some 0 → ∃ n, eat l r = some n ∧ pend m (r.drop n) = some 0
  | r, 0, m, h => ⟨0, eat_zero r, by rw [Nat.zero_add] at h; exact h⟩
  | [], l + 1, m, h => by
    have : l + 1 + m = 0 := Option.some.inj h
    omega
  | a :: r, l + 1, m, h => by
    have e : l + 1 + m = (l + m) + 1 := by omega
    rw [e] at h
    have h' : pend (l + a + m) r = some 0 := by
      have e2 : l + a + m = l + m + a := by omega
      rw [e2]
      exact h
    obtain ⟨n, h1, h2⟩ := pend_split r (l + a) m h'
    exact ⟨n + 1, by rw [eat_cons, h1]; rfl, h2⟩
end Pc
namespace Pc
end Pc
namespace Pc
open PySem PySem.Spec L2 PyProof.Rows
abbrev letS : Str := "abcdefghijklmnopqrstuvwxyz"
abbrev figS : Str := "0123456789"
def keptV : List V := [.str "add", .str "sub", .str "mul", .str "neg", .str "any", .str "var", .str "put", .str "load", .str "out"]
def madeB (z y : Str) : Bool := z.cps.toList.all fun c => decide (c ∈ y.cps.toList)
def nameB (z : Str) : Bool := decide (1 ≤ z.length) && (decide (z.length ≤ 8) && (madeB z letS && !inV (.str z) keptV))
def figL (l : List Nat) : List Nat := if l.head? = some 45 then l.tail else l
def numB (z : Str) : Bool := decide (1 ≤ (figL z.cps.toList).length) && (decide ((figL z.cps.toList).length ≤ 60) && (((figL z.cps.toList).all fun c => decide (c ∈ figS.cps.toList)) && (decide (z.cps.toList = [48]) || decide ((figL z.cps.toList).head? ≠ some 48))))
def spMade : Sp := fun vs H Q _ => ∃ z y, vs = [.str z, .str y] ∧ z.length ≤ 1000 ∧ ∀ H', Same H H' → Q (.bl (madeB z y)) H'
theorem atI_in {α : Type} (l : List α) (k : Int) (h0 : 0 ≤ k) (h1 : k < (l.length : Int)) : ∃ c, atI l k = some c ∧ c ∈ l := by
  have hk : k.toNat < l.length := by omega
  have e : k = ((k.toNat : Nat) : Int) := by omega
  have q : atI l ((k.toNat : Nat) : Int) = some l[k.toNat] := atI_nat (List.getElem?_eq_getElem hk)
  rw [← e] at q
  exact ⟨_, q, List.getElem_mem hk⟩
theorem join_le (sep : Str) (ys : List Str) : (Txt.join sep ys).length ≤ (ys.map (·.length)).sum + ys.length * sep.length := by
  show (Builtin.Str.glued sep ys).length ≤ _
  rw [StrLaws.glued_eq_join]
  exact StrLaws.join_length_le sep ys
def Ones (i : Nat) (ys : List V) : Prop := ∃ zs : List Str, ys = zs.map V.str ∧ zs.length = i ∧ ∀ z ∈ zs, z.length = 1
def Txts (xs : List V) : Prop := ∀ v ∈ xs, ∃ z : Str, v = .str z ∧ z.length ≤ 1000
theorem one_len (x : Nat) : (⟨#[x]⟩ : Str).length = 1 := rfl
end Pc
namespace Pc
open PySem PySem.Spec L2 PyProof.Rows
abbrev parts : List (Key × V) := [(Sum.inr "add", .int 2), (Sum.inr "sub", .int 2), (Sum.inr "mul", .int 2), (Sum.inr "neg", .int 1)]
def arS (z : Str) : Nat := if z = "add" then 2 else if z = "sub" then 2 else if z = "mul" then 2 else if z = "neg" then 1 else 0
def arV : V → Nat
  | .str z => arS z
  | _ => 0
def isW (v : V) : Prop := ∃ k : Key, v = kV k
theorem isW.str (z : Str) : isW (.str z) := ⟨Sum.inr z, rfl⟩
theorem isW.int (i : Int) : isW (.int i) := ⟨Sum.inl i, rfl⟩
theorem val_parts (k : Key) : (valV parts k).getD (.int 0) = .int (arV (kV k)) := by
  cases k with
  | inl i => rfl
  | inr z =>
    show (valV parts (Sum.inr z)).getD (.int 0) = .int (arS z)
    unfold arS
    by_cases h1 : z = "add"
    · subst h1; rw [valV_pos rfl, if_pos rfl]; rfl
    rw [valV_neg (fun e => h1 (Sum.inr.inj e).symm), if_neg h1]
    by_cases h2 : z = "sub"
    · subst h2; rw [valV_pos rfl, if_pos rfl]; rfl
    rw [valV_neg (fun e => h2 (Sum.inr.inj e).symm), if_neg h2]
    by_cases h3 : z = "mul"
    · subst h3; rw [valV_pos rfl, if_pos rfl]; rfl
    rw [valV_neg (fun e => h3 (Sum.inr.inj e).symm), if_neg h3]
    by_cases h4 : z = "neg"
    · subst h4; rw [valV_pos rfl, if_pos rfl]; rfl
    rw [valV_neg (fun e => h4 (Sum.inr.inj e).symm), if_neg h4]
    rfl
theorem in_parts (z : Str) : (valV parts (Sum.inr z)).isSome = decide (0 < arS z) := by
  unfold arS
  by_cases h1 : z = "add"
  · subst h1; rw [valV_pos rfl, if_pos rfl]; rfl
  rw [valV_neg (fun e => h1 (Sum.inr.inj e).symm), if_neg h1]
  by_cases h2 : z = "sub"
  · subst h2; rw [valV_pos rfl, if_pos rfl]; rfl
  rw [valV_neg (fun e => h2 (Sum.inr.inj e).symm), if_neg h2]
  by_cases h3 : z = "mul"
  · subst h3; rw [valV_pos rfl, if_pos rfl]; rfl
  rw [valV_neg (fun e => h3 (Sum.inr.inj e).symm), if_neg h3]
  by_cases h4 : z = "neg"
  · subst h4; rw [valV_pos rfl, if_pos rfl]; rfl
  rw [valV_neg (fun e => h4 (Sum.inr.inj e).symm), if_neg h4]
  rfl
theorem arS_le (z : Str) : arS z ≤ 2 := by
  unfold arS
  repeat' split
  all_goals decide
theorem arV_le (v : V) : arV v ≤ 2 := by cases v <;> first | exact arS_le _ | exact Nat.zero_le _
theorem arS_cases {z : Str} (h : 0 < arS z) : z = "add" ∨ z = "sub" ∨ z = "mul" ∨ z = "neg" := by
  unfold arS at h
  by_cases h1 : z = "add"
  · exact .inl h1
  by_cases h2 : z = "sub"
  · exact .inr (.inl h2)
  by_cases h3 : z = "mul"
  · exact .inr (.inr (.inl h3))
  by_cases h4 : z = "neg"
  · exact .inr (.inr (.inr h4))
  rw [if_neg h1, if_neg h2, if_neg h3, if_neg h4] at h
  exact absurd h (by decide)
def digs (m : Nat) : List Nat := (Nat.toDigits 10 m).map Char.toNat
theorem mem_let (c : Nat) : c ∈ letS.cps.toList ↔ (97 ≤ c ∧ c ≤ 122) := by
  have e : letS.cps.toList = List.range' 97 26 := by decide +kernel
  rw [e, List.mem_range']
  constructor
  · rintro ⟨i, h1, h2⟩; omega
  · intro h; exact ⟨c - 97, by omega, by omega⟩
def okW : V → Prop
  | .int i => i.natAbs < 10 ^ 60
  | .str z => nameB z = true ∨ 0 < arS z
  | _ => False
def isTerm (ws : List V) : Prop := pend 1 (ws.map arV) = some 0
def spHow : Sp := fun vs H Q _ => ∃ v, vs = [v] ∧ isW v ∧ Q (.int (arV v)) H
end Pc
namespace Pc
open PySem PySem.Spec L2 PyProof.Rows
def Deck (H : Hp) (d b : Addr) (ns : List Int) (n : Nat) : Prop := H d = some (.lst [.ref b, .int (n : Int)]) ∧ H b = some (.lst (List.map V.int ns))
def SameB (d : Addr) (H H' : Hp) : Prop := ∀ b o, b ≠ d → H b = some o → H' b = some o
theorem SameB.refl (d : Addr) (H : Hp) : SameB d H H := fun _ _ _ h => h
theorem SameB.trans {d : Addr} {H H1 H2 : Hp} (a : SameB d H H1) (b : SameB d H1 H2) : SameB d H H2 := fun c o n h => b c o n (a c o n h)
theorem SameB.of {d : Addr} {H H' : Hp} (a : Same H H') : SameB d H H' := fun b o _ h => a b o h
theorem SameB.upd {d p : Addr} {H H' : Hp} (a : SameB d H H') (hp : H p = none) (o : HO) : SameB d H (L2.upd H' p o) := fun b u n h => by rw [upd_ne (ne_of_none h hp)]; exact a b u n h
theorem Deck.ne {H : Hp} {d b : Addr} {ns : List Int} {n : Nat} (h : Deck H d b ns n) : b ≠ d := ne_of h.2 h.1 (by intro e; cases ns <;> simp at e)
theorem Deck.next {H H' : Hp} {d b : Addr} {ns : List Int} {n k : Nat} (h : Deck H d b ns n) (s : SameB d H H') (e : H' d = some (.lst [.ref b, .int (k : Int)])) : Deck H' d b ns k := ⟨e, s b _ h.ne h.2⟩
theorem Deck.same {H H' : Hp} {d b : Addr} {ns : List Int} {n : Nat} (h : Deck H d b ns n) (s : Same H H') : Deck H' d b ns n := ⟨s _ _ h.1, s _ _ h.2⟩
def lenAt (H : Hp) (p : Addr) : Nat := match H p with | some (.lst ws) => ws.length | _ => 0
theorem lenAt_of {H : Hp} {p : Addr} {ws : List V} (h : H p = some (.lst ws)) : lenAt H p = ws.length := by unfold lenAt; rw [h]
def spNext : Sp := fun vs H Q _ => ∃ (d b : Addr) (ns : List Int) (n : Nat), vs = [.ref d] ∧ Deck H d b ns n ∧ n ≤ 100000 ∧ ∀ (c : Int) (H' : Hp), SameB d H H' → H' d = some (.lst [.ref b, .int ((n + 1 : Nat) : Int)]) → Q (.int c) H'
def Names (H : Hp) (l : Addr) (k : Nat) : Prop := ∃ zs : List Str, H l = some (.lst (List.map V.str zs)) ∧ zs.length = k ∧ ∀ z ∈ zs, nameB z = true
def TermAt (H : Hp) (t : Addr) (m : Nat) : Prop := ∃ ws : List V, H t = some (.tup ws) ∧ (∀ v ∈ ws, okW v) ∧ isTerm ws ∧ ws.length ≤ m
def spTerm (k : Nat) : Sp := fun vs H Q _ => ∃ (d b l : Addr) (ns : List Int) (m n : Nat), vs = [.ref d, .ref l, .int (m : Int)] ∧ Deck H d b ns n ∧ Names H l k ∧ 1 ≤ m ∧ m ≤ 200 ∧ n ≤ 10000 ∧ ∀ (t : Addr) (n' : Nat) (H' : Hp), SameB d H H' → H' d = some (.lst [.ref b, .int (n' : Int)]) → n' ≤ n + m → H t = none → TermAt H' t m → Q (.ref t) H'
theorem inV_str {z : Str} : ∀ {xs : List V}, inV (.str z) xs = true → .str z ∈ xs := by
  intro xs h
  unfold inV at h
  obtain ⟨y, hy, e⟩ := List.any_eq_true.mp h
  cases y with
  | str x =>
    have e' : x = z := by simpa [eqV] using e
    exact e' ▸ hy
  | _ => simp [eqV] at e
theorem let_at (k : Int) : ∃ c : Nat, atI letS.cps.toList (k % 26) = some (97 + c) ∧ c < 26 := by
  obtain ⟨c, h1, h2⟩ := atI_in letS.cps.toList (k % 26) (Int.emod_nonneg _ (by decide)) (by rw [show letS.cps.toList.length = 26 by decide +kernel]; omega)
  have h := (mem_let c).mp h2
  exact ⟨c - 97, by rw [show 97 + (c - 97) = c by omega]; exact h1, by omega⟩
def keptS : List Str := ["add", "sub", "mul", "neg", "any", "var", "put", "load", "out"]
theorem ar_neg : arS "neg" = 1 := by decide +kernel
theorem SameB.free {d t : Addr} {H H' : Hp} {o : HO} (s : SameB d H H') (hd : H' d = some o) (ht : H' t = none) : H t = none := by
  cases e : H t with
  | none => rfl
  | some u =>
    by_cases h : t = d
    · subst h; rw [hd] at ht; cases ht
    · rw [s t u h e] at ht; cases ht
theorem strs_at {zs : List Str} {k : Int} {n : Nat} (hn : zs.length = n) (h0 : 0 ≤ k) (h1 : k < (n : Int)) : ∃ z, atI (zs.map V.str) k = some (.str z) ∧ z ∈ zs := by
  obtain ⟨x, h1, h2⟩ := atI_in (zs.map V.str) k h0 (by rw [List.length_map, hn]; exact h1)
  obtain ⟨z, hz, rfl⟩ := List.mem_map.mp h2
  exact ⟨z, h1, hz⟩
theorem cut_ints (ns : List Int) (lo hi : Option Int) : ∃ ms : List Int, cutV (ns.map V.int) lo hi = ms.map V.int ∧ ms.length ≤ ns.length := by
  refine ⟨_, by unfold cutV; rw [← List.map_drop, ← List.map_take], ?_⟩
  rw [List.length_take, List.length_drop]
  omega
end Pc
namespace Pc
open PySem PySem.Spec L2 PyProof.Rows
def opN (z : Str) (a b : Int) : Int := if z = "add" then a + b else if z = "sub" then a - b else if z = "mul" then a * b else -a
def numW : V → Prop
  | .int _ => True
  | .str z => 0 < arS z
  | _ => False
def stepN (w : V) (st : List Int) : List Int := match w with
  | .int i => i :: st
  | .str z => opN z (st.getD 0 0) (st.getD 1 0) :: st.drop (arS z)
  | _ => 0 :: st
def runN (ws : List V) : List Int := ws.foldr stepN []
theorem runN_cons (w : V) (r : List V) : runN (w :: r) = stepN w (runN r) := rfl
theorem runN_len : ∀ (ws : List V) (l : Nat), (∀ v ∈ ws, numW v) → pend l (ws.map arV) = some 0 → (runN ws).length = l
  | [], l, _, h => by
    have : l = 0 := Option.some.inj h
    rw [this]; rfl
  | w :: r, 0, _, h => by cases h
  | w :: r, l + 1, hw, h => by
    have ih := runN_len r (l + arV w) (fun v hv => hw v (List.mem_cons_of_mem _ hv)) h
    rw [runN_cons]
    have hn := hw w List.mem_cons_self
    cases w with
    | int i =>
      show (i :: runN r).length = l + 1
      rw [List.length_cons, ih]
      rfl
    | str z =>
      show (_ :: (runN r).drop (arS z)).length = l + 1
      rw [List.length_cons, List.length_drop, ih]
      show l + arS z - arS z + 1 = l + 1
      omega
    | _ => exact hn.elim
theorem runN_app : ∀ (xs ys : List V) (l : Nat), (∀ v ∈ xs, numW v) → pend l (xs.map arV) = some 0 → runN (xs ++ ys) = runN xs ++ runN ys
  | [], ys, _, _, _ => rfl
  | w :: r, ys, 0, _, h => by cases h
  | w :: r, ys, l + 1, hw, h => by
    have hr : ∀ v ∈ r, numW v := fun v hv => hw v (List.mem_cons_of_mem _ hv)
    have ih := runN_app r ys (l + arV w) hr h
    have hlen := runN_len r (l + arV w) hr h
    have hn := hw w List.mem_cons_self
    rw [List.cons_append, runN_cons, runN_cons, ih]
    cases w with
    | int i => rfl
    | str z =>
      have ha : 0 < arS z := hn
      have hz : (runN r).length = l + arS z := hlen
      show opN z ((runN r ++ runN ys).getD 0 0) ((runN r ++ runN ys).getD 1 0) :: (runN r ++ runN ys).drop (arS z) = opN z ((runN r).getD 0 0) ((runN r).getD 1 0) :: ((runN r).drop (arS z) ++ runN ys)
      rw [List.drop_append_of_le_length (by omega)]
      have e0 : (runN r ++ runN ys).getD 0 0 = (runN r).getD 0 0 := by
        rw [List.getD_eq_getElem?_getD, List.getD_eq_getElem?_getD, List.getElem?_append_left (by omega)]
      rw [e0]
      by_cases h2 : arS z = 2
      · have e1 : (runN r ++ runN ys).getD 1 0 = (runN r).getD 1 0 := by
          rw [List.getD_eq_getElem?_getD, List.getD_eq_getElem?_getD, List.getElem?_append_left (by omega)]
        rw [e1]
      · have hneg : z = "neg" := by
          rcases arS_cases ha with rfl | rfl | rfl | rfl
          · exact absurd (by decide +kernel) h2
          · exact absurd (by decide +kernel) h2
          · exact absurd (by decide +kernel) h2
          · rfl
        subst hneg
        have : ∀ a b b' : Int, opN "neg" a b = opN "neg" a b' := fun a b b' => by
          have n1 : ¬ ("neg" : Str) = "add" := by decide +kernel
          have n2 : ¬ ("neg" : Str) = "sub" := by decide +kernel
          have n3 : ¬ ("neg" : Str) = "mul" := by decide +kernel
          unfold opN
          rw [if_neg n1, if_neg n2, if_neg n3, if_neg n1, if_neg n2, if_neg n3]
        rw [this]
    | _ => exact hn.elim
def mag (x : Int) : Nat := max x.natAbs 2
def prodM (st : List Int) : Nat := st.foldr (fun x p => mag x * p) 1
theorem mag2 (x : Int) : 2 ≤ mag x := Nat.le_max_right _ _
theorem prodM_pos : ∀ st : List Int, 1 ≤ prodM st
  | [] => Nat.le_refl _
  | x :: r => by
    show 1 ≤ mag x * prodM r
    have := mag2 x
    have h := prodM_pos r
    exact Nat.le_trans (by omega) (Nat.le_mul_of_pos_right (mag x) h)
theorem prodM_cons (x : Int) (r : List Int) : prodM (x :: r) = mag x * prodM r := rfl
theorem mag_le : ∀ (st : List Int) (x : Int), x ∈ st → mag x ≤ prodM st
  | y :: r, x, h => by
    rw [prodM_cons]
    rcases List.mem_cons.mp h with rfl | h
    · exact Nat.le_mul_of_pos_right _ (prodM_pos r)
    · exact Nat.le_trans (mag_le r x h) (Nat.le_mul_of_pos_left _ (by have := mag2 y; omega))
theorem mul_ge_add {u v : Nat} (hu : 2 ≤ u) (hv : 2 ≤ v) : u + v ≤ u * v := by
  obtain ⟨a, rfl⟩ : ∃ a, u = a + 2 := ⟨u - 2, by omega⟩
  obtain ⟨b, rfl⟩ : ∃ b, v = b + 2 := ⟨v - 2, by omega⟩
  have : (a + 2) * (b + 2) = a * b + 2 * a + 2 * b + 4 := by
    rw [Nat.add_mul, Nat.mul_add, Nat.mul_add]
    omega
  omega
theorem mag_op (z : Str) (a b : Int) : mag (opN z a b) ≤ mag a * mag b ∧ (z = "neg" → mag (opN z a b) = mag a) := by
  have ha := mag2 a
  have hb := mag2 b
  have hs := mul_ge_add ha hb
  have la : a.natAbs ≤ mag a := Nat.le_max_left _ _
  have lb : b.natAbs ≤ mag b := Nat.le_max_left _ _
  have le : ∀ n : Nat, n ≤ mag a * mag b → max n 2 ≤ mag a * mag b := fun n h => Nat.max_le.mpr ⟨h, by omega⟩
  constructor
  · unfold opN
    split
    · exact le _ (by have := Int.natAbs_add_le a b; omega)
    split
    · exact le _ (by have := Int.natAbs_sub_le a b; omega)
    split
    · refine le _ ?_
      rw [Int.natAbs_mul]
      exact Nat.mul_le_mul la lb
    · refine le _ ?_
      rw [Int.natAbs_neg]
      have : mag a ≤ mag a * mag b := Nat.le_mul_of_pos_right _ (by omega)
      omega
  · intro e
    have n1 : ¬ ("neg" : Str) = "add" := by decide +kernel
    have n2 : ¬ ("neg" : Str) = "sub" := by decide +kernel
    have n3 : ¬ ("neg" : Str) = "mul" := by decide +kernel
    subst e
    unfold opN
    rw [if_neg n1, if_neg n2, if_neg n3]
    show max (-a).natAbs 2 = max a.natAbs 2
    rw [Int.natAbs_neg]
def leafB : V → Prop
  | .int i => mag i ≤ 2 ^ 200
  | _ => True
theorem runN_size : ∀ (ws : List V) (l : Nat), (∀ v ∈ ws, numW v ∧ leafB v) → pend l (ws.map arV) = some 0 → prodM (runN ws) ≤ 2 ^ (200 * ws.length)
  | [], _, _, _ => Nat.le_refl _
  | w :: r, 0, _, h => by cases h
  | w :: r, l + 1, hw, h => by
    have hr : ∀ v ∈ r, numW v ∧ leafB v := fun v hv => hw v (List.mem_cons_of_mem _ hv)
    have ih := runN_size r (l + arV w) hr h
    have hlen := runN_len r (l + arV w) (fun v hv => (hr v hv).1) h
    have hn := hw w List.mem_cons_self
    have e : 200 * (w :: r).length = 200 + 200 * r.length := by rw [List.length_cons]; omega
    rw [runN_cons, e, Nat.pow_add]
    have hp : 1 ≤ 2 ^ 200 := Nat.one_le_two_pow
    cases w with
    | int i =>
      show mag i * prodM (runN r) ≤ _
      exact Nat.mul_le_mul hn.2 ih
    | str z =>
      have ha : 0 < arS z := hn.1
      have hz : (runN r).length = l + arS z := hlen
      show mag (opN z ((runN r).getD 0 0) ((runN r).getD 1 0)) * prodM ((runN r).drop (arS z)) ≤ _
      refine Nat.le_trans ?_ (Nat.le_trans ih (Nat.le_mul_of_pos_left _ hp))
      by_cases hneg : z = "neg"
      · have h1 : arS z = 1 := by rw [hneg]; exact ar_neg
        rw [h1] at hz ⊢
        obtain ⟨a, t, et⟩ : ∃ a t, runN r = a :: t := List.exists_cons_of_ne_nil (by intro q; rw [q] at hz; simp at hz)
        rw [et, (mag_op z _ _).2 hneg]
        exact Nat.le_refl _
      · have h2 : arS z = 2 := by
          rcases arS_cases ha with rfl | rfl | rfl | rfl
          · decide +kernel
          · decide +kernel
          · decide +kernel
          · exact absurd rfl hneg
        rw [h2] at hz ⊢
        obtain ⟨a, t, et⟩ : ∃ a t, runN r = a :: t := List.exists_cons_of_ne_nil (by intro q; rw [q] at hz; simp at hz)
        rw [et] at hz ⊢
        obtain ⟨b, t', et'⟩ : ∃ b t', t = b :: t' := List.exists_cons_of_ne_nil (by intro q; rw [q] at hz; simp at hz)
        rw [et']
        show mag (opN z a b) * prodM t' ≤ mag a * (mag b * prodM t')
        rw [← Nat.mul_assoc]
        exact Nat.mul_le_mul_right _ (mag_op z a b).1
    | _ => exact hn.1.elim
end Pc
namespace L2
open PySem PySem.Spec PyProof.Rows
def bitsOk (i : Int) : Prop := ∃ n, n ≤ 1000000 ∧ i.natAbs < 2 ^ n
theorem bitsOk.le {i : Int} (h : bitsOk i) : Builtin.Int.intBits i ≤ 2 ^ 20 := by
  obtain ⟨n, hn, hi⟩ := h
  unfold Builtin.Int.intBits
  split
  · exact Nat.zero_le _
  · rename_i h0
    have hne : i.natAbs ≠ 0 := by
      intro e
      exact h0 (by rw [Int.natAbs_eq_zero.mp e]; rfl)
    have := (Nat.log2_lt hne).mpr hi
    have e : (2 : Nat) ^ 20 = 1048576 := rfl
    omega
def CBits (i j : Int) : Prop := bitsOk i ∧ bitsOk j
theorem op_mulB {X : Cx} : OpR X (binaryOp .Mult) (rI CBits fun i j => .int (i * j)) := opI fun _ _ _ _ _ _ _ hc q => mul_int q (IntMulOk.of_bits hc.1.le hc.2.le)
theorem FnV.up {P : Program} {w : World} {K : PySem.W.Frag} {mg : Str → Option Value} {base : Heap} {j k : Nat} {ps : List Str} {sp : Sp} {v : V} (h : FnV P w K mg base j ps sp v) (l : j ≤ k) : FnV P w K mg base k ps sp v := by
  obtain ⟨f, fd, e, F, r⟩ := h
  exact ⟨f, fd, e, F.mono l, r⟩
end L2
namespace Pc
open PySem PySem.Spec L2 PyProof.Rows
theorem bits_of_run {ws : List V} {l : Nat} (hw : ∀ v ∈ ws, numW v ∧ leafB v) (h : pend l (ws.map arV) = some 0) (hl : ws.length ≤ 1000) {x : Int} (hx : x ∈ runN ws) : bitsOk x := by
  refine ⟨200 * ws.length + 1, by omega, ?_⟩
  have h1 := mag_le _ _ hx
  have h2 := runN_size ws l hw h
  have h3 : x.natAbs ≤ mag x := Nat.le_max_left _ _
  rw [Nat.pow_succ]
  have h4 : 1 ≤ 2 ^ (200 * ws.length) := Nat.one_le_two_pow
  omega
def ValsAt (H : Hp) (a : Addr) (ρ : Str → Option Int) : Prop := ∃ kvs : List (Key × V), H a = some (.dK kvs) ∧ ∀ z, valV kvs (Sum.inr z) = (ρ z).map V.int
theorem ValsAt.same {H H' : Hp} {a : Addr} {ρ : Str → Option Int} (h : ValsAt H a ρ) (s : Same H H') : ValsAt H' a ρ := by
  obtain ⟨kvs, h1, h2⟩ := h
  exact ⟨kvs, s _ _ h1, h2⟩
def valW (ρ : Str → Option Int) : V → V
  | .str z => if 0 < arS z then .str z else .int ((ρ z).getD 0)
  | v => v
def hasV (ρ : Str → Option Int) : V → Prop
  | .str z => 0 < arS z ∨ (ρ z).isSome = true
  | _ => True
theorem arV_valW (ρ : Str → Option Int) (v : V) : arV (valW ρ v) = arV v := by
  cases v with
  | str z =>
    show arV (if 0 < arS z then V.str z else V.int _) = arS z
    split
    · rfl
    · show 0 = arS z
      omega
  | _ => rfl
theorem map_arV (ρ : Str → Option Int) (ws : List V) : (ws.map (valW ρ)).map arV = ws.map arV := by
  rw [List.map_map]
  exact List.map_congr_left fun v _ => arV_valW ρ v
theorem numW_valW {ρ : Str → Option Int} {v : V} (h : isW v) : numW (valW ρ v) := by
  obtain ⟨k, rfl⟩ := h
  cases k with
  | inl i => exact True.intro
  | inr z =>
    show numW (if 0 < arS z then V.str z else V.int _)
    by_cases h : 0 < arS z
    · rw [if_pos h]; exact h
    · rw [if_neg h]; exact True.intro
def worthN (ρ : Str → Option Int) (ws : List V) : Int := (runN (ws.map (valW ρ))).getD 0 0
def spJoinN : Sp := fun vs H Q _ => ∃ (z : Str) (pl : Addr) (xs : List Int), vs = [.str z, .ref pl] ∧ 0 < arS z ∧ H pl = some (.lst (List.map V.int xs)) ∧ xs.length = arS z ∧ (∀ x ∈ xs, bitsOk x) ∧ Q (.int (opN z (xs.getD 0 0) (xs.getD 1 0))) H
def spFoldN (P : Program) (w : World) (K : PySem.W.Frag) (mg : Str → Option Value) (base : Heap) : Sp := fun vs H Q _ => ∃ (l : Addr) (fv : V) (ws : List V), vs = [.ref l, fv] ∧ FnV P w K mg base 1 ["word", "parts"] spJoinN fv ∧ SqL K H l ws ∧ (∀ v ∈ ws, numW v ∧ leafB v) ∧ isTerm ws ∧ ws.length ≤ 1000 ∧ ∀ H', Same H H' → Q (.int ((runN ws).getD 0 0)) H'
def spWithN : Sp := fun vs H Q _ => ∃ (v : V) (a : Addr) (ρ : Str → Option Int), vs = [v, .ref a] ∧ isW v ∧ ValsAt H a ρ ∧ hasV ρ v ∧ Q (valW ρ v) H
def spWorth (K : PySem.W.Frag) : Sp := fun vs H Q _ => ∃ (t a : Addr) (ws : List V) (ρ : Str → Option Int), vs = [.ref t, .ref a] ∧ SqT K H t ws ∧ ValsAt H a ρ ∧ (∀ v ∈ ws, isW v ∧ hasV ρ v ∧ leafB (valW ρ v)) ∧ isTerm ws ∧ ws.length ≤ 1000 ∧ ∀ H', Same H H' → Q (.int (worthN ρ ws)) H'
end Pc
namespace Pc
open PySem PySem.Spec L2 PyProof.Rows
theorem pend_le : ∀ (r : List Nat) (l : Nat), pend l r = some 0 → l ≤ r.length
  | [], l, h => by
    have : l = 0 := Option.some.inj h
    omega
  | a :: r, 0, h => by cases h
  | a :: r, l + 1, h => by
    have := pend_le r (l + a) h
    rw [List.length_cons]
    omega
theorem opN_neg (a b b' : Int) : opN "neg" a b = opN "neg" a b' := by
  have n1 : ¬ ("neg" : Str) = "add" := by decide +kernel
  have n2 : ¬ ("neg" : Str) = "sub" := by decide +kernel
  have n3 : ¬ ("neg" : Str) = "mul" := by decide +kernel
  unfold opN
  rw [if_neg n1, if_neg n2, if_neg n3, if_neg n1, if_neg n2, if_neg n3]
theorem op_take {z : Str} (hz : 0 < arS z) (st : List Int) : opN z ((st.take (arS z)).getD 0 0) ((st.take (arS z)).getD 1 0) = opN z (st.getD 0 0) (st.getD 1 0) := by
  have g : ∀ i, i < arS z → (st.take (arS z)).getD i 0 = st.getD i 0 := fun i hi => by
    rw [List.getD_eq_getElem?_getD, List.getD_eq_getElem?_getD, List.getElem?_take_of_lt hi]
  rw [g 0 hz]
  by_cases h2 : arS z = 2
  · rw [g 1 (by omega)]
  · have hneg : z = "neg" := by
      rcases arS_cases hz with rfl | rfl | rfl | rfl
      · exact absurd (by decide +kernel) h2
      · exact absurd (by decide +kernel) h2
      · exact absurd (by decide +kernel) h2
      · rfl
    subst hneg
    exact opN_neg _ _ _
theorem pend_eat : ∀ (r : List Nat) (k n l : Nat), eat k r = some n → pend (l + k) r = pend l (r.drop n)
  | r, 0, n, l, h => by rw [eat_zero] at h; cases h; rfl
  | [], k + 1, n, l, h => by cases h
  | a :: r, k + 1, n, l, h => by
    rw [eat_cons] at h
    obtain ⟨m, hm, rfl⟩ := Option.map_eq_some_iff.mp h
    show pend (l + k + a) r = pend l (r.drop m)
    rw [show l + k + a = l + (k + a) by omega]
    exact pend_eat r (k + a) m l hm
theorem eat_take : ∀ (r : List Nat) (k n : Nat), eat k r = some n → pend k (r.take n) = some 0
  | r, 0, n, h => by rw [eat_zero] at h; cases h; rfl
  | [], k + 1, n, h => by cases h
  | a :: r, k + 1, n, h => by
    rw [eat_cons] at h
    obtain ⟨m, hm, rfl⟩ := Option.map_eq_some_iff.mp h
    show pend (k + a) (r.take m) = some 0
    exact eat_take r (k + a) m hm
theorem eat_app : ∀ (xs ys : List Nat) (k : Nat), pend k xs = some 0 → eat k (xs ++ ys) = some xs.length
  | [], ys, k, h => by
    have : k = 0 := Option.some.inj h
    rw [this, eat_zero]
    rfl
  | a :: r, ys, 0, h => by cases h
  | a :: r, ys, k + 1, h => by
    rw [List.cons_append, eat_cons, eat_app r ys (k + a) h]
    rfl
theorem eat_pos : ∀ (r : List Nat) (k n : Nat), eat (k + 1) r = some n → 0 < n
  | [], k, n, h => by cases h
  | a :: r, k, n, h => by
    rw [eat_cons] at h
    obtain ⟨m, hm, rfl⟩ := Option.map_eq_some_iff.mp h
    omega
theorem part_at {ws : List V} (h : isTerm ws) {p : Nat} (hp : p < ws.length) : ∃ m n, pend 1 ((ws.take p).map arV) = some (m + 1) ∧ eat 1 ((ws.drop p).map arV) = some n ∧ pend m ((ws.drop (p + n)).map arV) = some 0 ∧ 0 < n ∧ p + n ≤ ws.length := by
  have e : ws.map arV = (ws.take p).map arV ++ (ws.drop p).map arV := by rw [← List.map_append, List.take_append_drop]
  have h' := h
  unfold isTerm at h'
  rw [e, pend_app] at h'
  cases q : pend 1 ((ws.take p).map arV) with
  | none => rw [q] at h'; cases h'
  | some m =>
    rw [q] at h'
    have h2 : pend m ((ws.drop p).map arV) = some 0 := h'
    have hpos : 0 < m := pend_pos h2 (by intro z; have := congrArg List.length z; rw [List.length_map, List.length_drop] at this; simp at this; omega)
    obtain ⟨m', rfl⟩ : ∃ m', m = m' + 1 := ⟨m - 1, by omega⟩
    rw [Nat.add_comm] at h2
    obtain ⟨n, h3, h4⟩ := pend_split _ 1 m' h2
    have h5 := eat_le _ _ _ h3
    rw [List.length_map, List.length_drop] at h5
    refine ⟨m', n, rfl, h3, ?_, eat_pos _ 0 _ h3, by omega⟩
    rw [← List.map_drop, List.drop_drop] at h4
    exact h4
theorem part_term {ws : List V} {p n : Nat} (h : eat 1 ((ws.drop p).map arV) = some n) : isTerm ((ws.drop p).take n) := by
  have := eat_take _ _ _ h
  rw [← List.map_take] at this
  exact this
theorem put_term {ws us : List V} (h : isTerm ws) {p n : Nat} (hp : p < ws.length) (hn : eat 1 ((ws.drop p).map arV) = some n) (hu : isTerm us) : isTerm (ws.take p ++ us ++ ws.drop (p + n)) := by
  obtain ⟨m, n', h1, h2, h3, _, _⟩ := part_at h hp
  rw [h2] at hn
  cases hn
  show pend 1 (List.map arV _) = some 0
  rw [List.append_assoc, List.map_append, pend_app, h1]
  show pend (m + 1) _ = some 0
  rw [List.map_append, pend_eat _ 1 _ m (eat_app _ _ 1 hu), List.drop_left]
  exact h3
def runW (ρ : Str → Option Int) (ws : List V) : List Int := runN (ws.map (valW ρ))
theorem runW_app {ρ : Str → Option Int} {xs ys : List V} {l : Nat} (hx : ∀ v ∈ xs, isW v) (h : pend l (xs.map arV) = some 0) : runW ρ (xs ++ ys) = runW ρ xs ++ runW ρ ys := by
  unfold runW
  rw [List.map_append]
  refine runN_app _ _ l (fun v hv => ?_) (by rw [map_arV]; exact h)
  obtain ⟨u, hu, rfl⟩ := List.mem_map.mp hv
  exact numW_valW (hx u hu)
theorem runW_len {ρ : Str → Option Int} {xs : List V} {l : Nat} (hx : ∀ v ∈ xs, isW v) (h : pend l (xs.map arV) = some 0) : (runW ρ xs).length = l := by
  refine runN_len _ l (fun v hv => ?_) (by rw [map_arV]; exact h)
  obtain ⟨u, hu, rfl⟩ := List.mem_map.mp hv
  exact numW_valW (hx u hu)
theorem runW_one {ρ : Str → Option Int} {xs : List V} (hx : ∀ v ∈ xs, isW v) (h : isTerm xs) : runW ρ xs = [worthN ρ xs] := by
  have hl := runW_len (ρ := ρ) hx h
  have e : worthN ρ xs = (runW ρ xs).getD 0 0 := rfl
  rw [e]
  match runW ρ xs, hl with
  | [x], _ => rfl
theorem worth_put {ρ : Str → Option Int} {pre us rest : List V} (hx : ∀ v ∈ us, isW v) (h : isTerm us) : worthN ρ (pre ++ us ++ rest) = worthN ρ (pre ++ [.int (worthN ρ us)] ++ rest) := by
  have e : runW ρ (us ++ rest) = runW ρ ([.int (worthN ρ us)] ++ rest) := by
    rw [runW_app hx h, runW_one hx h]
    rfl
  have pr : ∀ ys, runW ρ (pre ++ ys) = (pre.map (valW ρ)).foldr stepN (runW ρ ys) := fun ys => by
    unfold runW runN
    rw [List.map_append, List.foldr_append]
  show (runW ρ _).getD 0 0 = (runW ρ _).getD 0 0
  rw [List.append_assoc, List.append_assoc, pr, pr, e]
theorem cut_part (ws : List V) (p n : Nat) (h : p + n ≤ ws.length) : cutV ws (some (p : Int)) (some ((p : Int) + (n : Int))) = (ws.drop p).take n := by
  unfold cutV
  rw [show (p : Int) + (n : Int) = ((p + n : Nat) : Int) by omega, HT.sIx_nat, HT.sIx_nat, Nat.min_eq_left h, Nat.min_eq_left (by omega)]
  congr 1
  omega
theorem cut_head (ws : List V) (p : Nat) (h : p ≤ ws.length) : cutV ws none (some (p : Int)) = ws.take p := by
  unfold cutV
  rw [HT.sIx_nat, HT.sIx_none, Nat.min_eq_left h]
  rfl
theorem cut_tail (ws : List V) (p n : Nat) (h : p + n ≤ ws.length) : cutV ws (some ((p : Int) + (n : Int))) none = ws.drop (p + n) := by
  unfold cutV
  rw [show (p : Int) + (n : Int) = ((p + n : Nat) : Int) by omega, HT.sIx_nat, HT.sIx_none, Nat.min_eq_left h]
  apply List.take_of_length_le
  rw [List.length_drop]
  omega
def lowW (ρ : Str → Option Int) (v : V) : Prop := isW v ∧ hasV ρ v ∧ ∀ i, valW ρ v = .int i → mag i ≤ 2 ^ 7
theorem three_in {x : V} (hx : isW x) : (inV x [V.str "add", V.str "sub", V.str "mul"] = true) ↔ arV x = 2 := by
  obtain ⟨k, rfl⟩ := hx
  cases k with
  | inl i =>
    constructor
    · intro h
      exact absurd h (by simp [inV, eqV, kV])
    · intro h
      exact absurd h (by show ¬ (0 = 2); decide)
  | inr z =>
    show (inV (.str z) _ = true) ↔ arS z = 2
    constructor
    · intro h
      have := inV_str h
      simp only [List.mem_cons, List.not_mem_nil, or_false, V.str.injEq] at this
      rcases this with rfl | rfl | rfl <;> decide +kernel
    · intro h
      rcases arS_cases (z := z) (by omega) with rfl | rfl | rfl | rfl
      · decide +kernel
      · decide +kernel
      · decide +kernel
      · rw [ar_neg] at h
        exact absurd h (by decide)
theorem neg_is {x : V} (hx : isW x) (h : ¬ arV x = 2) : x = .str "neg" ↔ arV x = 1 := by
  constructor
  · intro e
    rw [e]
    exact ar_neg
  · intro e
    cases x with
    | str z =>
      have e : arS z = 1 := e
      have h : ¬ arS z = 2 := h
      rcases arS_cases (z := z) (by omega) with rfl | rfl | rfl | rfl
      · exact absurd (by decide +kernel) h
      · exact absurd (by decide +kernel) h
      · exact absurd (by decide +kernel) h
      · rfl
    | _ => exact absurd e (by show ¬ (0 = 1); decide)
def six : List Str := ["a", "b", "ab", "kind", "addd", "neon"]
def okL : V → Prop
  | .int i => i.natAbs ≤ 100
  | .str z => z ∈ six ∨ 0 < arS z
  | _ => False
def LawTerm (H : Hp) (t : Addr) (m : Nat) (ws : List V) : Prop := H t = some (.tup ws) ∧ (∀ v ∈ ws, okL v) ∧ isTerm ws ∧ ws.length ≤ m
def intAt (σ : L2.St) (i : Nat) : Nat := match σ[i]? with | some (some (.int x)) => x.toNat | _ => 0
def spBehind (K : PySem.W.Frag) : Sp := fun vs H Q _ => ∃ (t : Addr) (ws : List V) (p n : Nat), vs = [.ref t, .int (p : Int)] ∧ SqT K H t ws ∧ (∀ v ∈ ws, isW v) ∧ ws.length ≤ 1000 ∧ eat 1 ((ws.drop p).map arV) = some n ∧ ∀ H', Same H H' → Q (.int ((p : Int) + (n : Int))) H'
def lawV (ρ : Str → Option Int) : Prop := ∀ z ∈ six, ∃ i, ρ z = some i ∧ i.natAbs ≤ 100
def valsOk (i : Nat) (kvs : List (Key × V)) : Prop := (∀ z v, valV kvs (Sum.inr z) = some v → ∃ x : Int, v = .int x) ∧ ∀ z ∈ six.take i, ∃ x : Int, valV kvs (Sum.inr z) = some (.int x) ∧ x.natAbs ≤ 100
end Pc
namespace L2.Srt
open PySem PySem.W PyProof.Rows
section
variable {cmp : Nat → Nat → (Bool → Shared → Prop) → Shared → Prop} {N : Nat} {r : Nat → Int} {s : Shared}
def Cmp (cmp : Nat → Nat → (Bool → Shared → Prop) → Shared → Prop) (N : Nat) (r : Nat → Int) (s : Shared) : Prop := ∀ i j C, i < N → j < N → C (decide (r i < r j)) s → cmp i j C s
def PermR (N : Nat) (p : Array Nat) : Prop := p.toList.Perm (List.range N)
theorem PermR.size {p : Array Nat} (h : PermR N p) : p.size = N := by
  have := h.length_eq
  rw [Array.length_toList, List.length_range] at this
  exact this
theorem PermR.lt {p : Array Nat} (h : PermR N p) {k : Nat} (hk : k < N) : p.getD k 0 < N := by
  have hs := h.size
  have e : p.getD k 0 = p[k]'(by omega) := by simp [Array.getD, hs, hk]
  rw [e]
  have : p[k]'(by omega) ∈ p.toList := by simp
  exact List.mem_range.mp (h.mem_iff.mp this)
theorem PermR.of {p q : Array Nat} (h : PermR N p) (e : q.Perm p) : PermR N q := (Array.perm_iff_toList_perm.mp e).trans h
def R (r : Nat → Int) (p : Array Nat) (i : Nat) : Int := r (p.getD i 0)
theorem R_congr {p q : Array Nat} {i j : Nat} (h : p[i]? = q[j]?) : R r p i = R r q j := by
  unfold R
  rw [Array.getD_eq_getD_getElem?, Array.getD_eq_getD_getElem?, h]
def Inc (r : Nat → Int) (p : Array Nat) (k : Nat) : Prop := ∀ i j, i ≤ j → j < k → R r p i ≤ R r p j
def Dec (r : Nat → Int) (p : Array Nat) (k : Nat) : Prop := ∀ i j, i ≤ j → j < k → R r p j ≤ R r p i
theorem R_mirror {p : Array Nat} {i j : Nat} (hj : j ≤ p.size) (k : Nat) : R r (kas_rev p i j) k = if i ≤ k ∧ k < j then R r p (i + j - 1 - k) else R r p k := by
  have e := getElem?_mirror_all (i := i) hj k
  by_cases h1 : i ≤ k ∧ k < j
  · rw [if_pos h1] at e ⊢; exact R_congr e
  · rw [if_neg h1] at e ⊢; exact R_congr e
theorem R_mirror_equal {p : Array Nat} {i j : Nat} (hj : j ≤ p.size) (heq : ∀ k, i ≤ k → k < j → R r p k = R r p (j - 1)) (k : Nat) : R r (kas_rev p i j) k = R r p k := by
  rw [R_mirror hj]
  split
  · rename_i h
    rw [heq _ (by omega) (by omega), heq k h.1 h.2]
  · rfl
theorem rev_perm {p : Array Nat} {i j : Nat} (h : PermR N p) : PermR N (kas_rev p i j) := h.of (mirror_perm _ _ _ _)
theorem R_bubble {p : Array Nat} {src d : Nat} (hs : src < p.size) (hd : d ≤ src) (k : Nat) :
    R r (bubble p src d) k = if k = src - d then R r p src else if src - d < k ∧ k ≤ src then R r p (k - 1) else R r p k := by
  have e := getElem?_bubble hs d hd k
  by_cases h1 : k = src - d
  · rw [if_pos h1] at e ⊢; exact R_congr e
  · rw [if_neg h1] at e ⊢
    by_cases h2 : src - d < k ∧ k ≤ src
    · rw [if_pos h2] at e ⊢; exact R_congr e
    · rw [if_neg h2] at e ⊢; exact R_congr e
theorem Inc.more {p : Array Nat} {k : Nat} (h : Inc r p k) (hk : 1 ≤ k) (e : R r p (k - 1) ≤ R r p k) : Inc r p (k + 1) := by
  intro i j hij hj
  by_cases h1 : j < k
  · exact h i j hij h1
  · have : j = k := by omega
    subst this
    by_cases h2 : i = j
    · subst h2; exact Int.le_refl _
    · have := h i (j - 1) (by omega) (by omega)
      omega
theorem Dec.more {p : Array Nat} {k : Nat} (h : Dec r p k) (hk : 1 ≤ k) (e : R r p k ≤ R r p (k - 1)) : Dec r p (k + 1) := by
  intro i j hij hj
  by_cases h1 : j < k
  · exact h i j hij h1
  · have : j = k := by omega
    subst this
    by_cases h2 : i = j
    · subst h2; exact Int.le_refl _
    · have := h i (j - 1) (by omega) (by omega)
      omega
theorem wp_asc (hc : Cmp cmp N r s) {p : Array Nat} (hp : PermR N p) {Q : Nat → Shared → Prop} : ∀ (f n : Nat), 1 ≤ n → n + f ≤ N → Inc r p n → (∀ m, n ≤ m → m ≤ n + f → Inc r p m → (m = n + f ∨ R r p m < R r p (m - 1)) → Q m s) → (kas_asc p f n).kasWp cmp Q s
  | 0, n, _, _, hi, q => q n (Nat.le_refl _) (Nat.le_refl _) hi (.inl rfl)
  | f + 1, n, h1, hn, hi, q => by
    show cmp _ _ _ s
    refine hc _ _ _ (hp.lt (by omega)) (hp.lt (by omega)) ?_
    by_cases c : r (p.getD n 0) < r (p.getD (n - 1) 0)
    · rw [decide_eq_true c]
      show KasT.kasWp cmp (if true = true then _ else _) Q s
      rw [if_pos rfl]
      exact q n (Nat.le_refl _) (by omega) hi (.inr c)
    · rw [decide_eq_false c]
      show KasT.kasWp cmp (if false = true then _ else _) Q s
      rw [if_neg (by decide)]
      exact wp_asc hc hp f (n + 1) (by omega) (by omega) (hi.more h1 (by have : R r p n = r (p.getD n 0) := rfl; have : R r p (n - 1) = r (p.getD (n - 1) 0) := rfl; omega)) fun m a b c d => q m (by omega) (by omega) c (d.elim (fun d => .inl (by omega)) .inr)
theorem wp_desc (hc : Cmp cmp N r s) {Q : Array Nat × Nat × Nat → Shared → Prop} : ∀ (f : Nat) (p : Array Nat) (n k : Nat), PermR N p → 1 ≤ n → n + f ≤ N → Dec r p n → k + 1 ≤ n → (∀ i, n - (k + 1) ≤ i → i < n → R r p i = R r p (n - 1)) →
    (∀ p' n' k', PermR N p' → n ≤ n' → n' ≤ N → Dec r p' n' → k' + 1 ≤ n' → (∀ i, n' - (k' + 1) ≤ i → i < n' → R r p' i = R r p' (n' - 1)) → Q (p', n', k') s) → (kas_desc f p n k).kasWp cmp Q s
  | 0, p, n, k, hp, _, hn, hd, hk, he, q => q p n k hp (Nat.le_refl _) (by omega) hd hk he
  | f + 1, p, n, k, hp, h1, hn, hd, hk, he, q => by
    show cmp _ _ _ s
    refine hc _ _ _ (hp.lt (by omega)) (hp.lt (by omega)) ?_
    have hsz := hp.size
    have e1 : R r p n = r (p.getD n 0) := rfl
    have e2 : R r p (n - 1) = r (p.getD (n - 1) 0) := rfl
    by_cases c : r (p.getD n 0) < r (p.getD (n - 1) 0)
    · rw [decide_eq_true c]
      show KasT.kasWp cmp (if true = true then _ else _) Q s
      rw [if_pos rfl]
      by_cases hk0 : k > 0
      · rw [if_pos hk0]
        have eq := R_mirror_equal (r := r) (p := p) (i := n - (k + 1)) (j := n) (by omega) he
        refine wp_desc hc f _ (n + 1) 0 (rev_perm hp) (by omega) (by omega) ?_ (by omega) (fun i a b => by rw [show i = n + 1 - 1 by omega]) fun p' n' k' a b c d e g => q p' n' k' a (by omega) c d e g
        intro i j hij hj
        rw [eq, eq]
        exact (hd.more h1 (by omega)) i j hij hj
      · rw [if_neg hk0]
        exact wp_desc hc f p (n + 1) 0 hp (by omega) (by omega) (hd.more h1 (by omega)) (by omega) (fun i a b => by rw [show i = n + 1 - 1 by omega]) fun p' n' k' a b c d e g => q p' n' k' a (by omega) c d e g
    · rw [decide_eq_false c]
      show KasT.kasWp cmp (if false = true then _ else _) Q s
      rw [if_neg (by decide)]
      show cmp _ _ _ s
      refine hc _ _ _ (hp.lt (by omega)) (hp.lt (by omega)) ?_
      by_cases c2 : r (p.getD (n - 1) 0) < r (p.getD n 0)
      · rw [decide_eq_true c2]
        show KasT.kasWp cmp (if true = true then _ else _) Q s
        rw [if_pos rfl]
        exact q p n k hp (Nat.le_refl _) (by omega) hd hk he
      · rw [decide_eq_false c2]
        show KasT.kasWp cmp (if false = true then _ else _) Q s
        rw [if_neg (by decide)]
        refine wp_desc hc f p (n + 1) (k + 1) hp (by omega) (by omega) (hd.more h1 (by omega)) (by omega) (fun i a b => ?_) fun p' n' k' a b c d e g => q p' n' k' a (by omega) c d e g
        by_cases hi : i < n
        · rw [he i (by omega) hi, show n + 1 - 1 = n by omega]
          omega
        · rw [show i = n + 1 - 1 by omega]
theorem wp_tail3 (hc : Cmp cmp N r s) {p : Array Nat} (hp : PermR N p) {n : Nat} (h1 : 1 ≤ n) (hn : n ≤ N) (hd : Dec r p n) {Q : Nat × Array Nat → Shared → Prop} (q : ∀ m p', PermR N p' → 1 ≤ m → m ≤ N → Inc r p' m → Q (m, p') s) : (kas_tail3 n N p).kasWp cmp Q s := by
  unfold kas_tail3
  rw [KasT.kasWp_bind]
  have hsz := hp.size
  refine wp_asc hc (rev_perm hp) (N - n) n h1 (by omega) (fun i j hij hj => ?_) fun m a b c d => q m _ (rev_perm hp) (by omega) (by omega) c
  rw [R_mirror (by omega), R_mirror (by omega), if_pos ⟨Nat.zero_le _, by omega⟩, if_pos ⟨Nat.zero_le _, hj⟩]
  exact hd _ _ (by omega) (by omega)
theorem wp_descPart (hc : Cmp cmp N r s) {p : Array Nat} (hp : PermR N p) {n : Nat} (h1 : 1 ≤ n) (hn : n + 1 ≤ N) (hd : Dec r p (n + 1)) {Q : Nat × Array Nat → Shared → Prop} (q : ∀ m p', PermR N p' → 1 ≤ m → m ≤ N → Inc r p' m → Q (m, p') s) : (kas_descPart n N p).kasWp cmp Q s := by
  unfold kas_descPart
  rw [KasT.kasWp_bind]
  refine wp_desc hc (N - (n + 1)) p (n + 1) 0 hp (by omega) (by omega) hd (by omega) (fun i a b => by rw [show i = n + 1 - 1 by omega]) fun p' n' k' hp' a b hd' hk he => ?_
  have hsz := hp'.size
  by_cases hk0 : k' > 0
  · show KasT.kasWp cmp (if k' > 0 then _ else _) Q s
    rw [if_pos hk0]
    refine wp_tail3 hc (rev_perm hp') (by omega) b (fun i j hij hj => ?_) q
    have eq := R_mirror_equal (r := r) (p := p') (i := n' - (k' + 1)) (j := n') (by omega) he
    rw [eq, eq]
    exact hd' i j hij hj
  · show KasT.kasWp cmp (if k' > 0 then _ else _) Q s
    rw [if_neg hk0]
    exact wp_tail3 hc hp' (by omega) b hd' q
theorem wp_count (hc : Cmp cmp N r s) {p : Array Nat} (hp : PermR N p) (h2 : 2 ≤ N) {Q : Nat × Array Nat → Shared → Prop} (q : ∀ m p', PermR N p' → 1 ≤ m → m ≤ N → Inc r p' m → Q (m, p') s) : (kas_count N p).kasWp cmp Q s := by
  unfold kas_count
  rw [KasT.kasWp_bind]
  have hsz := hp.size
  refine wp_asc hc hp (N - 1) 1 (Nat.le_refl _) (by omega) (fun i j a b => by rw [show i = j by omega]; exact Int.le_refl _) fun m a b hi hm => ?_
  show KasT.kasWp cmp (if (m == N) = true then _ else _) Q s
  by_cases e : m = N
  · rw [if_pos (by simp [e])]
    exact q m p hp a (by omega) hi
  · rw [if_neg (by simp [e])]
    have lt : R r p m < R r p (m - 1) := hm.resolve_left (by omega)
    by_cases h1 : m > 1
    · rw [if_pos h1]
      show cmp _ _ _ s
      refine hc _ _ _ (hp.lt (by omega)) (hp.lt (by omega)) ?_
      by_cases c : r (p.getD 0 0) < r (p.getD (m - 1) 0)
      · rw [decide_eq_true c]
        show KasT.kasWp cmp (if true = true then _ else _) Q s
        rw [if_pos rfl]
        exact q m p hp a (by omega) hi
      · rw [decide_eq_false c]
        show KasT.kasWp cmp (if false = true then _ else _) Q s
        rw [if_neg (by decide)]
        have e0 : R r p 0 = r (p.getD 0 0) := rfl
        have e1 : R r p (m - 1) = r (p.getD (m - 1) 0) := rfl
        have all : ∀ k, 0 ≤ k → k < m → R r p k = R r p (m - 1) := fun k _ hk => by
          have a1 := hi 0 k (Nat.zero_le _) hk
          have a2 := hi k (m - 1) (by omega) (by omega)
          omega
        have eq := R_mirror_equal (r := r) (p := p) (i := 0) (j := m) (by omega) all
        refine wp_descPart hc (rev_perm hp) a (by omega) (fun i j hij hj => ?_) q
        rw [eq, eq]
        by_cases hjm : j = m
        · subst hjm
          by_cases him : i = j
          · subst him; exact Int.le_refl _
          · rw [all i (Nat.zero_le _) (by omega)]
            omega
        · rw [all i (Nat.zero_le _) (by omega), all j (Nat.zero_le _) (by omega)]
          exact Int.le_refl _
    · rw [if_neg h1]
      have m1 : m = 1 := by omega
      subst m1
      refine wp_descPart hc hp (Nat.le_refl _) (by omega) (fun i j hij hj => ?_) q
      by_cases hij' : i = j
      · subst hij'; exact Int.le_refl _
      · rw [show i = 1 - 1 by omega, show j = 1 by omega]
        omega
theorem wp_place (hc : Cmp cmp N r s) {p : Array Nat} (hp : PermR N p) {k : Nat} (hk : k < N) (hi : Inc r p k) {Q : Nat → Shared → Prop} : ∀ (f l u : Nat), l ≤ u → u ≤ k → u - l ≤ f → (∀ i, i < l → R r p i ≤ R r p k) → (∀ i, u ≤ i → i < k → R r p k < R r p i) →
    (∀ m, m ≤ k → (∀ i, i < m → R r p i ≤ R r p k) → (∀ i, m ≤ i → i < k → R r p k < R r p i) → Q m s) → (kas_place p k f l u).kasWp cmp Q s
  | 0, l, u, hlu, huk, hf, a, b, q => q l (by omega) a fun i h1 h2 => b i (by omega) h2
  | f + 1, l, u, hlu, huk, hf, a, b, q => by
    show KasT.kasWp cmp (if l ≥ u then _ else _) Q s
    by_cases c : l ≥ u
    · rw [if_pos c]
      exact q l (by omega) a fun i h1 h2 => b i (by omega) h2
    · rw [if_neg c]
      show cmp _ _ _ s
      refine hc _ _ _ (hp.lt hk) (hp.lt (by omega)) ?_
      have e0 : R r p k = r (p.getD k 0) := rfl
      have e1 : R r p ((l + u) / 2) = r (p.getD ((l + u) / 2) 0) := rfl
      by_cases d : r (p.getD k 0) < r (p.getD ((l + u) / 2) 0)
      · rw [decide_eq_true d]
        show KasT.kasWp cmp (if true = true then _ else _) Q s
        rw [if_pos rfl]
        refine wp_place hc hp hk hi f l ((l + u) / 2) (by omega) (by omega) (by omega) a (fun i h1 h2 => ?_) q
        have := hi ((l + u) / 2) i h1 h2
        omega
      · rw [decide_eq_false d]
        show KasT.kasWp cmp (if false = true then _ else _) Q s
        rw [if_neg (by decide)]
        refine wp_place hc hp hk hi f ((l + u) / 2 + 1) u (by omega) huk (by omega) (fun i h1 => ?_) b q
        have := hi i ((l + u) / 2) (by omega) (by omega)
        omega
theorem wp_bin (hc : Cmp cmp N r s) {Q : Array Nat → Shared → Prop} : ∀ (f : Nat) (p : Array Nat) (k : Nat), PermR N p → Inc r p k → k + f = N → (∀ p', PermR N p' → Inc r p' N → Q p' s) → (kas_bin f p k).kasWp cmp Q s
  | 0, p, k, hp, hi, hk, q => q p hp (by rw [← hk]; exact hi)
  | f + 1, p, k, hp, hi, hk, q => by
    unfold kas_bin
    rw [KasT.kasWp_bind]
    refine wp_place hc hp (by omega) hi k 0 k (Nat.zero_le _) (Nat.le_refl _) (by omega) (fun i h => absurd h (by omega)) (fun i h1 h2 => absurd h2 (by omega)) fun m hm a b => ?_
    have hsz := hp.size
    refine wp_bin hc f _ (k + 1) (hp.of (bubble_perm _ _ _)) (fun i j hij hj => ?_) (by omega) q
    rw [R_bubble (by omega) (by omega), R_bubble (by omega) (by omega), show k - (k - m) = m by omega]
    by_cases hi1 : i = m
    · rw [if_pos hi1]
      by_cases hj1 : j = m
      · rw [if_pos hj1]; exact Int.le_refl _
      · rw [if_neg hj1, if_pos (by omega)]
        have := b (j - 1) (by omega) (by omega)
        omega
    · rw [if_neg hi1]
      by_cases hi2 : m < i ∧ i ≤ k
      · rw [if_pos hi2, if_neg (by omega), if_pos (by omega)]
        exact hi _ _ (by omega) (by omega)
      · rw [if_neg hi2]
        have him : i < m := by omega
        by_cases hj1 : j = m
        · rw [if_pos hj1]
          exact a i him
        · rw [if_neg hj1]
          by_cases hj2 : m < j ∧ j ≤ k
          · rw [if_pos hj2]
            exact hi _ _ (by omega) (by omega)
          · rw [if_neg hj2]
            exact hi _ _ hij (by omega)
theorem wp_sort (hc : Cmp cmp N r s) (h2 : 2 ≤ N) {Q : Array Nat → Shared → Prop} (q : ∀ p, PermR N p → Inc r p N → Q p s) : (kas_sort N).kasWp cmp Q s := by
  unfold kas_sort
  rw [KasT.kasWp_bind]
  refine wp_count hc (by unfold PermR; exact List.Perm.refl _) h2 fun m p hp h1 hm hi => ?_
  show KasT.kasWp cmp (if m < N then _ else _) Q s
  by_cases c : m < N
  · rw [if_pos c, show max m 1 = m by omega]
    exact wp_bin hc (N - m) p m hp hi (by omega) q
  · rw [if_neg c]
    exact q p hp (by rw [show N = m by omega]; exact hi)
end
end L2.Srt
namespace L2.Srt
open PySem PySem.W PyProof.Rows
def midHeap (h : Heap) (a : Addr) (vs : List Value) : Heap := ((h.update a (Obj.mapSeq fun _ => #[])).push (seqObj "tuple" vs.toArray 0)).push (seqObj "list" #[] 0)
section
variable {prog : Program} {w : World} {A : Around} {E : Value → Shared → Prop} {s : Shared} {r : Nat → Int}
theorem list_sortA {a : Addr} {vs : List Value} {n : Nat} {P : PySem.Fin → Shared → Prop} (ho : s.heap.get? a = some (seqObj "list" vs.toArray n)) (h64 : vs.length < 64)
    (ask : 2 ≤ vs.length → wpAny (model prog w) A (keyKind' vs.toArray) (fun κ s' => s' = { s with heap := midHeap s.heap a vs } ∧ Cmp (kas_ask prog w A κ vs) vs.length r { s with heap := midHeap s.heap a vs }) (fun _ _ => False) { s with heap := midHeap s.heap a vs })
    (h : ∀ p, PermR vs.length p → Inc r p vs.length → P (.done (.ret .none)) { s with heap := sortedHeap s.heap a vs (List.toArray (p.toList.map fun i => vs.getD i Value.none)) }) :
    wpAny (model prog w) A (Builtin.«list.sort» ⟨[.ref a], []⟩) P E s := by
  rw [list_sort_plain]
  have ha : a < s.heap.objs.size := Heap.lt_size ho
  refine wpAny_bind (listItems_at ho rfl ?_)
  refine wpAny_bind (listUpdate_at ho rfl ?_ (by rw [List.size_toArray, sizeLine_eq]; omega) (Nat.zero_le _))
  obtain ⟨e1, ho1⟩ : ∃ e1, (s.heap.update a (Obj.mapSeq fun _ => #[])).get? a = some (seqObj "list" #[] e1) := ⟨_, get?_update_seq ho (fun _ => #[])⟩
  refine wpAny_bind (seqEpoch_at ho1 rfl ?_)
  refine wpAny_bind (wpAny_newTuple ?_ (by show vs.length ≤ _; rw [sizeLine_eq]; omega))
  refine wpAny_bind (wpAny_newList ?_ (Nat.zero_le _))
  refine wpAny_holding ?_
  have ho6 : (midHeap s.heap a vs).get? a = some (seqObj "list" #[] e1) := by
    unfold midHeap
    rw [Heap.get?_push_ne _ _ _ (by rw [size_push', Heap.size_update]; exact Nat.ne_of_lt (Nat.lt_succ_of_lt ha)), Heap.get?_push_ne _ _ _ (by rw [Heap.size_update]; exact Nat.ne_of_lt ha)]
    exact ho1
  show wpAny (model prog w) A _ P E { s with heap := midHeap s.heap a vs }
  dsimp only
  have hsz : vs.toArray.size = vs.length := by simp
  have fin : ∀ (p : Array Nat) (st' : SortSt), arrOf st' = p.map (kas_item (vs.toArray.zip vs.toArray)) → PermR vs.length p → Inc r p vs.length → P (.done (.ret .none)) { s with heap := sortedHeap s.heap a vs ((arrOf st').map (·.2)) } := fun p st' e hp hi => by
    rw [kat_snds rfl e]
    exact h p hp hi
  have big : ∀ (p : Array Nat) (st' : SortSt), arrOf st' = p.map (kas_item (vs.toArray.zip vs.toArray)) → PermR vs.length p → ((arrOf st').map (·.2)).size ≤ sizeLine := fun p st' e hp => by
    rw [Array.size_map, e, Array.size_map, hp.size, sizeLine_eq]
    omega
  by_cases h2 : vs.toArray.size < 2
  · rw [if_pos h2, if_pos h2]
    refine wpAny_bind (wpAny_pure ?_)
    rw [StateT.run_pure]
    refine wpAny_bind (wpAny_pure ?_)
    dsimp only
    have e0 : arrOf (SortSt.mk' general' (vs.toArray.zip vs.toArray) #[] 7 none) = (List.toArray (List.range vs.length)).map (kas_item (vs.toArray.zip vs.toArray)) := by
      have e := kas_range (vs.toArray.zip vs.toArray)
      rw [show (vs.toArray.zip vs.toArray).size = vs.length by simp] at e
      exact e.symm
    have pr : PermR vs.length (List.toArray (List.range vs.length)) := List.Perm.refl _
    refine wpAny_bind (seqEpoch_at ho6 rfl ?_)
    refine wpAny_bind (listUpdate_at ho6 rfl ?_ (Nat.zero_le _) (Nat.le_trans (big _ _ e0 pr) (by omega)))
    simp only [bne_self_eq_false, Bool.false_eq_true, if_false]
    refine wpAny_pure (fin _ _ e0 pr fun i j hij hj => ?_)
    have : i = j := by omega
    subst this
    exact Int.le_refl _
  · rw [if_neg h2, if_neg h2]
    refine wpAny_bind (wpAny_mono (ask (by omega)) (fun κ s0 hk => ?_) fun _ _ x => x.elim)
    obtain ⟨rfl, hc⟩ := hk
    refine wpAny_bind (wpAny_mono (kat_run (Q := fun st' s' => s' = { s with heap := midHeap s.heap a vs } ∧ ∃ p : Array Nat, PermR vs.length p ∧ Inc r p vs.length ∧ arrOf st' = p.map (kas_item (vs.toArray.zip vs.toArray)) ∧ failedOf st' = none)
      (G := fun p s' => s' = { s with heap := midHeap s.heap a vs } ∧ PermR vs.length p ∧ Inc r p vs.length) rfl (by omega) h64 (fun p st' s' a1 a2 a3 a4 => ⟨a4.1, p, a4.2.1, a4.2.2, a2, a3⟩) (wp_sort hc (by omega) fun p hp hi => ⟨rfl, hp, hi⟩)) ?_ fun _ _ e => e)
    rintro ⟨⟨⟩, st'⟩ s' ⟨rfl, p, hp, hi, har, hf⟩
    dsimp only
    refine wpAny_bind (seqEpoch_at ho6 rfl ?_)
    refine wpAny_bind (listUpdate_at ho6 rfl ?_ (Nat.zero_le _) (Nat.le_trans (big _ _ har hp) (by omega)))
    rw [hf]
    simp only [bne_self_eq_false, Bool.false_eq_true, if_false]
    exact wpAny_pure (fin p st' har hp hi)
theorem collect_tup {l : Addr} {vs : List Value} {Q : List Value → Shared → Prop} (hl : s.heap.IsTuple l vs.toArray)
    (h : Q vs { s with heap := (s.heap.push (seqObj "list" #[] 0)).update s.heap.objs.size (Obj.mapSeq (· ++ vs.toArray)) }) (hsz : vs.length ≤ sizeLine) :
    wpAny (model prog w) A (collect (.ref l)) Q E s := by
  obtain ⟨o, ho, hc, n, hd⟩ := id hl
  unfold collect
  refine wpAny_bind (wpAny_runValue (codeAny_builtin entry_proto_collect' ?_))
  show wpAny _ _ (do again (.builtin "list.__iadd__" ⟨[← newList [], .ref l], []⟩)) _ _ s
  refine wpAny_bind (wpAny_newList (wpAny_pure ⟨Code.quiet_builtin _ (by decide +kernel), codeAny_builtin entry_list_iadd' ?_⟩))
  show wpAny _ _ (Builtin.List.listExtendWith (.ref s.heap.objs.size) (.ref l) (.ref s.heap.objs.size)) _ _ { s with heap := s.heap.push (seqObj "list" #[] 0) }
  unfold Builtin.List.listExtendWith
  have ho' : (s.heap.push (seqObj "list" #[] 0)).get? l = some o := Heap.get?_push_of_some _ ho
  refine wpAny_bind (wpAny_typeOf (T := "tuple") ⟨o, ho', hc⟩ ?_)
  have ht : (Value.type "tuple" == Value.type "tuple") = true := by rfl
  rw [if_pos (by rw [ht]; simp)]
  refine wpAny_bind (listItems_at ho' hd ?_)
  refine wpAny_bind (listItems_at (xs := #[]) (n := 0) (Heap.get?_push_size _ rfl) rfl ?_)
  rw [if_neg (by simp)]
  refine wpAny_bind (listUpdate_at (xs := #[]) (n := 0) (Heap.get?_push_size _ rfl) rfl ?_ (Nat.zero_le _) (by show (#[] ++ vs.toArray).size ≤ sizeLine + 1; simp only [Array.size_append, List.size_toArray, List.length_nil]; omega))
  refine wpAny_pure ?_
  show wpAny (model prog w) A (do
      let o ← load s.heap.objs.size
      match o.data with
      | .seq xs _ => pure xs.toList
      | _ => unsupported "internal:collect") Q E { s with heap := (s.heap.push (seqObj "list" #[] 0)).update s.heap.objs.size (Obj.mapSeq (· ++ vs.toArray)) }
  refine wpAny_bind (wpAny_load (get?_update_seq (Heap.get?_push_size _ rfl) _) ?_)
  show wpAny _ _ (pure ((#[] : Array Value) ++ vs.toArray).toList) Q E _
  rw [show ((#[] : Array Value) ++ vs.toArray).toList = vs by simp]
  exact wpAny_pure h
def preHeap (h : Heap) (vs : List Value) : Heap := ((h.push (seqObj "list" #[] 0)).update h.objs.size (Obj.mapSeq (· ++ vs.toArray))).push (seqObj "list" vs.toArray 0)
theorem sortedA {l : Addr} {vs : List Value} {Q : Value → Shared → Prop} (hl : s.heap.IsList l vs.toArray ∨ s.heap.IsTuple l vs.toArray) (h64 : vs.length < 64)
    (ask : 2 ≤ vs.length → wpAny (model prog w) A.in1.in1 (keyKind' vs.toArray) (fun κ s' => s' = { s with heap := midHeap (preHeap s.heap vs) (s.heap.objs.size + 1) vs } ∧ Cmp (kas_ask prog w A.in1.in1 κ vs) vs.length r { s with heap := midHeap (preHeap s.heap vs) (s.heap.objs.size + 1) vs }) (fun _ _ => False) { s with heap := midHeap (preHeap s.heap vs) (s.heap.objs.size + 1) vs })
    (h : ∀ p, PermR vs.length p → Inc r p vs.length → Q (.ref (s.heap.objs.size + 1)) { s with heap := sortedAll s.heap vs (List.toArray (p.toList.map fun i => vs.getD i Value.none)) }) :
    wpAny (model prog w) A (call (.builtin "sorted") [.ref l]) Q E s := by
  have sz : vs.length ≤ sizeLine := by rw [sizeLine_eq]; omega
  refine Calls.call_function_entry kind_sorted plain_sorted entry_sorted (args_sorted1 _) ?_
  unfold Builtin.«sorted»
  refine wpAny_bind (m := checkCount "sorted" 1 1 _) (wpAny_pure ?_)
  have go : ∀ {Q' : List Value → Shared → Prop}, Q' vs { s with heap := (s.heap.push (seqObj "list" #[] 0)).update s.heap.objs.size (Obj.mapSeq (· ++ vs.toArray)) } → wpAny (model prog w) A.in1 (collect (.ref l)) Q' E s := fun {Q'} q => by
    rcases hl with hl | hl
    · exact collect_list hl q sz
    · exact collect_tup hl q sz
  refine wpAny_bind (go ?_)
  refine wpAny_bind (wpAny_newList ?_ sz)
  have hsz : ((s.heap.push (seqObj "list" #[] 0)).update s.heap.objs.size (Obj.mapSeq (· ++ vs.toArray))).objs.size = s.heap.objs.size + 1 := by
    rw [Heap.size_update, size_push']
  have hoL : (preHeap s.heap vs).get? (s.heap.objs.size + 1) = some (seqObj "list" vs.toArray 0) := by
    unfold preHeap
    rw [← hsz]; exact Heap.get?_push_size _ rfl
  show wpAny _ _ _ _ _ { s with heap := preHeap s.heap vs }
  rw [hsz]
  refine wpAny_bind (wpAny_holding (wpAny_call_entry slot_list_sort ⟨_, hoL, rfl⟩ entry_list_sort (list_sortA (s := { s with heap := preHeap s.heap vs }) hoL h64 ask fun p hp hi => ⟨_, rfl, ?_⟩) (args_list_sort _)))
  exact wpAny_pure ⟨_, rfl, h p hp hi⟩
end
end L2.Srt
namespace L2
open PySem PySem.Spec PyProof.Rows Srt
def Ords (P : Program) (w : World) (A : Around) (H : Hp) (ys : List V) (rk : Nat → Int) : Prop :=
  ∀ (s : Shared) (vs : List Value), HOk P w H s.heap → Vals ys vs → 2 ≤ vs.length → wpAny (model P w) A (keyKind' vs.toArray) (fun κ s' => s' = s ∧ Cmp (PySem.W.kas_ask P w A κ vs) vs.length rk s) (fun _ _ => False) s
theorem mid_old {h : Heap} {vs : List Value} {b : Addr} {o : Obj} (hb : h.get? b = some o) : (midHeap (preHeap h vs) (h.objs.size + 1) vs).get? b = some o := by
  have hlt : b < h.objs.size := Heap.lt_size hb
  have hsz : (preHeap h vs).objs.size = h.objs.size + 2 := by unfold preHeap; rw [size_push', Heap.size_update, size_push']
  unfold midHeap
  rw [Heap.get?_push_ne _ _ _ (by rw [size_push', Heap.size_update, hsz]; exact Nat.ne_of_lt (Nat.lt_of_lt_of_le hlt (by omega))), Heap.get?_push_ne _ _ _ (by rw [Heap.size_update, hsz]; exact Nat.ne_of_lt (Nat.lt_of_lt_of_le hlt (by omega))), Heap.get?_update_ne _ _ _ _ (Nat.ne_of_lt (Nat.lt_of_lt_of_le hlt (by omega)))]
  unfold preHeap
  rw [Heap.get?_push_ne _ _ _ (by rw [Heap.size_update, size_push']; exact Nat.ne_of_lt (Nat.lt_of_lt_of_le hlt (by omega))), Heap.get?_update_ne _ _ _ _ (Nat.ne_of_lt hlt), Heap.get?_push_ne _ _ _ (Nat.ne_of_lt hlt)]
  exact hb
theorem vals_pick {ys : List V} {vs : List Value} (r : Vals ys vs) : ∀ (is : List Nat), (∀ i ∈ is, i < ys.length) → Vals (is.map fun i => ys.getD i .non) (is.map fun i => vs.getD i Value.none)
  | [], _ => .nil
  | i :: is, h => by
    have hi := h i List.mem_cons_self
    obtain ⟨u, hu, ru⟩ := r.get (List.getElem?_eq_getElem hi)
    refine .cons ?_ (vals_pick r is fun j hj => h j (List.mem_cons_of_mem _ hj))
    have e1 : ys.getD i .non = ys[i] := by rw [List.getD_eq_getElem?_getD, List.getElem?_eq_getElem hi]; rfl
    have e2 : vs.getD i Value.none = u := by rw [List.getD_eq_getElem?_getD, hu]; rfl
    show RelV (ys.getD i .non) (vs.getD i Value.none)
    rw [e1, e2]
    exact ru
section
variable {X : Cx}
theorem call_sortedR : CallR X (.builtin "sorted") (fun xs H Q => ∃ p ys rk, xs = [.ref p] ∧ (SqL X.K H p ys ∨ SqT X.K H p ys) ∧ ys.length < 64 ∧ Ords X.prog X.w X.A.in1.in1 H ys rk ∧
    ∀ (l : Addr) (is : List Nat), is.Perm (List.range ys.length) → (∀ i j, i ≤ j → j < ys.length → rk (is.getD i 0) ≤ rk (is.getD j 0)) → H l = none → Q (.ref l) (upd H l (.lst (is.map fun i => ys.getD i .non)))) := by
  intro pins s σ H xs us Q I r h
  obtain ⟨p, ys, rk, rfl, hq, h64, ho, q⟩ := h
  obtain ⟨u, rfl, rx⟩ := vals1 r
  cases rx
  obtain ⟨its, r', hl⟩ : ∃ its, Vals ys its ∧ (s.heap.IsList p its.toArray ∨ s.heap.IsTuple p its.toArray) := by
    rcases hq with hq | hq
    · obtain ⟨its, r', pl, _⟩ := I.list hq
      exact ⟨its, r', .inl pl.isList⟩
    · obtain ⟨its, r', pl, _⟩ := I.tuple hq
      exact ⟨its, r', .inr pl⟩
  have hlen := r'.length
  refine sortedA (r := rk) hl (by omega) (fun h2 => ?_) fun pm hp hi => ?_
  · exact ho { s with heap := midHeap (preHeap s.heap its) (s.heap.objs.size + 1) its } its (I.hok.kept fun b o e => mid_old e) r' h2
  · obtain ⟨e, he⟩ := sortedAll_at s.heap its (List.toArray (pm.toList.map fun i => its.getD i Value.none))
    have hp' : pm.toList.Perm (List.range ys.length) := by rw [hlen]; exact hp
    have hin : ∀ i ∈ pm.toList, i < ys.length := fun i hi => List.mem_range.mp (hp'.mem_iff.mp hi)
    have hz : (pm.toList.map fun i => ys.getD i V.non).length ≤ sizeLine := by
      have sz := sizeLine_eq
      rw [List.length_map, hp'.length_eq, List.length_range]
      omega
    refine ⟨.ref (s.heap.objs.size + 1), _, I.laid (t' := s.toks) (fun b o e => sortedAll_old e) (Nat.le_succ _) (show ObjOk X.prog X.w _ _ _ (.lst (pm.toList.map fun i => ys.getD i V.non)) from ⟨hz, _, e, vals_pick r' _ hin, he⟩), rfl, q _ _ hp' (fun i j hij hj => ?_) (I.hok.fresh (Nat.le_succ _))⟩
    have := hi i j hij (by omega)
    have g : ∀ k, pm.toList.getD k 0 = pm.getD k 0 := fun k => by
      rw [Array.getD_eq_getD_getElem?, List.getD_eq_getElem?_getD, Array.getElem?_toList]
    rw [g, g]
    exact this
end
end L2
namespace PySem.SeqAt
open PySem PySem.Spec PySem.Calls
def LtAt (A : Around) (s : Shared) (x y : Value) (b : Bool) : Prop := ∀ (prog : Program) (w : World) (E : Value → Shared → Prop) (Q : Value → Shared → Prop), Q (.bool b) s → wpAny (model prog w) A (richCompare .Lt x y) Q E s
def lexB (e c : Nat → Bool) (d : Bool) : List Nat → Bool
  | [] => d
  | j :: r => if e j then lexB e c d r else c j
theorem tuple_ltAt (l b : Addr) (items items2 : Array Value) (n n2 : Nat) (dd dd2 : Option Addr) (sl sl2 : Array (Option Value)) (e c : Nat → Bool) :
    Meets (Builtin.«tuple.__lt__» ⟨[.ref l, .ref b], []⟩)
      (fun A R s => s.heap.get? l = some { cls := .type "tuple", dict := dd, data := .seq items n, slots := sl } ∧ s.heap.get? b = some { cls := .type "tuple", dict := dd2, data := .seq items2 n2, slots := sl2 } ∧
        (∀ j (h1 : j < items.size) (h2 : j < items2.size), EqAt A.in1 s items[j] items2[j] (e j)) ∧
        (∀ j (h1 : j < items.size) (h2 : j < items2.size), e j = false → LtAt A.in1 s items[j] items2[j] (c j)) ∧
        R (.ok (.ret (.bool (lexB e c (decide (items.size < items2.size)) (List.range (min items.size items2.size)))))) s) :=
  .of_wp fun prog w A R s h => by
    obtain ⟨hp, g, d, tk, os⟩ := s; obtain ⟨hl, hb, he, hc, h⟩ := h
    have f2 := AutoSeq1.sub_tuple_tuple
    have hZ : (items.toList.zip items2.toList).length = min items.size items2.size := by simp
    wp_walk using wpAny_loadPart' hl, wpAny_loadPart' hb, wpAny_forIn_list _ (fun rest b s' => b.1 = none ∧ s' = ⟨hp, g, d, tk, os⟩ ∧ ∃ i, rest = (items.toList.zip items2.toList).drop i ∧
      R (.ok (.ret (.bool (lexB e c (decide (items.size < items2.size)) ((List.range (min items.size items2.size)).drop i))))) ⟨hp, g, d, tk, os⟩) _
    case turn =>
      rintro ⟨y, x⟩ rest b s' ⟨hb', rfl, i, hz, hR⟩
      have hlt : i < (items.toList.zip items2.toList).length := by
        rcases Nat.lt_or_ge i (items.toList.zip items2.toList).length with h' | h'
        · exact h'
        · rw [List.drop_of_length_le h'] at hz; cases hz
      have hm : i < min items.size items2.size := hZ ▸ hlt
      have h1 : i < items.size := Nat.lt_of_lt_of_le hm (Nat.min_le_left _ _)
      have h2 : i < items2.size := Nat.lt_of_lt_of_le hm (Nat.min_le_right _ _)
      rw [List.drop_eq_getElem_cons hlt] at hz
      injection hz with hyx hrest
      have hy : y = items[i] := by have := congrArg Prod.fst hyx; simpa using this
      have hx : x = items2[i] := by have := congrArg Prod.snd hyx; simpa using this
      subst hy hx
      have hd : (List.range (min items.size items2.size)).drop i = i :: (List.range (min items.size items2.size)).drop (i + 1) := by simp [List.drop_eq_getElem_cons, hm]
      rw [hd] at hR
      unfold lexB at hR
      refine wpAny_bind (he i h1 h2 prog w _ _ ?_)
      cases hy : e i with
      | true =>
        rw [hy] at hR
        wp_walk
        exact ⟨rfl, rfl, i + 1, hrest, by simpa using hR⟩
      | false =>
        rw [hy] at hR
        rw [if_pos (show (!false) = true from rfl)]
        dsimp only
        refine wpAny_bind (wpAny_rule ?_)
        refine wpAny_bind (hc i h1 h2 hy prog w _ _ ?_)
        wp_walk
        exact ⟨_, rfl, by simpa using hR⟩
    case fin =>
      rintro ⟨b1, b2⟩ s' ⟨hb', rfl, i, hz, hR⟩
      simp only at hb'
      subst hb'
      have hge : min items.size items2.size ≤ i := by
        rcases Nat.lt_or_ge i (items.toList.zip items2.toList).length with h' | h'
        · rw [List.drop_eq_getElem_cons h'] at hz; cases hz
        · exact hZ ▸ h'
      rw [List.drop_of_length_le (by simpa using hge)] at hR
      wp_walk
      exact ⟨_, rfl, by simpa [Builtin.Tuple.tupleCompareSizes, lexB] using hR⟩
    case h =>
      exact ⟨rfl, rfl, 0, rfl, by simpa using h⟩
section
variable {A : Around} {s : Shared}
theorem LtAt.tuples {l b : Addr} {items items2 : Array Value} {e c : Nat → Bool} (hl : s.heap.IsTuple l items) (hb : s.heap.IsTuple b items2) (hu : A.units < cLine)
    (he : ∀ j (h1 : j < items.size) (h2 : j < items2.size), EqAt A.in1 s items[j] items2[j] (e j)) (hc : ∀ j (h1 : j < items.size) (h2 : j < items2.size), e j = false → LtAt A.in1 s items[j] items2[j] (c j)) :
    LtAt A s (.ref l) (.ref b) (lexB e c (decide (items.size < items2.size)) (List.range (min items.size items2.size))) := fun prog w E Q h => by
  obtain ⟨⟨cls, dd, data, sl⟩, ho, hc1, n, hd⟩ := id hl
  obtain ⟨⟨cls2, dd2, data2, sl2⟩, ho2, hc2, n2, hd2⟩ := id hb
  simp only at hc1 hd hc2 hd2
  subst hc1 hd hc2 hd2
  exact richCompare_meets_room (op := .Lt) ⟨_, ho, rfl⟩ ⟨_, ho2, rfl⟩ F.slot_tuple_lt F.entry_tuple_lt (F.args_tuple_lt_2 _ _) (tuple_ltAt l b items items2 n n2 dd dd2 sl sl2 e c)
    ⟨ho, ho2, he, hc, show Value.bool _ ≠ Value.notImplemented ∧ Q (.bool _) s from ⟨(fun x => nomatch x), h⟩⟩ hu
theorem LtAt.str {x y : Str} {t u : Tok} : LtAt A s (.str x t) (.str y u) (decide (x.cps.toList < y.cps.toList)) := fun prog w E Q h => by
  refine wpAny_richCompare_same (T := "str") (id := "str.__lt__") (op := .Lt) (typeIs_str s x t) (typeIs_str s y u) PyProof.Rows.slot_str_lt (PyProof.Rows.call_str_lt ?_)
  exact ⟨(fun x => nomatch x), h⟩
end
end PySem.SeqAt
namespace L2
open PySem PySem.Spec PyProof.Rows Srt
theorem countP_lt {α : Type} {p q : α → Bool} : ∀ {l : List α}, (∀ x ∈ l, p x = true → q x = true) → (∃ x ∈ l, q x = true ∧ p x = false) → l.countP p < l.countP q
  | [], _, h => by obtain ⟨x, hx, _⟩ := h; cases hx
  | a :: t, hm, h => by
    rw [List.countP_cons, List.countP_cons]
    have mono := List.countP_mono_left (l := t) (fun x hx => hm x (List.mem_cons_of_mem _ hx))
    have ha := hm a List.mem_cons_self
    by_cases hw : q a = true ∧ p a = false
    · rw [hw.1, hw.2]
      simp
      omega
    · have : ∃ x ∈ t, q x = true ∧ p x = false := by
        obtain ⟨x, hx, hq⟩ := h
        rcases List.mem_cons.mp hx with rfl | hx
        · exact absurd hq hw
        · exact ⟨x, hx, hq⟩
      have ih := countP_lt (fun x hx => hm x (List.mem_cons_of_mem _ hx)) this
      cases hp : p a with
      | true => rw [ha hp]; simp; omega
      | false => cases q a <;> simp <;> omega
def rank (n : Nat) (lt : Nat → Nat → Bool) (i : Nat) : Int := (((List.range n).countP fun k => lt k i : Nat) : Int)
structure Ord (n : Nat) (lt : Nat → Nat → Bool) : Prop where
  irr : ∀ i, i < n → lt i i = false
  tr : ∀ i j k, i < n → j < n → k < n → lt i j = true → lt j k = true → lt i k = true
  neg : ∀ i j k, i < n → j < n → k < n → lt i k = true → lt i j = true ∨ lt j k = true
theorem Ord.rank {n : Nat} {lt : Nat → Nat → Bool} (o : Ord n lt) {i j : Nat} (hi : i < n) (hj : j < n) : decide (rank n lt i < rank n lt j) = lt i j := by
  cases h : lt i j with
  | true =>
    apply decide_eq_true
    have : (List.range n).countP (fun k => lt k i) < (List.range n).countP fun k => lt k j := countP_lt (fun k hk e => o.tr k i j (List.mem_range.mp hk) hi hj e h) ⟨i, List.mem_range.mpr hi, h, o.irr i hi⟩
    unfold L2.rank
    omega
  | false =>
    apply decide_eq_false
    have : (List.range n).countP (fun k => lt k j) ≤ (List.range n).countP fun k => lt k i := List.countP_mono_left fun k hk e => by
      rcases o.neg k i j (List.mem_range.mp hk) hi hj e with e | e
      · exact e
      · rw [h] at e; cases e
    unfold L2.rank
    omega
def ltS (x y : Str) : Bool := decide (x.cps.toList < y.cps.toList)
theorem ltS_irr (x : Str) : ltS x x = false := decide_eq_false (List.lt_irrefl _)
theorem ltS_tr {x y z : Str} (h1 : ltS x y = true) (h2 : ltS y z = true) : ltS x z = true := decide_eq_true (List.lt_trans (of_decide_eq_true h1) (of_decide_eq_true h2))
theorem ltS_tri (x y : Str) : ltS x y = true ∨ x = y ∨ ltS y x = true := by
  by_cases h1 : x.cps.toList < y.cps.toList
  · exact .inl (decide_eq_true h1)
  by_cases h2 : y.cps.toList < x.cps.toList
  · exact .inr (.inr (decide_eq_true h2))
  exact .inr (.inl (str_eq.mpr (List.le_antisymm (List.not_lt.mp h2) (List.not_lt.mp h1))))
theorem ltS_neg {x z : Str} (y : Str) (h : ltS x z = true) : ltS x y = true ∨ ltS y z = true := by
  rcases ltS_tri x y with e | e | e
  · exact .inl e
  · subst e; exact .inr h
  · exact .inr (ltS_tr e h)
def lexS : List Str → List Str → Bool
  | [], [] => false
  | [], _ :: _ => true
  | _ :: _, [] => false
  | a :: r, b :: t => if a = b then lexS r t else ltS a b
theorem lexS_irr : ∀ x : List Str, lexS x x = false
  | [] => rfl
  | a :: r => by
    show (if a = a then lexS r r else ltS a a) = false
    rw [if_pos rfl, lexS_irr r]
theorem lexS_tri : ∀ x y : List Str, lexS x y = true ∨ x = y ∨ lexS y x = true
  | [], [] => .inr (.inl rfl)
  | [], _ :: _ => .inl rfl
  | _ :: _, [] => .inr (.inr rfl)
  | a :: r, b :: t => by
    by_cases e : a = b
    · subst e
      have e1 : lexS (a :: r) (a :: t) = lexS r t := if_pos rfl
      have e2 : lexS (a :: t) (a :: r) = lexS t r := if_pos rfl
      rw [e1, e2]
      rcases lexS_tri r t with h | h | h
      · exact .inl h
      · exact .inr (.inl (by rw [h]))
      · exact .inr (.inr h)
    · have e1 : lexS (a :: r) (b :: t) = ltS a b := if_neg e
      have e2 : lexS (b :: t) (a :: r) = ltS b a := if_neg fun z => e z.symm
      rw [e1, e2]
      rcases ltS_tri a b with h | h | h
      · exact .inl h
      · exact absurd h e
      · exact .inr (.inr h)
theorem lexS_tr : ∀ {x y z : List Str}, lexS x y = true → lexS y z = true → lexS x z = true
  | [], [], _, h, _ => by cases h
  | [], _ :: _, [], _, h => by cases h
  | [], _ :: _, _ :: _, _, _ => rfl
  | _ :: _, [], _, h, _ => by cases h
  | _ :: _, _ :: _, [], _, h => by cases h
  | a :: r, b :: t, c :: u, h1, h2 => by
    have h1 : (if a = b then lexS r t else ltS a b) = true := h1
    have h2 : (if b = c then lexS t u else ltS b c) = true := h2
    show (if a = c then lexS r u else ltS a c) = true
    by_cases e1 : a = b
    · subst e1
      rw [if_pos rfl] at h1
      by_cases e2 : a = c
      · rw [if_pos e2] at h2 ⊢
        exact lexS_tr h1 h2
      · rw [if_neg e2] at h2 ⊢
        exact h2
    · rw [if_neg e1] at h1
      by_cases e2 : b = c
      · subst e2
        rw [if_neg e1]
        exact h1
      · rw [if_neg e2] at h2
        have h3 := ltS_tr h1 h2
        rw [if_neg (fun z => by subst z; rw [ltS_irr] at h3; cases h3)]
        exact h3
theorem lexS_neg {x z : List Str} (y : List Str) (h : lexS x z = true) : lexS x y = true ∨ lexS y z = true := by
  rcases lexS_tri x y with e | e | e
  · exact .inl e
  · subst e; exact .inr h
  · exact .inr (lexS_tr e h)
theorem lexB_map {e c : Nat → Bool} {d : Bool} : ∀ l : List Nat, SeqAt.lexB e c d (l.map (· + 1)) = SeqAt.lexB (fun j => e (j + 1)) (fun j => c (j + 1)) d l
  | [] => rfl
  | j :: r => by
    show (if e (j + 1) then SeqAt.lexB e c d (r.map (· + 1)) else c (j + 1)) = _
    rw [lexB_map r]
    rfl
theorem lexB_eq : ∀ x y : List Str, SeqAt.lexB (fun j => decide (x[j]? = y[j]?)) (fun j => ltS (x.getD j "") (y.getD j "")) (decide (x.length < y.length)) (List.range (min x.length y.length)) = lexS x y
  | [], [] => rfl
  | [], b :: t => rfl
  | a :: r, [] => rfl
  | a :: r, b :: t => by
    have e : min (a :: r).length (b :: t).length = min r.length t.length + 1 := by rw [List.length_cons, List.length_cons]; omega
    rw [e, List.range_succ_eq_map]
    show (if decide (some a = some b) then SeqAt.lexB _ _ _ ((List.range (min r.length t.length)).map (· + 1)) else ltS a b) = if a = b then lexS r t else ltS a b
    rw [lexB_map]
    by_cases h : a = b
    · rw [if_pos h, if_pos (by rw [h]; exact decide_eq_true rfl), ← lexB_eq r t]
      congr 1
      apply decide_eq_decide.mpr
      rw [List.length_cons, List.length_cons]
      omega
    · rw [if_neg h, if_neg (by intro z; exact h (Option.some.inj (of_decide_eq_true z)))]
section
variable {P : Program} {w : World} {A : Around} {H : Hp}
theorem ords_str {zs : List Str} : Ords P w A H (zs.map V.str) (rank zs.length fun i j => ltS (zs.getD i "") (zs.getD j "")) := by
  intro s vs hok r h2
  have hlen := r.length
  rw [List.length_map] at hlen
  have at' : ∀ i, i < zs.length → ∃ t, vs.getD i Value.none = .str (zs.getD i "") t := fun i hi => by
    obtain ⟨u, hu, t, rfl⟩ := r.get (i := i) (x := .str (zs.getD i "")) (by rw [List.getElem?_map, List.getElem?_eq_getElem hi, List.getD_eq_getElem?_getD, List.getElem?_eq_getElem hi]; rfl)
    exact ⟨t, by rw [List.getD_eq_getElem?_getD, hu]; rfl⟩
  have o : Ord zs.length fun i j => ltS (zs.getD i "") (zs.getD j "") := ⟨fun _ _ => ltS_irr _, fun _ _ _ _ _ _ a b => ltS_tr a b, fun _ j _ _ _ _ a => ltS_neg _ a⟩
  have sa : StrsAre vs (vs.map strOf) := strsAre_map vs fun v hv => by
    obtain ⟨i, hi, e⟩ := List.mem_iff_getElem.mp hv
    obtain ⟨t, et⟩ := at' i (by omega)
    rw [List.getD_eq_getElem?_getD, List.getElem?_eq_getElem hi] at et
    exact ⟨_, t, by rw [← e]; exact et⟩
  obtain ⟨v₁, v₂, rest, rfl⟩ : ∃ v₁ v₂ rest, vs = v₁ :: v₂ :: rest := by
    match vs, h2 with
    | v₁ :: v₂ :: rest, _ => exact ⟨v₁, v₂, rest, rfl⟩
  rw [keyKind_strs sa]
  refine wpAny_pure ⟨rfl, fun i j C hi hj hC => ?_⟩
  obtain ⟨t, e1⟩ := at' i (by omega)
  obtain ⟨u, e2⟩ := at' j (by omega)
  show wpAny (model P w) A (keyLt' oneType' _ _) C _ s
  rw [e1, e2]
  refine PySem.W.kas_lt_str ?_
  rw [o.rank (by omega) (by omega)] at hC
  exact hC
end
end L2
namespace L2.Srt
open PySem PySem.W PyProof.Rows
theorem katTups_of {M : Model} {h : Heap} : ∀ (vs : List Value), (∀ v ∈ vs, ∃ a o xs n f, v = Value.ref a ∧ h.get? a = some o ∧ o.cls = .type "tuple" ∧ o.data = .seq xs n ∧ xs[0]? = some f ∧ Looks M h (typeOf f) (.type "tuple")) →
    ∃ fs, KatTups h vs fs ∧ fs.length = vs.length ∧ ∀ f ∈ fs, Looks M h (typeOf f) (.type "tuple")
  | [], _ => ⟨[], trivial, rfl, fun _ h => nomatch h⟩
  | v :: vs, hv => by
    obtain ⟨fs, k, e, l⟩ := katTups_of vs fun u hu => hv u (List.mem_cons_of_mem _ hu)
    obtain ⟨a, o, xs, n, f, ev, ho, hc, hd, hf, hl⟩ := hv v List.mem_cons_self
    refine ⟨f :: fs, ⟨⟨a, o, xs, n, ev, ho, hc, hd, hf⟩, k⟩, by rw [List.length_cons, List.length_cons, e], fun g hg => ?_⟩
    rcases List.mem_cons.mp hg with rfl | hg
    · exact hl
    · exact l g hg
end L2.Srt
namespace L2
open PySem PySem.Spec PyProof.Rows Srt
def RowsAt (H : Hp) (ys : List V) (ns : List (List Str)) (fs : List Int) : Prop := ys.length = ns.length ∧ fs.length = ns.length ∧ ∀ i, i < ns.length → ∃ t m, ys[i]? = some (.ref t) ∧ H t = some (.tup [.ref m, .int (fs.getD i 0)]) ∧ H m = some (.tup ((ns.getD i []).map V.str))
section
variable {P : Program} {w : World} {A : Around} {H : Hp}
theorem str_eqAt {A : Around} {s : Shared} {x y : List Str} {us ws : List Value} (r1 : Vals (x.map V.str) us) (r2 : Vals (y.map V.str) ws) (j : Nat) (h1 : j < us.toArray.size) (h2 : j < ws.toArray.size) :
    SeqAt.EqAt A s us.toArray[j] ws.toArray[j] (decide (x[j]? = y[j]?)) ∧ SeqAt.LtAt A s us.toArray[j] ws.toArray[j] (ltS (x.getD j "") (y.getD j "")) := by
  have l1 := r1.length
  have l2 := r2.length
  rw [List.length_map] at l1 l2
  have j1 : j < x.length := by rw [l1]; simpa using h1
  have j2 : j < y.length := by rw [l2]; simpa using h2
  obtain ⟨u, hu, ru⟩ := r1.get (i := j) (x := .str x[j]) (by rw [List.getElem?_map, List.getElem?_eq_getElem j1]; rfl)
  obtain ⟨v, hv, rv⟩ := r2.get (i := j) (x := .str y[j]) (by rw [List.getElem?_map, List.getElem?_eq_getElem j2]; rfl)
  have e1 : us.toArray[j] = u := by
    have : us[j]'(by simpa using h1) = u := by rw [List.getElem?_eq_getElem (by simpa using h1)] at hu; exact Option.some.inj hu
    simpa using this
  have e2 : ws.toArray[j] = v := by
    have : ws[j]'(by simpa using h2) = v := by rw [List.getElem?_eq_getElem (by simpa using h2)] at hv; exact Option.some.inj hv
    simpa using this
  rw [e1, e2, List.getElem?_eq_getElem j1, List.getElem?_eq_getElem j2, List.getD_eq_getElem?_getD, List.getD_eq_getElem?_getD, List.getElem?_eq_getElem j1, List.getElem?_eq_getElem j2]
  obtain ⟨t, rfl⟩ := ru
  obtain ⟨t', rfl⟩ := rv
  refine ⟨?_, SeqAt.LtAt.str⟩
  have e3 : decide (some x[j] = some y[j]) = (x[j] == y[j]) := by
    rw [Bool.beq_eq_decide_eq]
    apply decide_eq_decide.mpr
    exact ⟨fun h => Option.some.inj h, fun h => by rw [h]⟩
  rw [e3]
  exact SeqAt.EqAt.str_str _ _ _ _
theorem ords_rows {ys : List V} {ns : List (List Str)} {fs : List Int} (hR : RowsAt H ys ns fs) (nd : ns.Nodup) (hu : A.units < cLine) (hu1 : A.in1.units < cLine) : Ords P w A H ys (rank ns.length fun i j => lexS (ns.getD i []) (ns.getD j [])) := by
  intro s vs hok r h2
  obtain ⟨hl1, hl2, hR⟩ := hR
  have hlen := r.length
  have o : Ord ns.length fun i j => lexS (ns.getD i []) (ns.getD j []) := ⟨fun _ _ => lexS_irr _, fun _ _ _ _ _ _ a b => lexS_tr a b, fun _ j _ _ _ _ a => lexS_neg _ a⟩
  have row : ∀ i, i < ns.length → ∃ (t m : Addr) (tk : Nat) (us : List Value), vs.getD i Value.none = .ref t ∧ s.heap.IsTuple t [Value.ref m, Value.int (fs.getD i 0) tk].toArray ∧ s.heap.IsTuple m us.toArray ∧ Vals ((ns.getD i []).map V.str) us := fun i hi => by
    obtain ⟨t, m, h1, h2, h3⟩ := hR i hi
    obtain ⟨u, hu, ru⟩ := r.get h1
    cases (show u = Value.ref t from ru)
    obtain ⟨_, its, ri, pi⟩ := tup_rd hok h2
    obtain ⟨_, us, rm, pm⟩ := tup_rd hok h3
    cases ri with
    | cons r1 rr =>
      cases rr with
      | cons r2 rr =>
        cases rr
        cases (show _ = Value.ref m from r1)
        obtain ⟨tk, rfl⟩ := r2
        exact ⟨t, m, tk, us, by rw [List.getD_eq_getElem?_getD, hu]; rfl, pi, pm, rm⟩
  obtain ⟨firsts, kt, kl, kT⟩ := katTups_of (M := model P w) (h := s.heap) vs fun v hv => by
    obtain ⟨i, hi, e⟩ := List.mem_iff_getElem.mp hv
    obtain ⟨t, m, tk, us, et, ⟨ob, ho, hc, n, hd⟩, ⟨ob2, ho2, hc2, n2, hd2⟩, _⟩ := row i (by omega)
    rw [List.getD_eq_getElem?_getD, List.getElem?_eq_getElem hi] at et
    refine ⟨t, ob, _, n, .ref m, by rw [← e]; exact et, ho, hc, hd, rfl, ?_⟩
    rw [← hc2]
    exact (PySem.W.Looks.ld ho2).andThen .now
  refine PySem.W.kat_kind kt (by omega) kT (by rfl) ⟨rfl, fun i j C hi hj hC => ?_⟩
  rw [o.rank (by omega) (by omega)] at hC
  obtain ⟨t, m, tk, us, et, pt, pm, rm⟩ := row i (by omega)
  obtain ⟨t', m', tk', us', et', pt', pm', rm'⟩ := row j (by omega)
  obtain ⟨ob, ho, hc, n, hd⟩ := id pt
  obtain ⟨ob', ho', hc', n', hd'⟩ := id pt'
  show wpAny (model P w) A (keyLt' _ _ _) C _ s
  rw [et, et']
  refine PySem.W.kat_lt (b := false) ho hd ho' hd' ?_
  show PySem.W.KatLex P w A false (decide (2 < 2)) C [(.ref m, .ref m'), (.int (fs.getD i 0) tk, .int (fs.getD j 0) tk')] 0 s
  have l1 := rm.length
  have l2 := rm'.length
  rw [List.length_map] at l1 l2
  by_cases hij : ns.getD i [] = ns.getD j []
  · have hij' : i = j := by
      have e : ns[i]'(by omega) = ns[j]'(by omega) := by
        rw [List.getD_eq_getElem?_getD, List.getD_eq_getElem?_getD, List.getElem?_eq_getElem (by omega), List.getElem?_eq_getElem (by omega)] at hij
        exact hij
      exact (List.getElem_inj nd).mp e
    subst hij'
    have et2 := et.symm.trans et'
    have em : m = m' := by
      cases et2
      obtain ⟨o1, g1, _, n1, d1⟩ := pt
      obtain ⟨o2, g2, _, n2, d2⟩ := pt'
      rw [g1] at g2
      cases g2
      rw [d1] at d2
      injection d2 with d2 _
      have := congrArg (fun a => a.toList) d2
      simp at this
      exact this.1
    subst em
    refine PySem.W.kat_cons (SeqAt.EqAt.same _ _ _ _ _ (PySem.W.kat_yes (PySem.W.kat_cons (SeqAt.EqAt.int_int _ _ _ _ _ _ _ _ ?_))))
    rw [show (fs.getD i 0 == fs.getD i 0) = true from beq_self_eq_true _]
    refine PySem.W.kat_yes (PySem.W.kat_nil ?_)
    rw [lexS_irr] at hC
    exact hC
  · have hmm : m ≠ m' := fun e => by
      subst e
      obtain ⟨o1, g1, _, n1, d1⟩ := pm
      obtain ⟨o2, g2, _, n2, d2⟩ := pm'
      rw [g1] at g2
      cases g2
      rw [d1] at d2
      injection d2 with d2 _
      have e2 : us = us' := by simpa using congrArg (fun a => a.toList) d2
      subst e2
      have := Vals.inj rm rm'
      exact hij (List.map_inj_right (fun a b h => V.str.inj h) |>.mp this)
    have eqf : ((List.range (min us.toArray.size us'.toArray.size)).all (fun k => decide ((ns.getD i [])[k]? = (ns.getD j [])[k]?)) && us.toArray.size == us'.toArray.size) = false := by
      rw [Bool.eq_false_iff]
      intro h
      rw [Bool.and_eq_true] at h
      have hl : (ns.getD i []).length = (ns.getD j []).length := by
        have := h.2
        simp only [List.size_toArray, beq_iff_eq] at this
        omega
      apply hij
      apply List.ext_getElem?
      intro k
      by_cases hk : k < (ns.getD i []).length
      · have := List.all_eq_true.mp h.1 k (List.mem_range.mpr (by simp only [List.size_toArray]; omega))
        exact of_decide_eq_true this
      · rw [List.getElem?_eq_none_iff.mpr (by omega), List.getElem?_eq_none_iff.mpr (by omega)]
    refine PySem.W.kat_cons (SeqAt.EqAt.of_refs hmm (SeqAt.RcAt.tuples (e := fun k => decide ((ns.getD i [])[k]? = (ns.getD j [])[k]?)) pm pm' hu fun k h1 h2 => (str_eqAt rm rm' k h1 h2).1) _ _ _ _ ?_)
    rw [eqf]
    refine PySem.W.kat_no (PySem.W.kat_one _ _ ?_)
    refine SeqAt.LtAt.tuples (e := fun k => decide ((ns.getD i [])[k]? = (ns.getD j [])[k]?)) (c := fun k => ltS ((ns.getD i []).getD k "") ((ns.getD j []).getD k "")) pm pm' hu (fun k h1 h2 => (str_eqAt rm rm' k h1 h2).1) (fun k h1 h2 _ => (str_eqAt rm rm' k h1 h2).2) _ _ _ _ ?_
    show C _ s
    have := lexB_eq (ns.getD i []) (ns.getD j [])
    rw [l1, l2] at this
    simp only [List.size_toArray]
    rw [this]
    exact hC
end
end L2
namespace L2
open PySem PySem.Spec PyProof.Rows
def rDGet2 : V → List V → Hp → VK → Prop := fun x xs H Q => ∃ a y z o, x = .ref a ∧ xs = [y, z] ∧ DGet H a y o ∧ Q (o.getD z) H
section
variable {X : Cx}
theorem mt_dget2 (hu : X.A.units + 1 < cLine) : MtR X "dict.get" rDGet2 := by
  intro pins s σ H x xs v us Q I rx r h
  obtain ⟨a, y, z, o, rfl, rfl, g, q⟩ := h
  cases (show v = Value.ref a from rx)
  cases r with
  | cons ry rr =>
    cases rr with
    | cons rz rr =>
      cases rr
      rename_i u1 u2
      rcases g with ⟨kvs, k, e, ey, l⟩ | ⟨kvs, k, b, e, ey, eb, l⟩
      · subst ey
        obtain ⟨_, hd, vs, rel, dd⟩ := dk_rd I.hok e
        refine call_meetsIn PySem.F.slot_dict_get dd.typeIs PySem.F.entry_dict_get (PySem.F.args_dict_get_3 _ _ _) (meets_dict_get_default (mixKind X.prog X.w) a (kV_is ry) hd u2) ⟨_, dd.mapOf, ⟨_, H, I.tok _, ?_, q⟩⟩
        rw [l]
        exact RelO.getD (rel.val k) rz
      · subst ey
        cases (show u1 = Value.ref b from ry)
        obtain ⟨_, hd, xs, rel, dd⟩ := dt_rd I.hok e
        have rv := rel.val k
        rw [← l] at rv
        refine wpAny_call_entry PySem.F.slot_dict_get dd.typeIs PySem.F.entry_dict_get ?_ (PySem.F.args_dict_get_3 _ _ _)
        show wpAny _ _ (dictGet a (.ref b) >>= _) _ _ s
        refine wpAny_bind (wpAny_dictGet_heap (tupleKind_room_in1 hu) (key_of I.hok eb) dd ?_)
        have g := RelO.getD rv rz
        cases hf : atKey xs k with
        | some p =>
          rw [hf] at g
          exact wpAny_pure ⟨p.2, rfl, ⟨_, H, I.tok _, g, q⟩⟩
        | none =>
          rw [hf] at g
          show wpAny _ _ (Builtin.Dict.missed a (.ref b) >>= _) _ _ _
          exact wpAny_bind (wpAny_missed_other hd (wpAny_pure ⟨u2, rfl, ⟨_, H, I.tok _, g, q⟩⟩))
theorem tyV_dictT {K : PySem.W.Frag} {a : Addr} {kvs : List (List Key × V)} {H : Hp} (h : H a = some (.dT kvs)) : tyV K "dict" (.ref a) H := .inr (.inr (.inl ⟨rfl, .inr ⟨kvs, h⟩⟩))
end
end L2
namespace L2
open PySem PySem.Spec PyProof.Rows
theorem rel_is {P : Program} {w : World} {k : Key} {u : Value} (h : (mixKind P w).is k u = true) : RelV (kV k) u := by
  rcases keyIs_shape h with ⟨i, t, rfl, rfl⟩ | ⟨x, t, rfl, rfl⟩
  · exact ⟨t, rfl⟩
  · exact ⟨t, rfl⟩
def Itk (a : Addr) (o : Obj) (kvs : List (Key × V)) : It :=
  ⟨fun i H => i < kvs.length ∧ H a = some (.frz o (.dK kvs)), fun i H x H' => H' = H ∧ ∃ k, (kvs.map (·.1))[i]? = some k ∧ x = kV k, fun i H => i = kvs.length ∧ H a = some (.frz o (.dK kvs))⟩
theorem frz_at {P : Program} {w : World} {H : Hp} {h : Heap} {a : Addr} {o : Obj} {kvs : List (Key × V)} {ep : Nat} (ok : HOk P w H h) (e : H a = some (.frz o (.dK kvs))) (he : ∃ es, o.data = .dict es ep) : ∃ vs, KV kvs vs ∧ h.DictAt (mixKind P w) a vs ep := by
  obtain ⟨h1, _, _, vs, r, o', es', ep', h2, h3, h4, h5⟩ := (show ObjOk P w H h a (.frz o (.dK kvs)) from ok a _ e)
  rw [h1] at h2
  cases h2
  obtain ⟨es, he⟩ := he
  rw [he] at h4
  cases h4
  exact ⟨vs, r, o, _, h1, h3, he, h5⟩
theorem turn_dict {P : Program} {w : World} {K : PySem.W.Frag} {tg : Expr} (a it : Addr) (o : Obj) (kvs : List (Key × V)) (ep : Nat) (he : ∃ es, o.data = .dict es ep) : Turn P w K tg (Itk a o kvs) [it] it (fun i h => h.IsKeyIter it a i kvs.length ep) where
  mem := by simp
  obj := fun i h st b hb => by
    have e : b = it := by simpa using hb
    subst e
    obtain ⟨o', e', c', d'⟩ := st
    exact ⟨o', e', fun v z => by rw [d'] at z; cases z⟩
  keep := fun i h h' st k => by
    obtain ⟨o', ho', r'⟩ := st
    exact ⟨o', k it (by simp) o' ho', r'⟩
  item := by
    intro X hP hw hK hc i pins s σ H E I hf st hg
    subst hP hw hK
    obtain ⟨hi, ha⟩ := hg
    obtain ⟨vs, rv, hat⟩ := frz_at I.hok ha he
    have hl := rv.length
    obtain ⟨f0, f1, f2, f3, f4, f5⟩ := hf it (by simp)
    have hi' : i < vs.length := by omega
    have hx : vs[i]? = some (vs[i].1, vs[i].2) := List.getElem?_eq_getElem hi'
    have st0 : s.heap.IsKeyIter it a i vs.length ep := by rw [← hl]; exact st
    refine wpAny_pyNext_dict_item st0 hat hx fun key h' hkey st' sb => ?_
    rw [← hl] at st'
    have I1 : Inv X pins σ H { s with heap := h' } := I.turned (t' := s.toks) (fun b o' hb e' => (sb.2 b hb).trans e') f0 f1 f3 f4 f5
    obtain ⟨o', e', c', d'⟩ := id st'
    exact ⟨key, rfl, go_of (s := { s with heap := h' }) e' c' d' (by decide) ⟨_, H, I1, rel_is hkey, ⟨rfl, _, by rw [rv.keys, List.getElem?_map, hx]; rfl, rfl⟩, st', fun b hb => (hf b hb).1⟩⟩
  done := by
    intro X hP hw hK hc i pins s σ H E I hf st hg
    subst hP hw hK
    obtain ⟨hi, ha⟩ := hg
    obtain ⟨vs, rv, hat⟩ := frz_at I.hok ha he
    have hl := rv.length
    obtain ⟨f0, f1, f2, f3, f4, f5⟩ := hf it (by simp)
    have st0 : s.heap.IsKeyIter it a i vs.length ep := by rw [← hl]; exact st
    exact wpAny_pyNext_dict_end (I.ok.hd hc) st0 hat (List.getElem?_eq_none_iff.mpr (by omega)) fun h' eb => ⟨rfl, I.turned (t' := s.toks) (fun b o' hb e' => eb b o' hb e') f0 f1 f3 f4 f5⟩
  self := fun _ _ _ _ _ st h => wpAny_pyIter_keyiter st h
section
variable {X : Cx} {pins : List (Addr × Obj)} {σ σ' : St} {H H0 : Hp} {s s0 : Shared} {a : Addr} {kvs kvs' : List (Key × V)} {o : Obj}
theorem Inv.freeze (I : Inv X pins σ H s) (e : H a = some (.dK kvs)) : ∃ o ep, (∃ es, o.data = .dict es ep) ∧ Inv X pins σ (upd H a (.frz o (.dK kvs))) s ∧ ∃ vs, KV kvs vs ∧ s.heap.DictAt (mixKind X.prog X.w) a vs ep := by
  obtain ⟨z, y, vs, r, o, es, ep, h1, h2, h3, h4⟩ := (show ObjOk X.prog X.w H s.heap a (.dK kvs) from I.hok a _ e)
  refine ⟨o, ep, ⟨es, h3⟩, ?_, vs, r, o, es, h1, h2, h3, h4⟩
  exact I.write (t' := s.toks) (h' := s.heap) (e := a) (by rw [e]; exact True.intro) (.inl rfl) (fun b u _ q => q) ⟨o, h1⟩ ⟨h1, z, y, vs, r, o, es, ep, h1, h2, h3, h4⟩
theorem Inv.thaw (I0 : Inv X pins σ' H0 s0) (e0 : H0 a = some (.dK kvs')) (I : Inv X pins σ H s) (e : H a = some (.frz o (.dK kvs))) : Inv X pins σ (upd H a (.dK kvs)) s := by
  have nn : ∀ b, H b = none → b ≠ a := fun b hb z => by rw [z, e] at hb; cases hb
  have nt : ∀ b xs, H b = some (.tup xs) → b ≠ a := fun b xs hb z => by rw [z, e] at hb; cases hb
  have no : ∀ b y, H b = some (.own y) → b ≠ a := fun b y hb z => by rw [z, e] at hb; cases hb
  refine ⟨I.ok, I.os, I.bare, ⟨I.base.keep, I.base.slot, fun b ob h1 h2 h3 => ?_, I.base.there, fun b xs h1 => ?_, fun b ob u h1 => ?_, fun b ps h1 => ?_⟩, I.loc, I.cell, ?_, fun x c h1 => ?_, fun p hp => ?_, fun b u q => ?_, I.len⟩
  · have h4 := I.base.free b ob h1 h2 h3
    rw [upd_ne (nn b h4)]
    exact h4
  · have h4 := I.base.tups b xs h1
    rw [upd_ne (nt b xs h4)]
    exact h4
  · have h4 := I.base.frzs b ob u h1
    have h5 := I0.base.frzs b ob u h1
    rw [upd_ne (fun z => by rw [z, e0] at h5; cases h5)]
    exact h4
  · obtain ⟨more, h4⟩ := I.base.tbls b ps h1
    exact ⟨more, by rw [upd_ne (fun z => by rw [z, e] at h4; cases h4)]; exact h4⟩
  · rw [upd_ne (nn _ I.free)]
    exact I.free
  · rw [upd_ne (nn _ (I.freeC x c h1))]
    exact I.freeC x c h1
  · obtain ⟨p1, p2, p3, p4, p5⟩ := I.pin p hp
    exact ⟨p1, by rw [upd_ne (nn _ p2)]; exact p2, p3, p4, p5⟩
  · by_cases hb : b = a
    · subst hb
      rw [upd_same] at q
      cases q
      exact (show ObjOk X.prog X.w H s.heap b (.frz o (.dK kvs)) from I.hok b _ e).2
    · rw [upd_ne hb] at q
      exact (I.hok b u q).stay (fun c v _ r => r) (fun c r => by rw [upd_ne (no c b r)]; exact r) fun c xs r => by rw [upd_ne (nt c xs r)]; exact r
end
def iDict (tl : TE) : TI := fun σ H R => tl σ H fun x H1 => ∃ a kvs, x = .ref a ∧ H1 a = some (.dK kvs) ∧ ∀ o, R (Itk a o kvs) (upd H1 a (.frz o (.dK kvs)))
section
variable {X : Cx} {tg : Expr}
theorem pi_dict {l : Expr} {tl : TE} (hl : PE X l tl) : PI X tg l (iDict tl) := by
  intro pins s σ H R I h
  refine thn (hl pins s σ H _ I h) fun v s1 ⟨x, H1, I1, r1, q1⟩ => ?_
  obtain ⟨a, kvs, e, ha, q⟩ := q1
  subst e
  cases r1
  obtain ⟨o, ep, he, I2, vs, rv, hat⟩ := I1.freeze ha
  have hd := (dk_of I1.hok ha).2.1
  refine wpAny_pyIter_dict hd hat ?_
  refine ⟨s1.heap.objs.size, [s1.heap.objs.size], _, _, _, rfl, I2.kept (t' := s1.toks) fun b o' e' => Heap.get?_push_of_some _ e', turn_dict a _ o kvs ep he, ⟨_, Heap.get?_push_size _ rfl, rfl, by rw [rv.length]; rfl⟩, fun b hb => ?_, q o⟩
  have e' : b = s1.heap.objs.size := by simpa using hb
  subst e'
  exact I2.fpOk (Nat.le_refl _) (I2.hok.fresh (Nat.le_refl _))
end
theorem valV_mem {κ : Type} [DecidableEq κ] {kvs : List (κ × V)} {k : κ} {y : V} (h : valV kvs k = some y) : (k, y) ∈ kvs := by
  unfold valV at h
  obtain ⟨p, hp, rfl⟩ := Option.map_eq_some_iff.mp h
  have h1 := List.find?_some hp
  have h2 := List.mem_of_find?_eq_some hp
  have : p.1 = k := by simpa using h1
  subst this
  exact h2
section
variable {X : Cx}
theorem vals_of_get : ∀ {xs : List V} {us : List Value}, xs.length = us.length → (∀ (i : Nat) (x : V), xs[i]? = some x → ∃ u, us[i]? = some u ∧ RelV x u) → Vals xs us
  | [], [], _, _ => .nil
  | x :: xs, u :: us, hl, h => by
    refine .cons ?_ (vals_of_get (by simpa using hl) fun i y hy => ?_)
    · obtain ⟨u', e, r⟩ := h 0 x rfl
      cases e
      exact r
    · obtain ⟨u', e, r⟩ := h (i + 1) y (by simpa using hy)
      exact ⟨u', by simpa using e, r⟩
  | [], _ :: _, hl, _ => by simp at hl
  | _ :: _, [], hl, _ => by simp at hl
end
end L2
namespace L2
open PySem PySem.Spec PyProof.Rows
theorem Inv.turnedL {X : Cx} {pins : List (Addr × Obj)} {σ : St} {H : Hp} {s : Shared} {h' : Heap} {t' : Nat} {fp : List Addr} (I : Inv X pins σ H s) (k : ∀ b o, b ∉ fp → s.heap.get? b = some o → h'.get? b = some o) (hf : ∀ b ∈ fp, FpOk X pins H b) : Inv X pins σ H { s with heap := h', toks := t' } := by
  have nfp : ∀ b u, H b = some u → b ∉ fp := fun b u e z => by rw [(hf b z).1] at e; cases e
  refine I.step (g' := s.gens) (d' := s.drawn) (ch := fp) (fun b hb => ?_) (fun b o _ _ hc e _ => k b o hc e) (fun b o _ _ hc e _ => ⟨o.slots, k b o hc e⟩) (fun _ _ _ _ n => n)
    (fun b o hc e => ⟨o, k b o hc e⟩) (fun _ _ e => e) (fun _ _ _ e => e) (fun b ps e => ⟨#[], by rw [e]; simp⟩) (fun m hm => ?_) (fun b u e => ?_) I.bare
  · obtain ⟨f0, f1, f2, f3, f4, f5⟩ := hf b hb
    exact ⟨f3, f1, f4, f5⟩
  · exact hm.at fun o e => k _ o (fun z => (hf _ z).2.1 rfl) e
  · exact (I.hok b u e).stay (fun c v hc q => k c v (by
      rcases hc with rfl | hc
      · exact nfp _ u e
      · exact nfp _ _ hc) q) (fun _ q => q) fun _ _ q => q
section
variable {X : Cx}
end
end L2
namespace L2.Srt
open PySem PySem.W PyProof.Rows PySem.Spec
section
variable {prog : Program} {w : World} {A : Around} {E : Value → Shared → Prop} {s : Shared}
theorem collect_keys {d : Addr} {vs : List (Key × Value)} {ep : Nat} {Q : List Value → Shared → Prop} (lo : (d == sysModules) = false) (hm : s.heap.DictAt (mixKind prog w) d vs ep) (hh : A.handled = none) (hsz : vs.length ≤ sizeLine)
    (h : ∀ h' tk (acc : Array Value), (∀ b o, s.heap.get? b = some o → h'.get? b = some o) → s.heap.objs.size < h'.objs.size → ItemsOf (fun i v => ∃ k x, vs[i]? = some (k, x) ∧ (mixKind prog w).is k v = true) acc vs.length → Q acc.toList { s with heap := h', toks := tk }) :
    wpAny (model prog w) A (collect (.ref d)) Q E s := by
  have hd : d < s.heap.objs.size := hm.lt_size
  have pl : plainId "list.__iadd__" = true := by decide +kernel
  have key : ∀ R : Result → Shared → Prop, (∀ h' tk (acc : Array Value) c, (∀ b o, b ≠ s.heap.objs.size → (s.heap.push (seqObj "list" #[] 0)).get? b = some o → h'.get? b = some o) → h'.get? s.heap.objs.size = some { cls := .type "list", dict := none, data := .seq acc c, slots := #[] } →
      ItemsOf (fun i v => ∃ k x, vs[i]? = some (k, x) ∧ (mixKind prog w).is k v = true) acc vs.length → R (.ok (.ret (.ref s.heap.objs.size))) { s with heap := h', toks := tk }) →
      codeAny (model prog w) A (.builtin "list.__iadd__" ⟨[.ref s.heap.objs.size, .ref d], []⟩) R { s with heap := s.heap.push (seqObj "list" #[] 0) } := by
    intro R hR
    refine codeAny_builtin entry_list_iadd' ?_
    rw [Around.under_plainId pl _]
    exact kdl_extend (s := { s with heap := s.heap.push (seqObj "list" #[] 0) }) (kdl_dict lo) hh (hm.push _) s.heap.objs.size (Nat.ne_of_gt hd) (Nat.ne_of_gt hd) _ 0 (Heap.get?_push_size _ rfl) (fun h' tk acc c hk hS hacc => hR h' tk acc c hk hS hacc) hsz
  unfold collect
  refine wpAny_bind (wpAny_runValue (codeAny_builtin entry_proto_collect' ?_))
  show wpAny _ _ (newList [] >>= fun v => again (.builtin "list.__iadd__" ⟨[v, .ref d], []⟩)) _ _ s
  refine wpAny_bind (wpAny_newList (wpAny_pure ⟨Code.quiet_builtin _ (by decide +kernel), key _ fun h' tk acc c hk hS hacc => ?_⟩))
  refine wpAny_bind (wpAny_load hS ?_)
  exact wpAny_pure (h h' tk acc (fun b o e => hk b o (Nat.ne_of_lt (Heap.lt_size e)) (Heap.get?_push_of_some _ e)) (Heap.lt_size hS) hacc)
end
end L2.Srt
namespace L2
open PySem PySem.Spec PyProof.Rows Srt
section
variable {X : Cx}
theorem sorted_old {h : Heap} {vs : List Value} {out : Array Value} {b : Addr} {o : Obj} (hb : h.get? b = some o) : (sortedHeap (h.push (seqObj "list" vs.toArray 0)) h.objs.size vs out).get? b = some o := by
  have hlt : b < h.objs.size := Heap.lt_size hb
  unfold sortedHeap
  have sz : (h.push (seqObj "list" vs.toArray 0)).objs.size = h.objs.size + 1 := size_push' _ _
  rw [Heap.get?_update_ne _ _ _ _ (Nat.ne_of_lt hlt), Heap.get?_push_ne _ _ _ (by rw [size_push', Heap.size_update, sz]; exact Nat.ne_of_lt (Nat.lt_of_lt_of_le hlt (by omega))), Heap.get?_push_ne _ _ _ (by rw [Heap.size_update, sz]; exact Nat.ne_of_lt (Nat.lt_of_lt_of_le hlt (by omega))), Heap.get?_update_ne _ _ _ _ (Nat.ne_of_lt hlt), Heap.get?_push_ne _ _ _ (Nat.ne_of_lt hlt)]
  exact hb
theorem sorted_at {h : Heap} {vs : List Value} {out : Array Value} : ∃ e, (sortedHeap (h.push (seqObj "list" vs.toArray 0)) h.objs.size vs out).get? h.objs.size = some (seqObj "list" out e) := by
  obtain ⟨e1, h1⟩ : ∃ e, ((h.push (seqObj "list" vs.toArray 0)).update h.objs.size (Obj.mapSeq fun _ => #[])).get? h.objs.size = some (seqObj "list" #[] e) := ⟨_, get?_update_seq (Heap.get?_push_size _ rfl) _⟩
  have sz : (h.push (seqObj "list" vs.toArray 0)).objs.size = h.objs.size + 1 := size_push' _ _
  unfold sortedHeap
  refine ⟨_, get?_update_seq (xs := #[]) (n := e1) ?_ _⟩
  rw [Heap.get?_push_ne _ _ _ (by rw [size_push', Heap.size_update, sz]; exact Nat.ne_of_lt (by omega)), Heap.get?_push_ne _ _ _ (by rw [Heap.size_update, sz]; exact Nat.ne_of_lt (by omega))]
  exact h1
end
end L2
namespace Pc
open PySem PySem.Spec L2 PyProof.Rows
section
variable {κ : Type} [DecidableEq κ]
theorem mem_put {kvs : List (κ × V)} {k : κ} {v : V} {p : κ × V} (h : p ∈ putK kvs k v) : p ∈ kvs ∨ p = (k, v) := by
  unfold putK at h
  split at h
  · obtain ⟨q, hq, rfl⟩ := List.mem_map.mp h
    by_cases e : q.1 = k
    · rw [if_pos e, e]
      exact .inr rfl
    · rw [if_neg e]
      exact .inl hq
  · rcases List.mem_append.mp h with h | h
    · exact .inl h
    · exact .inr (List.mem_singleton.mp h)
theorem valV_at : ∀ {kvs : List (κ × V)} {k : κ} {v : V}, (kvs.map (·.1)).Nodup → (k, v) ∈ kvs → valV kvs k = some v
  | [], _, _, _, h => by cases h
  | p :: r, k, v, hn, h => by
    have hn : (p.1 :: r.map (·.1)).Nodup := hn
    obtain ⟨h1, h2⟩ := List.nodup_cons.mp hn
    rcases List.mem_cons.mp h with e | e
    · rw [valV_pos (by rw [← e]), ← e]
    · rw [valV_neg (fun z => h1 (by rw [z]; exact List.mem_map.mpr ⟨(k, v), e, rfl⟩))]
      exact valV_at h2 e
end
inductive RowAt (vals kvs : List (Key × V)) : List V → Int → Int → Prop
  | put (b n : Int) : RowAt vals kvs [.str "put", .int b, .int n] b n
  | load (b : Int) (z : Str) (n : Int) (h : valV vals (Sum.inr z) = some (.int n)) : RowAt vals kvs [.str "load", .int b, .str z] b n
  | neg (b x m : Int) (h : valV kvs (Sum.inl x) = some (.int m)) (b1 : bitsOk m) : RowAt vals kvs [.str "neg", .int b, .int x] b (-m)
  | bin (z : Str) (b x y m n : Int) (hz : arS z = 2) (h1 : valV kvs (Sum.inl x) = some (.int m)) (h2 : valV kvs (Sum.inl y) = some (.int n)) (b1 : bitsOk m) (b2 : bitsOk n) : RowAt vals kvs [.str z, .int b, .int x, .int y] b (opN z m n)
def boxes (fs : List (Int × Int)) : List (Key × V) := fs.foldl (fun k p => putK k (Sum.inl p.1) (.int p.2)) []
def RunsAt (vals : List (Key × V)) (ts : List (List V)) (fs : List (Int × Int)) : Prop := ts.length = fs.length ∧ ∀ (i : Nat) (p : Int × Int), fs[i]? = some p → ∃ t, ts[i]? = some t ∧ RowAt vals (boxes (fs.take i)) t p.1 p.2
def RowsIn (H : Hp) (rs : List V) (ts : List (List V)) : Prop := rs.length = ts.length ∧ ∀ (i : Nat) (t : List V), ts[i]? = some t → ∃ a, rs[i]? = some (.ref a) ∧ H a = some (.tup t)
def BoxB (e : Nat) (fs : List (Int × Int)) : Prop := ∀ b m : Int, (Sum.inl b, V.int m) ∈ boxes fs → m.natAbs < 2 ^ e
end Pc
namespace Pc
open PySem PySem.Spec L2 PyProof.Rows
def spValOf : Sp := fun vs H Q _ => ∃ (vl : Addr) (z : Str) (n : Int) (kvs : List (Key × V)), vs = [.str z, .ref vl] ∧ H vl = some (.dK kvs) ∧ valV kvs (Sum.inr z) = some (.int n) ∧ Q (.int n) H
end Pc
namespace Pc
open PySem PySem.Spec L2 PyProof.Rows
end Pc
namespace L2
open PySem PySem.Spec PyProof.Rows PySem.SeqAt PySem.MeetsSeq PySem.MeetsSeq2 PySem.MeetsSeq3
open AutoSeq1 (wpAny_loadPart')
section
variable {P : Program} {w : World} {A : Around} {E : Value → Shared → Prop} {s : Shared}
end
section
variable {X : Cx}
end
end L2
namespace L2
open PySem
end L2
namespace Pc
open PySem PySem.Spec L2 PyProof.Rows
theorem ar_of_list {z : Str} (h1 : z.cps.toList ≠ [97, 100, 100]) (h2 : z.cps.toList ≠ [115, 117, 98]) (h3 : z.cps.toList ≠ [109, 117, 108]) (h4 : z.cps.toList ≠ [110, 101, 103]) : arS z = 0 := by
  unfold arS
  rw [if_neg (fun e => h1 (by rw [e]; decide +kernel)), if_neg (fun e => h2 (by rw [e]; decide +kernel)), if_neg (fun e => h3 (by rw [e]; decide +kernel)), if_neg (fun e => h4 (by rw [e]; decide +kernel))]
theorem ar1 (x : Nat) : arS ⟨#[x]⟩ = 0 := ar_of_list (by simp) (by simp) (by simp) (by simp)
theorem ar2 (x y : Nat) : arS ⟨#[x, y]⟩ = 0 := ar_of_list (by simp) (by simp) (by simp) (by simp)
theorem kept_x {z : Str} (hl : z.length ≤ 18) : arS (z ++ mulS (Str.ofString "x") (if inV (.str z) keptV = true then (1 : Int) else 0).toNat) = 0 ∧ (z ++ mulS (Str.ofString "x") (if inV (.str z) keptV = true then (1 : Int) else 0).toNat).length ≤ 20 := by
  by_cases h : inV (.str z) keptV = true
  · rw [if_pos h]
    have hz : z ∈ keptS := by
      obtain ⟨v, hv, e⟩ := List.any_eq_true.mp h
      simp only [keptV, List.mem_cons, List.not_mem_nil, or_false] at hv
      rcases hv with rfl | rfl | rfl | rfl | rfl | rfl | rfl | rfl | rfl <;> (rw [← eq_of_beq (show (_ == z) = true from e)]; decide +kernel)
    simp only [keptS, List.mem_cons, List.not_mem_nil, or_false] at hz
    rcases hz with rfl | rfl | rfl | rfl | rfl | rfl | rfl | rfl | rfl <;> exact ⟨by decide +kernel, by decide +kernel⟩
  · rw [if_neg h]
    have e : z ++ mulS (Str.ofString "x") (0 : Int).toNat = z := by
      show (⟨z.cps ++ #[]⟩ : Str) = z
      rw [Array.append_empty]
    rw [e]
    refine ⟨?_, by omega⟩
    rcases Nat.eq_zero_or_pos (arS z) with k | k
    · exact k
    · exact absurd (by rcases arS_cases k with rfl | rfl | rfl | rfl <;> decide +kernel) h
end Pc
namespace L2
open PySem
theorem same_thaw {H H2 : Hp} {a : Addr} {o : PySem.Obj} {u : HO} (ha : H a = some u) (hS : Same (upd H a (.frz o u)) H2) : Same H (upd H2 a u) := fun b v hb => by
  by_cases e : b = a
  · subst e
    rw [ha] at hb
    rw [upd_same]
    exact hb
  · rw [upd_ne e]
    exact hS b v (by rw [upd_ne e]; exact hb)
end L2
namespace Pc
open PySem L2
end Pc
namespace L2
open PySem PySem.Spec PyProof.Rows
def HV (P : Program) (w : World) (h : Heap) : Nat → Value → Prop
  | 0, u => ∃ k, (mixKind P w).is k u = true
  | n + 1, u => (∃ k, (mixKind P w).is k u = true) ∨ ∃ a its, u = .ref a ∧ IsTup h a its ∧ ∀ v ∈ its.toList, HV P w h n v
def NstV (H : Hp) : Nat → V → Prop
  | 0, v => ∃ k, v = kV k
  | n + 1, v => (∃ k, v = kV k) ∨ ∃ a xs, v = .ref a ∧ H a = some (.tup xs) ∧ ∀ x ∈ xs, NstV H n x
section
variable {P : Program} {w : World}
theorem vals_mem : ∀ {xs : List V} {us : List Value}, Vals xs us → ∀ u ∈ us, ∃ x ∈ xs, RelV x u
  | _, _, .nil, _, h => nomatch h
  | x :: xs, u :: us, .cons r t, y, h => by
    rcases List.mem_cons.mp h with e | e
    · subst e
      exact ⟨x, List.mem_cons_self, r⟩
    · obtain ⟨z, hz, rz⟩ := vals_mem t y e
      exact ⟨z, List.mem_cons_of_mem _ hz, rz⟩
theorem hv_of {H : Hp} {h : Heap} (ok : HOk P w H h) : ∀ (n : Nat) {v : V} {u : Value}, NstV H n v → RelV v u → HV P w h n u
  | 0, _, _, ⟨k, e⟩, r => by subst e; exact ⟨k, kV_is r⟩
  | n + 1, _, _, .inl ⟨k, e⟩, r => by subst e; exact .inl ⟨k, kV_is r⟩
  | n + 1, _, u, .inr ⟨a, xs, e, ha, hx⟩, r => by
    subst e
    cases (show u = Value.ref a from r)
    obtain ⟨_, its, rv, p⟩ := (tup_rd ok ha)
    refine .inr ⟨a, its.toArray, rfl, p, fun v hv => ?_⟩
    obtain ⟨x, mx, rx⟩ := vals_mem rv v (by simpa using hv)
    exact hv_of ok n (hx x mx) rx
theorem hash_key {A : Around} {E : Value → Shared → Prop} {s : Shared} {k : Key} {u : Value} {Q : Int → Shared → Prop} (hk : (mixKind P w).is k u = true) (q : ∀ i tk, Q i { s with toks := tk }) : wpAny (model P w) A (pyHash u) Q E s := (mixKind P w).pyHash hk (q _ _)
theorem hash_any : ∀ (n : Nat) {u : Value} {A : Around} {E : Value → Shared → Prop} {s : Shared} {Q : Int → Shared → Prop}, HV P w s.heap n u → A.units + n < cLine → (∀ i tk, Q i { s with toks := tk }) → wpAny (model P w) A (pyHash u) Q E s
  | 0, _, _, _, _, _, ⟨k, hk⟩, _, q => hash_key hk q
  | n + 1, _, _, _, _, _, .inl ⟨k, hk⟩, _, q => hash_key hk q
  | n + 1, u, A, E, s, Q, .inr ⟨a, its, e, ht, hi⟩, hu, q => by
    subst e
    have hT : s.TypeIs (.ref a) "tuple" := ht.typeIs
    obtain ⟨o, ho, hc, m, hd⟩ := id ht
    have hu0 : A.units < cLine := by omega
    unfold pyHash pyHashByItsType
    refine wpAny_bind (wpAny_cRoomFor_or (.inr hu0) (wpAny_bind (wpAny_specialOf hT F.slot_tuple_hash.lookup ?_)))
    have nb : ¬ (some (Value.builtin "tuple.__hash__") == some Value.none) = true := by rw [beq_builtin_none]; exact Bool.false_ne_true
    dsimp only
    rw [if_neg nb]
    refine wpAny_bind (wpAny_specialOf hT F.slot_tuple_hash.lookup ?_)
    show wpAny _ A (callSpecialIfBoundUnlessNone? (Value.ref a) "__hash__" _ >>= _) Q E s
    refine wpAny_bind (wpAny_callSpecialIfBoundUnlessNone?_slot hT F.slot_tuple_hash (wpAny_call_entry F.slot_tuple_hash hT F.entry_tuple_hash (?_ : wpAny _ _ (Builtin.Tuple.tupleItemsOf (.ref a) >>= _) _ _ s) (F.args_tuple_hash_1 _)))
    refine wpAny_bind (wpAny_tupleItemsOf ho hd (wpAny_bind ?_))
    rw [← Array.forIn_toList]
    refine wpAny_forIn_list _ (fun rest (b : Array Int) s' => (∃ tk, s' = { s with toks := tk }) ∧ ∀ v ∈ rest, HV P w s.heap n v) _ ?_ ?_ _ _ ⟨⟨s.toks, rfl⟩, hi⟩
    · rintro x rest b s' ⟨⟨tk, rfl⟩, hr⟩
      have hu1 : A.in1.units + n < cLine := by
        show A.units + 1 + n < cLine
        omega
      refine wpAny_bind (hash_any n (hr x List.mem_cons_self) hu1 fun i tk' => ?_)
      exact wpAny_pure ⟨⟨tk', rfl⟩, fun v hv => hr v (List.mem_cons_of_mem _ hv)⟩
    · rintro b s' ⟨⟨tk, rfl⟩, _⟩
      refine (show wpAny _ _ (retInt (Builtin.Tuple.tupleHashOf b.toList)) _ _ _ from wpAny_ret_mkInt ?_)
      generalize Builtin.Tuple.tupleHashOf b.toList = j
      show wpAny _ A (pyHashByItsType.reduced j) Q E _
      unfold pyHashByItsType.reduced
      refine wpAny_ite_split (fun _ => wpAny_pure (q _ _)) fun _ => wpAny_bind (wpAny_rule (wpAny_pure (q _ _)))
theorem quiet_any : ∀ (n m : Nat) {u : Value} {A : Around} {E : Value → Shared → Prop} {s : Shared} {Q : Bool → Shared → Prop}, n ≤ m → HV P w s.heap n u → Q true s → wpAny (model P w) A (eqIsQuiet m u) Q E s
  | 0, m, _, _, _, _, _, _, ⟨k, hk⟩, q => by
    rw [eqIsQuiet_byValue m ((mixKind P w).byValue k _ hk)]
    exact wpAny_pure q
  | n + 1, m, _, _, _, _, _, _, .inl ⟨k, hk⟩, q => by
    rw [eqIsQuiet_byValue m ((mixKind P w).byValue k _ hk)]
    exact wpAny_pure q
  | n + 1, 0, _, _, _, _, _, hl, .inr _, _ => by omega
  | n + 1, m + 1, u, A, E, s, Q, hl, .inr ⟨a, its, e, ht, hi⟩, q => by
    subst e
    have hT : s.TypeIs (.ref a) "tuple" := ht.typeIs
    obtain ⟨o, ho, hc, k, hd⟩ := id ht
    unfold eqIsQuiet
    refine wpAny_bind (wpAny_specialOf hT F.slot_tuple_eq.lookup (?_ : wpAny _ _ (isInstance (.ref a) (.type "tuple") >>= _) _ _ s))
    refine wpAny_bind (wpAny_isInstance hT isSubtype_tuple_tuple ?_)
    simp only [Bool.not_true, Bool.false_eq_true, if_false]
    refine wpAny_bind (wpAny_seqItems ho hd (wpAny_bind (?_ : wpAny _ _ (forIn its _ _) _ _ s)))
    rw [← Array.forIn_toList]
    refine wpAny_forIn_list _ (fun rest r s' => r.1 = none ∧ s' = s ∧ ∀ v ∈ rest, HV P w s.heap n v) _ ?_ ?_ _ _ ⟨rfl, rfl, hi⟩
    · rintro v rest r s' ⟨hr, rfl, hall⟩
      refine wpAny_bind (quiet_any n m (by omega) (hall v List.mem_cons_self) ?_)
      simp only [Bool.not_true, Bool.false_eq_true, if_false]
      exact wpAny_pure ⟨rfl, rfl, fun x hx => hall x (List.mem_cons_of_mem _ hx)⟩
    · rintro ⟨r1, r2⟩ s' ⟨hr, rfl, _⟩
      simp only at hr
      subst hr
      exact wpAny_pure q
theorem eq_key {A : Around} {E : Value → Shared → Prop} {s : Shared} {k : Key} {u : Value} {b : Addr} {its : Array Value} {Q : Bool → Shared → Prop} (hk : (mixKind P w).is k u = true) (hb : IsTup s.heap b its) (hu : A.units < cLine) (q : Q false s) : wpAny (model P w) A (eqBool u (.ref b)) Q E s := by
  rcases keyIs_shape hk with ⟨i, t, rfl, rfl⟩ | ⟨x, t, rfl, rfl⟩
  · exact SeqAt.EqAt.int_tuple i t (show s.heap.IsTuple b its from hb) hu P w E Q q
  · exact SeqAt.EqAt.str_tuple x t (show s.heap.IsTuple b its from hb) hu P w E Q q
theorem find_other {d b : Addr} {n : Nat} {j : Int} {vs : List (Key × Value)} {its : Array Value} {A : Around} {E : Value → Shared → Prop} {s : Shared} {Q : Option Nat → Shared → Prop} (hd : s.heap.DictOf (mixKind P w) d vs) (hb : IsTup s.heap b its) (hn : n ≤ 8) (hv : HV P w s.heap n (.ref b)) (hu : A.units < cLine) (q : Q none s) :
    wpAny (model P w) A (dictFind d (.ref b) j) Q E s := by
  obtain ⟨o, es, ep, ho, hc, hdat, hk, hp, hnd⟩ := hd
  have hval : ∀ (i : Nat) (e : DictEntry), es[i]? = some e → ∃ k, (mixKind P w).is k e.key = true := fun i e he => by
    obtain ⟨k, h1, _⟩ := hk e (Array.mem_of_getElem? he)
    exact ⟨k, h1⟩
  have nref : ∀ {k : Key} {u : Value}, (mixKind P w).is k u = true → ¬ u = Value.ref b := fun {k u} h e => by
    have := (mixKind P w).byValue k u h
    rw [e] at this
    cases this
  have hany : ¬ (es.any fun e => e.key == Value.ref b && e.hash != j) = true := by
    rw [← Array.any_toList, List.any_eq_true]
    rintro ⟨e, he, hc⟩
    obtain ⟨k, h1, _⟩ := hk e (Array.mem_toList_iff.mp he)
    rw [Bool.and_eq_true] at hc
    exact nref h1 (eq_of_beq hc.1)
  generalize hpl : placesWithHash es.size (fun i => es[i]?.map (·.hash)) j = places
  have hst : ∀ v ∈ places.filterMap (fun i => es[i]?.map (·.key)), ∃ k, (mixKind P w).is k v = true := fun v hv => by
    obtain ⟨i, _, hi⟩ := List.mem_filterMap.mp hv
    obtain ⟨e, he, rfl⟩ := Option.map_eq_some_iff.mp hi
    exact hval i e he
  unfold dictFind
  try with_reducible refine wpAny_holding ?_
  refine wpAny_bind (wpAny_dictEntries ho hdat ?_)
  dsimp only
  rw [hpl]
  generalize places.filterMap (fun i => es[i]?.map (·.key)) = stored at hst
  have c1 : ¬ (Value.ref b :: stored).all carriedByValue = true := by simp [carriedByValue]
  have c3 : ¬ (stored == [Value.ref b]) = true := fun e => by
    obtain ⟨k, hk⟩ := hst (.ref b) (by rw [eq_of_beq e]; exact List.mem_singleton.mpr rfl)
    exact nref hk rfl
  have may : ∀ Q' : Bool → Shared → Prop, Q' false s → wpAny (model P w) A (tableMayTell (.ref b) stored) Q' E s := fun Q' q' => by
    unfold tableMayTell
    split
    · exact wpAny_pure q'
    · refine wpAny_bind (quiet_any n 8 hn hv ?_)
      simp only [Bool.not_true, Bool.false_eq_true, if_false]
      refine wpAny_bind (wpAny_forIn_list _ (fun rest r s' => s' = s ∧ r = (none, ()) ∧ ∀ v ∈ rest, ∃ k, (mixKind P w).is k v = true) _ ?_ ?_ _ _ ⟨rfl, rfl, hst⟩)
      · rintro x rest r s' ⟨rfl, rfl, hr⟩
        obtain ⟨k, hk⟩ := hr x List.mem_cons_self
        rw [eqIsQuiet_byValue 8 ((mixKind P w).byValue k _ hk)]
        refine wpAny_bind (wpAny_pure ?_)
        simp only [Bool.not_true, Bool.false_eq_true, if_false]
        exact wpAny_pure ⟨rfl, rfl, fun v hv => hr v (List.mem_cons_of_mem _ hv)⟩
      · rintro r s' ⟨rfl, rfl, _⟩
        exact wpAny_pure q'
  rw [if_neg c1, if_neg hany, if_neg c3]
  refine wpAny_bind (may _ ?_)
  rw [if_neg (by simp)]
  refine wpAny_bind (wpAny_forIn_list _ (fun rest r s' => s' = s ∧ r = (none, none)) _ ?_ ?_ _ _ ⟨rfl, rfl⟩)
  · rintro x rest r s' ⟨rfl, rfl⟩
    cases hx : es[x]? with
    | none => exact wpAny_pure ⟨rfl, rfl⟩
    | some e =>
      obtain ⟨k, hk⟩ := hval x e hx
      dsimp only
      refine wpAny_ite_split (fun _ => ?_) fun _ => wpAny_pure ⟨rfl, rfl⟩
      refine wpAny_bind (wpAny_dictEpoch ho hdat (wpAny_bind (eq_key hk hb hu (wpAny_bind (wpAny_dictEpoch ho hdat ?_)))))
      rw [if_neg (show ¬ (ep != ep) = true by simp)]
      simp only [Bool.false_eq_true, if_false, Bool.false_and]
      exact wpAny_bind (wpAny_rule (wpAny_pure ⟨rfl, rfl⟩))
  · rintro r s' ⟨rfl, rfl⟩
    exact wpAny_pure q
end
def tMGetF (kvs : List (Key × V)) (ty tx : TE) : TE := fun σ H Q => ty σ H fun y H2 => tx σ H2 fun z H3 => (∃ k, y = kV k ∧ Q ((valV kvs k).getD z) H3) ∨ ∃ a xs, y = .ref a ∧ H3 a = some (.tup xs) ∧ (∀ x ∈ xs, NstV H3 3 x) ∧ Q z H3
section
variable {X : Cx} {a : Addr} {kvs : List (Key × V)}
theorem pe_mgetF {o e f : Expr} {apos cpos : Pos} {ty tx : TE} (hu : X.A.units + 8 < cLine) (ho : PE X o (tC (.ref a))) (md : ModD X.w X.K a kvs) (he : PE X e ty) (hf : PE X f tx) (m : M2 X o "get" apos e f cpos) : PE X (.Call (.Attribute o "get" apos) [e, f] [] cpos) (tMGetF kvs ty tx) := by
  intro pins s σ H Q I h
  refine wpAny_Call_method m.base m.few m.line PySem.F.plainAttrs_dict PySem.F.slot_dict_get PySem.F.type_dict_get (thn (ho pins s σ H (fun x H1 => x = .ref a ∧ H1 = H) I ⟨rfl, rfl⟩) fun u s1 ⟨x, H1, I1, rx, ex, eH⟩ => ?_)
  subst ex eH
  obtain rfl : u = Value.ref a := rx
  obtain ⟨vs, rel, dd⟩ := md.2 X.prog _ I1.kIn
  refine ⟨dd.typeIs, fun b q => ?_, ?_⟩
  · cases q
    obtain ⟨ob, _, _, h1, h2, _⟩ := dd
    exact ⟨ob, h1, h2.2.1⟩
  rw [m.trees]
  refine Calls.callWith_builtin rfl (Calls.evalArgs_plain (Calls.spliced_cons (thn (he pins s1 σ H1 _ I1 h) fun iv s2 ⟨y, H2, I2, ry, q2⟩ =>
    Calls.spliced_cons (thn (hf pins s2 σ H2 _ I2 q2) fun fv s3 ⟨z, H3, I3, rz, q3⟩ => Calls.spliced_nil ?_))))
  obtain ⟨vs', rel', dd'⟩ := md.2 X.prog _ I3.kIn
  rcases q3 with ⟨k, ek, q3⟩ | ⟨b, xs, ey, hb, hx, q3⟩
  · subst ek
    refine call_meetsIn PySem.F.slot_dict_get dd'.typeIs PySem.F.entry_dict_get (PySem.F.args_dict_get_3 _ _ _) (meets_dict_get_default (mixKind X.prog X.w) a (kV_is ry) md.1 fv) ⟨_, dd'.mapOf, ⟨_, H3, I3.tok _, ?_, q3⟩⟩
    exact (rel'.val k).getD rz
  · subst ey
    cases (show iv = Value.ref b from ry)
    have hv : HV X.prog X.w s3.heap 4 (.ref b) := hv_of I3.hok 4 (v := .ref b) (.inr ⟨b, xs, rfl, hb, hx⟩) rfl
    obtain ⟨_, its, rv, pt⟩ := (tup_rd I3.hok hb)
    refine wpAny_call_entry PySem.F.slot_dict_get dd'.typeIs PySem.F.entry_dict_get (?_ : wpAny _ _ (dictGet a (.ref b) >>= _) _ _ s3) (PySem.F.args_dict_get_3 _ _ _)
    refine wpAny_bind ?_
    unfold dictGet
    try with_reducible refine wpAny_holding ?_
    refine wpAny_bind (hash_any 4 hv (by show X.A.units + 1 + 4 < cLine; omega) fun i tk => ?_)
    refine wpAny_bind (find_other (s := { s3 with toks := tk }) dd' pt (by decide) hv (by show X.A.units + 1 < cLine; omega) (wpAny_pure ?_))
    refine (show wpAny _ _ (Builtin.Dict.missed a (.ref b) >>= _) _ _ _ from wpAny_bind (wpAny_missed_other md.1 (wpAny_pure ⟨fv, rfl, ⟨_, H3, I3.tok _, rz, q3⟩⟩)))
end
end L2
namespace L2.Itm
open PySem PySem.Spec PyProof.Rows
structure Raw (h : Heap) (d : Addr) (es : Array DictEntry) (ep : Nat) (o : Obj) : Prop where
  there : h.get? d = some o
  exact' : o.ExactDict
  data : o.data = .dict es ep
theorem Raw.typeIs {s : Shared} {d : Addr} {es : Array DictEntry} {ep : Nat} {o : Obj} (r : Raw s.heap d es ep o) : s.TypeIs (.ref d) "dict" := ⟨o, r.there, r.exact'.1⟩
section
variable {prog : Program} {w : World} {A : Around} {E : Value → Shared → Prop} {s : Shared} {d : Addr} {es : Array DictEntry} {ep : Nat} {o : Obj}
theorem items_call {Q : Value → Shared → Prop} (hd : (d == sysModules) = false) (r : Raw s.heap d es ep o) (q : Q (.ref s.heap.objs.size) { s with heap := s.heap.push { cls := .type "dict_items", data := .fields #[.ref d] } }) :
    wpAny (model prog w) A (call (.builtin "dict.items") [.ref d]) Q E s := by
  refine wpAny_call_entry PySem.F.slot_dict_items r.typeIs PySem.F.entry_dict_items ?_ (PySem.F.args_dict_items_1 _)
  unfold Builtin.«dict.items»
  refine wpAny_bind ?_
  unfold Builtin.Dict.noArgs
  refine wpAny_bind (wpAny_notOrdered_dict r.typeIs (?_ : wpAny _ _ (pure d) _ _ s))
  refine wpAny_pure (?_ : wpAny _ _ (Builtin.Dict.showsAll d >>= _) _ _ s)
  unfold Builtin.Dict.showsAll
  rw [if_neg (show ¬ (d == sysModules) = true by rw [hd]; decide)]
  exact wpAny_bind (wpAny_pure (wpAny_bind (wpAny_newObj_type (wpAny_pure ⟨_, rfl, q⟩))))
theorem items_iter {v : Addr} {Q : Value → Shared → Prop} (hv : s.heap.IsItemsView v d) (r : Raw s.heap d es ep o) (q : Q (.ref s.heap.objs.size) { s with heap := s.heap.push { cls := .type "dict_itemiterator", data := .fields #[.none, .bool false, .ref d, .int 0 0, .int es.size 0, .int ep 0, .none, .none] } }) :
    wpAny (model prog w) A (pyIter (.ref v)) Q E s := by
  obtain ⟨ov, hov, hcv, hdv⟩ := id hv
  refine wpAny_pyIter_slot hv.typeIs PySem.F.slot_dict_items_iter (wpAny_call_entry PySem.F.slot_dict_items_iter hv.typeIs PySem.F.entry_dict_items_iter ?_ (PySem.F.args_dict_items_iter_1 _))
  unfold Builtin.«dict_items.__iter__»
  refine wpAny_bind (wpAny_pure (wpAny_bind ?_))
  unfold Builtin.Dict_items.dictOf
  refine wpAny_bind (wpAny_field hov hdv (x := .ref d) rfl (wpAny_pure (wpAny_bind ?_)))
  unfold Builtin.Dict_items.newIterator
  refine wpAny_bind (wpAny_dictEntries r.there r.data (wpAny_bind (wpAny_dictEpoch r.there r.data ?_)))
  have own : Builtin.Dict_items.ownsTuple "dict_itemiterator" = true := by decide
  simp only [own, if_true]
  refine wpAny_newObj_type (wpAny_pure ⟨_, rfl, "dict_itemiterator", _, ⟨_, Heap.get?_push_size _ rfl, rfl⟩, PySem.F.slot_dict_itemiterator_next.lookup, by simpa [rawInt, Builtin.Dict_items.ownedTupleFields] using q⟩)
    (by simp only [sizeOk, Builtin.Dict_items.ownedTupleFields, List.size_toArray, List.length_append, List.length_cons, List.length_nil]; rw [sizeLine_eq]; omega)
theorem items_next {it : Addr} {i : Nat} {e : DictEntry} {ok ov : Value} {Q : Option Value → Shared → Prop} (hit : IsItemIter s.heap it d i es.size ep ok ov) (r : Raw s.heap d es ep o) (hx : es[i]? = some e)
    (q : ∀ h', IsItemIterOut h' it d (i + 1) es.size ep e.key e.val s.heap.objs.size → h'.get? s.heap.objs.size = some { cls := .type "tuple", data := .seq #[e.key, e.val] } → h'.objs.size = s.heap.objs.size + 1 →
      (∀ b o, b ≠ it → s.heap.get? b = some o → h'.get? b = some o) → Q (some (.ref s.heap.objs.size)) { s with heap := h' }) : wpAny (model prog w) A (pyNext (.ref it)) Q E s := by
  obtain ⟨hq, g, dr, tk, os⟩ := s
  have hT : Shared.TypeIs ⟨hq, g, dr, tk, os⟩ (.ref it) "dict_itemiterator" := ⟨_, hit, rfl⟩
  have hlt : i < es.size := (Array.getElem?_eq_some_iff.mp hx).1
  unfold pyNext
  refine wpAny_bind (wpAny_attempt (wpAny_callSpecial?_slot (name := Str.ofString "__next__") hT PySem.F.slot_dict_itemiterator_next (wpAny_call_entry PySem.F.slot_dict_itemiterator_next hT PySem.F.entry_dict_itemiterator_next ?_ (PySem.F.args_dict_itemiterator_next_1 _))))
  refine wpAny_bind (wpAny_pure (wpAny_bind (wpAny_bind ?_)))
  refine wpAny_bind (wpAny_typeNameOfWhole_itemiter hT (wpAny_pure (wpAny_bind (wpAny_fieldsOf hit rfl ?_))))
  have own : Builtin.Dict_items.ownsTuple "dict_itemiterator" = true := by decide
  simp only [own, if_true]
  refine (show wpAny _ _ (if (Value.ref d == Value.none) = true then _ else _) _ _ _ from ?_)
  rw [if_neg (show ¬ (Value.ref d == Value.none) = true from fun z => by cases z)]
  refine wpAny_bind (wpAny_pure (wpAny_bind (wpAny_dictEntries r.there r.data ?_)))
  rw [if_neg (by simp)]
  refine wpAny_bind (wpAny_pure (wpAny_bind (wpAny_dictEpoch r.there r.data ?_)))
  rw [if_neg (by simp)]
  refine wpAny_pure ?_
  simp only [show ¬ ((i : Int) < 0) by omega, if_false, Int.toNat_natCast, hx]
  refine wpAny_bind ?_
  refine wpAny_bind (wpAny_typeNameOfWhole_itemiter hT (wpAny_pure (wpAny_bind (wpAny_isOneOf_itemiter hT ?_))))
  have ei : ((i + 1 : Nat) : Int) = (i : Int) + 1 := by omega
  refine wpAny_bind (show wpAny _ _ (setField (.ref it) 3 (rawInt ((i : Int) + 1))) _ _ (Shared.mk hq g dr tk os) from wpAny_setField_rec hit (by simp) fun h1 e1 s1 => ?_)
  have s1 : Heap.SameBut it hq h1 := s1
  have e1 : IsItemIter h1 it d (i + 1) es.size ep ok ov := by
    unfold IsItemIter
    rw [ei]
    simpa [rawInt] using e1
  have T1 : Shared.TypeIs ⟨h1, g, dr, tk, os⟩ (.ref it) "dict_itemiterator" := ⟨_, e1, rfl⟩
  refine wpAny_bind (wpAny_holding (wpAny_bind (wpAny_isOneOf_itemiter T1 (wpAny_bind (wpAny_isOneOf_itemiter T1 ?_)))))
  refine (show wpAny _ _ (Builtin.Dict_items.pairFromOwner (.ref it) 6 e.key e.val) _ _ (Shared.mk h1 g dr tk os) from ?_)
  unfold Builtin.Dict_items.pairFromOwner
  refine wpAny_bind (wpAny_newTuple ?_)
  have e2 : IsItemIter (h1.push { cls := .type "tuple", data := .seq #[e.key, e.val] }) it d (i + 1) es.size ep ok ov := Heap.get?_push_of_some _ e1
  have z1 : h1.objs.size = hq.objs.size := s1.1
  have t2 : (h1.push { cls := .type "tuple", data := .seq #[e.key, e.val] }).get? hq.objs.size = some { cls := .type "tuple", data := .seq #[e.key, e.val] } := by
    rw [← z1]
    exact Heap.get?_push_size _ rfl
  have z2 : (h1.push { cls := .type "tuple", data := .seq #[e.key, e.val] }).objs.size = hq.objs.size + 1 := by rw [Heap.size_push, z1]
  have k2 : ∀ b o, b ≠ it → hq.get? b = some o → (h1.push { cls := .type "tuple", data := .seq #[e.key, e.val] }).get? b = some o := fun b o' hb he => Heap.get?_push_of_some _ (s1.extBut b o' hb he)
  have lit : it < hq.objs.size := Heap.lt_size hit
  rw [z1]
  refine (show wpAny _ _ (Builtin.Dict_items.ownedTupleIsFree (.ref it) >>= _) _ _ (Shared.mk (h1.push { cls := .type "tuple", data := .seq #[e.key, e.val] }) g dr tk os) from ?_)
  generalize h1.push { cls := .type "tuple", data := .seq #[e.key, e.val] } = h2 at e2 t2 z2 k2
  clear T1 e1 s1 z1
  refine wpAny_bind ?_
  unfold Builtin.Dict_items.ownedTupleIsFree
  refine wpAny_bind (wpAny_field e2 rfl (x := .none) rfl (wpAny_pure ?_))
  simp only [if_true]
  refine wpAny_bind (wpAny_field e2 rfl (x := ok) rfl (wpAny_bind (wpAny_field e2 rfl (x := ov) rfl ?_)))
  refine wpAny_bind (wpAny_setField_rec e2 (by simp) fun h3 e3 s3 => ?_)
  have e3 : IsItemIter h3 it d (i + 1) es.size ep e.key ov := e3
  refine wpAny_bind (wpAny_setField_rec e3 (by simp) fun h4 e4 s4 => ?_)
  have e4 : IsItemIter h4 it d (i + 1) es.size ep e.key e.val := e4
  refine wpAny_bind (wpAny_setField_rec e4 (by simp) fun h5 e5 s5 => ?_)
  have e5 : IsItemIterOut h5 it d (i + 1) es.size ep e.key e.val hq.objs.size := e5
  refine wpAny_bind (wpAny_setField_rec e5 (by simp) fun h6 e6 s6 => ?_)
  have e6 : IsItemIterOut h6 it d (i + 1) es.size ep e.key e.val hq.objs.size := e6
  have S : Heap.SameBut it h2 h6 := ((s3.trans s4).trans s5).trans s6
  refine wpAny_bind (wpAny_letGo (wpAny_pure (wpAny_pure ⟨_, rfl, wpAny_pure (q h6 e6 (S.extBut _ _ (Nat.ne_of_gt lit) t2) (S.1.trans z2) fun b o' hb he => S.extBut b o' hb (k2 b o' hb he))⟩)))
theorem items_end {it : Addr} {i : Nat} {ok ov : Value} {Q : Option Value → Shared → Prop} (hh : A.handled = none) (hit : IsItemIter s.heap it d i es.size ep ok ov) (r : Raw s.heap d es ep o) (hx : es.size ≤ i)
    (q : ∀ h', Heap.ExtBut it s.heap h' → Q none { s with heap := h' }) : wpAny (model prog w) A (pyNext (.ref it)) Q E s := by
  have hT : s.TypeIs (.ref it) "dict_itemiterator" := ⟨_, hit, rfl⟩
  unfold pyNext
  refine wpAny_bind (wpAny_attempt (wpAny_callSpecial?_slot (name := Str.ofString "__next__") hT PySem.F.slot_dict_itemiterator_next (wpAny_call_entry PySem.F.slot_dict_itemiterator_next hT PySem.F.entry_dict_itemiterator_next ?_ (PySem.F.args_dict_itemiterator_next_1 _))))
  refine wpAny_bind (wpAny_pure (wpAny_bind (wpAny_bind ?_)))
  refine wpAny_bind (wpAny_typeNameOfWhole_itemiter hT (wpAny_pure (wpAny_bind (wpAny_fieldsOf hit rfl ?_))))
  have own : Builtin.Dict_items.ownsTuple "dict_itemiterator" = true := by decide
  simp only [own, if_true]
  refine (show wpAny _ _ (if (Value.ref d == Value.none) = true then _ else _) _ _ _ from ?_)
  rw [if_neg (show ¬ (Value.ref d == Value.none) = true from fun z => by cases z)]
  refine wpAny_bind (wpAny_pure (wpAny_bind (wpAny_dictEntries r.there r.data ?_)))
  rw [if_neg (by simp)]
  refine wpAny_bind (wpAny_pure (wpAny_bind (wpAny_dictEpoch r.there r.data ?_)))
  rw [if_neg (by simp)]
  refine wpAny_pure ?_
  simp only [show ¬ ((i : Int) < 0) by omega, if_false, Int.toNat_natCast, Array.getElem?_eq_none hx]
  refine wpAny_bind ?_
  refine wpAny_bind (wpAny_typeNameOfWhole_itemiter hT (wpAny_pure ?_))
  refine (show wpAny _ _ (setField (.ref it) 2 .none >>= _) _ _ s from wpAny_bind (wpAny_setField hit rfl (by simp) ?_))
  refine (show wpAny _ _ (newExc (.type "StopIteration") [] >>= _) _ _ _ from wpAny_bind ?_)
  simp only [newExc, newTuple]
  refine wpAny_bind (wpAny_newObj_type (wpAny_bind (m := firstArgMember _ _) (wpAny_of_eq (a := Value.none) (by first | rfl | (simp only [firstArgMember]; rfl)) (wpAny_newObj_type ?_ (by size_fits)))) (by size_fits))
  simp only [raiseNew]
  refine wpAny_bind (wpAny_handled ?_)
  rw [show A.in1.handled = none from hh]
  refine wpAny_bind (wpAny_pure (wpAny_throw ?_))
  exact wpAny_bind (wpAny_isInstance (T := "StopIteration") (b := true) ⟨_, Heap.get?_push_size _ rfl, rfl⟩ isSubtype_stop (wpAny_pure (q _ (((Heap.SameBut.update ..).extBut.push _).push _))))
end
end L2.Itm
namespace L2
open PySem PySem.Spec PyProof.Rows Itm
def Itp (a : Addr) (o : Obj) (kvs : List (List Key × V)) : It :=
  ⟨fun i H => i < kvs.length ∧ H a = some (.frz o (.dT kvs)), fun i H x H' => ∃ p t k v, kvs[i]? = some (k, v) ∧ H t = some (.tup (k.map kV)) ∧ H p = none ∧ x = .ref p ∧ H' = upd H p (.tup [.ref t, v]), fun i H => i = kvs.length ∧ H a = some (.frz o (.dT kvs))⟩
theorem frzT_at {P : Program} {w : World} {H : Hp} {h : Heap} {a : Addr} {o : Obj} {kvs : List (List Key × V)} (ok : HOk P w H h) (e : H a = some (.frz o (.dT kvs))) :
    ∃ es ep, o.data = .dict es ep ∧ Raw h a es ep o ∧ es.size = kvs.length ∧ ∀ (i : Nat) (k : List Key) (v : V), kvs[i]? = some (k, v) → ∃ t u j, es[i]? = some ⟨j, .ref t, u⟩ ∧ H t = some (.tup (k.map kV)) ∧ RelV v u := by
  obtain ⟨h1, _, _, xs, r, o', es, ep, h2, h3, h4, h5, h6⟩ := (show ObjOk P w H h a (.frz o (.dT kvs)) from ok a _ e)
  rw [h1] at h2
  cases h2
  have hl : kvs.length = xs.length := Paired.length r
  refine ⟨es, ep, h4, ⟨h1, h3, h4⟩, by rw [← Array.length_toList, h5, List.length_map, hl], fun i k v hi => ?_⟩
  have get : ∀ {l : List (List Key × V)} {m : List (List Key × Addr × Value)}, Paired (fun (p : List Key × V) (q : List Key × Addr × Value) => p.1 = q.1 ∧ H q.2.1 = some (.tup (p.1.map kV)) ∧ RelV p.2 q.2.2) l m → ∀ (i : Nat) (p : List Key × V), l[i]? = some p → ∃ q, m[i]? = some q ∧ p.1 = q.1 ∧ H q.2.1 = some (.tup (p.1.map kV)) ∧ RelV p.2 q.2.2 := by
    intro l m r
    induction r with
    | nil => intro i p hp; simp at hp
    | cons h _ ih =>
      intro i p hp
      cases i with
      | zero => simp at hp; subst hp; exact ⟨_, rfl, h⟩
      | succ i => exact ih i p (by simpa using hp)
  obtain ⟨q, hq, q1, q2, q3⟩ := get r i (k, v) hi
  refine ⟨q.2.1, q.2.2, (tupleKind (mixKind P w)).hash q.1, ?_, q2, q3⟩
  rw [← Array.getElem?_toList, h5, List.getElem?_map, hq]
  rfl
section
variable {X : Cx} {pins : List (Addr × Obj)} {σ σ' : St} {H H0 : Hp} {s s0 : Shared} {a : Addr} {kvs kvs' : List (List Key × V)} {o : Obj}
theorem Inv.freezeT (I : Inv X pins σ H s) (e : H a = some (.dT kvs)) : ∃ o es ep, o.data = .dict es ep ∧ Raw s.heap a es ep o ∧ Inv X pins σ (upd H a (.frz o (.dT kvs))) s := by
  have ok := (show ObjOk X.prog X.w H s.heap a (.dT kvs) from I.hok a _ e)
  obtain ⟨z, y, xs, r, o, es, ep, h1, h2, h3, h4, h5⟩ := id ok
  refine ⟨o, es, ep, h3, ⟨h1, h2, h3⟩, ?_⟩
  have st : ObjOk X.prog X.w (upd H a (.frz o (.dT kvs))) s.heap a (.dT kvs) := ok.stay (fun b u _ q => q) (fun b q => by rw [upd_ne (fun z => by rw [z, e] at q; cases q)]; exact q) fun b ys q => by rw [upd_ne (fun z => by rw [z, e] at q; cases q)]; exact q
  exact I.write (t' := s.toks) (h' := s.heap) (e := a) (by rw [e]; exact True.intro) (.inl rfl) (fun b u _ q => q) ⟨o, h1⟩ ⟨h1, st⟩
theorem Inv.thawT (I0 : Inv X pins σ' H0 s0) (e0 : H0 a = some (.dT kvs')) (I : Inv X pins σ H s) (e : H a = some (.frz o (.dT kvs))) : Inv X pins σ (upd H a (.dT kvs)) s := by
  have nn : ∀ b, H b = none → b ≠ a := fun b hb z => by rw [z, e] at hb; cases hb
  have nt : ∀ b xs, H b = some (.tup xs) → b ≠ a := fun b xs hb z => by rw [z, e] at hb; cases hb
  have no : ∀ b y, H b = some (.own y) → b ≠ a := fun b y hb z => by rw [z, e] at hb; cases hb
  refine ⟨I.ok, I.os, I.bare, ⟨I.base.keep, I.base.slot, fun b ob h1 h2 h3 => ?_, I.base.there, fun b xs h1 => ?_, fun b ob u h1 => ?_, fun b ps h1 => ?_⟩, I.loc, I.cell, ?_, fun x c h1 => ?_, fun p hp => ?_, fun b u q => ?_, I.len⟩
  · have h4 := I.base.free b ob h1 h2 h3
    rw [upd_ne (nn b h4)]
    exact h4
  · have h4 := I.base.tups b xs h1
    rw [upd_ne (nt b xs h4)]
    exact h4
  · have h4 := I.base.frzs b ob u h1
    have h5 := I0.base.frzs b ob u h1
    rw [upd_ne (fun z => by rw [z, e0] at h5; cases h5)]
    exact h4
  · obtain ⟨more, h4⟩ := I.base.tbls b ps h1
    exact ⟨more, by rw [upd_ne (fun z => by rw [z, e] at h4; cases h4)]; exact h4⟩
  · rw [upd_ne (nn _ I.free)]
    exact I.free
  · rw [upd_ne (nn _ (I.freeC x c h1))]
    exact I.freeC x c h1
  · obtain ⟨p1, p2, p3, p4, p5⟩ := I.pin p hp
    exact ⟨p1, by rw [upd_ne (nn _ p2)]; exact p2, p3, p4, p5⟩
  · by_cases hb : b = a
    · subst hb
      rw [upd_same] at q
      cases q
      exact ((show ObjOk X.prog X.w H s.heap b (.frz o (.dT kvs)) from I.hok b _ e).2).stay (fun c v _ r => r) (fun c r => by rw [upd_ne (no c b r)]; exact r) fun c xs r => by rw [upd_ne (nt c xs r)]; exact r
    · rw [upd_ne hb] at q
      exact (I.hok b u q).stay (fun c v _ r => r) (fun c r => by rw [upd_ne (no c b r)]; exact r) fun c xs r => by rw [upd_ne (nt c xs r)]; exact r
end
theorem turn_items {P : Program} {w : World} {K : PySem.W.Frag} {elts : List Expr} {x1} {tpos : Pos} (a it : Addr) (o : Obj) (kvs : List (List Key × V)) : Turn P w K (.Tuple elts x1 tpos) (Itp a o kvs) [it] it (fun i h => ∃ es ep ok ov, o.data = .dict es ep ∧ IsItemIter h it a i es.size ep ok ov) where
  mem := by simp
  obj := fun i h st b hb => by
    have e : b = it := by simpa using hb
    subst e
    obtain ⟨_, _, _, _, _, hit⟩ := st
    exact ⟨_, hit, fun v z => by cases z⟩
  keep := fun i h h' st k => by
    obtain ⟨es, ep, ok, ov, hd, hit⟩ := st
    exact ⟨es, ep, ok, ov, hd, k it (by simp) _ hit⟩
  item := by
    intro X hP hw hK hc i pins s σ H E I hf st hg
    subst hP hw hK
    obtain ⟨hi, ha⟩ := hg
    obtain ⟨es, ep, hdat, raw, hsz, get⟩ := frzT_at I.hok ha
    obtain ⟨es', ep', ok, ov, hd', hit⟩ := st
    rw [hdat] at hd'
    cases hd'
    have hkv : kvs[i]? = some (kvs[i].1, kvs[i].2) := List.getElem?_eq_getElem hi
    obtain ⟨t, u, j, he, ht, ru⟩ := get i _ _ hkv
    have li : it < s.heap.objs.size := Heap.lt_size hit
    refine items_next hit raw he fun h1 out ht1 hz1 hk1 => ⟨_, rfl, ?_⟩
    refine wpAny_letOwnedTupleGo_items out fun h2 it2 sb => ?_
    have sb : Heap.SameBut it h1 h2 := sb
    have hfr : H s.heap.objs.size = none := I.hok.fresh (Nat.le_refl _)
    have I1 : Inv X pins σ (upd H s.heap.objs.size (.tup [.ref t, kvs[i].2])) { s with heap := s.heap.push { cls := .type "tuple", data := .seq #[.ref t, u] }, toks := s.toks } :=
      I.laid (fun b o' e' => Heap.get?_push_of_some _ e') (Nat.le_refl _) (show ObjOk X.prog X.w _ _ _ (.tup [.ref t, kvs[i].2]) from ⟨by show (2 : Nat) ≤ sizeLine; decide, [.ref t, u], .cons rfl (.cons ru .nil), ⟨_, Heap.get?_push_size _ rfl, rfl, _, rfl, rfl⟩⟩)
    have nup : ∀ b, b < s.heap.objs.size → (upd H s.heap.objs.size (.tup [.ref t, kvs[i].2])) b = H b := fun b hb => upd_ne (Nat.ne_of_lt hb)
    have fpl : ∀ b ∈ [it], b < s.heap.objs.size := fun b hb => by
      rw [List.mem_singleton.mp hb]
      exact li
    have I2 := Inv.turnedL (h' := h2) (t' := s.toks) (fp := [it]) I1 (fun b o' hb e' => by
      have bi : b ≠ it := fun z => hb (by simp [z])
      have e' : (s.heap.push { cls := .type "tuple", data := .seq #[.ref t, u] }).get? b = some o' := e'
      by_cases hbs : b = s.heap.objs.size
      · subst hbs
        rw [Heap.get?_push_size _ rfl] at e'
        cases e'
        exact (sb.2 _ bi).trans ht1
      · rw [Heap.get?_push_ne _ _ _ hbs] at e'
        exact (sb.2 _ bi).trans (hk1 b o' bi e')) fun b hb => by
      obtain ⟨f0, f⟩ := hf b hb
      exact ⟨by rw [nup b (fpl b hb)]; exact f0, f⟩
    exact ⟨.ref s.heap.objs.size, _, I2, rfl, ⟨_, t, _, _, hkv, ht, hfr, rfl, rfl⟩, ⟨es, ep, _, _, hdat, it2⟩, fun b hb => by rw [nup b (fpl b hb)]; exact (hf b hb).1⟩
  done := by
    intro X hP hw hK hc i pins s σ H E I hf st hg
    subst hP hw hK
    obtain ⟨hi, ha⟩ := hg
    obtain ⟨es, ep, hdat, raw, hsz, get⟩ := frzT_at I.hok ha
    obtain ⟨es', ep', ok, ov, hd', hit⟩ := st
    rw [hdat] at hd'
    cases hd'
    obtain ⟨f0, f1, f2, f3, f4, f5⟩ := hf it (by simp)
    exact items_end (I.ok.hd hc) hit raw (by omega) fun h' eb => ⟨rfl, I.turned (t' := s.toks) (fun b o' hb e' => eb b o' hb e') f0 f1 f3 f4 f5⟩
  self := fun _ _ _ _ _ st h => by
    obtain ⟨_, _, _, _, _, hit⟩ := st
    exact PySem.W.kcp_self hit h
def tThawT (t : TE) : TE := fun σ H Q => ∃ a kvs, H a = some (.dT kvs) ∧ t σ H fun v H' => ∃ o, H' a = some (.frz o (.dT kvs)) ∧ Q v (upd H' a (.dT kvs))
def iItems (tl : TE) : TI := fun σ H R => tl σ H fun x H1 => ∃ a kvs, x = .ref a ∧ H1 a = some (.dT kvs) ∧ ∀ o, R (Itp a o kvs) (upd H1 a (.frz o (.dT kvs)))
section
variable {X : Cx}
theorem pe_thawT {e : Expr} {t : TE} (h : PE X e t) : PE X e (tThawT t) := by
  intro pins s σ H Q I q
  obtain ⟨a, kvs, e0, q⟩ := q
  exact thn (h pins s σ H _ I q) fun v s1 ⟨x, H1, I1, r1, o, e1, q1⟩ => ⟨x, _, Inv.thawT I e0 I1 e1, r1, q1⟩
end
end L2
namespace L2
open PySem PySem.Spec PyProof.Rows Itm
section
variable {X : Cx}
theorem pi_items {o : Expr} {to : TE} {apos cpos tpos : Pos} {elts : List Expr} {x1} (ho : PE X o to) (hbase : attributeBase o "items" X.env (eval o X.env) = eval o X.env := by rfl) (hline : (apos.endLine == cpos.line) = true := by rfl) :
    PI X (.Tuple elts x1 tpos) (.Call (.Attribute o "items" apos) [] [] cpos) (iItems to) := by
  intro pins s σ H R I h
  refine wpAny_Call_method0_late hbase hline (thn (ho pins s σ H _ I h) fun v s1 ⟨x, H1, I1, r1, a, kvs, ex, ha, q⟩ => ?_)
  subst ex
  obtain ⟨h1, h2⟩ := tyV_is I1 r1 (tyV_dictT (K := X.K) ha)
  cases (show v = Value.ref a from r1)
  refine ⟨"dict", "dict.items", PySem.F.plainAttrs_dict, PySem.F.slot_dict_items, PySem.F.type_dict_items, h1, h2, Calls.callWith_builtin rfl (PySem.evalArgs_none ?_)⟩
  obtain ⟨o', es, ep, hdat, raw, I2⟩ := I1.freezeT ha
  have hd := (dt_of I1.hok ha).2.1
  refine items_call hd raw ?_
  have raw2 : Raw (s1.heap.push { cls := .type "dict_items", data := .fields #[.ref a] }) a es ep o' := ⟨Heap.get?_push_of_some _ raw.there, raw.exact', raw.data⟩
  refine items_iter (v := s1.heap.objs.size) ⟨_, Heap.get?_push_size _ rfl, rfl, rfl⟩ raw2 ?_
  have I3 : Inv X pins σ (upd H1 a (.frz o' (.dT kvs))) { s1 with heap := s1.heap.push { cls := .type "dict_items", data := .fields #[.ref a] } } := I2.kept (t' := s1.toks) fun b u e => Heap.get?_push_of_some _ e
  have hz : s1.heap.objs.size ≤ (s1.heap.push { cls := .type "dict_items", data := .fields #[.ref a] }).objs.size := by rw [Heap.size_push]; exact Nat.le_succ _
  refine ⟨_, [_], _, _, _, rfl, I3.kept (t' := s1.toks) fun b u e => Heap.get?_push_of_some _ e, turn_items a _ o' kvs, ⟨es, ep, .none, .none, hdat, Heap.get?_push_size _ rfl⟩, fun b hb => ?_, q o'⟩
  rw [List.mem_singleton.mp hb]
  exact I3.fpOk (Nat.le_refl _) (I3.hok.fresh (Nat.le_refl _))
def iSeq (K : PySem.W.Frag) (tl : TE) : TI := fun σ H R => tl σ H fun x H1 => ∃ a, x = .ref a ∧ (((∃ xs, SqL K H1 a xs) ∧ R (Itl K a) H1) ∨ ((∃ xs, SqT K H1 a xs) ∧ R (Itt K a) H1))
theorem pi_seq {tg l : Expr} {tl : TE} (hl : PE X l tl) : PI X tg l (iSeq X.K tl) := by
  intro pins s σ H R I h
  refine thn (hl pins s σ H _ I h) fun v s1 ⟨x, H1, I1, r1, a, e, q⟩ => ?_
  subst e
  cases (show v = Value.ref a from r1)
  have fp : ∀ b ∈ [s1.heap.objs.size], FpOk X pins H1 b := fun b hb => by
    rw [List.mem_singleton.mp hb]
    exact I1.fpOk (Nat.le_refl _) (I1.hok.fresh (Nat.le_refl _))
  rcases q with ⟨⟨xs, hq⟩, q⟩ | ⟨⟨xs, hq⟩, q⟩
  · obtain ⟨its, rv, p, hz⟩ := I1.list hq
    exact wpAny_pyIter_list p.isList ⟨s1.heap.objs.size, [s1.heap.objs.size], _, _, H1, rfl, I1.kept (t' := s1.toks) fun b o e => Heap.get?_push_of_some _ e, turn_list a _, ⟨_, Heap.get?_push_size _ rfl, rfl, rfl⟩, fp, q⟩
  · obtain ⟨its, rv, p, hz⟩ := I1.tuple hq
    exact wpAny_pyIter_tuple (show s1.heap.IsTuple a its.toArray from p) ⟨s1.heap.objs.size, [s1.heap.objs.size], _, _, H1, rfl, I1.kept (t' := s1.toks) fun b o e => Heap.get?_push_of_some _ e, turn_tuple a _, ⟨_, Heap.get?_push_size _ rfl, rfl, rfl⟩, fp, q⟩
end
def TK (H H' : Hp) : Prop := ∀ b xs, H b = some (.tup xs) → H' b = some (.tup xs)
theorem TK.of {H H' : Hp} (s : Same H H') : TK H H' := fun b xs h => s b _ h
theorem TK.put {H : Hp} {a : Addr} {o o' : HO} (h : H a = some o) (ho : ∀ xs, o ≠ .tup xs) : TK H (upd H a o') := fun b xs hb => by
  rw [upd_ne (fun e => by rw [e, h] at hb; exact ho xs (Option.some.inj hb))]
  exact hb
theorem lc_genH {J : It} {fr : St} {tc : TT} {te : TE} {D : Addr} {H1 : Hp} {Q : Hp → Prop} (n : Nat) (item : Nat → V) (P : Nat → List V → Hp → Prop) (mono : ∀ i ys H H', TK H H' → P i ys H → P i ys H') (hn : n < sizeLine) (hD : H1 D = none)
    (hgo : ∀ i H, i < n → Same H1 H → J.go i H) (hyld : ∀ i H x H', i < n → Same H1 H → J.yld i H x H' → H' = H ∧ x = item i) (hstop : ∀ H, Same H1 H → J.stop n H) (h0 : P 0 [] H1)
    (step : ∀ i ys H (G : Hp → Prop) (K' : V → Hp → Prop), i < n → P i ys H → ys.length ≤ i → Same H1 H → (∀ H3, Same H H3 → P (i + 1) ys H3 → G H3) → (∀ y H4, Same H H4 → P (i + 1) (ys ++ [y]) H4 → K' y H4) → tc ([some (item i)] ++ fr) H fun b H3 => if b = true then te ([some (item i)] ++ fr) H3 K' else G H3)
    (done : ∀ ys H, P n ys H → ys.length ≤ n → Same H1 H → H D = some (.lst ys) → Q H) : LC 1 fr (gName 0) tc te J D H1 Q := by
  refine ⟨fun i m H => m = n - i ∧ i ≤ n ∧ ∃ ys, H D = some (.lst ys) ∧ P i ys H ∧ ys.length ≤ i ∧ Same H1 H, ⟨n, by simp, Nat.zero_le _, [], upd_same, mono _ _ _ _ (TK.of (same_new hD _)) h0, Nat.le_refl _, same_new hD _⟩, ?_⟩
  rintro i m H ⟨rfl, hi, ys, hys, hP, hl, hS⟩
  by_cases hlt : i < n
  · refine .inr ⟨hgo i H hlt hS, fun τ x H' hτ hy => ?_⟩
    obtain ⟨e1, e2⟩ := hyld i H x H' hlt hS hy
    subst e1 e2
    obtain ⟨a, rfl⟩ : ∃ a, τ = [a] := by
      match τ, hτ with
      | [a], _ => exact ⟨a, rfl⟩
    refine ⟨⟨[some (item i)], rfl, rfl⟩, step i ys H' _ _ hlt hP hl hS (fun H3 q1 q2 => ?_) (fun y H4 q1 q2 => ?_)⟩
    · exact ⟨n - (i + 1), by omega, rfl, hlt, ys, q1 _ _ hys, q2, Nat.le_succ_of_le hl, hS.trans q1⟩
    · refine ⟨ys, q1 _ _ hys, by omega, n - (i + 1), by omega, rfl, hlt, ys ++ [y], upd_same, mono _ _ _ _ (TK.put (q1 _ _ hys) fun xs e => by cases e) q2, ?_, (hS.trans q1).upd hD _⟩
      rw [List.length_append, List.length_singleton]
      omega
  · have e : i = n := by omega
    subst e
    exact .inl ⟨hstop H hS, done ys H hP hl hS hys⟩
theorem lc_pairs {K : PySem.W.Frag} {c : Nat} {J : It} {fr : St} {tc : TT} {te : TE} {D : Addr} {H1 : Hp} {Q : Hp → Prop} (n : Nat) (R : Nat → V → V → Hp → Prop) (P : Nat → List V → Hp → Prop) (mono : ∀ i ys H H', TK H H' → P i ys H → P i ys H') (hc : c = 2) (hn : n < sizeLine) (hD : H1 D = none)
    (hgo : ∀ i H, i < n → Same H1 H → J.go i H) (hyld : ∀ i H v H', i < n → Same H1 H → J.yld i H v H' → Same H H' ∧ ∃ p x y, v = .ref p ∧ SqT K H' p [x, y] ∧ R i x y H') (hstop : ∀ H, Same H1 H → J.stop n H) (h0 : P 0 [] H1)
    (step : ∀ i x y ys H (G : Hp → Prop) (K' : V → Hp → Prop), i < n → R i x y H → P i ys H → ys.length ≤ i → Same H1 H → (∀ H3, Same H H3 → P (i + 1) ys H3 → G H3) → (∀ y H4, Same H H4 → P (i + 1) (ys ++ [y]) H4 → K' y H4) → tc ([some x, some y] ++ fr) H fun b H3 => if b = true then te ([some x, some y] ++ fr) H3 K' else G H3)
    (done : ∀ ys H, P n ys H → ys.length ≤ n → Same H1 H → H D = some (.lst ys) → Q H) : LC 2 fr (gTup K c (gCons (gName 0) (gCons (gName 1) gNil))) tc te J D H1 Q := by
  refine ⟨fun i m H => m = n - i ∧ i ≤ n ∧ ∃ ys, H D = some (.lst ys) ∧ P i ys H ∧ ys.length ≤ i ∧ Same H1 H, ⟨n, by simp, Nat.zero_le _, [], upd_same, mono _ _ _ _ (TK.of (same_new hD _)) h0, Nat.le_refl _, same_new hD _⟩, ?_⟩
  rintro i m H ⟨rfl, hi, ys, hys, hP, hl, hS⟩
  by_cases hlt : i < n
  · refine .inr ⟨hgo i H hlt hS, fun τ v H' hτ hy => ?_⟩
    obtain ⟨e1, p, x, y, rfl, hp, hR⟩ := hyld i H v H' hlt hS hy
    obtain ⟨a, b, rfl⟩ : ∃ a b, τ = [a, b] := by
      match τ, hτ with
      | [a, b], _ => exact ⟨a, b, rfl⟩
    have hys' := e1 _ _ hys
    refine ⟨p, _, rfl, hp, by rw [hc]; rfl, _, _, rfl, _, _, rfl, rfl, ⟨[some x, some y], rfl, rfl⟩, step i x y ys H' _ _ hlt hR (mono _ _ _ _ (TK.of e1) hP) hl (hS.trans e1) (fun H3 q1 q2 => ?_) (fun y H4 q1 q2 => ?_)⟩
    · exact ⟨n - (i + 1), by omega, rfl, hlt, ys, q1 _ _ hys', q2, Nat.le_succ_of_le hl, (hS.trans e1).trans q1⟩
    · refine ⟨ys, q1 _ _ hys', by omega, n - (i + 1), by omega, rfl, hlt, ys ++ [y], upd_same, mono _ _ _ _ (TK.put (q1 _ _ hys') fun xs e => by cases e) q2, ?_, ((hS.trans e1).trans q1).upd hD _⟩
      rw [List.length_append, List.length_singleton]
      omega
  · have e : i = n := by omega
    subst e
    exact .inl ⟨hstop H hS, done ys H hP hl hS hys⟩
theorem forW_seq {K : PySem.W.Frag} {a : Addr} {xs : List V} {g : TG} {tb : TS} {D : Ends} {σ : St} {H : Hp} (ha : H a = some (.lst xs) ∨ H a = some (.tup xs)) (Pv : Nat → St → Hp → Prop) (h0 : Pv 0 σ H) (hl : ∀ i σ H', i ≤ xs.length → Pv i σ H' → ∀ o, H a = some o → H' a = some o)
    (hs : ∀ i x σ H, xs[i]? = some x → Pv i σ H → g x σ H fun σ2 H2 => tb { D with nx := Pv (i + 1), ct := Pv (i + 1), bk := D.nx } σ2 H2) (hd : ∀ σ H, Pv xs.length σ H → D.nx σ H) :
    ((∃ xs, SqL K H a xs) ∧ ForW g tb D (Itl K a) σ H) ∨ ((∃ xs, SqT K H a xs) ∧ ForW g tb D (Itt K a) σ H) := by
  rcases ha with h | h
  · exact .inl ⟨⟨xs, SqL.of h⟩, forW_list Pv h0 (fun i σ H' hi hp => SqL.of (hl i σ H' hi hp _ h)) hs hd⟩
  · exact .inr ⟨⟨xs, SqT.of h⟩, forW_tup Pv h0 (fun i σ H' hi hp => SqT.of (hl i σ H' hi hp _ h)) hs hd⟩
end L2
namespace Fm
section
variable {N : Type} [DecidableEq N]
def coef : List (N × Int) → N → Int
  | [], _ => 0
  | p :: r, n => (if p.1 = n then p.2 else 0) + coef r n
theorem coef_app (f g : List (N × Int)) (n : N) : coef (f ++ g) n = coef f n + coef g n := by
  induction f with
  | nil => show coef g n = 0 + coef g n; omega
  | cons p r ih => show (if p.1 = n then p.2 else 0) + coef (r ++ g) n = (if p.1 = n then p.2 else 0) + coef r n + coef g n; omega
theorem coef_perm {f g : List (N × Int)} (h : f.Perm g) (n : N) : coef f n = coef g n := by
  induction h with
  | nil => rfl
  | cons p _ ih => show (if p.1 = n then p.2 else 0) + _ = (if p.1 = n then p.2 else 0) + _; omega
  | swap p q l => show (if q.1 = n then q.2 else 0) + ((if p.1 = n then p.2 else 0) + coef l n) = (if p.1 = n then p.2 else 0) + ((if q.1 = n then q.2 else 0) + coef l n); omega
  | trans _ _ h1 h2 => exact h1.trans h2
theorem coef_not {f : List (N × Int)} {n : N} (h : ∀ p ∈ f, p.1 ≠ n) : coef f n = 0 := by
  induction f with
  | nil => rfl
  | cons p r ih =>
    show (if p.1 = n then p.2 else 0) + coef r n = 0
    rw [if_neg (h p List.mem_cons_self), ih fun q hq => h q (List.mem_cons_of_mem _ hq)]
    rfl
theorem coef_neg (f : List (N × Int)) (n : N) : coef (f.map fun p => (p.1, -p.2)) n = -coef f n := by
  induction f with
  | nil => rfl
  | cons p r ih =>
    show (if p.1 = n then -p.2 else 0) + coef (r.map fun p => (p.1, -p.2)) n = -((if p.1 = n then p.2 else 0) + coef r n)
    rw [ih]
    split <;> omega
theorem coef_nz (f : List (N × Int)) (n : N) : coef (f.filter fun p => decide (p.2 ≠ 0)) n = coef f n := by
  induction f with
  | nil => rfl
  | cons p r ih =>
    by_cases h : p.2 = 0
    · rw [List.filter_cons, if_neg (by simp [h])]
      show _ = (if p.1 = n then p.2 else 0) + coef r n
      rw [ih, h]
      split <;> omega
    · rw [List.filter_cons, if_pos (by simp [h])]
      show (if p.1 = n then p.2 else 0) + _ = (if p.1 = n then p.2 else 0) + coef r n
      rw [ih]
structure NF (lt : N → N → Bool) (f : List (N × Int)) : Prop where
  ord : f.Pairwise fun p q => lt p.1 q.1 = true
  nz : ∀ p ∈ f, p.2 ≠ 0
structure Lin (lt : N → N → Bool) : Prop where
  irr : ∀ x, lt x x = false
  tr : ∀ {x y z}, lt x y = true → lt y z = true → lt x z = true
  tri : ∀ x y, lt x y = true ∨ x = y ∨ lt y x = true
variable {lt : N → N → Bool}
theorem Lin.ne (o : Lin lt) {x y : N} (h : lt x y = true) : x ≠ y := fun e => by
  rw [e, o.irr] at h
  cases h
theorem NF.nil : NF lt ([] : List (N × Int)) := ⟨List.Pairwise.nil, fun _ h => nomatch h⟩
theorem NF.tail {p : N × Int} {r : List (N × Int)} (h : NF lt (p :: r)) : NF lt r := ⟨(List.pairwise_cons.mp h.ord).2, fun q hq => h.nz q (List.mem_cons_of_mem _ hq)⟩
theorem NF.head (o : Lin lt) {p : N × Int} {r : List (N × Int)} (h : NF lt (p :: r)) : coef (p :: r) p.1 = p.2 := by
  show (if p.1 = p.1 then p.2 else 0) + coef r p.1 = p.2
  rw [if_pos rfl, coef_not fun q hq => (o.ne ((List.pairwise_cons.mp h.ord).1 q hq)).symm]
  omega
theorem NF.low (o : Lin lt) {p : N × Int} {r : List (N × Int)} {n : N} (h : NF lt (p :: r)) (hn : lt n p.1 = true) : coef (p :: r) n = 0 := by
  refine coef_not fun q hq => ?_
  rcases List.mem_cons.mp hq with e | e
  · rw [e]; exact (o.ne hn).symm
  · exact (o.ne (o.tr hn ((List.pairwise_cons.mp h.ord).1 q e))).symm
theorem NF.unique (o : Lin lt) : ∀ {f g : List (N × Int)}, NF lt f → NF lt g → (∀ n, coef f n = coef g n) → f = g
  | [], [], _, _, _ => rfl
  | [], q :: s, _, hg, h => by
    have := h q.1
    rw [hg.head o] at this
    exact absurd this.symm (hg.nz q List.mem_cons_self)
  | p :: r, [], hf, _, h => by
    have := h p.1
    rw [hf.head o] at this
    exact absurd this (hf.nz p List.mem_cons_self)
  | p :: r, q :: s, hf, hg, h => by
    rcases o.tri p.1 q.1 with e | e | e
    · have := h p.1
      rw [hf.head o, hg.low o e] at this
      exact absurd this (hf.nz p List.mem_cons_self)
    · have h1 := h p.1
      rw [hf.head o, e, hg.head o] at h1
      have e2 : p = q := Prod.ext e h1
      subst e2
      have h2 : r = s := NF.unique o hf.tail hg.tail fun n => by
        have := h n
        have this : (if p.1 = n then p.2 else 0) + coef r n = (if p.1 = n then p.2 else 0) + coef s n := this
        omega
      rw [h2]
    · have := h q.1
      rw [hg.head o, hf.low o e] at this
      exact absurd this.symm (hg.nz q List.mem_cons_self)
structure Gath (lt : N → N → Bool) (rows f : List (N × Int)) : Prop where
  nf : NF lt f
  co : ∀ n, coef f n = coef rows n
theorem Gath.unique (o : Lin lt) {rows f g : List (N × Int)} (hf : Gath lt rows f) (hg : Gath lt rows g) : f = g := NF.unique o hf.nf hg.nf fun n => (hf.co n).trans (hg.co n).symm
theorem Gath.none (o : Lin lt) {rows f : List (N × Int)} (h : Gath lt rows f) (hz : ∀ n, coef rows n = 0) : f = [] := NF.unique o h.nf NF.nil fun n => (h.co n).trans (hz n)
def ev (mon : N → Int) : List (N × Int) → Int
  | [] => 0
  | p :: r => p.2 * mon p.1 + ev mon r
variable (mon : N → Int)
theorem ev_app (f g : List (N × Int)) : ev mon (f ++ g) = ev mon f + ev mon g := by
  induction f with
  | nil => show ev mon g = 0 + ev mon g; omega
  | cons p r ih => show p.2 * mon p.1 + ev mon (r ++ g) = p.2 * mon p.1 + ev mon r + ev mon g; omega
theorem ev_neg (f : List (N × Int)) : ev mon (f.map fun p => (p.1, -p.2)) = -ev mon f := by
  induction f with
  | nil => rfl
  | cons p r ih =>
    show -p.2 * mon p.1 + ev mon (r.map fun p => (p.1, -p.2)) = -(p.2 * mon p.1 + ev mon r)
    rw [ih, Int.neg_mul]
    omega
theorem ev_part (n : N) : ∀ f : List (N × Int), ev mon f = coef f n * mon n + ev mon (f.filter fun p => decide (p.1 ≠ n))
  | [] => by show (0 : Int) = 0 * mon n + 0; omega
  | p :: r => by
    have ih := ev_part n r
    by_cases h : p.1 = n
    · rw [List.filter_cons, if_neg (by simp [h])]
      show p.2 * mon p.1 + ev mon r = ((if p.1 = n then p.2 else 0) + coef r n) * mon n + _
      rw [if_pos h, ih, h, Int.add_mul]
      omega
    · rw [List.filter_cons, if_pos (by simp [h])]
      show p.2 * mon p.1 + ev mon r = ((if p.1 = n then p.2 else 0) + coef r n) * mon n + (p.2 * mon p.1 + _)
      rw [if_neg h, ih, Int.zero_add]
      omega
theorem coef_part (n m : N) (f : List (N × Int)) : coef (f.filter fun p => decide (p.1 ≠ n)) m = if m = n then 0 else coef f m := by
  induction f with
  | nil => show (0 : Int) = if m = n then 0 else 0; split <;> rfl
  | cons p r ih =>
    by_cases h : p.1 = n
    · rw [List.filter_cons, if_neg (by simp [h]), ih]
      show _ = if m = n then 0 else (if p.1 = m then p.2 else 0) + coef r m
      by_cases hm : m = n
      · rw [if_pos hm, if_pos hm]
      · rw [if_neg hm, if_neg hm, if_neg (fun e => hm (e.symm.trans h))]
        omega
    · rw [List.filter_cons, if_pos (by simp [h])]
      show (if p.1 = m then p.2 else 0) + coef (r.filter fun p => decide (p.1 ≠ n)) m = if m = n then 0 else (if p.1 = m then p.2 else 0) + coef r m
      rw [ih]
      by_cases hm : m = n
      · rw [if_pos hm, if_pos hm, if_neg (fun e => h (e.trans hm))]
        rfl
      · rw [if_neg hm, if_neg hm]
theorem ev_zero : ∀ (k : Nat) (f : List (N × Int)), f.length ≤ k → (∀ n, coef f n = 0) → ev mon f = 0
  | _, [], _, _ => rfl
  | 0, p :: r, h, _ => by simp at h
  | k + 1, p :: r, h, hz => by
    rw [ev_part mon p.1, hz, Int.zero_mul, Int.zero_add]
    refine ev_zero k _ ?_ fun n => ?_
    · rw [List.filter_cons, if_neg (by simp)]
      have := List.length_filter_le (fun q : N × Int => decide (q.1 ≠ p.1)) r
      rw [List.length_cons] at h
      omega
    · rw [coef_part, hz]
      split <;> rfl
theorem ev_coef {f g : List (N × Int)} (h : ∀ n, coef f n = coef g n) : ev mon f = ev mon g := by
  have := ev_zero mon (f ++ g.map fun p => (p.1, -p.2)).length (f ++ g.map fun p => (p.1, -p.2)) (Nat.le_refl _) fun n => by
    rw [coef_app, coef_neg, h]
    omega
  rw [ev_app, ev_neg] at this
  omega
theorem Gath.ev {mon : N → Int} {rows f : List (N × Int)} (h : Gath lt rows f) : Fm.ev mon f = Fm.ev mon rows := ev_coef mon h.co
end
end Fm
namespace Fm
section
variable {N : Type} [DecidableEq N] (mon : N → Int)
def prod (j : N → N → N) (f g : List (N × Int)) : List (N × Int) := f.flatMap fun p => g.map fun q => (j p.1 q.1, p.2 * q.2)
theorem ev_scale (j : N → N → N) (hj : ∀ a b, mon (j a b) = mon a * mon b) (p : N × Int) : ∀ g : List (N × Int), ev mon (g.map fun q => (j p.1 q.1, p.2 * q.2)) = p.2 * mon p.1 * ev mon g
  | [] => by show (0 : Int) = _ * 0; omega
  | q :: s => by
    show p.2 * q.2 * mon (j p.1 q.1) + ev mon (s.map fun q => (j p.1 q.1, p.2 * q.2)) = p.2 * mon p.1 * (q.2 * mon q.1 + ev mon s)
    rw [ev_scale j hj p s, hj, Int.mul_add]
    congr 1
    rw [Int.mul_assoc, Int.mul_assoc, Int.mul_left_comm q.2]
theorem ev_prod (j : N → N → N) (hj : ∀ a b, mon (j a b) = mon a * mon b) (g : List (N × Int)) : ∀ f : List (N × Int), ev mon (prod j f g) = ev mon f * ev mon g
  | [] => by show (0 : Int) = 0 * _; omega
  | p :: r => by
    show ev mon ((g.map fun q => (j p.1 q.1, p.2 * q.2)) ++ prod j r g) = (p.2 * mon p.1 + ev mon r) * ev mon g
    rw [ev_app, ev_scale mon j hj, ev_prod j hj g r, Int.add_mul]
def addI : List (N × Int) → N → Int → List (N × Int)
  | [], n, c => [(n, c)]
  | p :: r, n, c => if p.1 = n then (p.1, p.2 + c) :: r else p :: addI r n c
theorem coef_addI (n : N) (c : Int) (m : N) : ∀ f : List (N × Int), coef (addI f n c) m = coef f m + if n = m then c else 0
  | [] => by show (if n = m then c else 0) + 0 = 0 + if n = m then c else 0; omega
  | p :: r => by
    by_cases h : p.1 = n
    · show coef (if p.1 = n then (p.1, p.2 + c) :: r else p :: addI r n c) m = _
      rw [if_pos h]
      show (if p.1 = m then p.2 + c else 0) + coef r m = (if p.1 = m then p.2 else 0) + coef r m + if n = m then c else 0
      rw [h]
      split <;> omega
    · show coef (if p.1 = n then (p.1, p.2 + c) :: r else p :: addI r n c) m = _
      rw [if_neg h]
      show (if p.1 = m then p.2 else 0) + coef (addI r n c) m = (if p.1 = m then p.2 else 0) + coef r m + if n = m then c else 0
      rw [coef_addI n c m r]
      omega
theorem keys_addI (n : N) (c : Int) : ∀ {f : List (N × Int)} {x : N}, x ∈ (addI f n c).map (·.1) → x ∈ f.map (·.1) ∨ x = n
  | [], x, h => by
    have : x = n := by simpa [addI] using h
    exact .inr this
  | p :: r, x, h => by
    by_cases e : p.1 = n
    · have e2 : addI (p :: r) n c = (p.1, p.2 + c) :: r := if_pos e
      rw [e2] at h
      exact .inl h
    · have e2 : addI (p :: r) n c = p :: addI r n c := if_neg e
      rw [e2] at h
      rcases List.mem_cons.mp h with h | h
      · exact .inl (List.mem_cons.mpr (.inl h))
      · rcases keys_addI n c h with h | h
        · exact .inl (List.mem_cons_of_mem _ h)
        · exact .inr h
theorem nd_addI (n : N) (c : Int) : ∀ {f : List (N × Int)}, (f.map (·.1)).Nodup → ((addI f n c).map (·.1)).Nodup
  | [], _ => by show ([n] : List N).Nodup; simp
  | p :: r, h => by
    have h : (p.1 :: r.map (·.1)).Nodup := h
    obtain ⟨h1, h2⟩ := List.nodup_cons.mp h
    by_cases e : p.1 = n
    · have e2 : addI (p :: r) n c = (p.1, p.2 + c) :: r := if_pos e
      rw [e2]
      exact h
    · have e2 : addI (p :: r) n c = p :: addI r n c := if_neg e
      rw [e2]
      show (p.1 :: (addI r n c).map (·.1)).Nodup
      refine List.nodup_cons.mpr ⟨fun m => ?_, nd_addI n c h2⟩
      rcases keys_addI n c m with z | z
      · exact h1 z
      · exact e z
end
end Fm
namespace Fm
section
variable {α : Type}
def ins (lt : α → α → Bool) (x : α) : List α → List α
  | [] => [x]
  | y :: r => if lt y x = true then y :: ins lt x r else x :: y :: r
def isort (lt : α → α → Bool) (l : List α) : List α := l.foldr (ins lt) []
variable {lt : α → α → Bool}
theorem ins_perm (x : α) : ∀ l : List α, (ins lt x l).Perm (x :: l)
  | [] => List.Perm.refl _
  | y :: r => by
    show (if lt y x = true then y :: ins lt x r else x :: y :: r).Perm _
    split
    · exact ((ins_perm x r).cons y).trans (List.Perm.swap x y r)
    · exact List.Perm.refl _
theorem isort_perm : ∀ l : List α, (isort lt l).Perm l
  | [] => List.Perm.refl _
  | x :: r => (ins_perm x (isort lt r)).trans ((isort_perm r).cons x)
def Srt (lt : α → α → Bool) (l : List α) : Prop := l.Pairwise fun a b => lt b a = false
structure Pre (lt : α → α → Bool) : Prop where
  irr : ∀ x, lt x x = false
  tr : ∀ {x y z}, lt x y = true → lt y z = true → lt x z = true
  neg : ∀ {x z} (y : α), lt x z = true → lt x y = true ∨ lt y z = true
theorem ins_srt (o : Pre lt) (x : α) : ∀ {l : List α}, Srt lt l → Srt lt (ins lt x l)
  | [], _ => List.pairwise_singleton _ _
  | y :: r, h => by
    obtain ⟨h1, h2⟩ := List.pairwise_cons.mp h
    show Srt lt (if lt y x = true then y :: ins lt x r else x :: y :: r)
    split
    · rename_i c
      refine List.pairwise_cons.mpr ⟨fun z hz => ?_, ins_srt o x h2⟩
      rcases List.mem_cons.mp ((ins_perm x r).mem_iff.mp hz) with e | e
      · rw [e]
        cases q : lt x y with
        | false => rfl
        | true => exact absurd (o.tr c q) (by rw [o.irr]; decide)
      · exact h1 z e
    · rename_i c
      have c : lt y x = false := Bool.eq_false_iff.mpr c
      refine List.pairwise_cons.mpr ⟨fun z hz => ?_, h⟩
      rcases List.mem_cons.mp hz with e | e
      · rw [e]; exact c
      · cases q : lt z x with
        | false => rfl
        | true =>
          rcases o.neg y q with k | k
          · rw [h1 z e] at k; cases k
          · rw [c] at k; cases k
theorem isort_srt (o : Pre lt) : ∀ l : List α, Srt lt (isort lt l)
  | [] => List.Pairwise.nil
  | x :: r => ins_srt o x (isort_srt o r)
theorem srt_unique [DecidableEq α] (o : Lin lt) : ∀ {l m : List α}, l.Perm m → Srt lt l → Srt lt m → l = m
  | [], m, h, _, _ => h.nil_eq
  | a :: r, [], h, _, _ => absurd h.length_eq (by simp)
  | a :: r, b :: s, h, h1, h2 => by
    obtain ⟨p1, p2⟩ := List.pairwise_cons.mp h1
    obtain ⟨q1, q2⟩ := List.pairwise_cons.mp h2
    have e : a = b := by
      rcases List.mem_cons.mp (h.mem_iff.mp List.mem_cons_self) with e | e
      · exact e
      · rcases List.mem_cons.mp (h.mem_iff.mpr List.mem_cons_self) with k | k
        · exact k.symm
        · rcases o.tri a b with z | z | z
          · rw [q1 a e] at z; cases z
          · exact z
          · rw [p1 b k] at z; cases z
    subst e
    rw [srt_unique o (List.Perm.cons_inv h) p2 q2]
end
section
variable {N : Type} [DecidableEq N] {lt : N → N → Bool}
def gathI (rows : List (N × Int)) : List (N × Int) := rows.foldl (fun g p => addI g p.1 p.2) []
theorem gathI_snoc (rows : List (N × Int)) (p : N × Int) : gathI (rows ++ [p]) = addI (gathI rows) p.1 p.2 := by unfold gathI; rw [List.foldl_append]; rfl
theorem foldI (rows : List (N × Int)) : ∀ g : List (N × Int), (g.map (·.1)).Nodup → ((rows.foldl (fun g p => addI g p.1 p.2) g).map (·.1)).Nodup ∧ (∀ n, coef (rows.foldl (fun g p => addI g p.1 p.2) g) n = coef g n + coef rows n) ∧ (∀ x ∈ (rows.foldl (fun g p => addI g p.1 p.2) g).map (·.1), x ∈ g.map (·.1) ∨ x ∈ rows.map (·.1)) := by
  induction rows with
  | nil => exact fun g h => ⟨h, fun n => by show coef g n = coef g n + 0; omega, fun x hx => .inl hx⟩
  | cons p r ih =>
    intro g h
    obtain ⟨i1, i2, i3⟩ := ih (addI g p.1 p.2) (nd_addI p.1 p.2 h)
    refine ⟨i1, fun n => ?_, fun x hx => ?_⟩
    · show coef (r.foldl _ (addI g p.1 p.2)) n = coef g n + ((if p.1 = n then p.2 else 0) + coef r n)
      rw [i2, coef_addI]
      omega
    · rcases i3 x hx with k | k
      · rcases keys_addI _ _ k with k | k
        · exact .inl k
        · exact .inr (by rw [k]; exact List.mem_cons_self)
      · exact .inr (List.mem_cons_of_mem _ k)
theorem addI_len (n : N) (c : Int) : ∀ g : List (N × Int), (addI g n c).length ≤ g.length + 1
  | [] => Nat.le_refl _
  | p :: r => by
    show (if p.1 = n then (p.1, p.2 + c) :: r else p :: addI r n c).length ≤ _
    split
    · show r.length + 1 ≤ r.length + 1 + 1; omega
    · have := addI_len n c r
      show (addI r n c).length + 1 ≤ r.length + 1 + 1
      omega
theorem gathI_len (rows : List (N × Int)) : (gathI rows).length ≤ rows.length := by
  have : ∀ (rows g : List (N × Int)), (rows.foldl (fun g p => addI g p.1 p.2) g).length ≤ g.length + rows.length := by
    intro rows
    induction rows with
    | nil => exact fun g => Nat.le_refl _
    | cons p r ih =>
      intro g
      have h1 := ih (addI g p.1 p.2)
      have h2 := addI_len p.1 p.2 g
      show (r.foldl _ (addI g p.1 p.2)).length ≤ _
      rw [List.length_cons]
      omega
  have h := this rows []
  rw [List.length_nil, Nat.zero_add] at h
  exact h
def gathF (lt : N → N → Bool) (rows : List (N × Int)) : List (N × Int) := isort (fun p q => lt p.1 q.1) ((gathI rows).filter fun p => decide (p.2 ≠ 0))
theorem gath_of (o : Lin lt) {rows f : List (N × Int)} (hp : f.Perm ((gathI rows).filter fun p => decide (p.2 ≠ 0))) (hs : Srt (fun p q : N × Int => lt p.1 q.1) f) : Gath lt rows f := by
  obtain ⟨i1, i2, i3⟩ := foldI rows [] List.nodup_nil
  have nd : (f.map (·.1)).Nodup := ((hp.map (·.1)).nodup_iff).mpr (List.Nodup.sublist (List.Sublist.map _ List.filter_sublist) i1)
  refine ⟨⟨?_, fun p h => ?_⟩, fun n => ?_⟩
  · have nd' : f.Pairwise fun p q => p.1 ≠ q.1 := List.pairwise_map.mp nd
    refine (List.Pairwise.and hs nd').imp fun {p q} h => ?_
    rcases o.tri p.1 q.1 with k | k | k
    · exact k
    · exact absurd k h.2
    · rw [show lt q.1 p.1 = false from h.1] at k; cases k
  · exact of_decide_eq_true (List.mem_filter.mp (hp.mem_iff.mp h)).2
  · rw [coef_perm hp, coef_nz]
    show coef (gathI rows) n = _
    have := i2 n
    unfold gathI
    rw [this]
    show 0 + _ = _
    omega
theorem Lin.pre (o : Lin lt) {β : Type} (f : β → N) : Pre (fun p q : β => lt (f p) (f q)) := ⟨fun x => o.irr _, fun h k => o.tr h k, fun {x z} y h => by
  rcases o.tri (f x) (f y) with k | k | k
  · exact .inl k
  · rw [← k]; exact .inr h
  · exact .inr (o.tr k h)⟩
theorem gathF_gath (o : Lin lt) (rows : List (N × Int)) : Gath lt rows (gathF lt rows) := gath_of o (isort_perm _) (isort_srt (o.pre (fun p : N × Int => p.1)) _)
theorem gath_eq (o : Lin lt) {rows f : List (N × Int)} (h : Gath lt rows f) : f = gathF lt rows := h.unique o (gathF_gath o rows)
theorem gathF_len (rows : List (N × Int)) : (gathF lt rows).length ≤ rows.length := by
  unfold gathF
  rw [(isort_perm _).length_eq]
  exact Nat.le_trans (List.length_filter_le _ _) (gathI_len rows)
theorem gathF_mem {rows : List (N × Int)} {p : N × Int} (h : p ∈ gathF lt rows) : p.1 ∈ rows.map (·.1) := by
  have h1 := (List.mem_filter.mp ((isort_perm _).mem_iff.mp h)).1
  rcases (foldI rows [] List.nodup_nil).2.2 p.1 (List.mem_map.mpr ⟨p, h1, rfl⟩) with k | k
  · cases k
  · exact k
theorem coef_abs {e : Nat} : ∀ (rows : List (N × Int)) (n : N), (∀ p ∈ rows, p.2.natAbs < 2 ^ e) → (coef rows n).natAbs ≤ rows.length * 2 ^ e
  | [], _, _ => Nat.zero_le _
  | p :: r, n, h => by
    have ih := coef_abs r n fun q hq => h q (List.mem_cons_of_mem _ hq)
    have hp := h p List.mem_cons_self
    show ((if p.1 = n then p.2 else 0) + coef r n).natAbs ≤ (r.length + 1) * 2 ^ e
    rw [Nat.add_mul, Nat.one_mul]
    split <;> omega
theorem gathF_abs (o : Lin lt) {e : Nat} {rows : List (N × Int)} (h : ∀ p ∈ rows, p.2.natAbs < 2 ^ e) (hl : rows.length < 64) {p : N × Int} (hp : p ∈ gathF lt rows) : p.2.natAbs < 2 ^ (e + 6) := by
  have g := gathF_gath o rows
  have hc : coef (gathF lt rows) p.1 = p.2 := by
    have : ∀ {f : List (N × Int)}, NF lt f → p ∈ f → coef f p.1 = p.2 := by
      intro f
      induction f with
      | nil => exact fun _ h => nomatch h
      | cons q r ih =>
        intro hf hm
        rcases List.mem_cons.mp hm with k | k
        · rw [k]; exact hf.head o
        · have := ih hf.tail k
          show (if q.1 = p.1 then q.2 else 0) + coef r p.1 = p.2
          rw [if_neg (o.ne ((List.pairwise_cons.mp hf.ord).1 p k)), this]
          omega
    exact this g.nf hp
  have h1 := coef_abs rows p.1 h
  rw [← g.co, hc] at h1
  have h2 : rows.length * 2 ^ e ≤ 63 * 2 ^ e := Nat.mul_le_mul_right _ (by omega)
  rw [Nat.pow_add]
  have : 0 < 2 ^ e := Nat.two_pow_pos e
  omega
end
end Fm
namespace Pc
open PySem PySem.Spec L2 PyProof.Rows Fm
abbrev Form := List (List Str × Int)
theorem linX : Lin lexS := ⟨lexS_irr, lexS_tr, lexS_tri⟩
theorem linS : Lin ltS := ⟨ltS_irr, ltS_tr, ltS_tri⟩
def sortS (l : List Str) : List Str := isort ltS l
theorem sortS_of {l m : List Str} (hp : m.Perm l) (hs : Srt ltS m) : m = sortS l := srt_unique linS (hp.trans (isort_perm l).symm) hs (isort_srt (linS.pre id) l)
theorem sortS_len (l : List Str) : (sortS l).length = l.length := (isort_perm l).length_eq
theorem sortS_mem {l : List Str} {z : Str} : z ∈ sortS l ↔ z ∈ l := (isort_perm l).mem_iff
theorem sortS_idem (l : List Str) : sortS (sortS l) = sortS l := (sortS_of (List.Perm.refl _) (isort_srt (linS.pre id) l)).symm
def negF (f : Form) : Form := f.map fun p => (p.1, -p.2)
def plusF (f g : Form) : Form := gathF lexS (f ++ g)
def minusF (f g : Form) : Form := gathF lexS (f ++ negF g)
def jS (a b : List Str) : List Str := sortS (a ++ b)
def timesF (f g : Form) : Form := gathF lexS (prod jS f g)
def opF (z : Str) (f g : Form) : Form := if z = "add" then plusF f g else if z = "sub" then minusF f g else if z = "mul" then timesF f g else minusF [] f
def leafF : V → Form
  | .str z => [([z], 1)]
  | .int n => gathF lexS [([], n)]
  | _ => []
def monN (ρ : Str → Option Int) (l : List Str) : Int := (l.map fun z => (ρ z).getD 0).foldl (· * ·) 1
theorem foldl_mul (l : List Int) : ∀ a : Int, l.foldl (· * ·) a = a * l.foldl (· * ·) 1 := by
  induction l with
  | nil => intro a; show a = a * 1; omega
  | cons x r ih =>
    intro a
    show r.foldl (· * ·) (a * x) = a * r.foldl (· * ·) (1 * x)
    rw [ih (a * x), ih (1 * x), Int.one_mul, Int.mul_assoc]
theorem monN_app (ρ : Str → Option Int) (a b : List Str) : monN ρ (a ++ b) = monN ρ a * monN ρ b := by
  unfold monN
  rw [List.map_append, List.foldl_append, foldl_mul (b.map _)]
theorem monN_perm (ρ : Str → Option Int) {a b : List Str} (h : a.Perm b) : monN ρ a = monN ρ b := by
  have cons : ∀ (x : Str) (l : List Str), monN ρ (x :: l) = (ρ x).getD 0 * monN ρ l := fun x l => by
    show (l.map _).foldl (· * ·) (1 * (ρ x).getD 0) = _
    rw [foldl_mul, Int.one_mul]
    rfl
  induction h with
  | nil => rfl
  | cons x _ ih => rw [cons, cons, ih]
  | swap x y l => rw [cons, cons, cons, cons, Int.mul_left_comm]
  | trans _ _ h1 h2 => exact h1.trans h2
theorem monN_j (ρ : Str → Option Int) (a b : List Str) : monN ρ (jS a b) = monN ρ a * monN ρ b := (monN_perm ρ (isort_perm (a ++ b))).trans (monN_app ρ a b)
def evF (ρ : Str → Option Int) (f : Form) : Int := ev (monN ρ) f
theorem ev_plus (ρ : Str → Option Int) (f g : Form) : evF ρ (plusF f g) = evF ρ f + evF ρ g := ((gathF_gath linX _).ev).trans (ev_app _ f g)
theorem ev_minus (ρ : Str → Option Int) (f g : Form) : evF ρ (minusF f g) = evF ρ f - evF ρ g := by
  refine ((gathF_gath linX _).ev).trans ?_
  rw [ev_app]
  show _ + ev (monN ρ) (g.map fun p => (p.1, -p.2)) = _
  rw [ev_neg]
  show ev (monN ρ) f + -ev (monN ρ) g = ev (monN ρ) f - ev (monN ρ) g
  omega
theorem ev_times (ρ : Str → Option Int) (f g : Form) : evF ρ (timesF f g) = evF ρ f * evF ρ g := ((gathF_gath linX _).ev).trans (ev_prod _ jS (monN_j ρ) g f)
theorem ev_op (ρ : Str → Option Int) (z : Str) (f g : Form) : evF ρ (opF z f g) = opN z (evF ρ f) (evF ρ g) := by
  unfold opF opN
  split
  · exact ev_plus ρ f g
  · split
    · exact ev_minus ρ f g
    · split
      · exact ev_times ρ f g
      · rw [ev_minus]
        show (0 : Int) - _ = _
        omega
theorem ev_leaf (ρ : Str → Option Int) {v : V} (h : isW v) (h0 : arV v = 0) : V.int (evF ρ (leafF v)) = valW ρ v := by
  obtain ⟨k, rfl⟩ := h
  cases k with
  | inl n =>
    show V.int (evF ρ (gathF lexS [([], n)])) = V.int n
    congr 1
    refine ((gathF_gath linX _).ev).trans ?_
    show n * monN ρ [] + 0 = n
    show n * 1 + 0 = n
    omega
  | inr z =>
    have hz : ¬ 0 < arS z := by have : arS z = 0 := h0; omega
    show V.int (1 * monN ρ [z] + 0) = if 0 < arS z then V.str z else V.int ((ρ z).getD 0)
    rw [if_neg hz]
    congr 1
    show 1 * (1 * (ρ z).getD 0) + 0 = (ρ z).getD 0
    omega
end Pc
namespace Pc
open PySem PySem.Spec L2 PyProof.Rows Fm
def stepF : V → List Form → List Form
  | .str z, st => if 0 < arS z then opF z (st.getD 0 []) (st.getD 1 []) :: st.drop (arS z) else leafF (.str z) :: st
  | v, st => leafF v :: st
def runF (ws : List V) : List Form := ws.foldr stepF []
def formW (ws : List V) : Form := (runF ws).getD 0 []
theorem runF_cons (w : V) (r : List V) : runF (w :: r) = stepF w (runF r) := rfl
theorem stepF_leaf {w : V} (h : arV w = 0) (st : List Form) : stepF w st = leafF w :: st := by
  cases w with
  | str z =>
    have hz : ¬ 0 < arS z := by have : arS z = 0 := h; omega
    exact if_neg hz
  | _ => rfl
theorem stepF_op {z : Str} (h : 0 < arS z) (st : List Form) : stepF (.str z) st = opF z (st.getD 0 []) (st.getD 1 []) :: st.drop (arS z) := if_pos h
theorem arV_str {w : V} (h : 0 < arV w) : ∃ z, w = .str z ∧ 0 < arS z := by
  cases w with
  | str z => exact ⟨z, rfl, h⟩
  | _ => exact absurd h (by show ¬ (0 < 0); omega)
theorem runF_len : ∀ (ws : List V) (l : Nat), pend l (ws.map arV) = some 0 → (runF ws).length = l
  | [], l, h => by
    have : l = 0 := Option.some.inj h
    rw [this]; rfl
  | w :: r, 0, h => by cases h
  | w :: r, l + 1, h => by
    have ih := runF_len r (l + arV w) h
    rw [runF_cons]
    rcases Nat.eq_zero_or_pos (arV w) with e | e
    · rw [stepF_leaf e, List.length_cons, ih, e]
    · obtain ⟨z, rfl, hz⟩ := arV_str e
      rw [stepF_op hz, List.length_cons, List.length_drop, ih]
      show l + arS z - arS z + 1 = l + 1
      omega
theorem arS_two {z : Str} : arS z ≤ 2 := arV_le (.str z)
theorem opF_one {z : Str} (h : arS z = 1) (f g g' : Form) : opF z f g = opF z f g' := by
  unfold opF
  rw [if_neg (fun e => by rw [e] at h; exact absurd h (by decide +kernel)), if_neg (fun e => by rw [e] at h; exact absurd h (by decide +kernel)), if_neg (fun e => by rw [e] at h; exact absurd h (by decide +kernel)), if_neg (fun e => by rw [e] at h; exact absurd h (by decide +kernel)), if_neg (fun e => by rw [e] at h; exact absurd h (by decide +kernel)), if_neg (fun e => by rw [e] at h; exact absurd h (by decide +kernel))]
theorem formW_run {ws : List V} (h : isTerm ws) : runF ws = [formW ws] := by
  have := runF_len ws 1 h
  unfold formW
  match runF ws, this with
  | [f], _ => rfl
theorem ev_run (ρ : Str → Option Int) : ∀ {ws : List V}, (∀ v ∈ ws, isW v) → (runF ws).map (evF ρ) = runW ρ ws
  | [], _ => rfl
  | w :: r, h => by
    have ih := ev_run ρ (ws := r) fun v hv => h v (List.mem_cons_of_mem _ hv)
    have gd : ∀ i, evF ρ ((runF r).getD i []) = (runW ρ r).getD i 0 := fun i => by
      rw [← ih, List.getD_eq_getElem?_getD, List.getD_eq_getElem?_getD, List.getElem?_map]
      cases (runF r)[i]? <;> rfl
    rw [runF_cons]
    show _ = stepN (valW ρ w) (runW ρ r)
    rcases Nat.eq_zero_or_pos (arV w) with e | e
    · rw [stepF_leaf e, ← ev_leaf ρ (h w List.mem_cons_self) e, List.map_cons, ih]
      rfl
    · obtain ⟨z, rfl, hz⟩ := arV_str e
      have ev : valW ρ (.str z) = .str z := if_pos hz
      rw [stepF_op hz, ev, List.map_cons, List.map_drop, ih, ev_op, gd, gd]
      rfl
theorem ev_form (ρ : Str → Option Int) {ws : List V} (h : ∀ v ∈ ws, isW v) : evF ρ (formW ws) = worthN ρ ws := by
  have := ev_run ρ h
  show evF ρ ((runF ws).getD 0 []) = (runW ρ ws).getD 0 0
  rw [← this, List.getD_eq_getElem?_getD, List.getD_eq_getElem?_getD, List.getElem?_map]
  cases (runF ws)[0]? <;> rfl
structure FOk (S : Str → Prop) (n : Nat) (f : Form) : Prop where
  rows : f.length ≤ 2 ^ ((n - 1) / 2)
  nf : NF lexS f
  row : ∀ p ∈ f, p.1.length ≤ n ∧ p.2.natAbs < 2 ^ (210 * n) ∧ sortS p.1 = p.1 ∧ ∀ z ∈ p.1, S z
theorem fok_gath {S : Str → Prop} {n e : Nat} {rows : Form} (hr : rows.length ≤ 2 ^ ((n - 1) / 2)) (h64 : rows.length < 64) (he : e + 6 ≤ 210 * n) (h : ∀ p ∈ rows, p.1.length ≤ n ∧ p.2.natAbs < 2 ^ e ∧ sortS p.1 = p.1 ∧ ∀ z ∈ p.1, S z) : FOk S n (gathF lexS rows) := by
  refine ⟨Nat.le_trans (gathF_len rows) hr, (gathF_gath linX rows).nf, fun p hp => ?_⟩
  obtain ⟨q, hq, e1⟩ := List.mem_map.mp (gathF_mem hp)
  obtain ⟨q1, q2, q3, q4⟩ := h q hq
  rw [← e1]
  exact ⟨q1, Nat.lt_of_lt_of_le (gathF_abs linX (fun p hp => (h p hp).2.1) h64 hp) (Nat.pow_le_pow_right (by decide) he), q3, q4⟩
theorem pow_two_le {x y n : Nat} (h : x + y + 1 ≤ n) : 2 ^ x + 2 ^ y ≤ 2 ^ n ∧ 2 ^ x * 2 ^ y ≤ 2 ^ n := by
  have h1 : 2 ^ x ≤ 2 ^ (x + y) := Nat.pow_le_pow_right (by decide) (by omega)
  have h2 : 2 ^ y ≤ 2 ^ (x + y) := Nat.pow_le_pow_right (by decide) (by omega)
  have h3 : 2 ^ (x + y + 1) ≤ 2 ^ n := Nat.pow_le_pow_right (by decide) h
  rw [Nat.pow_succ] at h3
  have h4 : 2 ^ x * 2 ^ y = 2 ^ (x + y) := (Nat.pow_add 2 x y).symm
  omega
theorem prod_len (j : List Str → List Str → List Str) (g : Form) : ∀ f : Form, (prod j f g).length = f.length * g.length
  | [] => by show 0 = 0 * _; omega
  | p :: r => by
    show ((g.map _) ++ prod j r g).length = (r.length + 1) * g.length
    rw [List.length_append, List.length_map, prod_len j g r, Nat.add_mul, Nat.one_mul, Nat.add_comm]
theorem FOk.two {S : Str → Prop} {z : Str} {n m : Nat} {f g : Form} (hz : arS z = 2) (hn : 1 ≤ n) (hm : 1 ≤ m) (hnm : n + m + 1 ≤ 12) (hf : FOk S n f) (hg : FOk S m g) : FOk S (n + m + 1) (opF z f g) := by
  have hxy : (n - 1) / 2 + (m - 1) / 2 + 1 ≤ (n + m + 1 - 1) / 2 := by omega
  obtain ⟨a1, a2⟩ := pow_two_le hxy
  have h32 : 2 ^ ((n + m + 1 - 1) / 2) ≤ 2 ^ 5 := Nat.pow_le_pow_right (by decide) (by omega)
  have r1 := hf.rows
  have r2 := hg.rows
  have up : ∀ {c : Int} {e : Nat}, c.natAbs < 2 ^ (210 * e) → e ≤ n + m → c.natAbs < 2 ^ (210 * (n + m)) := fun h l => Nat.lt_of_lt_of_le h (Nat.pow_le_pow_right (by decide) (by omega))
  unfold opF
  split
  · refine fok_gath (e := 210 * (n + m)) (by rw [List.length_append]; omega) (by rw [List.length_append]; omega) (by omega) fun p hp => ?_
    rcases List.mem_append.mp hp with k | k
    · obtain ⟨b1, b2, b3, b4⟩ := hf.row p k
      exact ⟨by omega, up b2 (by omega), b3, b4⟩
    · obtain ⟨b1, b2, b3, b4⟩ := hg.row p k
      exact ⟨by omega, up b2 (by omega), b3, b4⟩
  · split
    · refine fok_gath (e := 210 * (n + m)) (by rw [List.length_append, negF, List.length_map]; omega) (by rw [List.length_append, negF, List.length_map]; omega) (by omega) fun p hp => ?_
      rcases List.mem_append.mp hp with k | k
      · obtain ⟨b1, b2, b3, b4⟩ := hf.row p k
        exact ⟨by omega, up b2 (by omega), b3, b4⟩
      · obtain ⟨q, hq, rfl⟩ := List.mem_map.mp k
        obtain ⟨b1, b2, b3, b4⟩ := hg.row q hq
        exact ⟨by show q.1.length ≤ _; omega, by show (-q.2).natAbs < _; rw [Int.natAbs_neg]; exact up b2 (by omega), b3, b4⟩
    · split
      · have lp := prod_len jS g f
        have lm : f.length * g.length ≤ 2 ^ ((n - 1) / 2) * 2 ^ ((m - 1) / 2) := Nat.mul_le_mul r1 r2
        refine fok_gath (e := 210 * (n + m)) (by rw [lp]; omega) (by rw [lp]; omega) (by omega) fun p hp => ?_
        obtain ⟨x, hx, hp⟩ := List.mem_flatMap.mp hp
        obtain ⟨y, hy, rfl⟩ := List.mem_map.mp hp
        obtain ⟨b1, b2, b3, b4⟩ := hf.row x hx
        obtain ⟨c1, c2, c3, c4⟩ := hg.row y hy
        refine ⟨?_, ?_, sortS_idem _, fun z hz => ?_⟩
        · show (sortS (x.1 ++ y.1)).length ≤ _
          rw [sortS_len, List.length_append]
          omega
        · show (x.2 * y.2).natAbs < _
          rw [Int.natAbs_mul, show 210 * (n + m) = 210 * n + 210 * m by omega, Nat.pow_add]
          exact Nat.mul_lt_mul'' b2 c2
        · rcases List.mem_append.mp (sortS_mem.mp hz) with k | k
          · exact b4 z k
          · exact c4 z k
      · rename_i h1 h2 h3
        rcases arS_cases (z := z) (by omega) with k | k | k | k
        · exact absurd k h1
        · exact absurd k h2
        · exact absurd k h3
        · rw [k, ar_neg] at hz
          cases hz
theorem FOk.one {S : Str → Prop} {z : Str} {n : Nat} {f g : Form} (hz : arS z = 1) (hn : 1 ≤ n) (hnm : n + 1 ≤ 12) (hf : FOk S n f) : FOk S (n + 1) (opF z f g) := by
  have r1 := hf.rows
  have h32 : 2 ^ ((n - 1) / 2) ≤ 2 ^ 5 := Nat.pow_le_pow_right (by decide) (by omega)
  have h33 : 2 ^ ((n - 1) / 2) ≤ 2 ^ ((n + 1 - 1) / 2) := Nat.pow_le_pow_right (by decide) (by omega)
  have e : opF z f g = minusF [] f := by
    unfold opF
    rw [if_neg (fun e => by rw [e] at hz; exact absurd hz (by decide +kernel)), if_neg (fun e => by rw [e] at hz; exact absurd hz (by decide +kernel)), if_neg (fun e => by rw [e] at hz; exact absurd hz (by decide +kernel))]
  rw [e]
  refine fok_gath (e := 210 * n) (by rw [List.nil_append, negF, List.length_map]; omega) (by rw [List.nil_append, negF, List.length_map]; omega) (by omega) fun p hp => ?_
  obtain ⟨q, hq, rfl⟩ := List.mem_map.mp hp
  obtain ⟨b1, b2, b3, b4⟩ := hf.row q hq
  exact ⟨by show q.1.length ≤ _; omega, by show (-q.2).natAbs < _; rw [Int.natAbs_neg]; exact b2, b3, b4⟩
def wordF (S : Str → Prop) : V → Prop
  | .int n => n.natAbs < 2 ^ 200
  | .str z => 0 < arS z ∨ S z
  | _ => False
theorem wordF.isW {S : Str → Prop} {v : V} (h : wordF S v) : isW v := by
  cases v with
  | int n => exact isW.int n
  | str z => exact isW.str z
  | _ => exact h.elim
theorem FOk.leaf {S : Str → Prop} {v : V} (h : wordF S v) (h0 : arV v = 0) : FOk S 1 (leafF v) := by
  cases v with
  | int n =>
    refine fok_gath (e := 200) (Nat.le_refl _) (by show (1 : Nat) < 64; decide) (by decide) fun p hp => ?_
    rw [List.mem_singleton.mp hp]
    exact ⟨Nat.zero_le _, h, rfl, fun _ h => nomatch h⟩
  | str z =>
    have hs : S z := h.resolve_left (by have : arS z = 0 := h0; omega)
    refine ⟨Nat.le_refl _, ⟨List.pairwise_singleton _ _, fun p hp => ?_⟩, fun p hp => ?_⟩
    · rw [List.mem_singleton.mp hp]
      exact fun e => by cases e
    · rw [List.mem_singleton.mp hp]
      exact ⟨Nat.le_refl _, by show (1 : Nat) < 2 ^ 210; decide, rfl, fun y hy => by rw [List.mem_singleton.mp hy]; exact hs⟩
  | _ => exact h.elim
inductive StOk (S : Str → Prop) : List Form → Nat → Prop
  | nil : StOk S [] 0
  | cons {f : Form} {st : List Form} {n m : Nat} (h : FOk S n f) (hn : 1 ≤ n) (t : StOk S st m) : StOk S (f :: st) (n + m)
theorem StOk.run {S : Str → Prop} : ∀ {ws : List V} {l : Nat}, (∀ v ∈ ws, wordF S v) → pend l (ws.map arV) = some 0 → ws.length ≤ 12 → StOk S (runF ws) ws.length
  | [], _, _, _, _ => .nil
  | w :: r, 0, _, h, _ => by cases h
  | w :: r, l + 1, hw, h, hl => by
    have h' : pend (l + arV w) (r.map arV) = some 0 := h
    have hl' : r.length + 1 ≤ 12 := hl
    have ih := StOk.run (fun v hv => hw v (List.mem_cons_of_mem _ hv)) h' (by omega)
    have len := runF_len r _ h'
    rw [runF_cons, List.length_cons]
    rcases Nat.eq_zero_or_pos (arV w) with e | e
    · rw [stepF_leaf e, Nat.add_comm]
      exact .cons (FOk.leaf (hw w List.mem_cons_self) e) (Nat.le_refl _) ih
    · obtain ⟨z, rfl, hz⟩ := arV_str e
      have len : (runF r).length = l + arS z := len
      rw [stepF_op hz]
      have a2 := arS_two (z := z)
      generalize runF r = st at ih len
      generalize r.length = k at ih hl'
      cases ih with
      | nil => simp at len; omega
      | @cons f st n m hf hn t =>
        rcases Nat.lt_or_ge 1 (arS z) with q | q
        · have e2 : arS z = 2 := by omega
          cases t with
          | nil => simp at len; omega
          | @cons g st n' m' hg hn' t' =>
            rw [e2, show n + (n' + m') + 1 = (n + n' + 1) + m' by omega]
            exact .cons (FOk.two e2 hn hn' (by omega) hf hg) (by omega) t'
        · have e1 : arS z = 1 := by omega
          rw [e1, show n + m + 1 = (n + 1) + m by omega]
          exact .cons (FOk.one e1 hn (by omega) hf) (by omega) t
theorem FOk.form {S : Str → Prop} {ws : List V} (h : ∀ v ∈ ws, wordF S v) (ht : isTerm ws) (hl : ws.length ≤ 12) : FOk S ws.length (formW ws) := by
  have := StOk.run h ht hl
  rw [formW_run ht] at this
  generalize ws.length = k at this
  cases this with
  | cons h _ t =>
    cases t
    exact h
end Pc
namespace Pc
open PySem PySem.Spec L2 PyProof.Rows Fm
def RowsF (H : Hp) (rs : List V) (f : Form) : Prop := rs.length = f.length ∧ ∀ (i : Nat) (n : List Str) (c : Int), f[i]? = some (n, c) → ∃ t m, rs[i]? = some (.ref t) ∧ H t = some (.tup [.ref m, .int c]) ∧ H m = some (.tup (n.map V.str))
def FormAt (H : Hp) (a : Addr) (f : Form) : Prop := ∃ rs, H a = some (.tup rs) ∧ RowsF H rs f
theorem RowsF.keep {H H' : Hp} {rs : List V} {f : Form} (h : RowsF H rs f) (k : TK H H') : RowsF H' rs f := ⟨h.1, fun i n c hi => by
  obtain ⟨t, m, h1, h2, h3⟩ := h.2 i n c hi
  exact ⟨t, m, h1, k _ _ h2, k _ _ h3⟩⟩
theorem FormAt.keep {H H' : Hp} {a : Addr} {f : Form} (h : FormAt H a f) (k : TK H H') : FormAt H' a f := by
  obtain ⟨rs, h1, h2⟩ := h
  exact ⟨rs, k _ _ h1, h2.keep k⟩
theorem RowsF.nil (H : Hp) : RowsF H [] [] := ⟨rfl, fun i n c h => by simp at h⟩
theorem RowsF.app {H : Hp} {rs ss : List V} {f g : Form} (h : RowsF H rs f) (k : RowsF H ss g) : RowsF H (rs ++ ss) (f ++ g) := by
  refine ⟨by rw [List.length_append, List.length_append, h.1, k.1], fun i n c hi => ?_⟩
  by_cases hl : i < f.length
  · rw [List.getElem?_append_left hl] at hi
    obtain ⟨t, m, h1, h2⟩ := h.2 i n c hi
    exact ⟨t, m, by rw [List.getElem?_append_left (by rw [h.1]; exact hl)]; exact h1, h2⟩
  · rw [List.getElem?_append_right (by omega)] at hi
    obtain ⟨t, m, h1, h2⟩ := k.2 _ n c hi
    exact ⟨t, m, by rw [List.getElem?_append_right (by rw [h.1]; omega), h.1]; exact h1, h2⟩
theorem RowsF.one {H : Hp} {t m : Addr} {n : List Str} {c : Int} (h1 : H t = some (.tup [.ref m, .int c])) (h2 : H m = some (.tup (n.map V.str))) : RowsF H [.ref t] [(n, c)] := ⟨rfl, fun i n' c' hi => by
  match i, hi with
  | 0, hi => cases hi; exact ⟨t, m, rfl, h1, h2⟩⟩
theorem RowsF.nst {H : Hp} {rs : List V} {f : Form} (h : RowsF H rs f) : ∀ x ∈ rs, NstV H 3 x := fun x hx => by
  obtain ⟨i, hi, e⟩ := List.mem_iff_getElem.mp hx
  have hf : i < f.length := by rw [← h.1]; exact hi
  obtain ⟨t, m, h1, h2, h3⟩ := h.2 i f[i].1 f[i].2 (List.getElem?_eq_getElem hf)
  rw [List.getElem?_eq_getElem hi, e] at h1
  rw [Option.some.inj h1]
  refine .inr ⟨t, _, rfl, h2, fun y hy => ?_⟩
  rcases List.mem_cons.mp hy with k | k
  · rw [k]
    refine .inr ⟨m, _, rfl, h3, fun z hz => ?_⟩
    obtain ⟨s, _, rfl⟩ := List.mem_map.mp hz
    exact .inl ⟨Sum.inr s, rfl⟩
  · rw [List.mem_singleton.mp k]
    exact .inl ⟨Sum.inl _, rfl⟩
end Pc
namespace L2
open PySem PySem.Spec PyProof.Rows PySem.SeqAt Pc
section
variable {P : Program} {w : World} {A : Around} {s : Shared} {H : Hp}
end
section
variable {X : Cx}
end
end L2
namespace L2
open PySem
theorem hu8_of {k : Nat} {A : Around} (r : Room k A) : A.units + 8 < cLine := by
  have := r.units
  omega
end L2
namespace Pc
open PySem PySem.Spec L2 PyProof.Rows Fm
def spHowF : Sp := fun vs H Q _ => ∃ v : V, vs = [v] ∧ ((isW v ∧ Q (.int (arV v)) H) ∨ ∃ a xs, v = .ref a ∧ H a = some (.tup xs) ∧ (∀ x ∈ xs, NstV H 3 x) ∧ Q (.int 0) H)
def spGath : Sp := fun vs H Q _ => ∃ (a : Addr) (rs : List V) (rows : Form), vs = [.ref a] ∧ (H a = some (.lst rs) ∨ H a = some (.tup rs)) ∧ RowsF H rs rows ∧ rows.length < 64 ∧ ∀ b H', Same H H' → FormAt H' b (gathF lexS rows) → Q (.ref b) H'
def spPlus : Sp := fun vs H Q _ => ∃ (a b : Addr) (f g : Form), vs = [.ref a, .ref b] ∧ FormAt H a f ∧ FormAt H b g ∧ f.length + g.length < 64 ∧ ∀ c H', Same H H' → FormAt H' c (plusF f g) → Q (.ref c) H'
def spMinus : Sp := fun vs H Q _ => ∃ (a b : Addr) (f g : Form), vs = [.ref a, .ref b] ∧ FormAt H a f ∧ FormAt H b g ∧ f.length + g.length < 64 ∧ ∀ c H', Same H H' → FormAt H' c (minusF f g) → Q (.ref c) H'
def RowB (f : Form) : Prop := ∀ p ∈ f, p.1.length ≤ 12 ∧ bitsOk p.2
def spTimes : Sp := fun vs H Q _ => ∃ (a b : Addr) (f g : Form), vs = [.ref a, .ref b] ∧ FormAt H a f ∧ FormAt H b g ∧ f.length * g.length < 64 ∧ f.length < 64 ∧ g.length < 64 ∧ RowB f ∧ RowB g ∧ ∀ c H', Same H H' → FormAt H' c (timesF f g) → Q (.ref c) H'
def spLeaf : Sp := fun vs H Q _ => ∃ v : V, vs = [v] ∧ isW v ∧ (0 < arV v → Q v H) ∧ (arV v = 0 → ∀ b H', Same H H' → FormAt H' b (leafF v) → Q (.ref b) H')
def FormsAt (H : Hp) (rs : List V) (fs : List Form) : Prop := rs.length = fs.length ∧ ∀ (i : Nat) (f : Form), fs[i]? = some f → ∃ a, rs[i]? = some (.ref a) ∧ FormAt H a f
def JB (fs : List Form) : Prop := (∀ f ∈ fs, f.length < 64 ∧ RowB f) ∧ ∀ f g, fs = [f, g] → f.length + g.length < 64 ∧ f.length * g.length < 64
def spJoinF : Sp := fun vs H Q _ => ∃ (z : Str) (pl : Addr) (rs : List V) (fs : List Form), vs = [.str z, .ref pl] ∧ 0 < arS z ∧ H pl = some (.lst rs) ∧ FormsAt H rs fs ∧ fs.length = arS z ∧ JB fs ∧ ∀ b H', Same H H' → FormAt H' b (opF z (fs.getD 0 []) (fs.getD 1 [])) → Q (.ref b) H'
def LeavesAt (H : Hp) (us ws : List V) : Prop := us.length = ws.length ∧ ∀ (i : Nat) (w : V), ws[i]? = some w → (0 < arV w → us[i]? = some w) ∧ (arV w = 0 → ∃ a, us[i]? = some (.ref a) ∧ FormAt H a (leafF w))
def spFoldF (P : Program) (w : World) (K : PySem.W.Frag) (mg : Str → Option Value) (base : Heap) : Sp := fun vs H Q _ => ∃ (l : Addr) (fv : V) (us ws : List V) (S : Str → Prop), vs = [.ref l, fv] ∧ FnV P w K mg base 3 ["word", "parts"] spJoinF fv ∧ SqL K H l us ∧ LeavesAt H us ws ∧ (∀ v ∈ ws, wordF S v) ∧ isTerm ws ∧ ws.length ≤ 12 ∧ ∀ b H', Same H H' → FormAt H' b (formW ws) → Q (.ref b) H'
def spFold (P : Program) (w : World) (K : PySem.W.Frag) (mg : Str → Option Value) (base : Heap) : Sp := fun vs H Q E => spFoldN P w K mg base vs H Q E ∨ spFoldF P w K mg base vs H Q E
def spFormOf (K : PySem.W.Frag) : Sp := fun vs H Q _ => ∃ (t : Addr) (ws : List V) (S : Str → Prop), vs = [.ref t] ∧ SqT K H t ws ∧ (∀ v ∈ ws, wordF S v) ∧ isTerm ws ∧ ws.length ≤ 12 ∧ ∀ b H', Same H H' → FormAt H' b (formW ws) → Q (.ref b) H'
def smallV (ρ : Str → Option Int) (z : Str) : Prop := (ρ z).isSome = true ∧ ((ρ z).getD 0).natAbs < 2 ^ 100
end Pc
namespace L2
open PySem
theorem pg_tup2K {X : Cx} {pos : Pos} (K : PySem.W.Frag) (hK : X.K = K) {a b : Expr} {k : Nat} {t : TGs} (hc : X.calm = true) (h : PGs X [a, b] t) (hn : (assignEach [a, b] X.env).length = 2 := by rfl) (hst : (assignEach [a, b] X.env).findIdx? (·.1) = none := by rfl) : PG X (.Tuple [a, b] k pos) (gTup K 2 t) := by
  subst hK
  exact pg_tup hc h hn hst
end L2
namespace Pc
open PySem PySem.Spec L2 PyProof.Rows Fm
theorem lc_form {K : PySem.W.Frag} {b : Addr} {g : Form} {fr : L2.St} {tc : TT} {te : TE} {D : Addr} {H1 : Hp} {Q : Hp → Prop} (P : Nat → List V → Hp → Prop) (mono : ∀ i ys H H', TK H H' → P i ys H → P i ys H') (hb : FormAt H1 b g) (hn : g.length < 64) (hD : H1 D = none) (h0 : P 0 [] H1)
    (step : ∀ i n c m ys H (G : Hp → Prop) (K' : V → Hp → Prop), g[i]? = some (n, c) → H m = some (.tup (n.map V.str)) → P i ys H → ys.length ≤ i → Same H1 H → (∀ H3, Same H H3 → P (i + 1) ys H3 → G H3) → (∀ y H4, Same H H4 → P (i + 1) (ys ++ [y]) H4 → K' y H4) → tc ([some (.ref m), some (.int c)] ++ fr) H fun b H3 => if b = true then te ([some (.ref m), some (.int c)] ++ fr) H3 K' else G H3)
    (done : ∀ ys H, P g.length ys H → ys.length ≤ g.length → Same H1 H → H D = some (.lst ys) → Q H) : LC 2 fr (gTup K 2 (gCons (gName 0) (gCons (gName 1) gNil))) tc te (Itt K b) D H1 Q := by
  have sz := sizeLine_eq
  obtain ⟨rs, h1, h2⟩ := hb
  refine lc_pairs g.length (fun i x y H => ∃ n c m, g[i]? = some (n, c) ∧ x = .ref m ∧ y = .int c ∧ H m = some (.tup (n.map V.str))) P mono rfl (by omega) hD (fun i H hi hs => ?_) (fun i H v H' hi hs hy => ?_) (fun H hs => ⟨rs, SqT.of (hs _ _ h1), by rw [h2.1]; exact Nat.le_refl _⟩) h0 (fun i x y ys H G K' hi hR hP hl hS hG hK => ?_) done
  · have hi' : i < rs.length := by rw [h2.1]; exact hi
    exact ⟨rs, _, SqT.of (hs _ _ h1), List.getElem?_eq_getElem hi'⟩
  · obtain ⟨e, hv⟩ := hy
    subst e
    obtain ⟨t, m, q1, q2, q3⟩ := h2.2 i g[i].1 g[i].2 (List.getElem?_eq_getElem hi)
    have := hv rs (SqT.of (hs _ _ h1))
    rw [q1] at this
    cases this
    exact ⟨Same.refl _, t, _, _, rfl, SqT.of (hs _ _ q2), g[i].1, g[i].2, m, List.getElem?_eq_getElem hi, rfl, rfl, hs _ _ q3⟩
  · obtain ⟨n, c, m, q1, rfl, rfl, q2⟩ := hR
    exact step i n c m ys H G K' q1 q2 hP hl hS hG hK
def trK (g : Form) : List (List Key × V) := g.map fun p => (p.1.map Sum.inr, V.int p.2)
theorem inrs_inj {a b : List Str} (h : a.map (Sum.inr : Str → Key) = b.map Sum.inr) : a = b := by
  induction a generalizing b with
  | nil => cases b with
    | nil => rfl
    | cons y s => cases h
  | cons x r ih =>
    cases b with
    | nil => cases h
    | cons y s =>
      rw [List.map_cons, List.map_cons] at h
      injection h with h1 h2
      rw [Sum.inr.inj h1, ih h2]
theorem kV_strs (n : List Str) : (n.map (Sum.inr : Str → Key)).map kV = n.map V.str := by rw [List.map_map]; rfl
theorem trK_val : ∀ {g : Form} (n : List Str), (g.map (·.1)).Nodup → (valV (trK g) (n.map Sum.inr)).getD (.int 0) = .int (coef g n)
  | [], _, _ => rfl
  | p :: r, n, nd => by
    have nd : (p.1 :: r.map (·.1)).Nodup := nd
    obtain ⟨h1, h2⟩ := List.nodup_cons.mp nd
    by_cases e : p.1 = n
    · have e2 : (p.1.map (Sum.inr : Str → Key)) = n.map Sum.inr := by rw [e]
      show (valV ((p.1.map Sum.inr, V.int p.2) :: trK r) (n.map Sum.inr)).getD (.int 0) = .int ((if p.1 = n then p.2 else 0) + coef r n)
      rw [valV_pos e2, if_pos e, coef_not fun q hq z => h1 (by rw [e, ← z]; exact List.mem_map.mpr ⟨q, hq, rfl⟩)]
      show V.int p.2 = V.int (p.2 + 0)
      rw [Int.add_zero]
    · have e2 : ¬ (p.1.map (Sum.inr : Str → Key)) = n.map Sum.inr := fun z => e (inrs_inj z)
      show (valV ((p.1.map Sum.inr, V.int p.2) :: trK r) (n.map Sum.inr)).getD (.int 0) = .int ((if p.1 = n then p.2 else 0) + coef r n)
      rw [valV_neg e2, if_neg e, trK_val n h2, Int.zero_add]
theorem putK_cons_eq {κ : Type} [DecidableEq κ] {p : κ × V} {r : List (κ × V)} {k : κ} {v : V} (e : p.1 = k) (h : ∀ q ∈ r, q.1 ≠ k) : putK (p :: r) k v = (p.1, v) :: r := by
  unfold putK
  rw [if_pos (by rw [List.any_cons, decide_eq_true e]; rfl), List.map_cons, if_pos e]
  congr 1
  have : ∀ l : List (κ × V), (∀ q ∈ l, q.1 ≠ k) → l.map (fun kv => if kv.1 = k then (kv.1, v) else kv) = l := by
    intro l
    induction l with
    | nil => exact fun _ => rfl
    | cons q s ih => intro h; rw [List.map_cons, if_neg (h q List.mem_cons_self), ih fun z hz => h z (List.mem_cons_of_mem _ hz)]
  exact this r h
theorem putK_cons_ne {κ : Type} [DecidableEq κ] {p : κ × V} {r : List (κ × V)} {k : κ} {v : V} (e : ¬ p.1 = k) : putK (p :: r) k v = p :: putK r k v := by
  unfold putK
  rw [List.any_cons, decide_eq_false e, Bool.false_or]
  split
  · rw [List.map_cons, if_neg e]
  · rfl
theorem trK_put : ∀ {g : Form} (n : List Str) (c : Int), (g.map (·.1)).Nodup → putK (trK g) (n.map Sum.inr) (.int (coef g n + c)) = trK (addI g n c)
  | [], n, c, _ => by
    show [(n.map Sum.inr, V.int (0 + c))] = [(n.map Sum.inr, V.int c)]
    rw [Int.zero_add]
  | p :: r, n, c, nd => by
    have nd : (p.1 :: r.map (·.1)).Nodup := nd
    obtain ⟨h1, h2⟩ := List.nodup_cons.mp nd
    by_cases e : p.1 = n
    · have e2 : (p.1.map (Sum.inr : Str → Key)) = n.map Sum.inr := by rw [e]
      have e3 : addI (p :: r) n c = (p.1, p.2 + c) :: r := if_pos e
      rw [e3]
      show putK ((p.1.map Sum.inr, V.int p.2) :: trK r) _ (.int ((if p.1 = n then p.2 else 0) + coef r n + c)) = (p.1.map Sum.inr, V.int (p.2 + c)) :: trK r
      rw [putK_cons_eq e2 fun q hq z => ?_, if_pos e, coef_not fun q hq z => h1 (by rw [e, ← z]; exact List.mem_map.mpr ⟨q, hq, rfl⟩), Int.add_zero]
      obtain ⟨q', hq', rfl⟩ := List.mem_map.mp hq
      exact h1 (by rw [e, ← inrs_inj z]; exact List.mem_map.mpr ⟨q', hq', rfl⟩)
    · have e2 : ¬ (p.1.map (Sum.inr : Str → Key)) = n.map Sum.inr := fun z => e (inrs_inj z)
      have e3 : addI (p :: r) n c = p :: addI r n c := if_neg e
      rw [e3]
      show putK ((p.1.map Sum.inr, V.int p.2) :: trK r) _ (.int ((if p.1 = n then p.2 else 0) + coef r n + c)) = (p.1.map Sum.inr, V.int p.2) :: trK (addI r n c)
      rw [putK_cons_ne e2, if_neg e, Int.zero_add, trK_put n c h2]
theorem lc_items {K : PySem.W.Frag} {a : Addr} {o : Obj} {g : Form} {fr : L2.St} {tc : TT} {te : TE} {D : Addr} {H1 : Hp} {Q : Hp → Prop} (P : Nat → List V → Hp → Prop) (mono : ∀ i ys H H', TK H H' → P i ys H → P i ys H') (ha : H1 a = some (.frz o (.dT (trK g)))) (hn : g.length < 64) (hD : H1 D = none) (h0 : P 0 [] H1)
    (step : ∀ i n c m ys H (G : Hp → Prop) (K' : V → Hp → Prop), g[i]? = some (n, c) → H m = some (.tup (n.map V.str)) → P i ys H → ys.length ≤ i → Same H1 H → (∀ H3, Same H H3 → P (i + 1) ys H3 → G H3) → (∀ y H4, Same H H4 → P (i + 1) (ys ++ [y]) H4 → K' y H4) → tc ([some (.ref m), some (.int c)] ++ fr) H fun b H3 => if b = true then te ([some (.ref m), some (.int c)] ++ fr) H3 K' else G H3)
    (done : ∀ ys H, P g.length ys H → ys.length ≤ g.length → Same H1 H → H D = some (.lst ys) → Q H) : LC 2 fr (gTup K 2 (gCons (gName 0) (gCons (gName 1) gNil))) tc te (Itp a o (trK g)) D H1 Q := by
  have sz := sizeLine_eq
  have tl : (trK g).length = g.length := List.length_map _
  refine lc_pairs g.length (fun i x y H => ∃ n c m, g[i]? = some (n, c) ∧ x = .ref m ∧ y = .int c ∧ H m = some (.tup (n.map V.str))) P mono rfl (by omega) hD (fun i H hi hs => ⟨by rw [tl]; exact hi, hs _ _ ha⟩) (fun i H v H' hi hs hy => ?_) (fun H hs => ⟨tl.symm, hs _ _ ha⟩) h0 (fun i x y ys H G K' hi hR hP hl hS hG hK => ?_) done
  · obtain ⟨p, t, k, v', h1, h2, h3, rfl, rfl⟩ := hy
    unfold trK at h1
    rw [List.getElem?_map, List.getElem?_eq_getElem hi] at h1
    cases h1
    rw [kV_strs] at h2
    exact ⟨same_new h3 _, p, _, _, rfl, SqT.of upd_same, g[i].1, g[i].2, t, List.getElem?_eq_getElem hi, rfl, rfl, same_new h3 _ _ _ h2⟩
  · obtain ⟨n, c, m, q1, rfl, rfl, q2⟩ := hR
    exact step i n c m ys H G K' q1 q2 hP hl hS hG hK
theorem getD_some {α : Type} {l : List α} {i : Nat} {d x : α} (h : l[i]? = some x) : l.getD i d = x := by rw [List.getD_eq_getElem?_getD, h]; rfl
theorem RowsF.at {H : Hp} {ys : List V} {f : Form} (h : RowsF H ys f) : RowsAt H ys (f.map (·.1)) (f.map (·.2)) := by
  refine ⟨by rw [List.length_map]; exact h.1, by rw [List.length_map, List.length_map], fun i hi => ?_⟩
  rw [List.length_map] at hi
  obtain ⟨t, m, h1, h2, h3⟩ := h.2 i f[i].1 f[i].2 (List.getElem?_eq_getElem hi)
  exact ⟨t, m, h1, by rw [getD_some (x := f[i].2) (by rw [List.getElem?_map, List.getElem?_eq_getElem hi]; rfl)]; exact h2, by rw [getD_some (x := f[i].1) (by rw [List.getElem?_map, List.getElem?_eq_getElem hi]; rfl)]; exact h3⟩
theorem sorted_form {f : Form} {is : List Nat} (hp : is.Perm (List.range f.length)) (hi : ∀ i j, i ≤ j → j < f.length → rank (f.map (·.1)).length (fun i j => lexS ((f.map (·.1)).getD i []) ((f.map (·.1)).getD j [])) (is.getD i 0) ≤ rank (f.map (·.1)).length (fun i j => lexS ((f.map (·.1)).getD i []) ((f.map (·.1)).getD j [])) (is.getD j 0)) :
    (is.map fun i => f.getD i ([], 0)).Perm f ∧ Srt (fun p q : List Str × Int => lexS p.1 q.1) (is.map fun i => f.getD i ([], 0)) := by
  have hlen : is.length = f.length := by rw [hp.length_eq, List.length_range]
  have hin : ∀ i, i < is.length → is.getD i 0 < f.length := fun i h => by
    rw [getD_some (List.getElem?_eq_getElem h)]
    exact List.mem_range.mp (hp.mem_iff.mp (List.getElem_mem h))
  constructor
  · have e : (List.range f.length).map (fun i => f.getD i ([], 0)) = f := by
      apply List.ext_getElem?
      intro i
      rw [List.getElem?_map]
      by_cases h : i < f.length
      · rw [List.getElem?_range h, List.getElem?_eq_getElem h]
        show some (f.getD i ([], 0)) = _
        rw [getD_some (List.getElem?_eq_getElem h)]
      · rw [List.getElem?_eq_none_iff.mpr (by rw [List.length_range]; omega), List.getElem?_eq_none_iff.mpr (by omega)]
        rfl
    have := hp.map fun i => f.getD i ([], 0)
    rw [e] at this
    exact this
  · refine List.pairwise_map.mpr (List.pairwise_iff_getElem.mpr fun i j h1 h2 hij => ?_)
    have o : Ord (f.map (·.1)).length fun i j => lexS ((f.map (·.1)).getD i []) ((f.map (·.1)).getD j []) := ⟨fun _ _ => lexS_irr _, fun _ _ _ _ _ _ a b => lexS_tr a b, fun _ j _ _ _ _ a => lexS_neg _ a⟩
    have hr := hi i j (Nat.le_of_lt hij) (by omega)
    have g1 := hin i h1
    have g2 := hin j h2
    rw [getD_some (List.getElem?_eq_getElem h1)] at hr g1
    rw [getD_some (List.getElem?_eq_getElem h2)] at hr g2
    have hrk := o.rank (i := is[j]) (j := is[i]) (by rw [List.length_map]; exact g2) (by rw [List.length_map]; exact g1)
    rw [decide_eq_false (by omega)] at hrk
    have nm : ∀ k, (f.getD k ([], 0)).1 = (f.map (·.1)).getD k [] := fun k => by
      rw [List.getD_eq_getElem?_getD, List.getD_eq_getElem?_getD, List.getElem?_map]
      cases f[k]? <;> rfl
    show lexS (f.getD is[j] ([], 0)).1 (f.getD is[i] ([], 0)).1 = false
    rw [nm, nm]
    exact hrk.symm
theorem RowsF.pick {H : Hp} {ys : List V} {f : Form} (h : RowsF H ys f) {is : List Nat} (hin : ∀ i ∈ is, i < f.length) : RowsF H (is.map fun i => ys.getD i .non) (is.map fun i => f.getD i ([], 0)) := by
  refine ⟨by rw [List.length_map, List.length_map], fun i n c hi => ?_⟩
  rw [List.getElem?_map] at hi
  obtain ⟨k, hk, e⟩ := Option.map_eq_some_iff.mp hi
  have hk' := hin k (List.mem_of_getElem? hk)
  rw [getD_some (List.getElem?_eq_getElem hk')] at e
  obtain ⟨t, m, h1, h2, h3⟩ := h.2 k n c (by rw [List.getElem?_eq_getElem hk', e])
  exact ⟨t, m, by rw [List.getElem?_map, hk]; show some (ys.getD k .non) = _; rw [getD_some h1], h2, h3⟩
end Pc
namespace Pc
open PySem PySem.Spec L2 PyProof.Rows Fm
theorem lc_tupH {K : PySem.W.Frag} {a : Addr} {xs : List V} {fr : L2.St} {tc : TT} {te : TE} {D : Addr} {H1 : Hp} {Q : Hp → Prop} (P : Nat → List V → Hp → Prop) (mono : ∀ i ys H H', TK H H' → P i ys H → P i ys H') (hS : SqT K H1 a xs) (hn : xs.length < sizeLine) (hD : H1 D = none) (h0 : P 0 [] H1)
    (step : ∀ i x ys H (G : Hp → Prop) (K' : V → Hp → Prop), xs[i]? = some x → P i ys H → ys.length ≤ i → Same H1 H → (∀ H3, Same H H3 → P (i + 1) ys H3 → G H3) → (∀ y H4, Same H H4 → P (i + 1) (ys ++ [y]) H4 → K' y H4) → tc ([some x] ++ fr) H fun b H3 => if b = true then te ([some x] ++ fr) H3 K' else G H3)
    (done : ∀ ys H, P xs.length ys H → ys.length ≤ xs.length → Same H1 H → H D = some (.lst ys) → Q H) : LC 1 fr (gName 0) tc te (Itt K a) D H1 Q := by
  have at' : ∀ i, i < xs.length → xs[i]? = some (xs.getD i .non) := fun i hi => by
    rw [List.getD_eq_getElem?_getD, List.getElem?_eq_getElem hi]
    rfl
  exact lc_genH xs.length (fun i => xs.getD i .non) P mono hn hD (fun i H hi hs => ⟨xs, _, hs.tup hS, at' i hi⟩)
    (fun i H x H' hi hs hy => ⟨hy.1, Option.some.inj ((hy.2 xs (hs.tup hS)).symm.trans (at' i hi))⟩) (fun H hs => ⟨xs, hs.tup hS, Nat.le_refl _⟩) h0
    (fun i ys H G K' hi hp hl hs hG hK => step i _ ys H G K' (at' i hi) hp hl hs hG hK) done
theorem FormsAt.keep {H H' : Hp} {rs : List V} {fs : List Form} (h : FormsAt H rs fs) (k : TK H H') : FormsAt H' rs fs := ⟨h.1, fun i f hi => by
  obtain ⟨a, h1, h2⟩ := h.2 i f hi
  exact ⟨a, h1, h2.keep k⟩⟩
theorem FormsAt.take {H : Hp} {rs : List V} {fs : List Form} (h : FormsAt H rs fs) (n : Nat) : FormsAt H (rs.take n) (fs.take n) := ⟨by rw [List.length_take, List.length_take, h.1], fun i f hi => by
  rw [List.getElem?_take] at hi
  split at hi
  · rename_i c
    obtain ⟨a, h1, h2⟩ := h.2 i f hi
    exact ⟨a, by rw [List.getElem?_take, if_pos c]; exact h1, h2⟩
  · cases hi⟩
theorem FormsAt.drop {H : Hp} {rs : List V} {fs : List Form} (h : FormsAt H rs fs) (n : Nat) : FormsAt H (rs.drop n) (fs.drop n) := ⟨by rw [List.length_drop, List.length_drop, h.1], fun i f hi => by
  rw [List.getElem?_drop] at hi
  obtain ⟨a, h1, h2⟩ := h.2 _ f hi
  exact ⟨a, by rw [List.getElem?_drop]; exact h1, h2⟩⟩
theorem FormsAt.cons {H : Hp} {rs : List V} {fs : List Form} (h : FormsAt H rs fs) {a : Addr} {f : Form} (ha : FormAt H a f) : FormsAt H (.ref a :: rs) (f :: fs) := ⟨by rw [List.length_cons, List.length_cons, h.1], fun i g hi => by
  cases i with
  | zero => cases hi; exact ⟨a, rfl, ha⟩
  | succ i => exact h.2 i g hi⟩
theorem FOk.rowB {S : Str → Prop} {n : Nat} {f : Form} (h : FOk S n f) (hn : n ≤ 12) : f.length < 64 ∧ RowB f := by
  have h1 := h.rows
  have h2 : 2 ^ ((n - 1) / 2) ≤ 2 ^ 5 := Nat.pow_le_pow_right (by decide) (by omega)
  exact ⟨by omega, fun p hp => ⟨Nat.le_trans (h.row p hp).1 hn, 210 * n, by omega, (h.row p hp).2.1⟩⟩
theorem StOk.all {S : Str → Prop} {st : List Form} {k : Nat} (h : StOk S st k) : k ≤ 12 → ∀ f ∈ st, f.length < 64 ∧ RowB f := by
  induction h with
  | nil => exact fun _ _ h => nomatch h
  | cons h hn t ih =>
    intro hk f hf
    rcases List.mem_cons.mp hf with e | e
    · rw [e]; exact h.rowB (by omega)
    · exact ih (by omega) f e
theorem StOk.jb {S : Str → Prop} {st : List Form} {k : Nat} (h : StOk S st k) (hk : k ≤ 11) (n : Nat) : JB (st.take n) := by
  refine ⟨fun f hf => h.all (by omega) f (List.mem_of_mem_take hf), fun f g e => ?_⟩
  cases h with
  | nil => rw [List.take_nil] at e; cases e
  | @cons f' st n1 m hf hn t =>
    cases n with
    | zero => cases e
    | succ n =>
      rw [List.take_succ_cons] at e
      injection e with e1 e2
      subst e1
      cases t with
      | nil => rw [List.take_nil] at e2; cases e2
      | @cons g' st n2 m2 hg hn2 t2 =>
        cases n with
        | zero => cases e2
        | succ n =>
          rw [List.take_succ_cons] at e2
          injection e2 with e3 _
          subst e3
          have r1 := hf.rows
          have r2 := hg.rows
          have hx : (n1 - 1) / 2 + (n2 - 1) / 2 + 1 ≤ 5 := by omega
          obtain ⟨p1, p2⟩ := pow_two_le hx
          have := Nat.mul_le_mul r1 r2
          exact ⟨by omega, by omega⟩
end Pc
namespace Pc
open PySem PySem.Spec L2 PyProof.Rows Fm
theorem sorted_names {zs : List Str} {is : List Nat} (hp : is.Perm (List.range (zs.map V.str).length)) (hi : ∀ i j, i ≤ j → j < (zs.map V.str).length → rank zs.length (fun i j => ltS (zs.getD i "") (zs.getD j "")) (is.getD i 0) ≤ rank zs.length (fun i j => ltS (zs.getD i "") (zs.getD j "")) (is.getD j 0)) :
    (is.map fun i => (zs.map V.str).getD i .non) = (sortS zs).map V.str := by
  rw [List.length_map] at hp hi
  have hlen : is.length = zs.length := by rw [hp.length_eq, List.length_range]
  have hmem : ∀ i ∈ is, i < zs.length := fun i h => List.mem_range.mp (hp.mem_iff.mp h)
  have e1 : (is.map fun i => (zs.map V.str).getD i .non) = (is.map fun i => zs.getD i "").map V.str := by
    rw [List.map_map]
    apply List.map_congr_left
    intro i h
    have hi := hmem i h
    show (zs.map V.str).getD i .non = V.str (zs.getD i "")
    rw [getD_some (x := V.str zs[i]) (by rw [List.getElem?_map, List.getElem?_eq_getElem hi]; rfl), getD_some (List.getElem?_eq_getElem hi)]
  rw [e1]
  congr 1
  refine sortS_of ?_ ?_
  · have e : (List.range zs.length).map (fun i => zs.getD i "") = zs := by
      apply List.ext_getElem?
      intro i
      rw [List.getElem?_map]
      by_cases h : i < zs.length
      · rw [List.getElem?_range h, List.getElem?_eq_getElem h]
        show some (zs.getD i "") = _
        rw [getD_some (List.getElem?_eq_getElem h)]
      · rw [List.getElem?_eq_none_iff.mpr (by rw [List.length_range]; omega), List.getElem?_eq_none_iff.mpr (by omega)]
        rfl
    have := hp.map fun i => zs.getD i ""
    rw [e] at this
    exact this
  · refine List.pairwise_map.mpr (List.pairwise_iff_getElem.mpr fun i j h1 h2 hij => ?_)
    have o : Ord zs.length fun i j => ltS (zs.getD i "") (zs.getD j "") := ⟨fun _ _ => ltS_irr _, fun _ _ _ _ _ _ a b => ltS_tr a b, fun _ j _ _ _ _ a => ltS_neg _ a⟩
    have hr := hi i j (Nat.le_of_lt hij) (by omega)
    rw [getD_some (List.getElem?_eq_getElem h1), getD_some (List.getElem?_eq_getElem h2)] at hr
    have hrk := o.rank (i := is[j]) (j := is[i]) (hmem _ (List.getElem_mem h2)) (hmem _ (List.getElem_mem h1))
    rw [decide_eq_false (by omega)] at hrk
    exact hrk.symm
theorem prod_step {f g : Form} {i : Nat} {n : List Str} {c : Int} (h : f[i]? = some (n, c)) : prod jS (f.take (i + 1)) g = prod jS (f.take i) g ++ g.map fun q => (jS n q.1, c * q.2) := by
  unfold prod
  rw [List.take_add_one, h, List.flatMap_append]
  show _ ++ ((g.map fun q => (jS n q.1, c * q.2)) ++ []) = _
  rw [List.append_nil]
theorem opF_take {z : Str} (hz : 0 < arS z) (st : List Form) : opF z ((st.take (arS z)).getD 0 []) ((st.take (arS z)).getD 1 []) = opF z (st.getD 0 []) (st.getD 1 []) := by
  have a2 := arS_two (z := z)
  rcases Nat.lt_or_ge 1 (arS z) with k | k
  · have e : arS z = 2 := by omega
    rw [e]
    match st with
    | [] => rfl
    | [a] => rfl
    | a :: b :: r => rfl
  · have e : arS z = 1 := by omega
    rw [opF_one e _ _ (st.getD 1 []), e]
    cases st <;> rfl
theorem FormsAt.nil (H : Hp) : FormsAt H [] [] := ⟨rfl, fun i f h => by simp at h⟩
end Pc
namespace L2
open PySem PySem.Spec PyProof.Rows PySem.SeqAt Pc
theorem all_same {α : Type} [DecidableEq α] (as bs : List α) : ((List.range (min as.length bs.length)).all (fun j => decide (as[j]? = bs[j]?)) && as.length == bs.length) = decide (as = bs) := by
  by_cases h : as = bs
  · subst h
    rw [decide_eq_true rfl, beq_self_eq_true, Bool.and_true, List.all_eq_true]
    exact fun _ _ => decide_eq_true rfl
  · rw [decide_eq_false h]
    by_cases hl : as.length = bs.length
    · have hx : ∃ j, ¬ as[j]? = bs[j]? := Classical.byContradiction fun n => h (List.ext_getElem? fun j => Classical.byContradiction fun k => n ⟨j, k⟩)
      obtain ⟨j, hj⟩ := hx
      have hlt : j < as.length := Classical.byContradiction fun k => hj (by rw [List.getElem?_eq_none_iff.mpr (by omega), List.getElem?_eq_none_iff.mpr (by omega)])
      have : (List.range (min as.length bs.length)).all (fun j => decide (as[j]? = bs[j]?)) = false := by
        rw [List.all_eq_false]
        exact ⟨j, List.mem_range.mpr (by omega), by rw [decide_eq_false hj]; decide⟩
      rw [this, Bool.false_and]
    · rw [beq_eq_false_iff_ne.mpr hl, Bool.and_false]
section
variable {P : Program} {w : World} {A : Around} {s : Shared} {H : Hp}
theorem eqAt_namesG {m m' : Addr} {n n' : List Str} (ok : HOk P w H s.heap) (h1 : H m = some (.tup (n.map V.str))) (h2 : H m' = some (.tup (n'.map V.str))) (hu : A.units < cLine) : EqAt A s (.ref m) (.ref m') (decide (n = n')) := by
  by_cases e : m = m'
  · subst e
    rw [h1] at h2
    have e2 : n.map V.str = n'.map V.str := HO.tup.inj (Option.some.inj h2)
    have e3 : n = n' := by
      have := congrArg (List.map fun v : V => match v with | .str z => z | _ => "") e2
      rw [List.map_map, List.map_map] at this
      simpa [Function.comp_def] using this
    rw [decide_eq_true e3]
    exact EqAt.same _
  obtain ⟨_, i1, r1, p1⟩ := (tup_rd ok h1)
  obtain ⟨_, i2, r2, p2⟩ := (tup_rd ok h2)
  have l1 := r1.length
  have l2 := r2.length
  rw [List.length_map] at l1 l2
  have kf : ∀ n : List Str, n.map V.str = (n.map (Sum.inr : Str → Key)).map kV := fun n => by rw [List.map_map]; rfl
  refine EqAt.of_refs e fun P' w' E Q q => RcAt.tuples (e := fun j => decide ((n.map (Sum.inr : Str → Key))[j]? = (n'.map Sum.inr)[j]?)) (show s.heap.IsTuple m i1.toArray from p1) (show s.heap.IsTuple m' i2.toArray from p2) hu (fun j h1 h2 => ?_) P' w' E Q ?_
  · exact keys_eqAt (A := A.in1) (s := s) (as := n.map Sum.inr) (bs := n'.map Sum.inr) (by rw [← kf]; exact r1) (by rw [← kf]; exact r2) j h1 h2
  · have a := all_same (n.map (Sum.inr : Str → Key)) (n'.map Sum.inr)
    rw [List.length_map, List.length_map] at a
    rw [List.size_toArray, List.size_toArray, ← l1, ← l2, a]
    have : decide (n.map (Sum.inr : Str → Key) = n'.map Sum.inr) = decide (n = n') := by
      by_cases h : n = n'
      · rw [decide_eq_true h, h, decide_eq_true rfl]
      · rw [decide_eq_false h, decide_eq_false fun z => h (inrs_inj z)]
    rw [this]
    exact q
theorem eqAt_rowG {t t' m m' : Addr} {n n' : List Str} {c c' : Int} (ok : HOk P w H s.heap) (h1 : H t = some (.tup [.ref m, .int c])) (h2 : H t' = some (.tup [.ref m', .int c'])) (h3 : H m = some (.tup (n.map V.str))) (h4 : H m' = some (.tup (n'.map V.str))) (hu : A.units + 1 < cLine) : EqAt A s (.ref t) (.ref t') (decide ((n, c) = (n', c'))) := by
  have nm := eqAt_namesG (A := A.in1) ok h3 h4 hu
  by_cases e : t = t'
  · subst e
    rw [h1] at h2
    cases h2
    rw [h3] at h4
    have e2 : n.map V.str = n'.map V.str := HO.tup.inj (Option.some.inj h4)
    have e3 : n = n' := by
      have := congrArg (List.map fun v : V => match v with | .str z => z | _ => "") e2
      rw [List.map_map, List.map_map] at this
      simpa [Function.comp_def] using this
    rw [e3, decide_eq_true rfl]
    exact EqAt.same _
  obtain ⟨_, i1, r1, p1⟩ := (tup_rd ok h1)
  obtain ⟨_, i2, r2, p2⟩ := (tup_rd ok h2)
  obtain ⟨a1, b1, rfl, ra1, rb1⟩ := vals2 r1
  obtain ⟨a2, b2, rfl, ra2, rb2⟩ := vals2 r2
  cases ra1
  cases ra2
  obtain ⟨k1, rfl⟩ := rb1
  obtain ⟨k2, rfl⟩ := rb2
  refine EqAt.of_refs e fun P' w' E Q q => RcAt.tuples (e := fun j => if j = 0 then decide (n = n') else (c == c')) (show s.heap.IsTuple t _ from p1) (show s.heap.IsTuple t' _ from p2) (Nat.lt_of_succ_lt hu) (fun j h1 h2 => ?_) P' w' E Q ?_
  · match j, h1, h2 with
    | 0, _, _ => exact nm
    | 1, _, _ => exact EqAt.int_int (A := A.in1) (s := s) c k1 c' k2
  · have e1 : ((List.range (min [Value.ref m, Value.int c k1].toArray.size [Value.ref m', Value.int c' k2].toArray.size)).all (fun j => if j = 0 then decide (n = n') else (c == c')) && [Value.ref m, Value.int c k1].toArray.size == [Value.ref m', Value.int c' k2].toArray.size) = decide ((n, c) = (n', c')) := by
      show ((decide (n = n') && ((c == c') && true)) && true) = _
      rw [Bool.and_true, Bool.and_true]
      by_cases x : n = n'
      · by_cases y : c = c'
        · rw [x, y, decide_eq_true rfl, decide_eq_true rfl, beq_self_eq_true]; rfl
        · rw [beq_eq_false_iff_ne.mpr y, Bool.and_false, decide_eq_false fun z => y (Prod.mk.inj z).2]
      · rw [decide_eq_false x, Bool.false_and, decide_eq_false fun z => x (Prod.mk.inj z).1]
    rw [e1]
    exact q
end
def rEqG (neg : Bool) : R2 := fun x y H Q => ∃ a b f g, x = .ref a ∧ y = .ref b ∧ FormAt H a f ∧ FormAt H b g ∧ Q (.bl (if neg = true then !decide (f = g) else decide (f = g))) H
section
variable {X : Cx}
theorem forms_itemsG {pins : List (Addr × Obj)} {σ : St} {H : Hp} {s : Shared} {a b : Addr} {f g : Form} (I : Inv X pins σ H s) (ha : FormAt H a f) (hb : FormAt H b g) (hu : X.A.units + 2 < cLine) : ∃ i1 i2 : List Value, s.heap.IsTuple a i1.toArray ∧ s.heap.IsTuple b i2.toArray ∧ i1.length = f.length ∧ i2.length = g.length ∧ ∀ j (h1 : j < i1.toArray.size) (h2 : j < i2.toArray.size), EqAt X.A.in1 s i1.toArray[j] i2.toArray[j] (decide (f[j]? = g[j]?)) := by
  obtain ⟨r1, a1, a2⟩ := ha
  obtain ⟨r2, b1, b2⟩ := hb
  obtain ⟨_, i1, v1, p1⟩ := (tup_rd I.hok a1)
  obtain ⟨_, i2, v2, p2⟩ := (tup_rd I.hok b1)
  have l1 := v1.length
  have l2 := v2.length
  have e1 := a2.1
  have e2 := b2.1
  refine ⟨i1, i2, p1, p2, by omega, by omega, fun j h1 h2 => ?_⟩
  have hj : j < f.length := by rw [List.size_toArray] at h1; omega
  have hj2 : j < g.length := by rw [List.size_toArray] at h2; omega
  obtain ⟨t, m, q1, q2, q3⟩ := a2.2 j f[j].1 f[j].2 (List.getElem?_eq_getElem hj)
  obtain ⟨t', m', q1', q2', q3'⟩ := b2.2 j g[j].1 g[j].2 (List.getElem?_eq_getElem hj2)
  obtain ⟨u, hu1, ru⟩ := v1.get q1
  obtain ⟨u', hu2, ru'⟩ := v2.get q1'
  cases (show u = Value.ref t from ru)
  cases (show u' = Value.ref t' from ru')
  have g1 : i1.toArray[j] = Value.ref t := by
    have : i1[j]'(by simpa using h1) = Value.ref t := by rw [List.getElem?_eq_getElem (by simpa using h1)] at hu1; exact Option.some.inj hu1
    simpa using this
  have g2 : i2.toArray[j] = Value.ref t' := by
    have : i2[j]'(by simpa using h2) = Value.ref t' := by rw [List.getElem?_eq_getElem (by simpa using h2)] at hu2; exact Option.some.inj hu2
    simpa using this
  rw [g1, g2, List.getElem?_eq_getElem hj, List.getElem?_eq_getElem hj2]
  have e := eqAt_rowG (A := X.A.in1) I.hok q2 q2' q3 q3' hu
  have d : decide (some f[j] = some g[j]) = decide ((f[j].1, f[j].2) = (g[j].1, g[j].2)) := by
    by_cases x : f[j] = g[j]
    · rw [x, decide_eq_true rfl, decide_eq_true rfl]
    · rw [decide_eq_false fun z => x (Option.some.inj z), decide_eq_false fun z => x z]
  rw [d]
  exact e
theorem op_eqG (hu : X.A.units + 8 < cLine) : OpR X (compareOp .Eq) (rEqG false) := by
  intro pins s σ H x y v u Q I rx ry h
  obtain ⟨a, b, f, g, rfl, rfl, ha, hb, q⟩ := h
  cases rx
  cases ry
  obtain ⟨i1, i2, p1, p2, l1, l2, he⟩ := forms_itemsG I ha hb (by omega)
  refine eq_tupleAt (e := fun j => decide (f[j]? = g[j]?)) p1 p2 (by omega) he ?_
  refine fin_bl I q ?_
  rw [List.size_toArray, List.size_toArray, l1, l2, all_same]
  rfl
theorem op_neG (hu : X.A.units + 8 < cLine) : OpR X (compareOp .NotEq) (rEqG true) := by
  intro pins s σ H x y v u Q I rx ry h
  obtain ⟨a, b, f, g, rfl, rfl, ha, hb, q⟩ := h
  cases rx
  cases ry
  obtain ⟨i1, i2, p1, p2, l1, l2, he⟩ := forms_itemsG I ha hb (by omega)
  refine RcNeAt.tuples (e := fun j => decide (f[j]? = g[j]?)) p1 p2 (by omega) he _ _ _ _ ?_
  refine fin_bl I q ?_
  rw [List.size_toArray, List.size_toArray, l1, l2, all_same]
  rfl
end
end L2
namespace Py
def pe : List Int → Int → Int
  | [], _ => 0
  | c :: r, x => c + x * pe r x
def dv (a : Int) : List Int → List Int
  | [] => []
  | _ :: r => match r with
    | [] => []
    | _ :: _ => pe r a :: dv a r
theorem dv_len (a : Int) : ∀ p : List Int, (dv a p).length = p.length - 1
  | [] => rfl
  | [_] => rfl
  | c :: d :: r => by
    show (dv a (d :: r)).length + 1 = _
    rw [dv_len a (d :: r)]
    rfl
theorem pe_dv (a x : Int) : ∀ p : List Int, pe p x = (x - a) * pe (dv a p) x + pe p a
  | [] => by show (0 : Int) = (x - a) * 0 + 0; omega
  | [c] => by show c + x * 0 = (x - a) * 0 + (c + a * 0); omega
  | c :: d :: r => by
    have ih := pe_dv a x (d :: r)
    show c + x * pe (d :: r) x = (x - a) * (pe (d :: r) a + x * pe (dv a (d :: r)) x) + (c + a * pe (d :: r) a)
    rw [ih]
    generalize pe (d :: r) a = u
    generalize pe (dv a (d :: r)) x = v
    rw [Int.mul_add, Int.mul_add, Int.sub_mul, Int.sub_mul, Int.sub_mul, Int.mul_sub]
    have e1 : x * (a * v) = a * (x * v) := Int.mul_left_comm x a v
    omega
theorem zero_of_dv (a : Int) : ∀ p : List Int, (∀ c ∈ dv a p, c = 0) → pe p a = 0 → ∀ c ∈ p, c = 0
  | [], _, _ => fun _ h => nomatch h
  | [c], _, h => fun d hd => by
    have e : c + a * 0 = 0 := h
    rw [List.mem_singleton.mp hd]
    omega
  | c :: d :: r, hq, h => by
    have h1 : pe (d :: r) a = 0 := hq _ List.mem_cons_self
    have ih := zero_of_dv a (d :: r) (fun e he => hq e (List.mem_cons_of_mem _ he)) h1
    have e : c + a * pe (d :: r) a = 0 := h
    rw [h1, Int.mul_zero] at e
    intro e' he'
    rcases List.mem_cons.mp he' with z | z
    · rw [z]; omega
    · exact ih e' z
theorem zero_at : ∀ (xs : List Int) (p : List Int), xs.Nodup → p.length ≤ xs.length → (∀ x ∈ xs, pe p x = 0) → ∀ c ∈ p, c = 0
  | [], p, _, hl, _ => by
    have : p = [] := List.eq_nil_of_length_eq_zero (by simpa using hl)
    rw [this]
    exact fun _ h => nomatch h
  | a :: ys, p, hn, hl, hz => by
    obtain ⟨h1, h2⟩ := List.nodup_cons.mp hn
    refine zero_of_dv a p (zero_at ys (dv a p) h2 ?_ fun y hy => ?_) (hz a List.mem_cons_self)
    · rw [dv_len]
      rw [List.length_cons] at hl
      omega
    · have e := pe_dv a y p
      rw [hz y (List.mem_cons_of_mem _ hy), hz a List.mem_cons_self, Int.add_zero] at e
      rcases Int.mul_eq_zero.mp e.symm with z | z
      · exact absurd (show y = a by omega) (fun q => h1 (q ▸ hy))
      · exact z
end Py
namespace Py
def toL (g : Nat → Int) : Nat → List Int
  | 0 => []
  | n + 1 => g 0 :: toL (fun k => g (k + 1)) n
theorem toL_len : ∀ (n : Nat) (g : Nat → Int), (toL g n).length = n
  | 0, _ => rfl
  | n + 1, g => by show (toL _ n).length + 1 = _; rw [toL_len n]
theorem toL_mem : ∀ (n : Nat) (g : Nat → Int) (k : Nat), k < n → g k ∈ toL g n
  | 0, _, _, h => by omega
  | n + 1, g, 0, _ => List.mem_cons_self
  | n + 1, g, k + 1, h => List.mem_cons_of_mem _ (toL_mem n (fun k => g (k + 1)) k (by omega))
theorem pe_add (x : Int) : ∀ (n : Nat) (g h : Nat → Int), pe (toL (fun k => g k + h k) n) x = pe (toL g n) x + pe (toL h n) x
  | 0, _, _ => rfl
  | n + 1, g, h => by
    show g 0 + h 0 + x * pe (toL (fun k => g (k + 1) + h (k + 1)) n) x = g 0 + x * pe (toL (fun k => g (k + 1)) n) x + (h 0 + x * pe (toL (fun k => h (k + 1)) n) x)
    rw [pe_add x n (fun k => g (k + 1)) fun k => h (k + 1), Int.mul_add]
    omega
theorem pe_nought (x : Int) : ∀ n : Nat, pe (toL (fun _ => 0) n) x = 0
  | 0 => rfl
  | n + 1 => by
    show 0 + x * pe (toL (fun _ => 0) n) x = 0
    rw [pe_nought x n]
    omega
theorem pe_one (x c : Int) : ∀ (n j : Nat), j < n → pe (toL (fun k => if k = j then c else 0) n) x = c * x ^ j
  | 0, _, h => by omega
  | n + 1, 0, _ => by
    show c + x * pe (toL (fun k => if k + 1 = 0 then c else 0) n) x = c * x ^ 0
    have e : (fun k : Nat => if k + 1 = 0 then c else (0 : Int)) = fun _ => 0 := funext fun k => if_neg (by omega)
    rw [e, pe_nought, Int.pow_zero]
    omega
  | n + 1, j + 1, h => by
    show (if 0 = j + 1 then c else 0) + x * pe (toL (fun k => if k + 1 = j + 1 then c else 0) n) x = c * x ^ (j + 1)
    have e : (fun k : Nat => if k + 1 = j + 1 then c else (0 : Int)) = fun k => if k = j then c else 0 := funext fun k => by
      by_cases hk : k = j
      · rw [if_pos hk, if_pos (by omega)]
      · rw [if_neg hk, if_neg (by omega)]
    rw [e, if_neg (by omega), pe_one x c n j (by omega), Int.pow_succ, Int.zero_add, Int.mul_left_comm, Int.mul_comm x]
section
variable {N R : Type} [DecidableEq R] (rest : N → R) (cnt : N → Nat)
def at' (r : R) (x : Int) : List (N × Int) → Int
  | [] => 0
  | p :: f => (if rest p.1 = r then p.2 * x ^ cnt p.1 else 0) + at' r x f
def fac (r : R) (k : Nat) : List (N × Int) → Int
  | [] => 0
  | p :: f => (if rest p.1 = r ∧ cnt p.1 = k then p.2 else 0) + fac r k f
theorem pe_fac (r : R) (x : Int) (n : Nat) : ∀ f : List (N × Int), (∀ p ∈ f, cnt p.1 < n) → pe (toL (fun k => fac rest cnt r k f) n) x = at' rest cnt r x f
  | [], _ => pe_nought x n
  | p :: f, h => by
    show pe (toL (fun k => (if rest p.1 = r ∧ cnt p.1 = k then p.2 else 0) + fac rest cnt r k f) n) x = (if rest p.1 = r then p.2 * x ^ cnt p.1 else 0) + at' rest cnt r x f
    rw [pe_add, pe_fac r x n f fun q hq => h q (List.mem_cons_of_mem _ hq)]
    congr 1
    by_cases hr : rest p.1 = r
    · rw [if_pos hr]
      have e : (fun k : Nat => if rest p.1 = r ∧ cnt p.1 = k then p.2 else (0 : Int)) = fun k => if k = cnt p.1 then p.2 else 0 := funext fun k => by
        by_cases hk : k = cnt p.1
        · rw [if_pos hk, if_pos ⟨hr, hk.symm⟩]
        · rw [if_neg hk, if_neg fun z => hk z.2.symm]
      rw [e, pe_one x p.2 n (cnt p.1) (h p List.mem_cons_self)]
    · rw [if_neg hr]
      have e : (fun k : Nat => if rest p.1 = r ∧ cnt p.1 = k then p.2 else (0 : Int)) = fun _ => 0 := funext fun k => if_neg fun z => hr z.1
      rw [e, pe_nought]
theorem fac_not (r : R) (k : Nat) : ∀ f : List (N × Int), (∀ p ∈ f, ¬ (rest p.1 = r ∧ cnt p.1 = k)) → fac rest cnt r k f = 0
  | [], _ => rfl
  | p :: f, h => by
    show (if rest p.1 = r ∧ cnt p.1 = k then p.2 else 0) + fac rest cnt r k f = 0
    rw [if_neg (h p List.mem_cons_self), fac_not r k f fun q hq => h q (List.mem_cons_of_mem _ hq)]
    rfl
theorem fac_own : ∀ {f : List (N × Int)} {p : N × Int}, f.Pairwise (fun p q => ¬ (rest p.1 = rest q.1 ∧ cnt p.1 = cnt q.1)) → p ∈ f → fac rest cnt (rest p.1) (cnt p.1) f = p.2
  | [], _, _, h => nomatch h
  | q :: f, p, hd, h => by
    obtain ⟨h1, h2⟩ := List.pairwise_cons.mp hd
    show (if rest q.1 = rest p.1 ∧ cnt q.1 = cnt p.1 then q.2 else 0) + fac rest cnt (rest p.1) (cnt p.1) f = p.2
    rcases List.mem_cons.mp h with e | e
    · subst e
      rw [if_pos ⟨rfl, rfl⟩, fac_not rest cnt _ _ f fun z hz y => h1 z hz ⟨y.1.symm, y.2.symm⟩]
      omega
    · rw [if_neg (h1 p e), fac_own h2 e]
      omega
theorem all_zero {f : List (N × Int)} (m : Nat) (hd : f.Pairwise (fun p q => ¬ (rest p.1 = rest q.1 ∧ cnt p.1 = cnt q.1))) (hc : ∀ p ∈ f, cnt p.1 ≤ m) (hz : ∀ x : Nat, x ≤ m → ∀ r, at' rest cnt r (x : Int) f = 0) : ∀ p ∈ f, p.2 = 0 := by
  intro p hp
  have nd : ((List.range (m + 1)).map fun i => ((i : Nat) : Int)).Nodup := by
    refine List.pairwise_map.mpr ((List.nodup_range (n := m + 1)).imp fun h e => h ?_)
    omega
  have := zero_at ((List.range (m + 1)).map fun i => ((i : Nat) : Int)) (toL (fun k => fac rest cnt (rest p.1) k f) (m + 1)) nd (by rw [toL_len, List.length_map, List.length_range]; exact Nat.le_refl _) (fun x hx => by
    obtain ⟨i, hi, rfl⟩ := List.mem_map.mp hx
    rw [pe_fac rest cnt _ _ _ f fun q hq => Nat.lt_succ_of_le (hc q hq)]
    exact hz i (Nat.le_of_lt_succ (List.mem_range.mp hi)) _) _ (toL_mem (m + 1) _ (cnt p.1) (Nat.lt_succ_of_le (hc p hp)))
  rw [fac_own rest cnt hd hp] at this
  exact this
end
end Py
namespace Pc
open PySem PySem.Spec L2 PyProof.Rows Fm
def replR (f : Form) (x : Str) (v : Int) : Form := f.map fun p => (p.1.filter (fun y => decide (y ≠ x)), p.2 * v ^ p.1.count x)
def replF (f : Form) (x : Str) (v : Int) : Form := gathF lexS (replR f x v)
theorem rest_perm (x : Str) : ∀ l : List Str, l.Perm (l.filter (fun y => decide (y ≠ x)) ++ List.replicate (l.count x) x)
  | [] => List.Perm.refl _
  | y :: r => by
    by_cases h : y = x
    · subst h
      rw [List.filter_cons, if_neg (by simp), List.count_cons_self, List.replicate_succ]
      exact ((rest_perm y r).cons y).trans List.perm_middle.symm
    · rw [List.filter_cons, if_pos (by simp [h]), List.count_cons_of_ne h]
      exact (rest_perm x r).cons y
theorem rest_inj {x : Str} {a b : List Str} (ha : sortS a = a) (hb : sortS b = b) (h1 : a.filter (fun y => decide (y ≠ x)) = b.filter (fun y => decide (y ≠ x))) (h2 : a.count x = b.count x) : a = b := by
  have p : a.Perm b := (rest_perm x a).trans (by rw [h1, h2]; exact (rest_perm x b).symm)
  rw [← ha, ← hb]
  exact sortS_of ((isort_perm a).trans p) (isort_srt (linS.pre id) a)
theorem repl_at (x : Str) (v : Int) (r : List Str) : ∀ f : Form, coef (replR f x v) r = Py.at' (fun l : List Str => l.filter (fun y => decide (y ≠ x))) (fun l => l.count x) r v f
  | [] => rfl
  | p :: f => by
    show (if p.1.filter (fun y => decide (y ≠ x)) = r then p.2 * v ^ p.1.count x else 0) + coef (replR f x v) r = (if p.1.filter (fun y => decide (y ≠ x)) = r then p.2 * v ^ p.1.count x else 0) + Py.at' _ _ r v f
    rw [repl_at x v r f]
theorem gathF_none {rows : Form} (h : gathF lexS rows = []) (n : List Str) : coef rows n = 0 := by
  rw [← (gathF_gath linX rows).co n, h]
  rfl
theorem keep_some {f : Form} {x : Str} {m : Nat} (hf : NF lexS f) (h0 : f ≠ []) (hs : ∀ p ∈ f, sortS p.1 = p.1) (hc : ∀ p ∈ f, p.1.count x ≤ m) : ∃ v : Nat, v ≤ m ∧ replF f x (v : Int) ≠ [] := by
  refine Classical.byContradiction fun hn => ?_
  have hz := Py.all_zero (fun l : List Str => l.filter (fun y => decide (y ≠ x))) (fun l => l.count x) (f := f) m ?_ hc fun v hv r => by
    rw [← repl_at]
    exact gathF_none (Classical.byContradiction fun h => hn ⟨v, hv, h⟩) r
  · cases f with
    | nil => exact h0 rfl
    | cons p r => exact hf.nz p List.mem_cons_self (hz p List.mem_cons_self)
  · exact List.Pairwise.imp_of_mem (fun {p q} hp hq h e => linX.ne h (rest_inj (hs p hp) (hs q hq) e.1 e.2)) hf.ord
theorem mon_rep (ρ : Str → Option Int) {x : Str} {v : Int} (h : ρ x = some v) : ∀ k : Nat, monN ρ (List.replicate k x) = v ^ k
  | 0 => by rw [Int.pow_zero]; rfl
  | k + 1 => by
    rw [List.replicate_succ', monN_app, mon_rep ρ h k, Int.pow_succ]
    show _ * (1 * (ρ x).getD 0) = _
    rw [h, Int.one_mul]
    rfl
theorem ev_repl (ρ : Str → Option Int) {x : Str} {v : Int} (h : ρ x = some v) (f : Form) : evF ρ (replF f x v) = evF ρ f := by
  refine ((gathF_gath linX _).ev).trans ?_
  induction f with
  | nil => rfl
  | cons p r ih =>
    show p.2 * v ^ p.1.count x * monN ρ (p.1.filter (fun y => decide (y ≠ x))) + ev (monN ρ) (replR r x v) = p.2 * monN ρ p.1 + ev (monN ρ) r
    rw [ih, monN_perm ρ (rest_perm x p.1), monN_app, mon_rep ρ h, Int.mul_assoc, Int.mul_comm (v ^ _)]
    rfl
theorem srt_filter {l : List Str} (h : sortS l = l) (q : Str → Bool) : sortS (l.filter q) = l.filter q := by
  refine (sortS_of (List.Perm.refl _) ?_).symm
  have : Srt ltS l := by rw [← h]; exact isort_srt (linS.pre id) l
  exact List.Pairwise.filter q this
structure PartOk (ns : List Str) (m b : Nat) (f : Form) : Prop where
  nf : NF lexS f
  ne : f ≠ []
  len : f.length < 64
  row : ∀ p ∈ f, p.1.length ≤ 16 ∧ p.2.natAbs < 2 ^ b ∧ sortS p.1 = p.1 ∧ (∀ z ∈ p.1, z ∈ ns) ∧ ∀ z, p.1.count z ≤ m
theorem repl_len (f : Form) (x : Str) (v : Int) : (replR f x v).length = f.length := List.length_map _
theorem pow_abs {v : Int} {e : Nat} (h : v.natAbs < 2 ^ e) : ∀ k : Nat, (v ^ k).natAbs ≤ 2 ^ (e * k)
  | 0 => by rw [Int.pow_zero, Nat.mul_zero]; exact Nat.le_refl _
  | k + 1 => by
    rw [Int.pow_succ, Int.natAbs_mul, Nat.mul_succ, Nat.pow_add]
    exact Nat.mul_le_mul (pow_abs h k) (Nat.le_of_lt h)
theorem PartOk.step {x : Str} {ns : List Str} {m b v : Nat} {f : Form} (h : PartOk (x :: ns) m b f) (hm : m ≤ 16) (hv : v ≤ m) (hk : replF f x (v : Int) ≠ []) : PartOk ns m (b + 86) (replF f x (v : Int)) := by
  have hv5 : ((v : Int)).natAbs < 2 ^ 5 := by show v < 32; omega
  have rb : ∀ p ∈ replR f x (v : Int), p.2.natAbs < 2 ^ (b + 80) := fun p hp => by
    obtain ⟨q, hq, rfl⟩ := List.mem_map.mp hp
    obtain ⟨h1, h2, _, _, h5⟩ := h.row q hq
    show (q.2 * (v : Int) ^ q.1.count x).natAbs < _
    rw [Int.natAbs_mul, Nat.pow_add]
    have h3 := pow_abs hv5 (q.1.count x)
    have h4 : 2 ^ (5 * q.1.count x) ≤ 2 ^ 80 := Nat.pow_le_pow_right (by decide) (by have := h5 x; omega)
    exact Nat.lt_of_le_of_lt (Nat.mul_le_mul_left _ (Nat.le_trans h3 h4)) (Nat.mul_lt_mul_of_pos_right h2 (Nat.two_pow_pos 80))
  refine ⟨(gathF_gath linX _).nf, hk, Nat.lt_of_le_of_lt (gathF_len _) (by rw [repl_len]; exact h.len), fun p hp => ?_⟩
  obtain ⟨q', hq', e⟩ := List.mem_map.mp (gathF_mem hp)
  obtain ⟨q, hq, rfl⟩ := List.mem_map.mp hq'
  obtain ⟨h1, h2, h3, h4, h5⟩ := h.row q hq
  have e : q.1.filter (fun y => decide (y ≠ x)) = p.1 := e
  have ab := gathF_abs linX rb (by rw [repl_len]; exact h.len) hp
  rw [← e]
  refine ⟨Nat.le_trans (List.length_filter_le _ _) h1, ab, srt_filter h3 _, fun z hz => ?_, fun z => Nat.le_trans (List.Sublist.count_le _ List.filter_sublist) (h5 z)⟩
  obtain ⟨z1, z2⟩ := List.mem_filter.mp hz
  rcases List.mem_cons.mp (h4 z z1) with k | k
  · exact absurd k (of_decide_eq_true z2)
  · exact k
theorem PartOk.keep {x : Str} {ns : List Str} {m b : Nat} {f : Form} (h : PartOk (x :: ns) m b f) {v : Nat} (hv : v ≤ m) (h1 : v < m → replF f x (v : Int) ≠ []) (h2 : v = m → ∀ u : Nat, u < m → replF f x (u : Int) = []) : replF f x (v : Int) ≠ [] := by
  rcases Nat.lt_or_ge v m with k | k
  · exact h1 k
  · have e : v = m := by omega
    obtain ⟨u, hu, h3⟩ := keep_some (x := x) h.nf h.ne (fun p hp => (h.row p hp).2.2.1) fun p hp => (h.row p hp).2.2.2.2 x
    rcases Nat.lt_or_ge u m with q | q
    · exact absurd (h2 e u q) h3
    · rw [e, show m = u by omega]
      exact h3
theorem PartOk.fin {m b : Nat} {f : Form} (h : PartOk [] m b f) (ρ : Str → Option Int) : evF ρ f ≠ 0 := by
  have hn : ∀ p ∈ f, p.1 = [] := fun p hp => List.eq_nil_iff_forall_not_mem.mpr fun z hz => nomatch (h.row p hp).2.2.2.1 z hz
  match f, h, hn with
  | [], h, _ => exact absurd rfl h.ne
  | [p], h, hn =>
    show p.2 * monN ρ p.1 + 0 ≠ 0
    rw [hn p List.mem_cons_self]
    show p.2 * 1 + 0 ≠ 0
    have := h.nf.nz p List.mem_cons_self
    omega
  | p :: q :: r, h, hn =>
    have := (List.pairwise_cons.mp h.nf.ord).1 q List.mem_cons_self
    rw [hn p List.mem_cons_self, hn q (List.mem_cons_of_mem _ List.mem_cons_self), linX.irr] at this
    cases this
theorem minus_none {f g : Form} (hf : NF lexS f) (hg : NF lexS g) : minusF f g = [] ↔ f = g := by
  constructor
  · intro h
    refine NF.unique linX hf hg fun n => ?_
    have := gathF_none h n
    rw [coef_app, negF, coef_neg] at this
    omega
  · intro h
    subst h
    refine (gathF_gath linX _).none linX fun n => ?_
    rw [coef_app, negF, coef_neg]
    omega
def mostR (m : Nat) (l : List Str) : Nat := (l.map fun z => l.count z).foldl max m
def mostF (f : Form) : Nat := f.foldl (fun m p => mostR m p.1) 0
theorem foldl_max_ge : ∀ (l : List Nat) (m : Nat), m ≤ l.foldl max m ∧ ∀ k ∈ l, k ≤ l.foldl max m
  | [], m => ⟨Nat.le_refl _, fun _ h => nomatch h⟩
  | a :: r, m => by
    obtain ⟨h1, h2⟩ := foldl_max_ge r (max m a)
    refine ⟨Nat.le_trans (Nat.le_max_left m a) h1, fun k hk => ?_⟩
    rcases List.mem_cons.mp hk with e | e
    · rw [e]; exact Nat.le_trans (Nat.le_max_right m a) h1
    · exact h2 k e
theorem foldl_max_le {n : Nat} : ∀ (l : List Nat) (m : Nat), m ≤ n → (∀ k ∈ l, k ≤ n) → l.foldl max m ≤ n
  | [], m, h, _ => h
  | a :: r, m, h, hk => foldl_max_le r (max m a) (Nat.max_le.mpr ⟨h, hk a List.mem_cons_self⟩) fun k q => hk k (List.mem_cons_of_mem _ q)
theorem mostF_ge : ∀ (f : Form) (m : Nat), m ≤ f.foldl (fun m p => mostR m p.1) m ∧ ∀ p ∈ f, ∀ z ∈ p.1, p.1.count z ≤ f.foldl (fun m p => mostR m p.1) m
  | [], m => ⟨Nat.le_refl _, fun _ h => nomatch h⟩
  | a :: r, m => by
    obtain ⟨h1, h2⟩ := mostF_ge r (mostR m a.1)
    obtain ⟨g1, g2⟩ := foldl_max_ge (a.1.map fun z => a.1.count z) m
    refine ⟨Nat.le_trans g1 h1, fun p hp => ?_⟩
    rcases List.mem_cons.mp hp with e | e
    · rw [e]; exact fun z hz => Nat.le_trans (g2 _ (List.mem_map.mpr ⟨z, hz, rfl⟩)) h1
    · exact h2 p e
theorem mostF_le {n : Nat} : ∀ (f : Form) (m : Nat), m ≤ n → (∀ p ∈ f, p.1.length ≤ n) → f.foldl (fun m p => mostR m p.1) m ≤ n
  | [], m, h, _ => h
  | a :: r, m, h, hk => mostF_le r (mostR m a.1) (foldl_max_le _ _ h fun k q => by
      obtain ⟨z, _, rfl⟩ := List.mem_map.mp q
      exact Nat.le_trans List.count_le_length (hk a List.mem_cons_self)) fun p q => hk p (List.mem_cons_of_mem _ q)
structure FSm (S : Str → Prop) (b : Nat) (f : Form) : Prop where
  nf : NF lexS f
  row : ∀ p ∈ f, p.1.length ≤ 16 ∧ p.2.natAbs < 2 ^ b ∧ sortS p.1 = p.1 ∧ ∀ z ∈ p.1, S z
theorem PartOk.start {S : Str → Prop} {b : Nat} {f g : Form} {ns : List Str} (hf : FSm S b f) (hg : FSm S b g) (hl : f.length + g.length < 64) (hn : ∀ z, (∃ p ∈ f ++ g, z ∈ p.1) → z ∈ ns) (h : f ≠ g) : PartOk ns (mostF (f ++ g)) (b + 6) (minusF f g) := by
  have ll : (f ++ negF g).length < 64 := by rw [List.length_append, negF, List.length_map]; exact hl
  have rb : ∀ p ∈ f ++ negF g, p.2.natAbs < 2 ^ b := fun p hp => by
    rcases List.mem_append.mp hp with k | k
    · exact (hf.row p k).2.1
    · obtain ⟨q, hq, rfl⟩ := List.mem_map.mp k
      show (-q.2).natAbs < _
      rw [Int.natAbs_neg]
      exact (hg.row q hq).2.1
  refine ⟨(gathF_gath linX _).nf, fun e => h ((minus_none hf.nf hg.nf).mp e), Nat.lt_of_le_of_lt (gathF_len _) ll, fun p hp => ?_⟩
  have ab := gathF_abs linX rb ll hp
  obtain ⟨q, hq, e⟩ := List.mem_map.mp (gathF_mem hp)
  have : ∃ q ∈ f ++ g, q.1 = p.1 ∧ q.1.length ≤ 16 ∧ sortS q.1 = q.1 := by
    rcases List.mem_append.mp hq with k | k
    · exact ⟨q, List.mem_append_left _ k, e, (hf.row q k).1, (hf.row q k).2.2.1⟩
    · obtain ⟨q', hq', rfl⟩ := List.mem_map.mp k
      exact ⟨q', List.mem_append_right _ hq', e, (hg.row q' hq').1, (hg.row q' hq').2.2.1⟩
  obtain ⟨q, hq, e, q1, q2⟩ := this
  rw [← e]
  refine ⟨q1, ab, q2, fun z hz => hn z ⟨q, hq, hz⟩, fun z => ?_⟩
  by_cases hz : z ∈ q.1
  · exact (mostF_ge (f ++ g) 0).2 q hq z hz
  · rw [List.count_eq_zero.mpr hz]
    exact Nat.zero_le _
end Pc
namespace Pc
open PySem PySem.Spec L2 PyProof.Rows Fm
def wS (zs : List Str) : V → Prop
  | .int n => n.natAbs ≤ 100
  | .str z => 0 < arS z ∨ z ∈ zs
  | _ => False
theorem wS.wordF {zs : List Str} {v : V} (h : wS zs v) : Pc.wordF (fun z => z ∈ zs) v := by
  cases v with
  | int n => exact Nat.lt_of_le_of_lt h (by decide +kernel)
  | str z => exact h
  | _ => exact h.elim
theorem wS.isW {zs : List Str} {v : V} (h : wS zs v) : Pc.isW v := h.wordF.isW
structure TS (zs : List Str) (m : Nat) (ws : List V) : Prop where
  word : ∀ v ∈ ws, wS zs v
  one : isTerm ws
  len : ws.length ≤ m
theorem TS.isW {zs : List Str} {m : Nat} {ws : List V} (h : TS zs m ws) : ∀ v ∈ ws, Pc.isW v := fun v hv => (h.word v hv).isW
theorem TS.up {zs : List Str} {m m' : Nat} {ws : List V} (h : TS zs m ws) (l : m ≤ m') : TS zs m' ws := ⟨h.word, h.one, Nat.le_trans h.len l⟩
theorem TS.pos {zs : List Str} {m : Nat} {ws : List V} (h : TS zs m ws) : 0 < ws.length := by
  have := h.one
  cases ws with
  | nil => cases this
  | cons v r => exact Nat.succ_pos _
theorem pend_plus : ∀ (r : List Nat) (l m k : Nat), pend l r = some m → pend (l + k) r = some (m + k)
  | [], l, m, k, h => by
    have : l = m := Option.some.inj h
    rw [this]; rfl
  | a :: r, 0, m, k, h => by cases h
  | a :: r, l + 1, m, k, h => by
    have h' : pend (l + a) r = some m := h
    have := pend_plus r (l + a) m k h'
    rw [show l + 1 + k = (l + k) + 1 by omega]
    show pend (l + k + a) r = _
    rw [show l + k + a = l + a + k by omega]
    exact this
theorem TS.two {zs : List Str} {m n : Nat} {z : Str} {a b : List V} (hz : arS z = 2) (ha : TS zs m a) (hb : TS zs n b) : TS zs (m + n + 1) ([.str z] ++ a ++ b) := by
  refine ⟨fun v hv => ?_, ?_, ?_⟩
  · rcases List.mem_append.mp hv with k | k
    · rcases List.mem_append.mp k with k | k
      · rw [List.mem_singleton.mp k]
        exact .inl (by omega)
      · exact ha.word v k
    · exact hb.word v k
  · show pend 1 (([V.str z] ++ a ++ b).map arV) = some 0
    rw [List.append_assoc]
    show pend (0 + arS z) ((a ++ b).map arV) = some 0
    rw [hz, List.map_append, pend_app, pend_plus _ 1 0 1 ha.one]
    exact hb.one
  · have := ha.len
    have := hb.len
    rw [List.length_append, List.length_append]
    show 1 + _ + _ ≤ _
    omega
theorem TS.neg {zs : List Str} {m : Nat} {a : List V} (ha : TS zs m a) : TS zs (m + 1) ([.str "neg"] ++ a) := by
  refine ⟨fun v hv => ?_, ?_, ?_⟩
  · rcases List.mem_append.mp hv with k | k
    · rw [List.mem_singleton.mp k]
      exact .inl (by rw [ar_neg]; decide)
    · exact ha.word v k
  · show pend (0 + arS "neg") (a.map arV) = some 0
    rw [ar_neg]
    exact ha.one
  · have := ha.len
    rw [List.length_append]
    show 1 + _ ≤ _
    omega
theorem TS.num {zs : List Str} {n : Int} (h : n.natAbs ≤ 100) : TS zs 1 [.int n] := ⟨fun v hv => by rw [List.mem_singleton.mp hv]; exact h, rfl, Nat.le_refl _⟩
theorem TS.name {zs : List Str} {z : Str} (h : z ∈ zs) (h0 : arS z = 0) : TS zs 1 [.str z] := ⟨fun v hv => by rw [List.mem_singleton.mp hv]; exact .inr h, by show pend (0 + arS z) [] = some 0; rw [h0]; rfl, Nat.le_refl _⟩
theorem worth_two {ρ : Str → Option Int} {zs : List Str} {m n : Nat} {z : Str} {a b : List V} (hz : arS z = 2) (ha : TS zs m a) (hb : TS zs n b) : worthN ρ ([.str z] ++ a ++ b) = opN z (worthN ρ a) (worthN ρ b) := by
  have e : runW ρ (a ++ b) = [worthN ρ a, worthN ρ b] := by
    rw [runW_app ha.isW ha.one, runW_one ha.isW ha.one, runW_one hb.isW hb.one]
    rfl
  have ev : valW ρ (.str z) = .str z := if_pos (by omega)
  show (runW ρ ([.str z] ++ a ++ b)).getD 0 0 = _
  rw [List.append_assoc]
  show (stepN (valW ρ (.str z)) (runW ρ (a ++ b))).getD 0 0 = _
  rw [e, ev]
  rfl
theorem worth_neg {ρ : Str → Option Int} {zs : List Str} {m : Nat} {a : List V} (ha : TS zs m a) : worthN ρ ([.str "neg"] ++ a) = -worthN ρ a := by
  have ev : valW ρ (.str "neg") = .str "neg" := by
    show (if 0 < arS "neg" then V.str "neg" else V.int ((ρ "neg").getD 0)) = _
    rw [if_pos (by rw [ar_neg]; decide)]
  show (stepN (valW ρ (.str "neg")) (runW ρ a)).getD 0 0 = _
  rw [runW_one ha.isW ha.one, ev]
  show opN "neg" (worthN ρ a) 0 = _
  unfold opN
  rw [if_neg (by decide +kernel), if_neg (by decide +kernel), if_neg (by decide +kernel)]
theorem op_add (a b : Int) : opN "add" a b = a + b := if_pos rfl
theorem op_sub (a b : Int) : opN "sub" a b = a - b := by unfold opN; rw [if_neg (by decide +kernel), if_pos rfl]
theorem op_mul (a b : Int) : opN "mul" a b = a * b := by unfold opN; rw [if_neg (by decide +kernel), if_neg (by decide +kernel), if_pos rfl]
theorem arAdd : arS "add" = 2 := by decide +kernel
theorem arSub : arS "sub" = 2 := by decide +kernel
theorem arMul : arS "mul" = 2 := by decide +kernel
theorem TS.parts {zs : List Str} {m : Nat} {us : List V} (h : TS zs m us) {z : Str} (h0 : us[0]? = some (.str z)) (hz : arS z = 2) :
    ∃ n, eat 1 ((us.drop 1).map arV) = some n ∧ 1 + n ≤ us.length ∧ TS zs n ((us.drop 1).take n) ∧ TS zs (us.length - 1 - n) (us.drop (1 + n)) ∧ us = [.str z] ++ (us.drop 1).take n ++ us.drop (1 + n) := by
  obtain ⟨v, r, rfl⟩ : ∃ v r, us = v :: r := by
    cases us with
    | nil => cases h0
    | cons v r => exact ⟨v, r, rfl⟩
  cases h0
  have h1 : pend (0 + arS z) (r.map arV) = some 0 := h.one
  rw [hz] at h1
  obtain ⟨n, h2, h3⟩ := pend_split _ 1 1 h1
  have hn := eat_le _ _ _ h2
  rw [List.length_map] at hn
  rw [← List.map_drop] at h3
  have ed : (V.str z :: r).drop (1 + n) = r.drop n := by rw [Nat.add_comm]; rfl
  refine ⟨n, h2, by rw [List.length_cons]; omega, ⟨fun v hv => h.word v (List.mem_cons_of_mem _ (List.mem_of_mem_take hv)), ?_, by rw [List.length_take]; omega⟩, ⟨fun v hv => h.word v (List.mem_of_mem_drop hv), by rw [ed]; exact h3, by rw [List.length_drop]; omega⟩, ?_⟩
  · have := eat_take _ _ _ h2
    rw [← List.map_take] at this
    exact this
  · rw [ed]
    show _ = V.str z :: (r.take n ++ r.drop n)
    rw [List.take_append_drop]
theorem ev_agree {ρ ρ' : Str → Option Int} : ∀ {f : Form}, (∀ p ∈ f, ∀ z ∈ p.1, ρ z = ρ' z) → evF ρ f = evF ρ' f
  | [], _ => rfl
  | p :: r, h => by
    show p.2 * monN ρ p.1 + evF ρ r = p.2 * monN ρ' p.1 + evF ρ' r
    rw [ev_agree (f := r) fun q hq => h q (List.mem_cons_of_mem _ hq)]
    congr 2
    unfold monN
    congr 1
    exact List.map_congr_left fun z hz => by rw [h p List.mem_cons_self z hz]
theorem repl_free {f : Form} {x : Str} {v : Int} {p : List Str × Int} (hp : p ∈ replF f x v) : x ∉ p.1 := fun hx => by
  obtain ⟨q, hq, e⟩ := List.mem_map.mp (gathF_mem hp)
  obtain ⟨q', _, rfl⟩ := List.mem_map.mp hq
  have e : q'.1.filter (fun y => decide (y ≠ x)) = p.1 := e
  rw [← e] at hx
  exact of_decide_eq_true (List.mem_filter.mp hx).2 rfl
theorem PartOk.some : ∀ {ns : List Str} {m b : Nat} {f : Form}, m ≤ 16 → PartOk ns m b f → ∃ ρ, evF ρ f ≠ 0
  | [], m, b, f, _, h => ⟨fun _ => none, h.fin _⟩
  | x :: ns, m, b, f, hm, h => by
    obtain ⟨v, hv, hk⟩ := keep_some (x := x) h.nf h.ne (fun p hp => (h.row p hp).2.2.1) fun p hp => (h.row p hp).2.2.2.2 x
    obtain ⟨ρ, hρ⟩ := PartOk.some hm (h.step hm hv hk)
    refine ⟨fun z => if z = x then Option.some (v : Int) else ρ z, ?_⟩
    rw [← ev_repl _ (show (fun z => if z = x then Option.some (v : Int) else ρ z) x = Option.some (v : Int) from if_pos rfl) f]
    rw [ev_agree (ρ' := ρ) fun p hp z hz => if_neg fun e => repl_free hp (e ▸ hz)]
    exact hρ
theorem form_same {S : Str → Prop} {b : Nat} {f g : Form} (hf : FSm S b f) (hg : FSm S b g) (hl : f.length + g.length < 64) (h : ∀ ρ, evF ρ f = evF ρ g) : f = g := by
  refine Classical.byContradiction fun hne => ?_
  have hm : mostF (f ++ g) ≤ 16 := mostF_le _ 0 (Nat.zero_le _) fun p hp => by
    rcases List.mem_append.mp hp with k | k
    · exact (hf.row p k).1
    · exact (hg.row p k).1
  obtain ⟨ρ, hρ⟩ := PartOk.some hm (PartOk.start hf hg hl (ns := (f ++ g).flatMap (·.1)) (fun z ⟨p, hp, hz⟩ => List.mem_flatMap.mpr ⟨p, hp, hz⟩) hne)
  rw [ev_minus, h ρ] at hρ
  omega
def Keeps (zs : List Str) (us us' : List V) : Prop := TS zs 60 us' ∧ ∀ ρ, worthN ρ us' = worthN ρ us
section
variable {zs : List Str} {m n k : Nat} {a b c us s : List V}
theorem Keeps.self (h : TS zs 12 us) : Keeps zs us us := ⟨h.up (by decide), fun _ => rfl⟩
theorem keeps0 {z : Str} (hz : z = "add" ∨ z = "mul") (ha : TS zs m a) (hb : TS zs n b) (hl : m + n ≤ 20) : Keeps zs ([.str z] ++ a ++ b) ([.str z] ++ b ++ a) := by
  have az : arS z = 2 := by rcases hz with rfl | rfl <;> decide +kernel
  refine ⟨(TS.two az hb ha).up (by omega), fun ρ => ?_⟩
  rw [worth_two az hb ha, worth_two az ha hb]
  rcases hz with rfl | rfl
  · rw [op_add, op_add, Int.add_comm]
  · rw [op_mul, op_mul, Int.mul_comm]
theorem keeps1 (ha : TS zs m a) (hb : TS zs n b) (hl : m + n ≤ 20) : Keeps zs ([.str "sub"] ++ a ++ b) ([.str "add"] ++ a ++ [.str "neg"] ++ b) := by
  rw [show [V.str "add"] ++ a ++ [V.str "neg"] ++ b = [V.str "add"] ++ a ++ ([V.str "neg"] ++ b) from List.append_assoc _ _ _]
  refine ⟨(TS.two arAdd ha hb.neg).up (by omega), fun ρ => ?_⟩
  rw [worth_two arAdd ha hb.neg, worth_two arSub ha hb, worth_neg hb, op_add, op_sub]
  omega
theorem keeps3 (ha : TS zs m a) (hb : TS zs n b) (hl : m + n ≤ 20) : Keeps zs ([.str "add"] ++ a ++ b) ([.str "sub"] ++ a ++ [.str "neg"] ++ b) := by
  rw [show [V.str "sub"] ++ a ++ [V.str "neg"] ++ b = [V.str "sub"] ++ a ++ ([V.str "neg"] ++ b) from List.append_assoc _ _ _]
  refine ⟨(TS.two arSub ha hb.neg).up (by omega), fun ρ => ?_⟩
  rw [worth_two arSub ha hb.neg, worth_two arAdd ha hb, worth_neg hb, op_add, op_sub]
  omega
theorem keeps2 (ha : TS zs m a) (hb : TS zs n b) (hc : TS zs k c) (hl : m + n + k ≤ 20) : Keeps zs ([.str "mul"] ++ a ++ ([.str "add"] ++ b ++ c)) ([.str "add", .str "mul"] ++ a ++ b ++ [.str "mul"] ++ a ++ c) := by
  have e : [V.str "add", V.str "mul"] ++ a ++ b ++ [V.str "mul"] ++ a ++ c = [V.str "add"] ++ ([V.str "mul"] ++ a ++ b) ++ ([V.str "mul"] ++ a ++ c) := by simp only [List.append_assoc, List.cons_append, List.nil_append]
  rw [e]
  have h1 := TS.two arMul ha hb
  have h2 := TS.two arMul ha hc
  have h3 := TS.two arAdd hb hc
  refine ⟨(TS.two arAdd h1 h2).up (by omega), fun ρ => ?_⟩
  rw [worth_two arAdd h1 h2, worth_two arMul ha hb, worth_two arMul ha hc, worth_two arMul ha h3, worth_two arAdd hb hc, op_add, op_add, op_mul, op_mul, op_mul, Int.mul_add]
theorem keeps4 (h : TS zs 12 us) : Keeps zs us ([.str "neg", .str "neg"] ++ us) := by
  have e : [V.str "neg", V.str "neg"] ++ us = [V.str "neg"] ++ ([V.str "neg"] ++ us) := rfl
  rw [e]
  refine ⟨h.neg.neg.up (by omega), fun ρ => ?_⟩
  rw [worth_neg h.neg, worth_neg h]
  omega
theorem worth_num (ρ : Str → Option Int) (i : Int) : worthN ρ [.int i] = i := rfl
theorem keeps5a (h : TS zs 12 us) : Keeps zs us ([.str "add", .int 0] ++ us) := by
  have n0 : TS zs 1 [.int 0] := TS.num (by decide)
  have e : [V.str "add", V.int 0] ++ us = [V.str "add"] ++ [V.int 0] ++ us := rfl
  rw [e]
  refine ⟨(TS.two arAdd n0 h).up (by omega), fun ρ => ?_⟩
  rw [worth_two arAdd n0 h, op_add, worth_num]
  omega
theorem keeps5b (h : TS zs 12 us) : Keeps zs us ([.str "mul", .int 1] ++ us) := by
  have n0 : TS zs 1 [.int 1] := TS.num (by decide)
  have e : [V.str "mul", V.int 1] ++ us = [V.str "mul"] ++ [V.int 1] ++ us := rfl
  rw [e]
  refine ⟨(TS.two arMul n0 h).up (by omega), fun ρ => ?_⟩
  rw [worth_two arMul n0 h, op_mul, worth_num]
  omega
theorem keeps5c (h : TS zs 12 us) : Keeps zs us ([.str "sub"] ++ us ++ [.int 0]) := by
  have n0 : TS zs 1 [.int 0] := TS.num (by decide)
  refine ⟨(TS.two arSub h n0).up (by omega), fun ρ => ?_⟩
  rw [worth_two arSub h n0, op_sub, worth_num]
  omega
theorem keeps6 (h : TS zs 12 us) (hs : TS zs 2 s) : Keeps zs us ([.str "sub", .str "add"] ++ us ++ s ++ s) := by
  have e : [V.str "sub", V.str "add"] ++ us ++ s ++ s = [V.str "sub"] ++ ([V.str "add"] ++ us ++ s) ++ s := rfl
  rw [e]
  have h1 := TS.two arAdd h hs
  refine ⟨(TS.two arSub h1 hs).up (by omega), fun ρ => ?_⟩
  rw [worth_two arSub h1 hs, worth_two arAdd h hs, op_sub, op_add]
  omega
theorem Keeps.put {ws us' : List V} {p n : Nat} (h : TS zs 12 ws) (hp : p < ws.length) (hn : eat 1 ((ws.drop p).map arV) = some n) (hk : Keeps zs ((ws.drop p).take n) us') (hl : (ws.take p ++ us' ++ ws.drop (p + n)).length ≤ 12) :
    TS zs 12 (ws.take p ++ us' ++ ws.drop (p + n)) ∧ ∀ ρ, worthN ρ (ws.take p ++ us' ++ ws.drop (p + n)) = worthN ρ ws := by
  obtain ⟨h1, h2⟩ := hk
  refine ⟨⟨fun v hv => ?_, put_term h.one hp hn h1.one, hl⟩, fun ρ => ?_⟩
  · rcases List.mem_append.mp hv with k | k
    · rcases List.mem_append.mp k with k | k
      · exact h.word v (List.mem_of_mem_take k)
      · exact h1.word v k
    · exact h.word v (List.mem_of_mem_drop k)
  · rw [worth_put h1.isW h1.one, h2 ρ, ← worth_put (fun v hv => h.isW v (List.mem_of_mem_drop (List.mem_of_mem_take hv))) (part_term hn)]
    congr 1
    have e : ws.drop (p + n) = (ws.drop p).drop n := by rw [List.drop_drop]
    rw [e, List.append_assoc, List.take_append_drop, List.take_append_drop]
end
end Pc
namespace L2.Itm
open PySem PySem.Spec PyProof.Rows
section
variable {prog : Program} {w : World} {A : Around} {E : Value → Shared → Prop} {s : Shared} {d : Addr} {es : Array DictEntry} {ep : Nat} {o : Obj}
end
end L2.Itm
namespace L2
open PySem PySem.Spec PyProof.Rows Itm
section
variable {X : Cx} {tg : Expr}
end
end L2
namespace L2
open PySem PySem.Spec PyProof.Rows
end L2
namespace L2.Rv
open PySem PySem.Spec PyProof.Rows
def At (h : Heap) (it t : Addr) (i : Int) : Prop := ∃ o, h.get? it = some o ∧ o.cls = .type "reversed" ∧ o.data = .fields #[.ref t, rawInt i]
section
variable {prog : Program} {w : World} {A : Around} {E : Value → Shared → Prop} {s : Shared}
end
end L2.Rv
namespace L2
open PySem PySem.Spec PyProof.Rows
section
variable {X : Cx} {tg : Expr}
end
end L2
namespace L2
open PySem PySem.Spec PyProof.Rows PySem.SeqAt
def rCountT : V → List V → Hp → VK → Prop := fun x xs H Q => ∃ (a : Addr) (n : List Str) (z : Str), x = .ref a ∧ xs = [.str z] ∧ H a = some (.tup (n.map V.str)) ∧ Q (.int ((n.count z : Nat) : Int)) H
def isS (z : Str) : Value → Bool
  | .str w _ => decide (w = z)
  | _ => false
theorem count_vals {z : Str} : ∀ {n : List Str} {its : List Value}, Vals (n.map V.str) its → its.countP (isS z) = n.count z
  | [], _, r => by cases r; rfl
  | w :: n, _, r => by
    rw [List.map_cons] at r
    cases r with
    | @cons _ u _ us h t =>
      obtain ⟨k, rfl⟩ := h
      rw [List.countP_cons, List.count_cons, count_vals t]
      congr 1
theorem vals_str {n : List Str} {its : List Value} (r : Vals (n.map V.str) its) {y : Value} (hy : y ∈ its) : ∃ w t, y = .str w t := by
  induction n generalizing its with
  | nil => cases r; cases hy
  | cons w n ih =>
    rw [List.map_cons] at r
    cases r with
    | @cons _ u _ us h t =>
      rcases List.mem_cons.mp hy with e | e
      · obtain ⟨k, rfl⟩ := h
        exact ⟨w, k, e⟩
      · exact ih t e
section
variable {X : Cx}
theorem mt_countT : MtR X "tuple.count" rCountT := by
  intro pins s σ H x xs v us Q I rx rv h
  obtain ⟨a, n, z, rfl, rfl, ha, q⟩ := h
  cases (show v = Value.ref a from rx)
  obtain ⟨u, rfl, ru⟩ := rv.one
  obtain ⟨t', rfl⟩ := ru
  obtain ⟨_, its, r, p⟩ := (tup_rd I.hok ha)
  obtain ⟨⟨c, dct, dt, sl⟩, ho, hc, n', hd⟩ := p
  replace hc : c = .type "tuple" := hc
  replace hd : dt = .seq its.toArray n' := hd
  subst hc hd
  refine call_meets PySem.F.slot_tuple_count ⟨_, ho, rfl⟩ PySem.F.entry_tuple_count (PySem.F.args_tuple_count_2 _ _) (tuple_countAt a its.toArray n' dct sl (.str z t') (isS z)) ⟨ho, fun y hy => ?_, ?_⟩
  · obtain ⟨w, t, rfl⟩ := vals_str r (by simpa using hy)
    have := EqAt.str_str (A := X.A.in1) (s := s) w t z t'
    exact this
  · refine ⟨.int ((n.count z : Nat) : Int), H, I.tok _, ?_, q⟩
    rw [List.toList_toArray, count_vals r]
    exact ⟨_, rfl⟩
end
end L2
namespace L2.Zd
open PySem
abbrev IsZ (h : Heap) (z TI TO : Addr) (f0 f1 : Value) : Prop :=
  h.get? z = some { cls := .type "zip", dict := none, data := .fields #[f0, f1, .bool false, .ref TI, .ref TO], slots := #[] }
section
variable {prog : Program} {w : World} {A : Around} {E : Value → Shared → Prop} {s : Shared}
theorem alive {M : Model} {a : Addr} {Q : Option Obj → Shared → Prop} (h : Q (s.heap.get? a) s) : wpAny M A (loadIfAlive a) Q E s := fun Γ p hΓ => by
  unfold loadIfAlive
  rw [Sem.wp_loadIfAlive]
  exact wpAny_pure h Γ p hΓ
theorem not_free {z TI TO T : Addr} {b : Bool} {o : Obj} {Q : Bool → Shared → Prop} (hz : IsZ s.heap z TI TO (rawInt T) (.bool b)) (ho : s.heap.get? T = some o)
    (q : ∀ h', IsZ h' z TI TO (rawInt T) (.bool true) → Heap.SameBut z s.heap h' → Q false { s with heap := h' }) : wpAny (model prog w) A (Builtin.SmallTypes.ownedTupleIsFree (.ref z)) Q E s := by
  unfold Builtin.SmallTypes.ownedTupleIsFree
  refine wpAny_bind (wpAny_field hz rfl (x := rawInt T) rfl ?_)
  show wpAny _ _ (loadIfAlive T >>= _) _ _ _
  refine wpAny_bind (alive ?_)
  rw [ho]
  show wpAny _ _ (field (.ref z) 1 >>= _) _ _ _
  refine wpAny_bind (wpAny_field hz rfl (x := .bool b) rfl ?_)
  cases b with
  | true => exact wpAny_pure (q s.heap hz (Heap.SameBut.refl _ _))
  | false => exact wpAny_bind (wpAny_setField_rec hz (by simp) fun h' hz' hs' => wpAny_pure (q h' hz' hs'))
theorem next_item {z TI TO i1 i2 l1 l2 T : Addr} {k1 k2 : Nat} {xs ys : Array Value} {x y : Value} {f : Bool} {o : Obj} {Q : Value → Shared → Prop} (D : ZipApart z TI TO i1 i2 l1 l2)
    (hz : IsZ s.heap z TI TO (rawInt T) (.bool f)) (ho : s.heap.get? T = some o) (hTI : IsPair s.heap TI (.ref i1) (.ref i2))
    (h1 : s.heap.IsListIter i1 l1 k1) (h2 : s.heap.IsListIter i2 l2 k2) (hl1 : s.heap.IsList l1 xs) (hl2 : s.heap.IsList l2 ys) (hx : xs[k1]? = some x) (hy : ys[k2]? = some y)
    (hQ : ∀ h', IsZ h' z TI TO (rawInt T) (.bool true) → h'.IsListIter i1 l1 (k1 + 1) → h'.IsListIter i2 l2 (k2 + 1) → IsPair h' s.heap.objs.size x y → h'.objs.size = s.heap.objs.size + 1 →
      (∀ c o, c ≠ z → c ≠ i1 → c ≠ i2 → s.heap.get? c = some o → h'.get? c = some o) → Q (.ref s.heap.objs.size) { s with heap := h' }) :
    wpAny (model prog w) A (Builtin.«zip.__next__» ⟨[.ref z], []⟩) (fun fin s' => ∃ v, fin = .done (.ret v) ∧ Q v s') E s := by
  show wpAny _ _ (field (.ref z) 2 >>= _) _ _ _
  refine wpAny_bind (wpAny_field hz rfl (x := .bool false) rfl ?_)
  show wpAny _ _ (field (.ref z) 3 >>= _) _ _ _
  refine wpAny_bind (wpAny_field hz rfl (x := .ref TI) rfl ?_)
  refine wpAny_bind (wpAny_seqItems hTI rfl ?_)
  show wpAny _ _ (Builtin.SmallTypes.ownedTupleIsFree (.ref z) >>= _) _ _ _
  refine wpAny_bind (not_free hz ho fun h₁ hz₁ hs₁ => ?_)
  simp only [Bool.false_eq_true, if_false]
  refine wpAny_bind ?_
  rw [← Array.forIn_toList]
  simp only [List.forIn_cons, List.forIn_nil]
  refine wpAny_bind (wpAny_bind (wpAny_holding ?_))
  show wpAny _ _ (Builtin.SmallTypes.nextOf (.ref i1) >>= _) _ _ _
  refine wpAny_bind (wpAny_nextOf_list_item (h1.extBut hs₁.extBut D.i1z) (hl1.extBut hs₁.extBut D.l1z) hx fun h₂ h1₂ hs₂ => wpAny_pure ?_)
  refine wpAny_pure ?_
  refine wpAny_bind (wpAny_bind (wpAny_holding ?_))
  show wpAny _ _ (Builtin.SmallTypes.nextOf (.ref i2) >>= _) _ _ _
  refine wpAny_bind (wpAny_nextOf_list_item ((h2.extBut hs₁.extBut D.i2z).extBut hs₂.extBut D.i12.symm) ((hl2.extBut hs₁.extBut D.l2z).extBut hs₂.extBut D.l2i1) hy fun h₄ h2₄ hs₄ => wpAny_pure ?_)
  refine wpAny_pure (wpAny_pure ?_)
  refine wpAny_bind (wpAny_newTuple (hsz := by show (2 : Nat) ≤ sizeLine; decide) ?_)
  have hsz : h₄.objs.size = s.heap.objs.size := by rw [hs₄.1, hs₂.1, hs₁.1]
  have up : ∀ c o, c ≠ z → c ≠ i1 → c ≠ i2 → s.heap.get? c = some o → h₄.get? c = some o := fun c o c1 c3 c4 e => hs₄.extBut _ _ c4 (hs₂.extBut _ _ c3 (hs₁.extBut _ _ c1 e))
  refine wpAny_pure ⟨_, rfl, ?_⟩
  rw [hsz]
  have n1 : IsPair (h₄.push { cls := .type "tuple", data := .seq #[x, y] }) s.heap.objs.size x y := by
    rw [← hsz]
    exact Heap.get?_push_size _ rfl
  exact hQ _ (Heap.get?_push_of_some _ (hs₄.extBut _ _ D.i2z.symm (hs₂.extBut _ _ D.i1z.symm hz₁))) ((h1₂.extBut hs₄.extBut D.i12).at fun o e => Heap.get?_push_of_some _ e) (h2₄.at fun o e => Heap.get?_push_of_some _ e) n1 (by rw [Heap.size_push, hsz]) fun c o c1 c3 c4 e => Heap.get?_push_of_some _ (up c o c1 c3 c4 e)
theorem next_end {z TI TO i1 i2 l1 l2 T : Addr} {k1 : Nat} {xs : Array Value} {f : Bool} {o : Obj} {Q : Fin → Shared → Prop} (hh : A.handled = none) (D : ZipApart z TI TO i1 i2 l1 l2)
    (hz : IsZ s.heap z TI TO (rawInt T) (.bool f)) (ho : s.heap.get? T = some o) (hTI : IsPair s.heap TI (.ref i1) (.ref i2))
    (h1 : s.heap.IsListIter i1 l1 k1) (hl1 : s.heap.IsList l1 xs) (hend : xs[k1]? = none)
    (hE : ∀ h' e, (∀ c o, c ≠ z → c ≠ i1 → s.heap.get? c = some o → h'.get? c = some o) → (∃ o, h'.get? e = some o ∧ o.cls = .type "StopIteration") → E (.ref e) { s with heap := h' }) :
    wpAny (model prog w) A (Builtin.«zip.__next__» ⟨[.ref z], []⟩) Q E s := by
  show wpAny _ _ (field (.ref z) 2 >>= _) _ _ _
  refine wpAny_bind (wpAny_field hz rfl (x := .bool false) rfl ?_)
  show wpAny _ _ (field (.ref z) 3 >>= _) _ _ _
  refine wpAny_bind (wpAny_field hz rfl (x := .ref TI) rfl ?_)
  refine wpAny_bind (wpAny_seqItems hTI rfl ?_)
  show wpAny _ _ (Builtin.SmallTypes.ownedTupleIsFree (.ref z) >>= _) _ _ _
  refine wpAny_bind (not_free hz ho fun h₁ hz₁ hs₁ => ?_)
  simp only [Bool.false_eq_true, if_false]
  refine wpAny_bind ?_
  rw [← Array.forIn_toList]
  simp only [List.forIn_cons, List.forIn_nil]
  refine wpAny_bind (wpAny_bind (wpAny_holding ?_))
  show wpAny _ _ (Builtin.SmallTypes.nextOf (.ref i1) >>= _) _ _ _
  exact wpAny_bind (wpAny_nextOf_list_end hh (h1.extBut hs₁.extBut D.i1z) (hl1.extBut hs₁.extBut D.l1z) hend fun h₂ e hs₂ he => hE h₂ e (fun c o c1 c3 x => hs₂ _ _ c3 (hs₁.extBut _ _ c1 x)) he)
end
end L2.Zd
namespace L2.Zd
open PySem
theorem entry_loop : entryFor table "dict.update.loop" = some Builtin.«dict.update.loop» := entryFor_of_tree (by kernel_rfl)
theorem plain_loop : plainId "dict.update.loop" = true := by decide +kernel
def Zs (d z TI TO i1 i2 l1 l2 : Addr) (xs ys : Array Value) (i : Nat) (h : Heap) : Prop :=
  ((IsZip h z TI TO .none ∧ ∃ a b, IsPair h TO a b) ∨ ∃ (T : Addr) (b : Bool) (o : Obj), IsZ h z TI TO (rawInt T) (.bool b) ∧ h.get? T = some o ∧ T ≠ z ∧ T ≠ i1 ∧ T ≠ i2 ∧ T ≠ d) ∧
    IsPair h TI (.ref i1) (.ref i2) ∧ h.IsListIter i1 l1 i ∧ h.IsListIter i2 l2 i ∧ h.IsList l1 xs ∧ h.IsList l2 ys
structure Ap (d z TI TO i1 i2 l1 l2 : Addr) : Prop where
  za : ZipApart z TI TO i1 i2 l1 l2
  dz : d ≠ z
  dTI : d ≠ TI
  dTO : d ≠ TO
  d1 : d ≠ i1
  d2 : d ≠ i2
  dl1 : d ≠ l1
  dl2 : d ≠ l2
section
variable {prog : Program} {w : World} {A : Around} {E : Value → Shared → Prop} {s : Shared} {d z TI TO i1 i2 l1 l2 : Addr} {xs ys : Array Value} {i : Nat}
theorem Zs.dict {h h' : Heap} (D : Ap d z TI TO i1 i2 l1 l2) (hs : Heap.SameBut d h h') (x : Zs d z TI TO i1 i2 l1 l2 xs ys i h) : Zs d z TI TO i1 i2 l1 l2 xs ys i h' := by
  obtain ⟨a, b, c, e, f, g⟩ := x
  refine ⟨?_, hs.extBut _ _ D.dTI.symm b, c.extBut hs.extBut D.d1.symm, e.extBut hs.extBut D.d2.symm, f.extBut hs.extBut D.dl1.symm, g.extBut hs.extBut D.dl2.symm⟩
  rcases a with ⟨a1, u, v, a2⟩ | ⟨T, u, o, a1, a2, a3, a4, a5, a6⟩
  · exact .inl ⟨hs.extBut _ _ D.dz.symm a1, u, v, hs.extBut _ _ D.dTO.symm a2⟩
  · exact .inr ⟨T, u, o, hs.extBut _ _ D.dz.symm a1, hs.extBut _ _ a6 a2, a3, a4, a5, a6⟩
theorem zs_next {x y : Value} {Q : Option Value → Shared → Prop} (D : Ap d z TI TO i1 i2 l1 l2) (hz : Zs d z TI TO i1 i2 l1 l2 xs ys i s.heap) (hd : d < s.heap.objs.size) (hx : xs[i]? = some x) (hy : ys[i]? = some y)
    (hQ : ∀ h', Zs d z TI TO i1 i2 l1 l2 xs ys (i + 1) h' → IsPair h' s.heap.objs.size x y → (∀ c o, c ≠ z → c ≠ TO → c ≠ i1 → c ≠ i2 → s.heap.get? c = some o → h'.get? c = some o) → Q (some (.ref s.heap.objs.size)) { s with heap := h' }) :
    wpAny (model prog w) A (pyNext (.ref z)) Q E s := by
  obtain ⟨a, hTI, h1, h2, hl1, hl2⟩ := hz
  have lt : ∀ {c o}, s.heap.get? c = some o → s.heap.objs.size ≠ c := fun e => Nat.ne_of_gt (Heap.lt_size e)
  have g1 : s.heap.objs.size ≠ i1 := by obtain ⟨_, e, _⟩ := h1; exact lt e
  have g2 : s.heap.objs.size ≠ i2 := by obtain ⟨_, e, _⟩ := h2; exact lt e
  rcases a with ⟨a1, u, v, a2⟩ | ⟨T, u, o, a1, a2, a3, a4, a5, a6⟩
  · refine wpAny_pyNext_zip_item D.za a1 hTI a2 h1 h2 hl1 hl2 hx hy fun h' b1 b2 b3 b4 b5 b6 hk => hQ h' ⟨.inr ⟨_, false, _, b1, b5, lt a1, g1, g2, Nat.ne_of_gt hd⟩, hk _ _ D.za.TIz D.za.TITO D.za.TIi1 D.za.TIi2 hTI, b3, b4, hl1.at fun o e => hk _ o D.za.l1z D.za.l1TO D.za.l1i1 D.za.l1i2 e, hl2.at fun o e => hk _ o D.za.l2z D.za.l2TO D.za.l2i1 D.za.l2i2 e⟩ b5 hk
  · have hT : s.TypeIs (.ref z) "zip" := ⟨_, a1, rfl⟩
    unfold pyNext
    refine wpAny_bind (wpAny_attempt (wpAny_callSpecial?_slot (name := Str.ofString "__next__") hT F.slot_zip_next
      (wpAny_call_entry F.slot_zip_next hT F.entry_zip_next
        (next_item D.za a1 a2 hTI h1 h2 hl1 hl2 hx hy fun h' b1 b3 b4 b5 b6 hk => wpAny_pure (hQ h' ⟨.inr ⟨T, true, o, b1, hk _ _ a3 a4 a5 a2, a3, a4, a5, a6⟩, hk _ _ D.za.TIz D.za.TIi1 D.za.TIi2 hTI, b3, b4, hl1.at fun o e => hk _ o D.za.l1z D.za.l1i1 D.za.l1i2 e, hl2.at fun o e => hk _ o D.za.l2z D.za.l2i1 D.za.l2i2 e⟩ b5 fun c o c1 _ c3 c4 e => hk c o c1 c3 c4 e)) (F.args_zip_next_1 _))))
theorem zs_end {Q : Option Value → Shared → Prop} (hh : A.handled = none) (D : Ap d z TI TO i1 i2 l1 l2) (hz : Zs d z TI TO i1 i2 l1 l2 xs ys i s.heap) (hx : xs[i]? = none)
    (hQ : ∀ h', (∀ c o, c ≠ z → c ≠ TO → c ≠ i1 → c ≠ i2 → s.heap.get? c = some o → h'.get? c = some o) → Q none { s with heap := h' }) : wpAny (model prog w) A (pyNext (.ref z)) Q E s := by
  obtain ⟨a, hTI, h1, h2, hl1, hl2⟩ := hz
  rcases a with ⟨a1, u, v, a2⟩ | ⟨T, u, o, a1, a2, a3, a4, a5, a6⟩
  · exact wpAny_pyNext_zip_end hh D.za a1 hTI a2 h1 h2 hl1 hl2 (.inl hx) hQ
  · have hT : s.TypeIs (.ref z) "zip" := ⟨_, a1, rfl⟩
    unfold pyNext
    refine wpAny_bind (wpAny_attempt (wpAny_callSpecial?_slot (name := Str.ofString "__next__") hT F.slot_zip_next
      (wpAny_call_entry F.slot_zip_next hT F.entry_zip_next (next_end (by first | exact hh | simp [hh]) D.za a1 a2 hTI h1 hl1 hx fun h' e hk he => ?_) (F.args_zip_next_1 _))))
    obtain ⟨o, ho, hc⟩ := he
    refine wpAny_bind (wpAny_isInstance (T := "StopIteration") (b := true) ⟨o, ho, hc⟩ isSubtype_stop ?_)
    exact wpAny_pure (hQ _ fun c o c1 _ c3 _ e => hk c o c1 c3 e)
theorem loop {κ : Type} [DecidableEq κ] {knd : KeyKind prog w κ} {R : Result → Shared → Prop} (hh : A.in1.handled = none) (D : Ap d z TI TO i1 i2 l1 l2) (ps : List (κ × Value)) (hn : ps.length = xs.size)
    (hps : ∀ (i : Nat) (k : κ) (v : Value), ps[i]? = some (k, v) → ∃ x, xs[i]? = some x ∧ knd.is k x = true ∧ ys[i]? = some v) :
    ∀ (m i : Nat) (j : Int) (s : Shared) (kvs : List (κ × Value)), ps.length - i = m → i ≤ ps.length → Zs d z TI TO i1 i2 l1 l2 xs ys i s.heap → s.heap.DictOf knd d kvs → kvs.length + m ≤ sizeLine →
      (∀ h' tk, h'.DictOf knd d (merged kvs (ps.drop i)) → (∀ c o, c ≠ d → c ≠ z → c ≠ TO → c ≠ i1 → c ≠ i2 → s.heap.get? c = some o → h'.get? c = some o) → R (.ok (.ret .none)) { s with heap := h', toks := tk }) →
      codeAny (model prog w) A (.builtin "dict.update.loop" ⟨[.ref d, .ref z, rawInt j, .none], []⟩) R s := by
  intro m
  induction m with
  | zero =>
    intro i j s kvs hm hi hz hd hsz hR
    have e : i = xs.size := by omega
    refine codeAny_builtin entry_loop ?_
    rw [Around.under_plainId plain_loop _]
    show wpAny _ A.in1 (pyNext (.ref z) >>= _) _ _ s
    refine wpAny_bind (zs_end hh D hz (by rw [e]; exact Array.getElem?_eq_none (Nat.le_refl _)) fun h' hk => ?_)
    show wpAny _ A.in1 (Builtin.Dict.addKeywords d [] >>= _) _ _ _
    refine wpAny_bind (wpAny_pure ?_)
    refine wpAny_pure (hR h' s.toks ?_ fun c o c1 c2 c3 c4 c5 x => hk c o c2 c3 c4 c5 x)
    rw [List.drop_eq_nil_of_le (by omega)]
    obtain ⟨o, es, ep, ho, r⟩ := hd
    exact ⟨o, es, ep, hk d o D.dz D.dTO D.d1 D.d2 ho, r⟩
  | succ m ih =>
    intro i j s kvs hm hi hz hd hsz hR
    have hlt : i < ps.length := by omega
    obtain ⟨x, hx, hk, hy⟩ := hps i ps[i].1 ps[i].2 (List.getElem?_eq_getElem hlt)
    refine codeAny_builtin entry_loop ?_
    rw [Around.under_plainId plain_loop _]
    show wpAny _ A.in1 (pyNext (.ref z) >>= _) _ _ s
    have hdl : d < s.heap.objs.size := by obtain ⟨_, _, _, e, _⟩ := hd; exact Heap.lt_size e
    refine wpAny_bind (zs_next D hz hdl hx hy fun h₁ hz₁ hP keep => ?_)
    refine wpAny_bind (wpAny_holding ?_)
    refine wpAny_bind (wpAny_tryCatch ?_)
    unfold Builtin.Dict.pairItems
    have hT : Shared.TypeIs { s with heap := h₁ } (.ref s.heap.objs.size) "tuple" := ⟨_, hP, rfl⟩
    refine wpAny_bind (wpAny_typeOf hT ?_)
    rw [if_pos (by decide)]
    refine wpAny_bind (wpAny_seqItems hP rfl (wpAny_pure ?_))
    show wpAny _ _ (holding [x, ps[i].2] (dictSet d x ps[i].2)) _ _ _
    refine wpAny_holding ?_
    unfold dictSet
    refine wpAny_holding ?_
    refine wpAny_bind (knd.pyHash hk ?_)
    have hd₁ : h₁.DictOf knd d kvs := by
      obtain ⟨o, es, ep, ho, r⟩ := hd
      exact ⟨o, es, ep, keep d o D.dz D.dTO D.d1 D.d2 ho, r⟩
    refine wpAny_dictSetHashed_pairs (s := { s with heap := h₁, toks := s.toks + 1 }) hk hd₁ (fun h₂ hd₂ hs₂ => ?_) (by omega)
    refine wpAny_pure ⟨plainId_quiet plain_loop _, ih (i + 1) (j + 1) _ _ (by omega) hlt (hz₁.dict D hs₂) hd₂ ?_ fun h' tk hd' kp => ?_⟩
    · have := merged_length_le kvs [(ps[i].1, ps[i].2)]
      have e : merged kvs [(ps[i].1, ps[i].2)] = stored kvs ps[i].1 ps[i].2 := rfl
      rw [e] at this
      have e2 : [(ps[i].1, ps[i].2)].length = 1 := rfl
      omega
    · refine hR h' tk ?_ fun c o c1 c2 c3 c4 c5 x => kp c o c1 c2 c3 c4 c5 ((hs₂.2 c c1).trans (keep c o c2 c3 c4 c5 x))
      rw [List.drop_eq_getElem_cons hlt]
      exact hd'
end
end L2.Zd
namespace L2.Zd
open PySem
theorem miss_keys : typeLookup (.type "zip") "keys" = pure none := by rw [typeLookup_type, builtinLookup_eq_fast]; kernel_rfl
theorem no_getattr : typeLookup (.type "zip") "__getattr__" = pure none := by rw [typeLookup_type, builtinLookup_eq_fast]; kernel_rfl
theorem entry_getattribute : entryFor table "zip.__getattribute__" = some Builtin.«object.__getattribute__» :=
  entryFor_alias (id' := "object.__getattribute__") (by kernel_rfl) (by decide +kernel) (by decide +kernel) (by kernel_rfl)
theorem meets_miss (a : Addr) (vs : Array Value) (u : Tok) :
    Meets (Builtin.«object.__getattribute__» ⟨[.ref a, .str "keys" u], []⟩) (fun A R s => s.heap.get? a = some { cls := .type "zip", dict := none, data := .fields vs, slots := #[] } ∧ raisesAttr (.ref a) "keys" A R s) :=
  Meets.of_wp fun prog w A R s hs => by
    obtain ⟨hp, g, d, tk, os⟩ := s
    obtain ⟨hx, hs⟩ := hs
    have hT : (⟨hp, g, d, tk, os⟩ : Shared).TypeIs (.ref a) "zip" := ⟨_, hx, rfl⟩
    have hmiss := miss_keys
    have hname : (["__module__", "__name__", "__qualname__", "__doc__", "__annotations__"] : List Str).contains "keys" = false := by decide +kernel
    unfold Builtin.«object.__getattribute__»
    repeat (any_goals (first | assumption | wp_step))
    exact wpAny_raiseAttrError hs.1 hs.2 (attrMsg_fits (by decide +kernel) (by decide +kernel))
section
variable {prog : Program} {w : World} {A : Around} {E : Value → Shared → Prop} {s : Shared}
theorem no_keys {a : Addr} {vs : Array Value} {Q : Option Value → Shared → Prop} (hx : s.heap.get? a = some { cls := .type "zip", dict := none, data := .fields vs, slots := #[] }) (hA : A.handled = none)
    (h : ∀ h' tk, (∀ b o, s.heap.get? b = some o → h'.get? b = some o) → Q none { s with heap := h', toks := tk }) : wpAny (model prog w) A (getAttr? (.ref a) "keys") Q E s := by
  obtain ⟨hp, g, d, tk, os⟩ := s
  have hT : ∀ tk', (⟨hp, g, d, tk', os⟩ : Shared).TypeIs (.ref a) "zip" := fun _ => ⟨_, hx, rfl⟩
  have f1 := sub_AttributeError
  have f3 := F.slot_zip_getattribute.lookup
  have f4 := F.slot_zip_getattribute.bind (.ref a)
  have f5 := no_getattr
  unfold getAttr? getAttrBy? getAttrBy
  repeat (any_goals (first | assumption | exact hT _ | ((with_reducible show wpAny _ _ (call (Value.builtin "zip.__getattribute__") _ _) _ _ _); refine call_meets F.slot_zip_getattribute (hT _) entry_getattribute (F.args_zip_getattribute_2 _ _) (meets_miss a vs _) ⟨hx, hA, fun h' tk' e hx' => ?_⟩) | wp_step))
  obtain ⟨t', u', he⟩ := hx'.there
  show wpAny _ _ (getattributeRaised _ _ _ _ _ _ _) _ _ _
  unfold getattributeRaised
  repeat (any_goals (first | assumption | wp_step))
  exact h h' tk' hx'.keeps
end
end L2.Zd
namespace L2.Zd
open PySem
section
variable {prog : Program} {w : World} {A : Around} {E : Value → Shared → Prop} {s : Shared} {z TI TO i1 i2 l1 l2 : Addr} {xs ys : Array Value}
theorem iter_z {f0 f1 : Value} {Q : Value → Shared → Prop} (hz : IsZ s.heap z TI TO f0 f1) (h : Q (.ref z) s) : wpAny (model prog w) A (pyIter (.ref z)) Q E s := by
  have hT : s.TypeIs (.ref z) "zip" := ⟨_, hz, rfl⟩
  refine wpAny_pyIter_slot hT F.slot_zip_iter (wpAny_call_entry F.slot_zip_iter hT F.entry_zip_iter ?_ (F.args_zip_iter_1 _))
  show wpAny _ _ (ret (.ref z)) _ _ s
  exact wpAny_pure ⟨_, rfl, "zip", _, hT, F.slot_zip_next.lookup, h⟩
theorem call_dict {κ : Type} [DecidableEq κ] {knd : KeyKind prog w κ} {a b : Value} {Q : Value → Shared → Prop} (hh : A.handled = none) (D : ZipApart z TI TO i1 i2 l1 l2) (hz : IsZip s.heap z TI TO .none) (hTI : IsPair s.heap TI (.ref i1) (.ref i2)) (hTO : IsPair s.heap TO a b)
    (h1 : s.heap.IsListIter i1 l1 0) (h2 : s.heap.IsListIter i2 l2 0) (hl1 : s.heap.IsList l1 xs) (hl2 : s.heap.IsList l2 ys) (ps : List (κ × Value)) (hn : ps.length = xs.size)
    (hps : ∀ (i : Nat) (k : κ) (v : Value), ps[i]? = some (k, v) → ∃ x, xs[i]? = some x ∧ knd.is k x = true ∧ ys[i]? = some v) (hsz : ps.length ≤ sizeLine)
    (h : ∀ h' tk, h'.DictOf knd s.heap.objs.size (merged [] ps) → (∀ c o, c ≠ z → c ≠ TO → c ≠ i1 → c ≠ i2 → s.heap.get? c = some o → h'.get? c = some o) → Q (.ref s.heap.objs.size) { s with heap := h', toks := tk }) :
    wpAny (model prog w) A (call (.type "dict") [.ref z]) Q E s := by
  refine callType_codes (Q₁ := fun obj s₁ => obj = .ref s.heap.objs.size ∧ s₁ = { s with heap := s.heap.push { cls := .type "dict", data := .dict #[] } }) F.kt_called_dict (F.kt_typeCall_dict_1 _) F.entry_dict_init (kt_code_dict_new _ ⟨rfl, rfl⟩) ?_
  rintro obj s₁ ⟨rfl, rfl⟩
  have hnew : (s.heap.push { cls := .type "dict", data := .dict #[] }).DictOf knd s.heap.objs.size [] := Heap.DictOf.new s.heap
  have gt : ∀ {c o}, s.heap.get? c = some o → s.heap.objs.size ≠ c := fun e => Nat.ne_of_gt (Heap.lt_size e)
  have up : ∀ {c o}, s.heap.get? c = some o → (s.heap.push { cls := .type "dict", data := .dict #[] }).get? c = some o := fun e => Heap.get?_push_of_some _ e
  have ap : Ap s.heap.objs.size z TI TO i1 i2 l1 l2 := ⟨D, gt hz, gt hTI, gt hTO, by obtain ⟨_, e, _⟩ := h1; exact gt e, by obtain ⟨_, e, _⟩ := h2; exact gt e, by obtain ⟨_, e, _⟩ := hl1; exact gt e, by obtain ⟨_, e, _⟩ := hl2; exact gt e⟩
  refine ⟨hnew.typeIs, F.args_dict_init_2 _ _, ?_⟩
  unfold Builtin.«dict.__init__»
  refine wpAny_bind ?_
  unfold Builtin.Dict.selfAndRest
  refine wpAny_bind (wpAny_notOrdered_dict hnew.typeIs ?_)
  show wpAny _ _ (pure (s.heap.objs.size, [Value.ref z])) _ _ _
  refine wpAny_pure ?_
  show wpAny _ _ (Builtin.Dict.updateFrom "dict.__init__" s.heap.objs.size (.ref z) [] .none) _ _ _
  unfold Builtin.Dict.updateFrom
  have hT : Shared.TypeIs { s with heap := s.heap.push { cls := .type "dict", data := .dict #[] } } (.ref z) "zip" := ⟨_, up hz, rfl⟩
  refine wpAny_bind (wpAny_typeOf hT ?_)
  rw [if_pos (by decide)]
  refine wpAny_bind (no_keys (up hz) (by simp [hh]) fun h₁ tk₁ kp₁ => ?_)
  rw [if_pos (show (none : Option Value).isNone = true from rfl)]
  refine wpAny_bind (wpAny_rule (wpAny_bind (iter_z (kp₁ _ _ (up hz)) ?_)))
  have kp : ∀ {c o}, s.heap.get? c = some o → h₁.get? c = some o := fun e => kp₁ _ _ (up e)
  have hd₁ : h₁.DictOf knd s.heap.objs.size [] := by
    obtain ⟨o, es, ep, ho, r⟩ := hnew
    exact ⟨o, es, ep, kp₁ _ _ ho, r⟩
  refine wpAny_pure ⟨plainId_quiet plain_loop _, loop (xs := xs) (ys := ys) (by simp [hh]) ap ps hn hps ps.length 0 0 _ [] rfl (Nat.zero_le _) ⟨.inl ⟨kp hz, a, b, kp hTO⟩, kp hTI, h1.at fun o e => kp e, h2.at fun o e => kp e, hl1.at fun o e => kp e, hl2.at fun o e => kp e⟩ hd₁ (by show 0 + _ ≤ _; omega) fun h' tk hd' k' => ⟨rfl, ?_⟩⟩
  exact h h' tk hd' fun c o c2 c3 c4 c5 e => k' c o (gt e).symm c2 c3 c4 c5 (kp e)
end
end L2.Zd
namespace L2
open PySem PySem.Spec PyProof.Rows Srt
theorem tyV_tup {K : PySem.W.Frag} {H : Hp} {p : Addr} {xs : List V} (h : H p = some (.tup xs)) : tyV K "tuple" (.ref p) H := .inr (.inl ⟨rfl, .inr ⟨xs, h⟩⟩)
theorem b_zip : bootBuiltins "zip" = some (.type "zip") := by decide +kernel
theorem b_max : bootBuiltins "max" = some (.builtin "max") := by decide +kernel
def mergeV (ps acc : List (Key × V)) : List (Key × V) := ps.foldl (fun acc p => putK acc p.1 p.2) acc
theorem KV.mergeZ : ∀ {ps : List (Key × V)} {qs : List (Key × Value)}, KV ps qs → ∀ {acc : List (Key × V)} {acc' : List (Key × Value)}, KV acc acc' → KV (mergeV ps acc) (merged acc' qs)
  | _, _, .nil, _, _, r => r
  | (k, v) :: ps, (k', u) :: qs, .cons h t, acc, acc', r => by
    obtain ⟨h1, h2⟩ := h
    have h1 : k = k' := h1
    subst h1
    exact KV.mergeZ t (r.put k h2)
theorem mergeV_len : ∀ (ps acc : List (Key × V)), (mergeV ps acc).length ≤ acc.length + ps.length
  | [], acc => Nat.le_refl _
  | p :: ps, acc => by
    have h1 := mergeV_len ps (putK acc p.1 p.2)
    have h2 := length_putK acc p.1 p.2
    show (mergeV ps (putK acc p.1 p.2)).length ≤ _
    rw [List.length_cons]
    omega
theorem kv_zip : ∀ {ks : List Key} {ys : List V} {us : List Value}, Vals ys us → KV (ks.zip ys) (ks.zip us)
  | [], _, _, _ => .nil
  | _ :: _, _, _, .nil => .nil
  | k :: ks, _, _, .cons r t => .cons ⟨rfl, r⟩ (kv_zip t)
def tDZ (K : PySem.W.Frag) (ta : TA) : TE := fun σ H Q => ta σ H fun vs H1 => ∃ (l1 l2 : Addr) (ks : List Key) (ys : List V), vs = [.ref l1, .ref l2] ∧ SqL K H1 l1 (ks.map kV) ∧ SqL K H1 l2 ys ∧ ks.length = ys.length ∧ ks.length ≤ 1000 ∧ ∀ d, H1 d = none → Q (.ref d) (upd H1 d (.dK (mergeV (ks.zip ys) [])))
section
variable {X : Cx}
theorem pe_dictzip {a b : Expr} {ta : TA} {p p2 pos pos2 : Pos} (hc : X.calm = true) (hg : Gl X "dict") (hm : X.mg "dict" = none) (hg2 : Gl X "zip") (hm2 : X.mg "zip" = none) (ha : PA X [a, b] ta)
    (hs : starEach [.Call (.Name "zip" p2) [a, b] [] pos2] X.env = [(false, eval (.Call (.Name "zip" p2) [a, b] [] pos2) X.env)] := by rfl) (hs2 : starEach [a, b] X.env = (false, eval a X.env) :: starEach [b] X.env := by rfl) (hpl : (backTo pos2 (starEach [b] X.env)).any (·.1) = false := by rfl) :
    PE X (.Call (.Name "dict" p) [.Call (.Name "zip" p2) [a, b] [] pos2] [] pos) (tDZ X.K ta) := by
  intro pins s σ H Q I h
  refine wpAny_Call_Name_kw (ld_blt I hg hm b_dict ?_)
  refine PyProof.Rows.callWith_type1 ?_ hs rfl
  rw [hs]
  show wpAny _ _ (spliced ((false, eval _ X.env) :: backTo pos [])) _ _ s
  refine Calls.spliced_cons ?_
  refine wpAny_Call_Name_kw (ld_blt I hg2 hm2 b_zip ?_)
  refine PyProof.Rows.callWith_type1 (thn (ha pos2 pins s σ H _ I h) fun us s1 ⟨vs, H1, I1, r1, q1⟩ => ?_) hs2 hpl
  obtain ⟨l1, l2, ks, ys, rfl, e1, e2, hl, hz, q⟩ := q1
  obtain ⟨u1, u2, rfl, ru1, ru2⟩ := vals2 r1
  cases ru1
  cases ru2
  have sz := sizeLine_eq
  obtain ⟨i1, v1, p1, _⟩ := I1.list e1
  obtain ⟨i2, v2, p2', _⟩ := I1.list e2
  have n1 := v1.length
  have n2 := v2.length
  rw [List.length_map] at n1
  have lt1 : l1 < s1.heap.objs.size := by obtain ⟨_, e, _⟩ := p1.isList; exact Heap.lt_size e
  have lt2 : l2 < s1.heap.objs.size := by obtain ⟨_, e, _⟩ := p2'.isList; exact Heap.lt_size e
  refine call_zip_2 p1.isList p2'.isList fun h' z1 z2 z3 z4 z5 z6 keep => Calls.spliced_nil ?_
  have old : ∀ {b u}, s1.heap.get? b = some u → b < s1.heap.objs.size := fun e => Heap.lt_size e
  refine Zd.call_dict (s := { s1 with heap := h' }) (knd := mixKind X.prog X.w) (I1.ok.hd hc) (zipApart_new lt1 lt2) z1 z2 z3 z4 z5 (p1.isList.at fun o e => keep _ _ e) (p2'.isList.at fun o e => keep _ _ e) (ks.zip i2) (by rw [List.length_zip, List.size_toArray]; omega) (fun i k v hi => ?_) (by rw [List.length_zip]; omega) fun h2 tk hd kp => ?_
  · obtain ⟨hi1, hi2⟩ := List.getElem?_zip_eq_some.mp hi
    obtain ⟨u, hu, ru⟩ := v1.get (i := i) (x := kV k) (by rw [List.getElem?_map, hi1]; rfl)
    exact ⟨u, by rw [List.getElem?_toArray]; exact hu, kV_is ru, by rw [List.getElem?_toArray]; exact hi2⟩
  · have zl : (mergeV (ks.zip ys) []).length ≤ sizeLine := by
      have := mergeV_len (ks.zip ys) []
      rw [List.length_zip, List.length_nil] at this
      omega
    have le : s1.heap.objs.size ≤ h'.objs.size := by rw [z6]; omega
    refine ⟨.ref h'.objs.size, _, I1.laid (t' := tk) (fun b u e => kp b u (Nat.ne_of_lt (Nat.lt_of_lt_of_le (old e) (Nat.le_add_right _ _))) (Nat.ne_of_lt (Nat.lt_of_lt_of_le (old e) (Nat.le_add_right _ _))) (Nat.ne_of_lt (old e)) (Nat.ne_of_lt (Nat.lt_of_lt_of_le (old e) (Nat.le_add_right _ _))) (keep b u e)) le (show ObjOk X.prog X.w _ _ _ (.dK (mergeV (ks.zip ys) [])) from ⟨zl, ?_, _, KV.mergeZ (kv_zip v2) .nil, hd⟩), rfl, q _ (I1.hok.fresh le)⟩
    exact beq_eq_false_iff_ne.mpr (Ne.symm (Nat.ne_of_lt (Nat.lt_of_lt_of_le I1.big le)))
theorem call_sortedS (hc : X.calm = true) : CallR X (.builtin "sorted") (fun xs H Q => ∃ p kvs zs, xs = [.ref p] ∧ Rd H p (.dK kvs) ∧ kvs.map (·.1) = List.map Sum.inr zs ∧ zs.length < 64 ∧
    ∀ (l : Addr) (is : List Nat), is.Perm (List.range zs.length) → (∀ i j, i ≤ j → j < zs.length → rank zs.length (fun i j => ltS (zs.getD i "") (zs.getD j "")) (is.getD i 0) ≤ rank zs.length (fun i j => ltS (zs.getD i "") (zs.getD j "")) (is.getD j 0)) → H l = none → Q (.ref l) (upd H l (.lst (is.map fun i => (zs.map V.str).getD i .non)))) := by
  intro pins s σ H xs us Q I r h
  obtain ⟨p, kvs, zs, rfl, hp, hk, h64, q⟩ := h
  obtain ⟨u, rfl, rx⟩ := vals1 r
  cases rx
  have sz := sizeLine_eq
  obtain ⟨z, hd, vs, rv, dd⟩ := dk_rd I.hok hp
  obtain ⟨ep, hat⟩ := dd.dictAt
  have hl := rv.length
  have hln : zs.length = kvs.length := by
    have := congrArg List.length hk
    rw [List.length_map, List.length_map] at this
    exact this.symm
  refine Calls.call_function_entry kind_sorted plain_sorted entry_sorted (args_sorted1 _) ?_
  unfold Builtin.«sorted»
  refine wpAny_bind (m := checkCount "sorted" 1 1 _) (wpAny_pure ?_)
  refine wpAny_bind (collect_keys hd hat (I.ok.hd hc) (by omega) fun h1 tk acc keep hlt1 hacc => ?_)
  have va : Vals (zs.map V.str) acc.toList := by
    refine vals_of_get (by rw [List.length_map, show acc.toList.length = acc.size from Array.length_toList, hacc.1]; omega) fun i x hx => ?_
    rw [List.getElem?_map] at hx
    obtain ⟨n, hn, rfl⟩ := Option.map_eq_some_iff.mp hx
    have hi : i < acc.size := by rw [hacc.1, ← hl, ← hln]; exact (List.getElem?_eq_some_iff.mp hn).1
    obtain ⟨k, y, h2, h3⟩ := hacc.2 i acc[i] (Array.getElem?_eq_getElem hi)
    have h4 : (kvs.map (·.1))[i]? = some k := by rw [rv.keys, List.getElem?_map, h2]; rfl
    rw [hk, List.getElem?_map, hn] at h4
    have h4 : Sum.inr n = k := Option.some.inj h4
    subst h4
    exact ⟨acc[i], by rw [Array.getElem?_toList, Array.getElem?_eq_getElem hi], rel_is h3⟩
  have hlen : acc.toList.length = zs.length := by rw [show acc.toList.length = acc.size from Array.length_toList, hacc.1]; omega
  refine wpAny_bind (wpAny_newList ?_ (by omega))
  have hoL : (h1.push (seqObj "list" acc.toList.toArray 0)).get? h1.objs.size = some (seqObj "list" acc.toList.toArray 0) := Heap.get?_push_size _ rfl
  have ml : (midHeap (h1.push (seqObj "list" acc.toList.toArray 0)) h1.objs.size acc.toList).objs.size ≥ h1.objs.size := by
    unfold midHeap
    rw [size_push', size_push', Heap.size_update, size_push']
    omega
  have mo : ∀ b o, s.heap.get? b = some o → (midHeap (h1.push (seqObj "list" acc.toList.toArray 0)) h1.objs.size acc.toList).get? b = some o := fun b o e => by
    have hb := keep b o e
    have hlt : b < h1.objs.size := Heap.lt_size hb
    have s1 : (h1.push (seqObj "list" acc.toList.toArray 0)).objs.size = h1.objs.size + 1 := size_push' _ _
    unfold midHeap
    rw [Heap.get?_push_ne _ _ _ (by rw [size_push', Heap.size_update, s1]; exact Nat.ne_of_lt (Nat.lt_of_lt_of_le hlt (by omega))), Heap.get?_push_ne _ _ _ (by rw [Heap.size_update, s1]; exact Nat.ne_of_lt (Nat.lt_of_lt_of_le hlt (by omega))), Heap.get?_update_ne _ _ _ _ (Nat.ne_of_lt hlt), Heap.get?_push_ne _ _ _ (Nat.ne_of_lt hlt)]
    exact hb
  refine wpAny_bind (wpAny_holding (wpAny_call_entry slot_list_sort ⟨_, hoL, rfl⟩ entry_list_sort (list_sortA (r := rank zs.length fun i j => ltS (zs.getD i "") (zs.getD j "")) hoL (by omega) (fun h2 => ords_str _ _ (I.hok.kept mo) va h2) fun pm hp hi => ⟨_, rfl, ?_⟩) (args_list_sort _)))
  refine wpAny_pure ⟨_, rfl, ?_⟩
  have hz1 : s.heap.objs.size ≤ h1.objs.size := Nat.le_of_lt hlt1
  obtain ⟨e, he⟩ := sorted_at (h := h1) (vs := acc.toList) (out := List.toArray (pm.toList.map fun i => acc.toList.getD i Value.none))
  have hp' : pm.toList.Perm (List.range zs.length) := by rw [← hlen]; exact hp
  have hin : ∀ i ∈ pm.toList, i < (zs.map V.str).length := fun i hi => by rw [List.length_map]; exact List.mem_range.mp (hp'.mem_iff.mp hi)
  have hz : (pm.toList.map fun i => (zs.map V.str).getD i V.non).length ≤ sizeLine := by
    rw [List.length_map, hp'.length_eq, List.length_range]
    omega
  refine ⟨.ref h1.objs.size, _, I.laid (fun b o e => sorted_old (keep b o e)) hz1 (show ObjOk X.prog X.w _ _ _ (.lst (pm.toList.map fun i => (zs.map V.str).getD i V.non)) from ⟨hz, _, e, vals_pick va _ hin, he⟩), rfl, q _ _ hp' (fun i j hij hj => ?_) (I.hok.fresh hz1)⟩
  have := hi i j hij (by omega)
  have g : ∀ k, pm.toList.getD k 0 = pm.getD k 0 := fun k => by
    rw [Array.getD_eq_getD_getElem?, List.getD_eq_getElem?_getD, Array.getElem?_toList]
  rw [g, g]
  exact this
end
def thK (a : Addr) (kvs : List (Key × V)) (D : Ends) : Ends where
  nx := fun σ H => ∃ o, H a = some (.frz o (.dK kvs)) ∧ D.nx σ (upd H a (.dK kvs))
  rt := fun v H => ∃ o, H a = some (.frz o (.dK kvs)) ∧ D.rt v (upd H a (.dK kvs))
  bk := fun σ H => ∃ o, H a = some (.frz o (.dK kvs)) ∧ D.bk σ (upd H a (.dK kvs))
  ct := fun σ H => ∃ o, H a = some (.frz o (.dK kvs)) ∧ D.ct σ (upd H a (.dK kvs))
def tThawK (t : TS) : TS := fun D σ H => ∃ a kvs, H a = some (.dK kvs) ∧ t (thK a kvs D) σ H
theorem ps_thawK {X : Cx} {st : Stmt} {t : TS} (h : PS X st t) : PS X st (tThawK t) := by
  intro pins s σ H D I ⟨a, kvs, e0, q⟩
  refine thn (h pins s σ H _ I q) fun f s1 hq => ?_
  cases f with
  | next => obtain ⟨σ', H', I1, o, e1, q1⟩ := hq; exact ⟨σ', _, Inv.thaw I e0 I1 e1, q1⟩
  | brk => obtain ⟨σ', H', I1, o, e1, q1⟩ := hq; exact ⟨σ', _, Inv.thaw I e0 I1 e1, q1⟩
  | cont => obtain ⟨σ', H', I1, o, e1, q1⟩ := hq; exact ⟨σ', _, Inv.thaw I e0 I1 e1, q1⟩
  | ret u => obtain ⟨v, σ', H', I1, r1, o, e1, q1⟩ := hq; exact ⟨v, σ', _, Inv.thaw I e0 I1 e1, r1, q1⟩
theorem forW_dict {a : Addr} {o : Obj} {kvs : List (Key × V)} {g : TG} {tb : TS} {D : Ends} {σ : St} {H : Hp} (Pv : Nat → St → Hp → Prop) (h0 : Pv 0 σ H) (hl : ∀ i σ H', i ≤ kvs.length → Pv i σ H' → H' a = some (.frz o (.dK kvs)))
    (hs : ∀ i k v σ H, kvs[i]? = some (k, v) → Pv i σ H → g (kV k) σ H fun σ2 H2 => tb { D with nx := Pv (i + 1), ct := Pv (i + 1), bk := D.nx } σ2 H2) (hd : ∀ σ H, Pv kvs.length σ H → D.nx σ H) : ForW g tb D (Itk a o kvs) σ H := by
  refine ⟨fun i m σ H => m = kvs.length - i ∧ i ≤ kvs.length ∧ Pv i σ H, ⟨kvs.length, by simp, Nat.zero_le _, h0⟩, ?_⟩
  rintro i m σ H ⟨rfl, hi, p⟩
  have q := hl i σ H hi p
  by_cases hlt : i < kvs.length
  · refine .inr ⟨⟨hlt, q⟩, Pv (i + 1), fun σ' H' p' => ⟨kvs.length - (i + 1), by omega, rfl, hlt, p'⟩, fun x H' y => ?_⟩
    obtain ⟨e, k, hk, rfl⟩ := y
    subst e
    rw [List.getElem?_map, List.getElem?_eq_getElem hlt] at hk
    have hk : kvs[i].1 = k := Option.some.inj hk
    subst hk
    exact hs i _ kvs[i].2 σ _ (List.getElem?_eq_getElem hlt) p
  · have e : i = kvs.length := by omega
    subst e
    exact .inl ⟨⟨rfl, q⟩, hd σ H p⟩
end L2
namespace K15
open PySem PySem.Spec L2 PyProof.Rows Pc Fm
set_option hygiene false
set_option compiler.extract_closed false
local macro_rules | `(tactic| push_cast [$xs,*]) => `(tactic| simp only [↓cons_same, ↓l1_same, ↓l2_same, ↓l3_same, ↓exists_eq_left, ↓exists_eq_left', ↓int_ex, ↓ref_ex, ↓bl_ex, ↓int_ex2, tVarD, tSeq, tIfS, tRet, tRetN, tNext, tVar, tC, tTest, tB, tOp, tUn, rI, rI0, rU, rEq, rNe, tCall, tCB, tCons, tNil, tAnd, tOr, tNot, tAndV, tOrV, tNotV, tIf, gName, tAsg, tBM, tBM0, tSl, tNoPart, tPart, rSlS, rSlL, tLst, tTup, tDrop, tNoIf, iStr, iList, iTup, iRng1, iRng2, tLC, tSetLC, frOf, List.set_cons_zero, List.set_cons_succ, List.getElem?_cons_zero, List.getElem?_cons_succ, Option.some.injEq, V.int.injEq, V.str.injEq, V.bl.injEq, V.ref.injEq, List.cons.injEq, exists_eq_left, exists_eq_left', exists_eq_right, exists_eq_right', exists_and_left, exists_and_right, and_true, true_and, List.cons_append, List.nil_append, List.append_nil, reduceCtorEq, false_and, exists_false, false_or, or_false, decide_eq_true_eq, eq_self, if_true, if_false, Bool.false_eq_true, Bool.true_eq_false, cxOf_K, cxOf_P, cxOf_w, cxOf_mg, cxOf_b, List.map_cons, List.map_nil, Option.getD_some, Option.getD_none, exists_const, nox_K, and_assoc, exists_eq, exists_eq', V.ty.injEq, tVals, Int.reduceLT, Int.reduceLE, Int.reduceNeg, Int.reducePow, Nat.reduceLT, Nat.reduceLeDiff, tFor_eq, tyV_str, CDiv, tCallV, tDIn, tDNotIn, tDGet, iRev, tDNewK, sDPut, and_self, exists_prop, $xs,*])
set_option hygiene true
set_option compiler.extract_closed true
def top (i : Nat) : Stmt := PySem.Challenge.pw_pricecover_k15_whole_alike_or_parted.main.body.getD i (.Pass ⟨0, 0, 0, 0⟩)
structure Gs (w : World) (K : PySem.W.Frag) (mg : Str → Option Value) : Prop where
  m_dict : mg "dict" = none
  m_int : mg "int" = none
  m_isinstance : mg "isinstance" = none
  m_len : mg "len" = none
  m_list : mg "list" = none
  m_max : mg "max" = none
  m_range : mg "range" = none
  m_reversed : mg "reversed" = none
  m_sorted : mg "sorted" = none
  m_str : mg "str" = none
  m_sum : mg "sum" = none
  m_tuple : mg "tuple" = none
  m_zip : mg "zip" = none
  m_PARTS_BELOW : ∃ a, mg "PARTS_BELOW" = some (.ref a) ∧ ModD w K a [(Sum.inr "add", .int 2), (Sum.inr "sub", .int 2), (Sum.inr "mul", .int 2), (Sum.inr "neg", .int 1)]
def spLaw (K : PySem.W.Frag) : Sp := fun vs H Q _ => ∃ (a : Addr) (ns : List Int), vs = [.ref a] ∧ SqL K H a (ns.map V.int) ∧ ns.length ≤ 63 ∧ ∀ H', Q (.bl true) H'
def spNames4 : Sp := fun vs H Q _ => ∃ c : Int, vs = [.int c] ∧ ∀ (l : Addr) (H' : Hp) (zs : List Str), zs.length = 4 → (∀ z ∈ zs, arS z = 0 ∧ z.length ≤ 20) → Same H H' → H' l = some (.lst (zs.map V.str)) → Q (.ref l) H'
theorem four_first (x y : Nat) : ∀ z ∈ ([⟨#[y]⟩, (⟨#[x]⟩ : Str) ++ ⟨#[y]⟩, ⟨#[x]⟩, mulS ⟨#[x]⟩ 2] : List Str), arS z = 0 ∧ z.length ≤ 20 := by
  intro z hz
  simp only [List.mem_cons, List.not_mem_nil, or_false] at hz
  rcases hz with rfl | rfl | rfl | rfl
  · exact ⟨ar1 y, by show (1 : Nat) ≤ 20; decide⟩
  · exact ⟨ar2 x y, by show (2 : Nat) ≤ 20; decide⟩
  · exact ⟨ar1 x, by show (1 : Nat) ≤ 20; decide⟩
  · exact ⟨ar2 x x, by show (2 : Nat) ≤ 20; decide⟩
theorem nd_len : ∀ {ks zs : List Str}, ks.Nodup → (∀ z ∈ ks, z ∈ zs) → ks.length ≤ zs.length
  | [], _, _, _ => Nat.zero_le _
  | k :: r, zs, hn, hs => by
    obtain ⟨h1, h2⟩ := List.nodup_cons.mp hn
    have hk := hs k List.mem_cons_self
    have ih := nd_len (zs := zs.erase k) h2 fun z hz => (List.mem_erase_of_ne (fun (e : z = k) => h1 (by rw [← e]; exact hz))).mpr (hs z (List.mem_cons_of_mem _ hz))
    rw [List.length_erase_of_mem hk] at ih
    have := List.length_pos_of_mem hk
    rw [List.length_cons]
    omega
def trN (ks : List Str) : List (Key × V) := ks.map fun z => (Sum.inr z, V.bl true)
theorem trN_put (ks : List Str) (z : Str) : putK (trN ks) (Sum.inr z) (.bl true) = trN (if z ∈ ks then ks else ks ++ [z]) := by
  have hk : ((trN ks).any fun kv => decide (kv.1 = (Sum.inr z : Key))) = decide (z ∈ ks) := by
    by_cases h : z ∈ ks
    · rw [decide_eq_true h, List.any_eq_true]
      exact ⟨(Sum.inr z, .bl true), List.mem_map.mpr ⟨z, h, rfl⟩, decide_eq_true rfl⟩
    · rw [decide_eq_false h, List.any_eq_false]
      intro kv hkv e
      obtain ⟨y, hy, rfl⟩ := List.mem_map.mp hkv
      have e : (Sum.inr y : Key) = Sum.inr z := of_decide_eq_true e
      exact h (Sum.inr.inj e ▸ hy)
  unfold putK
  rw [hk]
  by_cases h : z ∈ ks
  · rw [if_pos (decide_eq_true h), if_pos h]
    unfold trN
    rw [List.map_map]
    refine List.map_congr_left fun y hy => ?_
    show (if (Sum.inr y : Key) = Sum.inr z then ((Sum.inr y : Key), V.bl true) else (Sum.inr y, V.bl true)) = (Sum.inr y, V.bl true)
    split <;> rfl
  · rw [if_neg (by rw [decide_eq_false h]; decide), if_neg h]
    unfold trN
    rw [List.map_append]
    rfl
def spRepl : Sp := fun vs H Q _ => ∃ (a : Addr) (f : Form) (x : Str) (v : Int), vs = [.ref a, .str x, .int v] ∧ FormAt H a f ∧ f.length < 64 ∧ (∀ p ∈ f, p.1.length ≤ 64 ∧ p.2.natAbs < 2 ^ 5000) ∧ v.natAbs < 2 ^ 100 ∧ ∀ b H', Same H H' → FormAt H' b (replF f x v) → Q (.ref b) H'
def spKeepV : Sp := fun vs H Q _ => ∃ (a : Addr) (f : Form) (x : Str) (m : Nat), vs = [.ref a, .str x, .int (m : Int)] ∧ FormAt H a f ∧ f.length < 64 ∧ (∀ p ∈ f, p.1.length ≤ 64 ∧ p.2.natAbs < 2 ^ 5000) ∧ m ≤ 16 ∧ ∀ (v : Nat) H', Same H H' → v ≤ m → (v < m → replF f x (v : Int) ≠ []) → (v = m → ∀ u : Nat, u < m → replF f x (u : Int) = []) → Q (.int (v : Int)) H'
def spNamesIn : Sp := fun vs H Q _ => ∃ (a : Addr) (f : Form) (zs : List Str), vs = [.ref a] ∧ FormAt H a f ∧ (∀ p ∈ f, p.1.length ≤ 64 ∧ ∀ z ∈ p.1, z ∈ zs) ∧ zs.length ≤ 20 ∧ ∀ (l : Addr) (ns : List Str) H', Same H H' → H' l = some (.lst (ns.map V.str)) → Srt ltS ns → ns.Nodup → (∀ z, z ∈ ns ↔ ∃ p ∈ f, z ∈ p.1) → Q (.ref l) H'
def spMost : Sp := fun vs H Q _ => ∃ (a : Addr) (f : Form), vs = [.ref a] ∧ FormAt H a f ∧ (∀ p ∈ f, p.1.length ≤ 64) ∧ ∀ H', Same H H' → Q (.int (mostF f : Int)) H'
def spPart : Sp := fun vs H Q _ => ∃ (a b : Addr) (f g : Form) (zs : List Str), vs = [.ref a, .ref b] ∧ FormAt H a f ∧ FormAt H b g ∧ FSm (fun z => z ∈ zs) 2600 f ∧ FSm (fun z => z ∈ zs) 2600 g ∧ f.length + g.length < 64 ∧ zs.length ≤ 8 ∧ (f = g → ∀ H', Same H H' → Q .non H') ∧
  (f ≠ g → ∀ (d : Addr) (ns : List Str) (us : List Nat) H', Same H H' → H d = none → H' d = some (.dK ((ns.zip us).map fun p => (Sum.inr p.1, V.int (p.2 : Int)))) → ns.length = us.length → Srt ltS ns → ns.Nodup → (∀ z, z ∈ ns ↔ ∃ p ∈ f ++ g, z ∈ p.1) → (∀ u ∈ us, u ≤ mostF (f ++ g)) →
    (∀ ρ : Str → Option Int, (∀ p ∈ ns.zip us, ρ p.1 = some (p.2 : Int)) → evF ρ f ≠ evF ρ g) → Q (.ref d) H')
structure TOk (zs : List Str) (m : Nat) (ws : List V) : Prop where
  word : ∀ v ∈ ws, wordF (fun z => z ∈ zs) v
  one : isTerm ws
  len : ws.length ≤ m
theorem TOk.vals {zs : List Str} {m : Nat} {ws : List V} {ρ : Str → Option Int} (h : TOk zs m ws) (hs : ∀ z ∈ zs, smallV ρ z) : ∀ v ∈ ws, isW v ∧ hasV ρ v ∧ leafB (valW ρ v) := fun v hv => by
  have hw := h.word v hv
  refine ⟨hw.isW, ?_⟩
  have up : ∀ i : Int, i.natAbs < 2 ^ 200 → mag i ≤ 2 ^ 200 := fun i hi => by
    have : (2 : Nat) ≤ 2 ^ 200 := by decide +kernel
    unfold mag
    omega
  cases v with
  | int n => exact ⟨trivial, up n hw⟩
  | str z =>
    by_cases hz : 0 < arS z
    · exact ⟨.inl hz, by show leafB (if 0 < arS z then _ else _); rw [if_pos hz]; exact trivial⟩
    · have hm := hs z (hw.resolve_left hz)
      exact ⟨.inr hm.1, by show leafB (if 0 < arS z then _ else _); rw [if_neg hz]; exact up _ (Nat.lt_of_lt_of_le hm.2 (Nat.pow_le_pow_right (by decide) (by decide)))⟩
  | _ => exact hw.elim
theorem TOk.ev {zs : List Str} {m : Nat} {ws : List V} {ρ : Str → Option Int} (h : TOk zs m ws) : evF ρ (formW ws) = worthN ρ ws := ev_form ρ fun v hv => (h.word v hv).isW
theorem TOk.fok {zs : List Str} {m : Nat} {ws : List V} (h : TOk zs m ws) (hm : m ≤ 12) : FOk (fun z => z ∈ zs) ws.length (formW ws) := FOk.form h.word h.one (Nat.le_trans h.len hm)
theorem bin_at3 (c : Int) (h : c % 8 < 4) : ∃ z : Str, atI [V.str "add", V.str "sub", V.str "mul", V.str "mul"] (c % 8) = some (.str z) ∧ arS z = 2 := by
  obtain ⟨x, h1, h2⟩ := atI_in [V.str "add", V.str "sub", V.str "mul", V.str "mul"] (c % 8) (Int.emod_nonneg _ (by decide)) (by show c % 8 < 4; omega)
  simp only [List.mem_cons, List.not_mem_nil, or_false] at h2
  rcases h2 with rfl | rfl | rfl | rfl <;> exact ⟨_, h1, by decide +kernel⟩
def VOk (zs : List Str) (i : Nat) (kvs : List (Key × V)) : Prop := (∀ q ∈ kvs, ∃ m : Int, q.2 = .int m ∧ m.natAbs < 2 ^ 100) ∧ ∀ z ∈ zs.take i, ∃ m : Int, valV kvs (Sum.inr z) = some (.int m)
theorem VOk.put {zs : List Str} {i : Nat} {kvs : List (Key × V)} (h : VOk zs i kvs) {z : Str} (hz : zs[i]? = some z) {m : Int} (hm : m.natAbs < 2 ^ 100) : VOk zs (i + 1) (putK kvs (Sum.inr z) (.int m)) := by
  refine ⟨fun q hq => ?_, fun y hy => ?_⟩
  · rcases mem_put hq with k | k
    · exact h.1 q k
    · rw [k]
      exact ⟨m, rfl, hm⟩
  · rw [valV_put]
    by_cases e : (Sum.inr y : Key) = Sum.inr z
    · rw [if_pos e]
      exact ⟨m, rfl⟩
    · rw [if_neg e]
      rw [List.take_add_one, hz] at hy
      rcases List.mem_append.mp hy with k | k
      · exact h.2 y k
      · exact absurd (by rw [List.mem_singleton.mp k]) e
theorem VOk.valsN {zs : List Str} {m : Nat} {kvs : List (Key × V)} (h : VOk zs m kvs) (h6 : zs.length ≤ m) {H : Hp} {a : Addr} (ha : H a = some (.dK kvs)) : ∃ ρ, ValsAt H a ρ ∧ ∀ z ∈ zs, smallV ρ z := by
  refine ⟨fun z => match valV kvs (Sum.inr z) with | some (.int m) => some m | _ => none, ⟨kvs, ha, fun z => ?_⟩, fun z hz => ?_⟩
  · show valV kvs (Sum.inr z) = (match valV kvs (Sum.inr z) with | some (.int m) => some m | _ => none).map V.int
    cases e : valV kvs (Sum.inr z) with
    | none => rfl
    | some v =>
      obtain ⟨m, e2, _⟩ := h.1 _ (valV_mem e)
      have e2 : v = .int m := e2
      rw [e2]
      rfl
  · obtain ⟨m, e⟩ := h.2 z (by rw [List.take_of_length_le h6]; exact hz)
    obtain ⟨m', e2, hb⟩ := h.1 _ (valV_mem e)
    cases e2
    show (match valV kvs (Sum.inr z) with | some (.int m) => some m | _ => none).isSome = true ∧ ((match valV kvs (Sum.inr z) with | some (.int m) => some m | _ => none).getD 0).natAbs < 2 ^ 100
    rw [e]
    exact ⟨rfl, hb⟩
theorem TS.tok {zs : List Str} {m : Nat} {ws : List V} (h : TS zs m ws) : TOk zs m ws := ⟨fun v hv => (h.word v hv).wordF, h.one, h.len⟩
theorem TOk.fsm {zs : List Str} {ws : List V} (h : TOk zs 12 ws) : FSm (fun z => z ∈ zs) 2600 (formW ws) := by
  have f := h.fok (Nat.le_refl _)
  have hl := h.len
  exact ⟨f.nf, fun p hp => ⟨Nat.le_trans (f.row p hp).1 (by omega), Nat.lt_of_lt_of_le (f.row p hp).2.1 (Nat.pow_le_pow_right (by decide) (by omega)), (f.row p hp).2.2⟩⟩
theorem TOk.rows {zs : List Str} {m : Nat} {ws : List V} (h : TOk zs m ws) (hm : m ≤ 12) : (formW ws).length ≤ 2 ^ ((m - 1) / 2) := Nat.le_trans (h.fok hm).rows (Nat.pow_le_pow_right (by decide) (by have := h.len; omega))
def spTerm : Sp := fun vs H Q _ => ∃ (d nl b : Addr) (ns : List Int) (zs : List Str) (m n : Nat), vs = [.ref d, .ref nl, .int (m : Int)] ∧ Deck H d b ns n ∧ H nl = some (.lst (zs.map V.str)) ∧ zs.length = 4 ∧ (∀ z ∈ zs, arS z = 0) ∧ 1 ≤ m ∧ m ≤ 12 ∧ n ≤ 10000 ∧ ∀ (t : Addr) (n' : Nat) (H' : Hp) (ws : List V), SameB d H H' → H' d = some (.lst [.ref b, .int (n' : Int)]) → n' ≤ n + m → H t = none → H' t = some (.tup ws) → TS zs m ws → Q (.ref t) H'
def spTurned : Sp := fun vs H Q _ => ∃ (t nl : Addr) (us : List V) (c : Int) (zs : List Str), vs = [.ref t, .int c, .ref nl] ∧ H t = some (.tup us) ∧ TS zs 12 us ∧ H nl = some (.lst (zs.map V.str)) ∧ zs.length = 4 ∧ (∀ z ∈ zs, arS z = 0) ∧ ∀ (t' : Addr) (us' : List V) (H' : Hp), Same H H' → H' t' = some (.tup us') → TS zs 60 us' → (∀ ρ, worthN ρ us' = worthN ρ us) → Q (.ref t') H'
def spMade : Sp := fun vs H Q _ => ∃ (d nl t b : Addr) (ns : List Int) (zs : List Str) (n : Nat) (ws : List V), vs = [.ref d, .ref nl, .ref t] ∧ Deck H d b ns n ∧ H nl = some (.lst (zs.map V.str)) ∧ zs.length = 4 ∧ (∀ z ∈ zs, arS z = 0) ∧ n ≤ 10000 ∧ H t = some (.tup ws) ∧ TS zs 12 ws ∧ ∀ (t' : Addr) (n' : Nat) (H' : Hp) (ws' : List V), SameB d H H' → H' d = some (.lst [.ref b, .int (n' : Int)]) → n' ≤ n + 4 → H' t' = some (.tup ws') → TS zs 12 ws' → (∀ ρ, worthN ρ ws' = worthN ρ ws) → Q (.ref t') H'
def spChanged : Sp := fun vs H Q _ => ∃ (d nl t b : Addr) (ns : List Int) (zs : List Str) (n : Nat) (ws : List V), vs = [.ref d, .ref nl, .ref t] ∧ Deck H d b ns n ∧ H nl = some (.lst (zs.map V.str)) ∧ zs.length = 4 ∧ (∀ z ∈ zs, arS z = 0) ∧ n ≤ 10000 ∧ H t = some (.tup ws) ∧ TS zs 12 ws ∧ ∀ (t' : Addr) (H' : Hp) (ws' : List V), SameB d H H' → H' d = some (.lst [.ref b, .int ((n + 1 : Nat) : Int)]) → H' t' = some (.tup ws') → TOk zs 12 ws' → Q (.ref t') H'
def spValues : Sp := fun vs H Q _ => ∃ (d nl b : Addr) (ns : List Int) (zs : List Str) (n : Nat), vs = [.ref d, .ref nl] ∧ Deck H d b ns n ∧ H nl = some (.lst (zs.map V.str)) ∧ zs.length = 4 ∧ n ≤ 20000 ∧ ∀ (a : Addr) (ρ : Str → Option Int) (H' : Hp), SameB d H H' → H' d = some (.lst [.ref b, .int ((n + 4 : Nat) : Int)]) → ValsAt H' a ρ → (∀ z ∈ zs, smallV ρ z) → Q (.ref a) H'
def spFull : Sp := fun vs H Q _ => ∃ (fd nl : Addr) (ms : List Str) (us : List Nat) (zs : List Str), vs = [.ref fd, .ref nl] ∧ H fd = some (.dK ((ms.zip us).map fun p => (Sum.inr p.1, V.int (p.2 : Int)))) ∧ ms.length = us.length ∧ ms.Nodup ∧ ms.length ≤ 20 ∧ (∀ u ∈ us, u ≤ 16) ∧ H nl = some (.lst (zs.map V.str)) ∧ zs.length = 4 ∧ ∀ (a : Addr) (ρ : Str → Option Int) (H' : Hp), Same H H' → ValsAt H' a ρ → (∀ z ∈ zs, smallV ρ z) → (∀ p ∈ ms.zip us, ρ p.1 = some (p.2 : Int)) → Q (.ref a) H'
def spTold : Sp := fun vs H Q _ => ∃ (d nl t u b : Addr) (ns : List Int) (zs : List Str) (n : Nat) (xs ys : List V) (al : Bool), vs = [.ref d, .ref nl, .ref t, .ref u, .bl al] ∧ Deck H d b ns n ∧ H nl = some (.lst (zs.map V.str)) ∧ zs.length = 4 ∧ (∀ z ∈ zs, arS z = 0) ∧ n ≤ 10000 ∧ H t = some (.tup xs) ∧ H u = some (.tup ys) ∧ TOk zs 12 xs ∧ TOk zs 12 ys ∧ (TOk zs 6 xs ∨ TOk zs 6 ys) ∧ (al = true → ∀ ρ, worthN ρ xs = worthN ρ ys) ∧ ∀ (n' : Nat) (H' : Hp), SameB d H H' → H' d = some (.lst [.ref b, .int (n' : Int)]) → n' ≤ n + 12 → Q (.bl true) H'
theorem mkTerm {d nl b : Addr} {ns : List Int} {zs : List Str} {m n : Nat} {H : Hp} {Q : VK} {E : XK} (p0 : Deck H d b ns n) (p1 : H nl = some (.lst (zs.map V.str))) (p2 : zs.length = 4) (p3 : (∀ z ∈ zs, arS z = 0)) (p4 : 1 ≤ m) (p5 : m ≤ 12) (p6 : n ≤ 10000) (p7 : ∀ (t : Addr) (n' : Nat) (H' : Hp) (ws : List V), SameB d H H' → H' d = some (.lst [.ref b, .int (n' : Int)]) → n' ≤ n + m → H t = none → H' t = some (.tup ws) → TS zs m ws → Q (.ref t) H') : spTerm [.ref d, .ref nl, .int (m : Int)] H Q E := ⟨d, nl, b, ns, zs, m, n, rfl, p0, p1, p2, p3, p4, p5, p6, p7⟩
theorem mkMade {d nl t b : Addr} {ns : List Int} {zs : List Str} {n : Nat} {ws : List V} {H : Hp} {Q : VK} {E : XK} (p0 : Deck H d b ns n) (p1 : H nl = some (.lst (zs.map V.str))) (p2 : zs.length = 4) (p3 : (∀ z ∈ zs, arS z = 0)) (p4 : n ≤ 10000) (p5 : H t = some (.tup ws)) (p6 : TS zs 12 ws) (p7 : ∀ (t' : Addr) (n' : Nat) (H' : Hp) (ws' : List V), SameB d H H' → H' d = some (.lst [.ref b, .int (n' : Int)]) → n' ≤ n + 4 → H' t' = some (.tup ws') → TS zs 12 ws' → (∀ ρ, worthN ρ ws' = worthN ρ ws) → Q (.ref t') H') : spMade [.ref d, .ref nl, .ref t] H Q E := ⟨d, nl, t, b, ns, zs, n, ws, rfl, p0, p1, p2, p3, p4, p5, p6, p7⟩
theorem mkTold {d nl t u b : Addr} {ns : List Int} {zs : List Str} {n : Nat} {xs ys : List V} {al : Bool} {H : Hp} {Q : VK} {E : XK} (p0 : Deck H d b ns n) (p1 : H nl = some (.lst (zs.map V.str))) (p2 : zs.length = 4) (p3 : (∀ z ∈ zs, arS z = 0)) (p4 : n ≤ 10000) (p5 : H t = some (.tup xs)) (p6 : H u = some (.tup ys)) (p7 : TOk zs 12 xs) (p8 : TOk zs 12 ys) (p9 : (TOk zs 6 xs ∨ TOk zs 6 ys)) (p10 : (al = true → ∀ ρ, worthN ρ xs = worthN ρ ys)) (p11 : ∀ (n' : Nat) (H' : Hp), SameB d H H' → H' d = some (.lst [.ref b, .int (n' : Int)]) → n' ≤ n + 12 → Q (.bl true) H') : spTold [.ref d, .ref nl, .ref t, .ref u, .bl al] H Q E := ⟨d, nl, t, u, b, ns, zs, n, xs, ys, al, rfl, p0, p1, p2, p3, p4, p5, p6, p7, p8, p9, p10, p11⟩
theorem mkChanged {d nl t b : Addr} {ns : List Int} {zs : List Str} {n : Nat} {ws : List V} {H : Hp} {Q : VK} {E : XK} (p0 : Deck H d b ns n) (p1 : H nl = some (.lst (zs.map V.str))) (p2 : zs.length = 4) (p3 : (∀ z ∈ zs, arS z = 0)) (p4 : n ≤ 10000) (p5 : H t = some (.tup ws)) (p6 : TS zs 12 ws) (p7 : ∀ (t' : Addr) (H' : Hp) (ws' : List V), SameB d H H' → H' d = some (.lst [.ref b, .int ((n + 1 : Nat) : Int)]) → H' t' = some (.tup ws') → TOk zs 12 ws' → Q (.ref t') H') : spChanged [.ref d, .ref nl, .ref t] H Q E := ⟨d, nl, t, b, ns, zs, n, ws, rfl, p0, p1, p2, p3, p4, p5, p6, p7⟩
theorem mkPart {a b : Addr} {f g : Form} {zs : List Str} {H : Hp} {Q : VK} {E : XK} (p0 : FormAt H a f) (p1 : FormAt H b g) (p2 : FSm (fun z => z ∈ zs) 2600 f) (p3 : FSm (fun z => z ∈ zs) 2600 g) (p4 : f.length + g.length < 64) (p5 : zs.length ≤ 8) (p6 : (f = g → ∀ H', Same H H' → Q .non H')) (p7 : (f ≠ g → ∀ (d : Addr) (ns : List Str) (us : List Nat) H', Same H H' → H d = none → H' d = some (.dK ((ns.zip us).map fun p => (Sum.inr p.1, V.int (p.2 : Int)))) → ns.length = us.length → Srt ltS ns → ns.Nodup → (∀ z, z ∈ ns ↔ ∃ p ∈ f ++ g, z ∈ p.1) → (∀ u ∈ us, u ≤ mostF (f ++ g)) →   (∀ ρ : Str → Option Int, (∀ p ∈ ns.zip us, ρ p.1 = some (p.2 : Int)) → evF ρ f ≠ evF ρ g) → Q (.ref d) H')) : spPart [.ref a, .ref b] H Q E := ⟨a, b, f, g, zs, rfl, p0, p1, p2, p3, p4, p5, p6, p7⟩
theorem mkFull {fd nl : Addr} {ms : List Str} {us : List Nat} {zs : List Str} {H : Hp} {Q : VK} {E : XK} (p0 : H fd = some (.dK ((ms.zip us).map fun p => (Sum.inr p.1, V.int (p.2 : Int))))) (p1 : ms.length = us.length) (p2 : ms.Nodup) (p3 : ms.length ≤ 20) (p4 : (∀ u ∈ us, u ≤ 16)) (p5 : H nl = some (.lst (zs.map V.str))) (p6 : zs.length = 4) (p7 : ∀ (a : Addr) (ρ : Str → Option Int) (H' : Hp), Same H H' → ValsAt H' a ρ → (∀ z ∈ zs, smallV ρ z) → (∀ p ∈ ms.zip us, ρ p.1 = some (p.2 : Int)) → Q (.ref a) H') : spFull [.ref fd, .ref nl] H Q E := ⟨fd, nl, ms, us, zs, rfl, p0, p1, p2, p3, p4, p5, p6, p7⟩
theorem mkWorth {K : PySem.W.Frag} {t a : Addr} {ws : List V} {ρ : Str → Option Int} {H : Hp} {Q : VK} {E : XK} (p0 : SqT K H t ws) (p1 : ValsAt H a ρ) (p2 : (∀ v ∈ ws, isW v ∧ hasV ρ v ∧ leafB (valW ρ v))) (p3 : isTerm ws) (p4 : ws.length ≤ 1000) (p5 : ∀ H', Same H H' → Q (.int (worthN ρ ws)) H') : (spWorth K) [.ref t, .ref a] H Q E := ⟨t, a, ws, ρ, rfl, p0, p1, p2, p3, p4, p5⟩
theorem mkFormOf {K : PySem.W.Frag} {t : Addr} {ws : List V} {S : Str → Prop} {H : Hp} {Q : VK} {E : XK} (p0 : SqT K H t ws) (p1 : (∀ v ∈ ws, wordF S v)) (p2 : isTerm ws) (p3 : ws.length ≤ 12) (p4 : ∀ b H', Same H H' → FormAt H' b (formW ws) → Q (.ref b) H') : (spFormOf K) [.ref t] H Q E := ⟨t, ws, S, rfl, p0, p1, p2, p3, p4⟩
section
variable {P : Program} {w : World} {K : PySem.W.Frag} {mg : Str → Option Value} {base : Heap} {k : Nat}
abbrev sHow : Stmt := top 5
theorem scHow : FnScope ["word"] ["word"] (defScope sHow) := ⟨rfl, rfl, rfl, by decide +kernel, rfl, by decide +kernel, by decide +kernel⟩
theorem hasHow (G : Gs w K mg) (D : Def K mg "how_many_below" sHow ["word"]) : Has P w K mg base (k + 1) "how_many_below" ["word"] spHowF := by
  refine D.has scHow (fun vs H Q E h => ?_) (fun f cdv A outer s H vs Q E hr h => ?_)
  · obtain ⟨_, rfl, _⟩ := h
    rfl
  have nd := scHow.nd
  have hu := hu_of hr
  have hu0 := Nat.lt_of_succ_lt hu
  have hu8 := hu8_of hr
  obtain ⟨v, rfl, h⟩ := h
  obtain ⟨a_PARTS_BELOW, m_PARTS_BELOW, s_PARTS_BELOW⟩ := G.m_PARTS_BELOW
  refine ⟨_, (@pss_one _ _ _ (@ps_ret _ _ _ _ (@pe_mgetF _ _ _ _ _ _ _ _ _ _ hu8 (@pe_gref _ _ _ _ m_PARTS_BELOW (by rfl) (by decide +kernel)) s_PARTS_BELOW (@pvD _ 0 _ _ (by rfl) (by first | exact Or.inl rfl | exact Or.inr (Or.inl rfl) | exact Or.inr (Or.inr rfl)) (by decide) (by decide)) (@pe_int _ _ _ _) (@M2.mk _ _ _ _ _ _ _ rfl rfl rfl rfl)))), ?_⟩
  rw [show start ["word"] [v] = [some (v)] from rfl]
  clear hu hu0 nd hr
  push_cast [tMGetF]
  rcases h with ⟨hw, q⟩ | ⟨a, xs, rfl, ha, hx, q⟩
  · obtain ⟨k', rfl⟩ := hw
    refine .inl ⟨k', rfl, ?_⟩
    show Q ((valV parts k').getD (V.int 0)) H
    rw [val_parts]
    exact q
  · exact .inr ⟨a, rfl, xs, ha, hx, q⟩
abbrev sJoinN : Stmt := top 7
theorem scJoinN : FnScope ["word", "parts"] ["word", "parts"] (defScope sJoinN) := ⟨rfl, rfl, rfl, by decide +kernel, rfl, by decide +kernel, by decide +kernel⟩
theorem hasJoinN (G : Gs w K mg) (D : Def K mg "joined_numbers" sJoinN ["word", "parts"]) : Has P w K mg base (k + 1) "joined_numbers" ["word", "parts"] spJoinN := by
  refine D.has scJoinN (fun vs H Q E h => ?_) (fun f cdv A outer s H vs Q E hr h => ?_)
  · obtain ⟨_, _, _, rfl, _, _, _, _, _⟩ := h
    rfl
  have nd := scJoinN.nd
  have hu := hu_of hr
  have hu0 := Nat.lt_of_succ_lt hu
  obtain ⟨z, pl, xs, rfl, hz, hp, hl, hb, q⟩ := h
  refine ⟨_, (@pss_cons _ _ _ _ _ (@ps_if _ _ _ _ _ _ _ _ (@pt_cmpR _ _ _ _ _ _ _ _ (@op_eq _) (@pvD _ 0 _ _ (by rfl) (by first | exact Or.inl rfl | exact Or.inr (Or.inl rfl) | exact Or.inr (Or.inr rfl)) (by decide) (by decide)) (@pe_str _ _ _ _) (@nomark _ _ (by decide) (by decide))) (@pss_one _ _ _ (@ps_ret _ _ _ _ (@pe_op _ _ _ _ _ _ _ _ (@op_add _) (@pe_ix _ _ _ _ _ _ _ (@ix_list _) (@pvD _ 1 _ _ (by rfl) (by first | exact Or.inl rfl | exact Or.inr (Or.inl rfl) | exact Or.inr (Or.inr rfl)) (by decide) (by decide)) (@pe_int _ _ _ _) (fun _ _ => rfl)) (@pe_ix _ _ _ _ _ _ _ (@ix_list _) (@pvD _ 1 _ _ (by rfl) (by first | exact Or.inl rfl | exact Or.inr (Or.inl rfl) | exact Or.inr (Or.inr rfl)) (by decide) (by decide)) (@pe_int _ _ _ _) (fun _ _ => rfl))))) (@pss_nil _)) (@pss_cons _ _ _ _ _ (@ps_if _ _ _ _ _ _ _ _ (@pt_cmpR _ _ _ _ _ _ _ _ (@op_eq _) (@pvD _ 0 _ _ (by rfl) (by first | exact Or.inl rfl | exact Or.inr (Or.inl rfl) | exact Or.inr (Or.inr rfl)) (by decide) (by decide)) (@pe_str _ _ _ _) (@nomark _ _ (by decide) (by decide))) (@pss_one _ _ _ (@ps_ret _ _ _ _ (@pe_op _ _ _ _ _ _ _ _ (@op_sub _) (@pe_ix _ _ _ _ _ _ _ (@ix_list _) (@pvD _ 1 _ _ (by rfl) (by first | exact Or.inl rfl | exact Or.inr (Or.inl rfl) | exact Or.inr (Or.inr rfl)) (by decide) (by decide)) (@pe_int _ _ _ _) (fun _ _ => rfl)) (@pe_ix _ _ _ _ _ _ _ (@ix_list _) (@pvD _ 1 _ _ (by rfl) (by first | exact Or.inl rfl | exact Or.inr (Or.inl rfl) | exact Or.inr (Or.inr rfl)) (by decide) (by decide)) (@pe_int _ _ _ _) (fun _ _ => rfl))))) (@pss_nil _)) (@pss_cons _ _ _ _ _ (@ps_if _ _ _ _ _ _ _ _ (@pt_cmpR _ _ _ _ _ _ _ _ (@op_eq _) (@pvD _ 0 _ _ (by rfl) (by first | exact Or.inl rfl | exact Or.inr (Or.inl rfl) | exact Or.inr (Or.inr rfl)) (by decide) (by decide)) (@pe_str _ _ _ _) (@nomark _ _ (by decide) (by decide))) (@pss_one _ _ _ (@ps_ret _ _ _ _ (@pe_op _ _ _ _ _ _ _ _ (@op_mulB _) (@pe_ix _ _ _ _ _ _ _ (@ix_list _) (@pvD _ 1 _ _ (by rfl) (by first | exact Or.inl rfl | exact Or.inr (Or.inl rfl) | exact Or.inr (Or.inr rfl)) (by decide) (by decide)) (@pe_int _ _ _ _) (fun _ _ => rfl)) (@pe_ix _ _ _ _ _ _ _ (@ix_list _) (@pvD _ 1 _ _ (by rfl) (by first | exact Or.inl rfl | exact Or.inr (Or.inl rfl) | exact Or.inr (Or.inr rfl)) (by decide) (by decide)) (@pe_int _ _ _ _) (fun _ _ => rfl))))) (@pss_nil _)) (@pss_one _ _ _ (@ps_ret _ _ _ _ (@pe_un _ _ _ _ _ _ (@un_neg _) (@pe_ix _ _ _ _ _ _ _ (@ix_list _) (@pvD _ 1 _ _ (by rfl) (by first | exact Or.inl rfl | exact Or.inr (Or.inl rfl) | exact Or.inr (Or.inr rfl)) (by decide) (by decide)) (@pe_int _ _ _ _) (fun _ _ => rfl)))))))), ?_⟩
  rw [show start ["word", "parts"] [.str z, .ref pl] = [some (.str z), some (.ref pl)] from rfl]
  clear hu hu0 nd hr
  push_cast [and_true]
  have two : arS z = 2 → ∃ a b, xs = [a, b] := fun h2 => by
    rw [h2] at hl
    match xs, hl with
    | [a, b], _ => exact ⟨a, b, rfl⟩
  refine ⟨rfl, ite2 (fun e => ?_) fun n1 => ⟨rfl, ite2 (fun e => ?_) fun n2 => ⟨rfl, ite2 (fun e => ?_) fun n3 => ?_⟩⟩⟩
  · obtain ⟨a, b, rfl⟩ := two (by rw [e]; decide +kernel)
    have q' : Q (.int (opN z a b)) H := q
    rw [show opN z a b = a + b from if_pos e] at q'
    exact rIxL_ok hp rfl (rIxL_ok hp rfl ⟨a, rfl, b, rfl, q'⟩)
  · obtain ⟨a, b, rfl⟩ := two (by rw [e]; decide +kernel)
    have q' : Q (.int (opN z a b)) H := q
    rw [show opN z a b = a - b by unfold opN; rw [if_neg n1, if_pos e]] at q'
    exact rIxL_ok hp rfl (rIxL_ok hp rfl ⟨a, rfl, b, rfl, q'⟩)
  · obtain ⟨a, b, rfl⟩ := two (by rw [e]; decide +kernel)
    have q' : Q (.int (opN z a b)) H := q
    rw [show opN z a b = a * b by unfold opN; rw [if_neg n1, if_neg n2, if_pos e]] at q'
    exact rIxL_ok hp rfl (rIxL_ok hp rfl ⟨a, rfl, b, rfl, ⟨hb a List.mem_cons_self, hb b (List.mem_cons_of_mem _ List.mem_cons_self)⟩, q'⟩)
  · obtain ⟨a, r, rfl⟩ : ∃ a r, xs = a :: r := List.exists_cons_of_ne_nil (by intro e; rw [e] at hl; simp at hl; omega)
    have q' : Q (.int (opN z a ((a :: r).getD 1 0))) H := q
    rw [show opN z a ((a :: r).getD 1 0) = -a by unfold opN; rw [if_neg n1, if_neg n2, if_neg n3]] at q'
    exact rIxL_ok hp (atI_nat (xs := (a :: r).map V.int) (j := 0) rfl) ⟨a, rfl, q'⟩
abbrev sGath : Stmt := top 12
theorem scGath : FnScope ["rows", "factors", "names", "factor"] ["rows"] (defScope sGath) := ⟨rfl, rfl, rfl, by decide +kernel, rfl, by decide +kernel, by decide +kernel⟩
theorem hasGath (G : Gs w K mg) (D : Def K mg "gathered" sGath ["rows"]) : Has P w K mg base (k + 1) "gathered" ["rows"] spGath := by
  refine D.has scGath (fun vs H Q E h => ?_) (fun f cdv A outer s H vs Q E hr h => ?_)
  · obtain ⟨_, _, _, rfl, _, _, _, _⟩ := h
    rfl
  have nd := scGath.nd
  have hu := hu_of hr
  have hu0 := Nat.lt_of_succ_lt hu
  have hu8 := hu8_of hr
  obtain ⟨a, rs, rows, rfl, ha, hw, hl, q⟩ := h
  have m_sorted := G.m_sorted
  have m_tuple := G.m_tuple
  refine ⟨_, (@pss_cons _ _ _ _ _ (@ps_set _ _ 1 _ _ _ _ nd rfl (by first | exact Or.inl rfl | exact Or.inr rfl) (@pe_dnewT _ _) (by rfl) (by first | exact .inl rfl | exact .inr rfl | assumption)) (@pss_cons _ _ _ _ _ (@ps_for _ _ _ _ _ _ _ _ PassesOwn.never rfl (@pi_seq _ _ _ _ (@pvD _ 0 _ _ (by rfl) (by first | exact Or.inl rfl | exact Or.inr (Or.inl rfl) | exact Or.inr (Or.inr rfl)) (by decide) (by decide))) (@pg_tup _ _ _ _ _ _ rfl (@pgs_cons _ _ _ _ _ (@pg_name _ _ 2 _ nd rfl (by first | exact Or.inl rfl | exact Or.inr rfl) (by first | exact .inl rfl | exact .inr rfl | assumption)) (@pgs_cons _ _ _ _ _ (@pg_name _ _ 3 _ nd rfl (by first | exact Or.inl rfl | exact Or.inr rfl) (by first | exact .inl rfl | exact .inr rfl | assumption)) (@pgs_nil _) (by rfl)) (by rfl)) (by rfl) (by rfl)) (@pss_one _ _ _ (@ps_dput _ _ _ _ _ _ _ _ _ hu (@pvD _ 1 _ _ (by rfl) (by first | exact Or.inl rfl | exact Or.inr (Or.inl rfl) | exact Or.inr (Or.inr rfl)) (by decide) (by decide)) (@pvD _ 2 _ _ (by rfl) (by first | exact Or.inl rfl | exact Or.inr (Or.inl rfl) | exact Or.inr (Or.inr rfl)) (by decide) (by decide)) (@pe_op _ _ _ _ _ _ _ _ (@op_add _) (@pe_bm _ _ _ _ _ _ _ _ _ _ _ _ PySem.F.plainAttrs_dict PySem.F.slot_dict_get PySem.F.type_dict_get (@mt_dget2 _ hu) (@pvD _ 1 _ _ (by rfl) (by first | exact Or.inl rfl | exact Or.inr (Or.inl rfl) | exact Or.inr (Or.inr rfl)) (by decide) (by decide)) (@pa_cons _ _ _ _ _ (@pvD _ 2 _ _ (by rfl) (by first | exact Or.inl rfl | exact Or.inr (Or.inl rfl) | exact Or.inr (Or.inr rfl)) (by decide) (by decide)) (@pa_cons _ _ _ _ _ (@pe_int _ _ _ _) (@pa_nil _) (by rfl)) (by rfl)) (by rfl) (by rfl) (by rfl) (by rfl) (by rfl)) (@pvD _ 3 _ _ (by rfl) (by first | exact Or.inl rfl | exact Or.inr (Or.inl rfl) | exact Or.inr (Or.inr rfl)) (by decide) (by decide))) rfl)) (by intro _; rfl)) (@pss_one _ _ _ (@ps_ret _ _ _ _ (@pe_callTy _ _ _ _ _ _ _ _ _ (@call_tuple_of _) rfl m_tuple b_tuple (@pa_cons _ _ _ _ _ (@pe_callB _ _ _ _ _ _ _ _ _ (@call_sortedR _) rfl m_sorted b_sorted (@pa_cons _ _ _ _ _ (@pe_thawT _ _ _ (@pe_lc _ _ _ _ _ _ _ _ _ _ _ _ _ _ _ (@ClOk.mk _ _ ["names", "factor"] [] [] _ rfl rfl rfl rfl trivial rfl trivial) rfl (@pi_items _ _ _ _ _ _ _ _ (@pvD _ 1 _ _ (by rfl) (by first | exact Or.inl rfl | exact Or.inr (Or.inl rfl) | exact Or.inr (Or.inr rfl)) (by decide) (by decide)) (by rfl) (by rfl)) (fun _ _ _ => (@pg_tup2K _ _ K rfl _ _ _ _ rfl (@pgs_cons _ _ _ _ _ (@pg_name _ _ 0 _ (show List.Nodup (["names", "factor"] : List Str) by decide +kernel) rfl (Or.inl rfl) (by first | exact .inl rfl | exact .inr rfl | assumption)) (@pgs_cons _ _ _ _ _ (@pg_name _ _ 1 _ (show List.Nodup (["names", "factor"] : List Str) by decide +kernel) rfl (Or.inl rfl) (by first | exact .inl rfl | exact .inr rfl | assumption)) (@pgs_nil _) (by rfl)) (by rfl)) (by rfl) (by rfl))) (fun _ _ _ => (@pif1 _ _ _ (@pt_cmpR _ _ _ _ _ _ _ _ (@op_ne _) (@pvD _ 1 _ _ (by rfl) (by first | exact Or.inl rfl | exact Or.inr (Or.inl rfl) | exact Or.inr (Or.inr rfl)) (by decide) (by decide)) (@pe_int _ _ _ _) (@nomark _ _ (by decide) (by decide))))) (fun _ _ _ => (@pe_tup _ _ _ _ _ (@pa_cons _ _ _ _ _ (@pvD _ 0 _ _ (by rfl) (by first | exact Or.inl rfl | exact Or.inr (Or.inl rfl) | exact Or.inr (Or.inr rfl)) (by decide) (by decide)) (@pa_cons _ _ _ _ _ (@pvD _ 1 _ _ (by rfl) (by first | exact Or.inl rfl | exact Or.inr (Or.inl rfl) | exact Or.inr (Or.inr rfl)) (by decide) (by decide)) (@pa_nil _) (by rfl)) (by rfl)))) (by intro _; rfl))) (@pa_nil _) (by rfl)) (by decide) (by decide) (by rfl) (by rfl)) (@pa_nil _) (by rfl)) (by decide) (by decide) (by rfl) (by rfl)))))), ?_⟩
  rw [show start ["rows", "factors", "names", "factor"] [.ref a] = [some (.ref a), none, none, none] from rfl]
  clear hu hu0 nd hr
  push_cast [and_true]
  have sz := sizeLine_eq
  push_cast [tDNewT, iSeq]
  intro d hd
  have ha' : upd H d (.dT []) a = some (.lst rs) ∨ upd H d (.dT []) a = some (.tup rs) := by
    rcases ha with h | h
    · exact .inl (same_new hd _ _ _ h)
    · exact .inr (same_new hd _ _ _ h)
  have nad : a ≠ d := by
    rcases ha with h | h
    · exact ne_of_none h hd
    · exact ne_of_none h hd
  have lrs : rs.length = rows.length := hw.1
  refine forW_seq ha' (fun i σ H' => ∃ v2 v3, σ = [some (.ref a), some (.ref d), v2, v3] ∧ Same H H' ∧ H' d = some (.dT (trK (Fm.gathI (rows.take i))))) ⟨none, none, rfl, same_new hd _, upd_same⟩ (fun i σ H' _ h o ho => ?_) ?_ ?_
  · obtain ⟨_, _, _, s1, _⟩ := h
    rw [upd_ne nad] at ho
    exact s1 _ _ ho
  · rintro i x σ H' hx ⟨v2, v3, rfl, s1, hD⟩
    have hi : i < rows.length := by rw [← lrs]; exact (List.getElem?_eq_some_iff.mp hx).1
    obtain ⟨t, m, r1, r2, r3⟩ := hw.2 i rows[i].1 rows[i].2 (List.getElem?_eq_getElem hi)
    rw [hx] at r1
    cases r1
    push_cast [gTup, gCons, gNil, rDGet2]
    have hm := s1 _ _ r3
    have hm' : H' m = some (.tup ((rows[i].1.map (Sum.inr : Str → Key)).map kV)) := by rw [kV_strs]; exact hm
    have nd : ((Fm.gathI (rows.take i)).map (·.1)).Nodup := (Fm.foldI (rows.take i) [] List.nodup_nil).1
    have gl := Fm.gathI_len (rows.take i)
    rw [List.length_take] at gl
    have tl : (trK (Fm.gathI (rows.take i))).length = (Fm.gathI (rows.take i)).length := List.length_map _
    have tv := trK_val rows[i].1 (show ((Fm.gathI (rows.take i)).map (·.1)).Nodup from nd)
    have g0 : DGet H' d (.ref m) (valV (trK (Fm.gathI (rows.take i))) (rows[i].1.map Sum.inr)) := DGet.t hD hm'
    refine ⟨_, SqT.of (s1 _ _ r2), rfl, _, _, rfl, _, _, rfl, rfl, tyV_dictT hD, _, g0, _, tv, _, rfl, _, DPut.t hD hm' (by rw [tl]; omega), s1.upd hd _, ?_⟩
    rw [upd_same, trK_put rows[i].1 rows[i].2 nd, List.take_add_one, List.getElem?_eq_getElem hi]
    show some (HO.dT (trK (Fm.addI (Fm.gathI (rows.take i)) rows[i].1 rows[i].2))) = some (HO.dT (trK (Fm.gathI (rows.take i ++ [rows[i]]))))
    rw [Fm.gathI_snoc]
  · rintro σ H' ⟨v2, v3, rfl, s1, hD⟩
    rw [lrs, List.take_length] at hD
    push_cast [tThawT, iItems]
    have nd' : ((Fm.gathI rows).map (·.1)).Nodup := (Fm.foldI rows [] List.nodup_nil).1
    have gl := Fm.gathI_len rows
    refine ⟨d, trK (Fm.gathI rows), hD, trK (Fm.gathI rows), hD, fun o D' hDn => lc_items (fun i ys H1 => RowsF H1 ys (((Fm.gathI rows).take i).filter fun p => decide (p.2 ≠ 0))) (fun i ys H1 H2 k' h => h.keep k') upd_same (by omega) hDn (RowsF.nil _) (fun i n c m ys H1 G' K' hi hm hP hl2 hS hG hK => ?_) fun ys H2 hP hl2 hS hD2 => ?_⟩
    · push_cast [and_true]
      refine ⟨rfl, ?_⟩
      have et : ((Fm.gathI rows).take (i + 1)).filter (fun p => decide (p.2 ≠ 0)) = ((Fm.gathI rows).take i).filter (fun p => decide (p.2 ≠ 0)) ++ [(n, c)].filter (fun p => decide (p.2 ≠ 0)) := by
        rw [List.take_add_one, hi, List.filter_append]
        rfl
      by_cases c0 : c = 0
      · subst c0
        rw [if_neg (by decide)]
        refine hG _ (Same.refl _) ?_
        rw [et, show [(n, (0 : Int))].filter (fun p => decide (p.2 ≠ 0)) = [] from rfl, List.append_nil]
        exact hP
      · rw [if_pos (by rw [decide_eq_false c0]; rfl)]
        refine ⟨by show (2 : Nat) ≤ sizeLine; decide, fun p hp => hK _ _ (same_new hp _) ?_⟩
        rw [et, show [(n, c)].filter (fun p => decide (p.2 ≠ 0)) = [(n, c)] by rw [List.filter_cons, if_pos (decide_eq_true c0)]; rfl]
        exact (hP.keep (TK.of (same_new hp _))).app (RowsF.one upd_same (same_new hp _ _ _ hm))
    · rw [List.take_length] at hP
      generalize ef : (Fm.gathI rows).filter (fun p => decide (p.2 ≠ 0)) = f0 at hP
      have ndf : (f0.map (·.1)).Nodup := by
        rw [← ef]
        exact List.Nodup.sublist (List.Sublist.map _ List.filter_sublist) nd'
      have lf : f0.length ≤ rows.length := by
        rw [← ef]
        exact Nat.le_trans (List.length_filter_le _ _) gl
      have hz2 : H2 d = some (.frz o (.dT (trK (Fm.gathI rows)))) := hS _ _ upd_same
      have nDd : D' ≠ d := fun e => by
        rw [e, upd_same] at hDn
        cases hDn
      have hP3 : RowsF (upd H2 d (.dT (trK (Fm.gathI rows)))) ys f0 := hP.keep (TK.put hz2 fun xs e => by cases e)
      have ly := hP.1
      refine ⟨⟨o, hz2⟩, ys, .inl (SqL.of (by rw [upd_ne nDd]; exact hD2)), by omega, _, ords_rows hP3.at ndf (Nat.lt_of_le_of_lt (Nat.add_le_add_left (by decide : 2 ≤ 8) _) hu8) (Nat.lt_of_le_of_lt (Nat.add_le_add_left (by decide : 3 ≤ 8) _) hu8), fun l is hp hi hl3 => ⟨_, .inl ⟨SqL.of upd_same, fun l1 hl1 => ?_⟩⟩⟩
      rw [ly] at hp hi
      have hin : ∀ i ∈ is, i < f0.length := fun i h => List.mem_range.mp (hp.mem_iff.mp h)
      obtain ⟨k1, k2⟩ := sorted_form hp hi
      have ge := Fm.gath_eq linX (Fm.gath_of linX (rows := rows) (by rw [ef]; exact k1) k2)
      refine q l1 _ (((s1.trans (same_thaw hD hS)).trans (same_new hl3 _)).trans (same_new hl1 _)) ⟨_, upd_same, ?_⟩
      rw [← ge]
      exact (hP3.pick hin).keep (TK.of ((same_new hl3 _).trans (same_new hl1 _)))
abbrev sPlus : Stmt := top 13
theorem scPlus : FnScope ["one", "other"] ["one", "other"] (defScope sPlus) := ⟨rfl, rfl, rfl, by decide +kernel, rfl, by decide +kernel, by decide +kernel⟩
theorem hasPlus (G : Gs w K mg) (h_gathered : Has P w K mg base k "gathered" ["rows"] spGath) (D : Def K mg "plus" sPlus ["one", "other"]) : Has P w K mg base (k + 1) "plus" ["one", "other"] spPlus := by
  refine D.has scPlus (fun vs H Q E h => ?_) (fun f cdv A outer s H vs Q E hr h => ?_)
  · obtain ⟨_, _, _, _, rfl, _, _, _, _⟩ := h
    rfl
  have nd := scPlus.nd
  have hu := hu_of hr
  have hu0 := Nat.lt_of_succ_lt hu
  obtain ⟨a, b, f, g, rfl, ha, hb, hl, q⟩ := h
  refine ⟨_, (@pss_one _ _ _ (@ps_ret _ _ _ _ (@pe_has _ _ _ _ _ _ _ _ _ _ h_gathered hr (@pa_cons _ _ _ _ _ (@pe_op _ _ _ _ _ _ _ _ (@op_catU _) (@pvD _ 0 _ _ (by rfl) (by first | exact Or.inl rfl | exact Or.inr (Or.inl rfl) | exact Or.inr (Or.inr rfl)) (by decide) (by decide)) (@pvD _ 1 _ _ (by rfl) (by first | exact Or.inl rfl | exact Or.inr (Or.inl rfl) | exact Or.inr (Or.inr rfl)) (by decide) (by decide))) (@pa_nil _) (by rfl)) (by rfl) (by decide +kernel) (by rfl) (by rfl)))), ?_⟩
  rw [show start ["one", "other"] [.ref a, .ref b] = [some (.ref a), some (.ref b)] from rfl]
  clear hu hu0 nd hr
  push_cast [spGath]
  have sz := sizeLine_eq
  obtain ⟨ra, a1, a2⟩ := ha
  obtain ⟨rb, b1, b2⟩ := hb
  have la := a2.1
  have lb := b2.1
  exact rCatU_ok a1 b1 (by omega) fun p H1 s1 h1 => ⟨p, rfl, _, .inr h1, f ++ g, (a2.keep (TK.of s1)).app (b2.keep (TK.of s1)), by rw [List.length_append]; exact hl, fun c H' s2 hc => q c H' (s1.trans s2) hc⟩
abbrev sMinus : Stmt := top 14
theorem scMinus : FnScope ["one", "other"] ["one", "other"] (defScope sMinus) := ⟨rfl, rfl, rfl, by decide +kernel, rfl, by decide +kernel, by decide +kernel⟩
theorem hasMinus (G : Gs w K mg) (h_gathered : Has P w K mg base k "gathered" ["rows"] spGath) (D : Def K mg "minus" sMinus ["one", "other"]) : Has P w K mg base (k + 1) "minus" ["one", "other"] spMinus := by
  refine D.has scMinus (fun vs H Q E h => ?_) (fun f cdv A outer s H vs Q E hr h => ?_)
  · obtain ⟨_, _, _, _, rfl, _, _, _, _⟩ := h
    rfl
  have nd := scMinus.nd
  have hu := hu_of hr
  have hu0 := Nat.lt_of_succ_lt hu
  obtain ⟨a, b, f, g, rfl, ha, hb, hl, q⟩ := h
  have m_tuple := G.m_tuple
  refine ⟨_, (@pss_one _ _ _ (@ps_ret _ _ _ _ (@pe_has _ _ _ _ _ _ _ _ _ _ h_gathered hr (@pa_cons _ _ _ _ _ (@pe_op _ _ _ _ _ _ _ _ (@op_catU _) (@pvD _ 0 _ _ (by rfl) (by first | exact Or.inl rfl | exact Or.inr (Or.inl rfl) | exact Or.inr (Or.inr rfl)) (by decide) (by decide)) (@pe_callTy _ _ _ _ _ _ _ _ _ (@call_tuple_of _) rfl m_tuple b_tuple (@pa_cons _ _ _ _ _ (@pe_lc _ _ _ _ _ _ _ _ _ _ _ _ _ _ _ (@ClOk.mk _ _ ["names", "factor"] [] [] _ rfl rfl rfl rfl trivial rfl trivial) rfl (@pi_tup _ _ _ _ (@pvD _ 1 _ _ (by rfl) (by first | exact Or.inl rfl | exact Or.inr (Or.inl rfl) | exact Or.inr (Or.inr rfl)) (by decide) (by decide))) (fun _ _ _ => (@pg_tup2K _ _ K rfl _ _ _ _ rfl (@pgs_cons _ _ _ _ _ (@pg_name _ _ 0 _ (show List.Nodup (["names", "factor"] : List Str) by decide +kernel) rfl (Or.inl rfl) (by first | exact .inl rfl | exact .inr rfl | assumption)) (@pgs_cons _ _ _ _ _ (@pg_name _ _ 1 _ (show List.Nodup (["names", "factor"] : List Str) by decide +kernel) rfl (Or.inl rfl) (by first | exact .inl rfl | exact .inr rfl | assumption)) (@pgs_nil _) (by rfl)) (by rfl)) (by rfl) (by rfl))) (fun _ _ _ => (@pif0 _)) (fun _ _ _ => (@pe_tup _ _ _ _ _ (@pa_cons _ _ _ _ _ (@pvD _ 0 _ _ (by rfl) (by first | exact Or.inl rfl | exact Or.inr (Or.inl rfl) | exact Or.inr (Or.inr rfl)) (by decide) (by decide)) (@pa_cons _ _ _ _ _ (@pe_un _ _ _ _ _ _ (@un_neg _) (@pvD _ 1 _ _ (by rfl) (by first | exact Or.inl rfl | exact Or.inr (Or.inl rfl) | exact Or.inr (Or.inr rfl)) (by decide) (by decide))) (@pa_nil _) (by rfl)) (by rfl)))) (by intro _; rfl)) (@pa_nil _) (by rfl)) (by decide) (by decide) (by rfl) (by rfl))) (@pa_nil _) (by rfl)) (by rfl) (by decide +kernel) (by rfl) (by rfl)))), ?_⟩
  rw [show start ["one", "other"] [.ref a, .ref b] = [some (.ref a), some (.ref b)] from rfl]
  clear hu hu0 nd hr
  push_cast [spGath]
  have sz := sizeLine_eq
  obtain ⟨ra, a1, a2⟩ := ha
  obtain ⟨rb, b1, b2⟩ := id hb
  have la := a2.1
  have ln : (negF g).length = g.length := List.length_map _
  refine ⟨⟨rb, SqT.of b1⟩, fun D hD => lc_form (fun i ys H' => RowsF H' ys ((negF g).take i)) (fun i ys H1 H2 k h => h.keep k) hb (by omega) hD (RowsF.nil _) (fun i n c m ys H1 G' K' hi hm hP hl2 hS hG hK => ?_) fun ys H2 hP hl2 hS hD2 => ?_⟩
  · push_cast [and_true]
    refine ⟨by show (2 : Nat) ≤ sizeLine; decide, fun p hp => hK _ _ (same_new hp _) ?_⟩
    have e : (negF g)[i]? = some (n, -c) := by
      unfold negF
      rw [List.getElem?_map, hi]
      rfl
    rw [List.take_add_one, e]
    exact (hP.keep (TK.of (same_new hp _))).app (RowsF.one upd_same (same_new hp _ _ _ hm))
  · have hP : RowsF H2 ys (negF g) := by
      rw [← ln, List.take_length] at hP
      exact hP
    have ly := hP.1
    refine ⟨ys, .inl ⟨SqL.of hD2, fun l hl3 => rCatU_ok (same_new hl3 _ _ _ (hS _ _ a1)) upd_same (by omega) fun p H3 s3 h3 => ⟨p, rfl, _, .inr h3, f ++ negF g, ?_, by rw [List.length_append]; omega, fun c H4 s4 hc => q c H4 (((hS.trans (same_new hl3 _)).trans s3).trans s4) hc⟩⟩⟩
    exact (a2.keep (TK.of ((hS.trans (same_new hl3 _)).trans s3))).app (hP.keep (TK.of ((same_new hl3 _).trans s3)))
abbrev sTimes : Stmt := top 15
theorem scTimes : FnScope ["one", "other", "rows", "names", "factor", "more_names", "more"] ["one", "other"] (defScope sTimes) := ⟨rfl, rfl, rfl, by decide +kernel, rfl, by decide +kernel, by decide +kernel⟩
theorem hasTimes (G : Gs w K mg) (h_gathered : Has P w K mg base k "gathered" ["rows"] spGath) (D : Def K mg "times" sTimes ["one", "other"]) : Has P w K mg base (k + 1) "times" ["one", "other"] spTimes := by
  refine D.has scTimes (fun vs H Q E h => ?_) (fun f cdv A outer s H vs Q E hr h => ?_)
  · obtain ⟨_, _, _, _, rfl, _, _, _, _, _, _, _, _⟩ := h
    rfl
  have nd := scTimes.nd
  have hu := hu_of hr
  have hu0 := Nat.lt_of_succ_lt hu
  have hu8 := hu8_of hr
  obtain ⟨a, b, f, g, rfl, ha, hb, hl, hf, hg, bf, bg, q⟩ := h
  have m_sorted := G.m_sorted
  have m_tuple := G.m_tuple
  refine ⟨_, (@pss_cons _ _ _ _ _ (@ps_set _ _ 2 _ _ _ _ nd rfl (by first | exact Or.inl rfl | exact Or.inr rfl) (@pe_lst _ _ _ _ (@pa_nil _)) (by rfl) (by first | exact .inl rfl | exact .inr rfl | assumption)) (@pss_cons _ _ _ _ _ (@ps_for _ _ _ _ _ _ _ _ PassesOwn.never rfl (@pi_tup _ _ _ _ (@pvD _ 0 _ _ (by rfl) (by first | exact Or.inl rfl | exact Or.inr (Or.inl rfl) | exact Or.inr (Or.inr rfl)) (by decide) (by decide))) (@pg_tup _ _ _ _ _ _ rfl (@pgs_cons _ _ _ _ _ (@pg_name _ _ 3 _ nd rfl (by first | exact Or.inl rfl | exact Or.inr rfl) (by first | exact .inl rfl | exact .inr rfl | assumption)) (@pgs_cons _ _ _ _ _ (@pg_name _ _ 4 _ nd rfl (by first | exact Or.inl rfl | exact Or.inr rfl) (by first | exact .inl rfl | exact .inr rfl | assumption)) (@pgs_nil _) (by rfl)) (by rfl)) (by rfl) (by rfl)) (@pss_one _ _ _ (@ps_for _ _ _ _ _ _ _ _ PassesOwn.never rfl (@pi_tup _ _ _ _ (@pvD _ 1 _ _ (by rfl) (by first | exact Or.inl rfl | exact Or.inr (Or.inl rfl) | exact Or.inr (Or.inr rfl)) (by decide) (by decide))) (@pg_tup _ _ _ _ _ _ rfl (@pgs_cons _ _ _ _ _ (@pg_name _ _ 5 _ nd rfl (by first | exact Or.inl rfl | exact Or.inr rfl) (by first | exact .inl rfl | exact .inr rfl | assumption)) (@pgs_cons _ _ _ _ _ (@pg_name _ _ 6 _ nd rfl (by first | exact Or.inl rfl | exact Or.inr rfl) (by first | exact .inl rfl | exact .inr rfl | assumption)) (@pgs_nil _) (by rfl)) (by rfl)) (by rfl) (by rfl)) (@pss_one _ _ _ (@ps_expr _ _ _ _ (@pe_bm _ _ _ _ _ _ _ _ _ _ _ _ PySem.F.plainAttrs_list PySem.F.slot_list_append PySem.F.type_list_append (@mt_append _) (@pvD _ 2 _ _ (by rfl) (by first | exact Or.inl rfl | exact Or.inr (Or.inl rfl) | exact Or.inr (Or.inr rfl)) (by decide) (by decide)) (@pa_cons _ _ _ _ _ (@pe_tup _ _ _ _ _ (@pa_cons _ _ _ _ _ (@pe_callTy _ _ _ _ _ _ _ _ _ (@call_tuple_of _) rfl m_tuple b_tuple (@pa_cons _ _ _ _ _ (@pe_callB _ _ _ _ _ _ _ _ _ (@call_sortedR _) rfl m_sorted b_sorted (@pa_cons _ _ _ _ _ (@pe_op _ _ _ _ _ _ _ _ (@op_catU _) (@pvD _ 3 _ _ (by rfl) (by first | exact Or.inl rfl | exact Or.inr (Or.inl rfl) | exact Or.inr (Or.inr rfl)) (by decide) (by decide)) (@pvD _ 5 _ _ (by rfl) (by first | exact Or.inl rfl | exact Or.inr (Or.inl rfl) | exact Or.inr (Or.inr rfl)) (by decide) (by decide))) (@pa_nil _) (by rfl)) (by decide) (by decide) (by rfl) (by rfl)) (@pa_nil _) (by rfl)) (by decide) (by decide) (by rfl) (by rfl)) (@pa_cons _ _ _ _ _ (@pe_op _ _ _ _ _ _ _ _ (@op_mulB _) (@pvD _ 4 _ _ (by rfl) (by first | exact Or.inl rfl | exact Or.inr (Or.inl rfl) | exact Or.inr (Or.inr rfl)) (by decide) (by decide)) (@pvD _ 6 _ _ (by rfl) (by first | exact Or.inl rfl | exact Or.inr (Or.inl rfl) | exact Or.inr (Or.inr rfl)) (by decide) (by decide))) (@pa_nil _) (by rfl)) (by rfl))) (@pa_nil _) (by rfl)) (by rfl) (by rfl) (by rfl) (by rfl) (by rfl)) (by rfl))) (by intro _; rfl))) (by intro _; rfl)) (@pss_one _ _ _ (@ps_ret _ _ _ _ (@pe_has _ _ _ _ _ _ _ _ _ _ h_gathered hr (@pa_cons _ _ _ _ _ (@pvD _ 2 _ _ (by rfl) (by first | exact Or.inl rfl | exact Or.inr (Or.inl rfl) | exact Or.inr (Or.inr rfl)) (by decide) (by decide)) (@pa_nil _) (by rfl)) (by rfl) (by decide +kernel) (by rfl) (by rfl)))))), ?_⟩
  rw [show start ["one", "other", "rows", "names", "factor", "more_names", "more"] [.ref a, .ref b] = [some (.ref a), some (.ref b), none, none, none, none, none] from rfl]
  clear hu hu0 nd hr
  push_cast [spGath]
  have sz := sizeLine_eq
  obtain ⟨ra, a1, a2⟩ := ha
  obtain ⟨rb, b1, b2⟩ := hb
  have la := a2.1
  have lb := b2.1
  refine ⟨Nat.zero_le _, fun p hp => ⟨⟨ra, SqT.of (same_new hp _ _ _ a1)⟩, forW_tup (xs := ra) (fun i σ H' => ∃ (v3 v4 v5 v6 : Option V) (ys : List V), σ = [some (.ref a), some (.ref b), some (.ref p), v3, v4, v5, v6] ∧ Same H H' ∧ H' p = some (.lst ys) ∧ RowsF H' ys (Fm.prod jS (f.take i) g)) ⟨none, none, none, none, [], rfl, same_new hp _, upd_same, RowsF.nil _⟩ (fun i σ H' _ h => ?_) ?_ ?_⟩⟩
  · obtain ⟨_, _, _, _, _, _, s1, _⟩ := h
    exact SqT.of (s1 _ _ a1)
  · rintro i x σ H' hx ⟨v3, v4, v5, v6, ys, rfl, s1, hy, hY⟩
    have hi : i < f.length := by rw [← la]; exact (List.getElem?_eq_some_iff.mp hx).1
    have hfi : f[i]? = some (f[i].1, f[i].2) := List.getElem?_eq_getElem hi
    obtain ⟨t, m, r1, r2, r3⟩ := a2.2 i f[i].1 f[i].2 hfi
    rw [hx] at r1
    cases r1
    obtain ⟨bf1, bf2⟩ := bf f[i] (List.getElem_mem hi)
    push_cast [gTup, gCons, gNil]
    refine ⟨_, SqT.of (s1 _ _ r2), rfl, _, _, rfl, _, _, rfl, rfl, ⟨rb, SqT.of (s1 _ _ b1)⟩, ?_⟩
    refine forW_tup (xs := rb) (fun j σ H1 => ∃ (v5 v6 : Option V) (ys : List V), σ = [some (.ref a), some (.ref b), some (.ref p), some (.ref m), some (.int f[i].2), v5, v6] ∧ Same H H1 ∧ H1 p = some (.lst ys) ∧ RowsF H1 ys (Fm.prod jS (f.take i) g ++ (g.take j).map fun q => (jS f[i].1 q.1, f[i].2 * q.2))) ⟨v5, v6, ys, rfl, s1, hy, by rw [List.take_zero, List.map_nil, List.append_nil]; exact hY⟩ (fun j σ H1 _ h => ?_) ?_ ?_
    · obtain ⟨_, _, _, _, s2, _⟩ := h
      exact SqT.of (s2 _ _ b1)
    · rintro j x σ H1 hx2 ⟨v5, v6, ys, rfl, s2, hy2, hY2⟩
      have hj : j < g.length := by rw [← lb]; exact (List.getElem?_eq_some_iff.mp hx2).1
      have hgj : g[j]? = some (g[j].1, g[j].2) := List.getElem?_eq_getElem hj
      obtain ⟨t2, m2, u1, u2, u3⟩ := b2.2 j g[j].1 g[j].2 hgj
      rw [hx2] at u1
      cases u1
      obtain ⟨bg1, bg2⟩ := bg g[j] (List.getElem_mem hj)
      push_cast [gTup, gCons, gNil]
      refine ⟨_, SqT.of (s2 _ _ u2), rfl, _, _, rfl, _, _, rfl, rfl, tyV_list hy2, ?_⟩
      have ll : (f[i].1.map V.str).length = f[i].1.length := List.length_map _
      have lg : (g[j].1.map V.str).length = g[j].1.length := List.length_map _
      refine rCatU_ok (s2 _ _ r3) (s2 _ _ u3) (by omega) fun pc H3 s3 h3 => ⟨pc, rfl, (f[i].1 ++ g[j].1).map V.str, .inr (SqT.of (by rw [h3, List.map_append])), by rw [List.length_map, List.length_append]; omega, _, ords_str, fun l is hpm hin hl3 => ⟨_, .inl ⟨SqL.of upd_same, fun l1 hl1 => ⟨g[j].2, rfl, ⟨bf2, bg2⟩, by show (2 : Nat) ≤ sizeLine; decide, fun p2 hp2 => ?_⟩⟩⟩⟩
      rw [sorted_names hpm hin] at hl1 hp2 ⊢
      have sA : Same H1 (upd H3 l (.lst ((sortS (f[i].1 ++ g[j].1)).map V.str))) := s3.trans (same_new hl3 _)
      have sB := (sA.trans (same_new hl1 (.tup ((sortS (f[i].1 ++ g[j].1)).map V.str)))).trans (same_new hp2 (.tup [.ref l1, .int (f[i].2 * g[j].2)]))
      have ly : ys.length < sizeLine := by
        rw [hY2.1, List.length_append, prod_len, List.length_map, List.length_take, List.length_take]
        have : min i f.length * g.length ≤ 64 * 64 := Nat.mul_le_mul (by omega) (by omega)
        omega
      have h4 := sB _ _ hy2
      refine (append_ok (K := K) h4 ly ⟨(s2.trans sB).upd hp _, _, upd_same, ?_⟩).2
      rw [List.take_add_one, hgj, List.map_append, ← List.append_assoc]
      have tk := TK.put (o' := .lst (ys ++ [.ref p2])) h4 fun xs e => by cases e
      exact ((hY2.keep (TK.of sB)).app (RowsF.one upd_same (same_new hp2 _ _ _ upd_same))).keep tk
    · rintro σ H1 ⟨v5, v6, ys, rfl, s2, hy2, hY2⟩
      rw [lb, List.take_length, ← prod_step hfi] at hY2
      exact ⟨⟨_, _, _, _, rfl⟩, s2, ys, hy2, hY2⟩
  · rintro σ H' ⟨v3, v4, v5, v6, ys, rfl, s1, hy, hY⟩
    rw [la, List.take_length] at hY
    push_cast [spGath]
    exact ⟨ys, .inl hy, Fm.prod jS f g, hY, by rw [prod_len]; exact hl, fun c H1 s2 hc => q c H1 (s1.trans s2) hc⟩
abbrev sLeaf : Stmt := top 16
theorem scLeaf : FnScope ["word"] ["word"] (defScope sLeaf) := ⟨rfl, rfl, rfl, by decide +kernel, rfl, by decide +kernel, by decide +kernel⟩
theorem hasLeaf (G : Gs w K mg) (h_gathered : Has P w K mg base k "gathered" ["rows"] spGath) (h_how_many_below : Has P w K mg base k "how_many_below" ["word"] spHowF) (D : Def K mg "leaf_form" sLeaf ["word"]) : Has P w K mg base (k + 1) "leaf_form" ["word"] spLeaf := by
  refine D.has scLeaf (fun vs H Q E h => ?_) (fun f cdv A outer s H vs Q E hr h => ?_)
  · obtain ⟨_, rfl, _, _, _⟩ := h
    rfl
  have nd := scLeaf.nd
  have hu := hu_of hr
  have hu0 := Nat.lt_of_succ_lt hu
  obtain ⟨v, rfl, hv, q1, q2⟩ := h
  have m_isinstance := G.m_isinstance
  have m_str := G.m_str
  refine ⟨_, (@pss_cons _ _ _ _ _ (@ps_if _ _ _ _ _ _ _ _ (@pt_cmpR _ _ _ _ _ _ _ _ (@op_gt _) (@pe_has _ _ _ _ _ _ _ _ _ _ h_how_many_below hr (@pa_cons _ _ _ _ _ (@pvD _ 0 _ _ (by rfl) (by first | exact Or.inl rfl | exact Or.inr (Or.inl rfl) | exact Or.inr (Or.inr rfl)) (by decide) (by decide)) (@pa_nil _) (by rfl)) (by rfl) (by decide +kernel) (by rfl) (by rfl)) (@pe_int _ _ _ _) (@nomark _ _ (by decide) (by decide))) (@pss_one _ _ _ (@ps_ret _ _ _ _ (@pvD _ 0 _ _ (by rfl) (by first | exact Or.inl rfl | exact Or.inr (Or.inl rfl) | exact Or.inr (Or.inr rfl)) (by decide) (by decide)))) (@pss_nil _)) (@pss_cons _ _ _ _ _ (@ps_if _ _ _ _ _ _ _ _ (@pt_val _ _ _ (@pe_callB _ _ _ _ _ _ _ _ _ (@call_isinst _) rfl m_isinstance b_isinstance (@pa_cons _ _ _ _ _ (@pvD _ 0 _ _ (by rfl) (by first | exact Or.inl rfl | exact Or.inr (Or.inl rfl) | exact Or.inr (Or.inr rfl)) (by decide) (by decide)) (@pa_cons _ _ _ _ _ (@pe_gty _ _ _ _ m_str b_str (by rfl) (by decide +kernel) (by decide +kernel)) (@pa_nil _) (by rfl)) (by rfl)) (by decide) (by decide) (by rfl) (by rfl)) (by intro _; rfl)) (@pss_one _ _ _ (@ps_ret _ _ _ _ (@pe_tup _ _ _ _ _ (@pa_cons _ _ _ _ _ (@pe_tup _ _ _ _ _ (@pa_cons _ _ _ _ _ (@pe_tup _ _ _ _ _ (@pa_cons _ _ _ _ _ (@pvD _ 0 _ _ (by rfl) (by first | exact Or.inl rfl | exact Or.inr (Or.inl rfl) | exact Or.inr (Or.inr rfl)) (by decide) (by decide)) (@pa_nil _) (by rfl))) (@pa_cons _ _ _ _ _ (@pe_int _ _ _ _) (@pa_nil _) (by rfl)) (by rfl))) (@pa_nil _) (by rfl))))) (@pss_nil _)) (@pss_one _ _ _ (@ps_ret _ _ _ _ (@pe_has _ _ _ _ _ _ _ _ _ _ h_gathered hr (@pa_cons _ _ _ _ _ (@pe_lst _ _ _ _ (@pa_cons _ _ _ _ _ (@pe_tup _ _ _ _ _ (@pa_cons _ _ _ _ _ (@pe_tup _ _ _ _ _ (@pa_nil _)) (@pa_cons _ _ _ _ _ (@pvD _ 0 _ _ (by rfl) (by first | exact Or.inl rfl | exact Or.inr (Or.inl rfl) | exact Or.inr (Or.inr rfl)) (by decide) (by decide)) (@pa_nil _) (by rfl)) (by rfl))) (@pa_nil _) (by rfl))) (@pa_nil _) (by rfl)) (by rfl) (by decide +kernel) (by rfl) (by rfl)))))), ?_⟩
  rw [show start ["word"] [v] = [some (v)] from rfl]
  clear hu hu0 nd hr
  push_cast [spGath, spHowF]
  refine .inl ⟨hv, ite2 (fun h => q1 (by omega)) fun h => ?_⟩
  have h0 : arV v = 0 := by omega
  obtain ⟨k', rfl⟩ := hv
  cases k' with
  | inl n =>
    refine ⟨_, .int n, false, rfl, iteF ⟨Nat.zero_le _, fun p hp => ⟨by show (2 : Nat) ≤ sizeLine; decide, fun p1 hp1 => ⟨by show (1 : Nat) ≤ sizeLine; decide, fun p2 hp2 => ⟨_, .inl upd_same, [([], n)], RowsF.one (same_new hp2 _ _ _ upd_same) (same_new hp2 _ _ _ (same_new hp1 _ _ _ upd_same)), by show (1 : Nat) < 64; decide, fun b H' s1 hb => q2 h0 b H' (((same_new hp _).trans (same_new hp1 _)).trans ((same_new hp2 _).trans s1)) hb⟩⟩⟩⟩⟩
  | inr z =>
    refine ⟨_, .str z, true, rfl, iteT ⟨by show (1 : Nat) ≤ sizeLine; decide, fun p hp => ⟨by show (2 : Nat) ≤ sizeLine; decide, fun p1 hp1 => ⟨by show (1 : Nat) ≤ sizeLine; decide, fun p2 hp2 => ?_⟩⟩⟩⟩
    exact q2 h0 p2 _ (((same_new hp _).trans (same_new hp1 _)).trans (same_new hp2 _)) ⟨_, upd_same, RowsF.one (same_new hp2 _ _ _ upd_same) (same_new hp2 _ _ _ (same_new hp1 _ _ _ upd_same))⟩
abbrev sJoinF : Stmt := top 17
theorem scJoinF : FnScope ["word", "parts"] ["word", "parts"] (defScope sJoinF) := ⟨rfl, rfl, rfl, by decide +kernel, rfl, by decide +kernel, by decide +kernel⟩
theorem hasJoinF (G : Gs w K mg) (h_minus : Has P w K mg base k "minus" ["one", "other"] spMinus) (h_plus : Has P w K mg base k "plus" ["one", "other"] spPlus) (h_times : Has P w K mg base k "times" ["one", "other"] spTimes) (D : Def K mg "joined_forms" sJoinF ["word", "parts"]) : Has P w K mg base (k + 1) "joined_forms" ["word", "parts"] spJoinF := by
  refine D.has scJoinF (fun vs H Q E h => ?_) (fun f cdv A outer s H vs Q E hr h => ?_)
  · obtain ⟨_, _, _, _, rfl, _, _, _, _, _, _⟩ := h
    rfl
  have nd := scJoinF.nd
  have hu := hu_of hr
  have hu0 := Nat.lt_of_succ_lt hu
  obtain ⟨z, pl, rs, fs, rfl, hz, hp, hF, hl, hb, q⟩ := h
  refine ⟨_, (@pss_cons _ _ _ _ _ (@ps_if _ _ _ _ _ _ _ _ (@pt_cmpR _ _ _ _ _ _ _ _ (@op_eq _) (@pvD _ 0 _ _ (by rfl) (by first | exact Or.inl rfl | exact Or.inr (Or.inl rfl) | exact Or.inr (Or.inr rfl)) (by decide) (by decide)) (@pe_str _ _ _ _) (@nomark _ _ (by decide) (by decide))) (@pss_one _ _ _ (@ps_ret _ _ _ _ (@pe_has _ _ _ _ _ _ _ _ _ _ h_plus hr (@pa_cons _ _ _ _ _ (@pe_ix _ _ _ _ _ _ _ (@ix_list _) (@pvD _ 1 _ _ (by rfl) (by first | exact Or.inl rfl | exact Or.inr (Or.inl rfl) | exact Or.inr (Or.inr rfl)) (by decide) (by decide)) (@pe_int _ _ _ _) (fun _ _ => rfl)) (@pa_cons _ _ _ _ _ (@pe_ix _ _ _ _ _ _ _ (@ix_list _) (@pvD _ 1 _ _ (by rfl) (by first | exact Or.inl rfl | exact Or.inr (Or.inl rfl) | exact Or.inr (Or.inr rfl)) (by decide) (by decide)) (@pe_int _ _ _ _) (fun _ _ => rfl)) (@pa_nil _) (by rfl)) (by rfl)) (by rfl) (by decide +kernel) (by rfl) (by rfl)))) (@pss_nil _)) (@pss_cons _ _ _ _ _ (@ps_if _ _ _ _ _ _ _ _ (@pt_cmpR _ _ _ _ _ _ _ _ (@op_eq _) (@pvD _ 0 _ _ (by rfl) (by first | exact Or.inl rfl | exact Or.inr (Or.inl rfl) | exact Or.inr (Or.inr rfl)) (by decide) (by decide)) (@pe_str _ _ _ _) (@nomark _ _ (by decide) (by decide))) (@pss_one _ _ _ (@ps_ret _ _ _ _ (@pe_has _ _ _ _ _ _ _ _ _ _ h_minus hr (@pa_cons _ _ _ _ _ (@pe_ix _ _ _ _ _ _ _ (@ix_list _) (@pvD _ 1 _ _ (by rfl) (by first | exact Or.inl rfl | exact Or.inr (Or.inl rfl) | exact Or.inr (Or.inr rfl)) (by decide) (by decide)) (@pe_int _ _ _ _) (fun _ _ => rfl)) (@pa_cons _ _ _ _ _ (@pe_ix _ _ _ _ _ _ _ (@ix_list _) (@pvD _ 1 _ _ (by rfl) (by first | exact Or.inl rfl | exact Or.inr (Or.inl rfl) | exact Or.inr (Or.inr rfl)) (by decide) (by decide)) (@pe_int _ _ _ _) (fun _ _ => rfl)) (@pa_nil _) (by rfl)) (by rfl)) (by rfl) (by decide +kernel) (by rfl) (by rfl)))) (@pss_nil _)) (@pss_cons _ _ _ _ _ (@ps_if _ _ _ _ _ _ _ _ (@pt_cmpR _ _ _ _ _ _ _ _ (@op_eq _) (@pvD _ 0 _ _ (by rfl) (by first | exact Or.inl rfl | exact Or.inr (Or.inl rfl) | exact Or.inr (Or.inr rfl)) (by decide) (by decide)) (@pe_str _ _ _ _) (@nomark _ _ (by decide) (by decide))) (@pss_one _ _ _ (@ps_ret _ _ _ _ (@pe_has _ _ _ _ _ _ _ _ _ _ h_times hr (@pa_cons _ _ _ _ _ (@pe_ix _ _ _ _ _ _ _ (@ix_list _) (@pvD _ 1 _ _ (by rfl) (by first | exact Or.inl rfl | exact Or.inr (Or.inl rfl) | exact Or.inr (Or.inr rfl)) (by decide) (by decide)) (@pe_int _ _ _ _) (fun _ _ => rfl)) (@pa_cons _ _ _ _ _ (@pe_ix _ _ _ _ _ _ _ (@ix_list _) (@pvD _ 1 _ _ (by rfl) (by first | exact Or.inl rfl | exact Or.inr (Or.inl rfl) | exact Or.inr (Or.inr rfl)) (by decide) (by decide)) (@pe_int _ _ _ _) (fun _ _ => rfl)) (@pa_nil _) (by rfl)) (by rfl)) (by rfl) (by decide +kernel) (by rfl) (by rfl)))) (@pss_nil _)) (@pss_one _ _ _ (@ps_ret _ _ _ _ (@pe_has _ _ _ _ _ _ _ _ _ _ h_minus hr (@pa_cons _ _ _ _ _ (@pe_tup _ _ _ _ _ (@pa_nil _)) (@pa_cons _ _ _ _ _ (@pe_ix _ _ _ _ _ _ _ (@ix_list _) (@pvD _ 1 _ _ (by rfl) (by first | exact Or.inl rfl | exact Or.inr (Or.inl rfl) | exact Or.inr (Or.inr rfl)) (by decide) (by decide)) (@pe_int _ _ _ _) (fun _ _ => rfl)) (@pa_nil _) (by rfl)) (by rfl)) (by rfl) (by decide +kernel) (by rfl) (by rfl))))))), ?_⟩
  rw [show start ["word", "parts"] [.str z, .ref pl] = [some (.str z), some (.ref pl)] from rfl]
  clear hu hu0 nd hr
  push_cast [spMinus, spPlus, spTimes]
  have lr := hF.1
  have two : arS z = 2 → ∃ a b f g, rs = [.ref a, .ref b] ∧ fs = [f, g] ∧ FormAt H a f ∧ FormAt H b g := fun h2 => by
    rw [h2] at hl
    match fs, hl with
    | [f, g], _ =>
      obtain ⟨a, h1, h3⟩ := hF.2 0 f rfl
      obtain ⟨b, h4, h5⟩ := hF.2 1 g rfl
      match rs, lr with
      | [x, y], _ =>
        cases h1
        cases h4
        exact ⟨a, b, f, g, rfl, rfl, h3, h5⟩
  refine ⟨rfl, ite2 (fun e => ?_) fun n1 => ⟨rfl, ite2 (fun e => ?_) fun n2 => ⟨rfl, ite2 (fun e => ?_) fun n3 => ⟨Nat.zero_le _, fun p hp0 => ?_⟩⟩⟩⟩
  · obtain ⟨a, b, f, g, rfl, rfl, h1, h2⟩ := two (by rw [e]; decide +kernel)
    refine rIxL_ok hp rfl (rIxL_ok hp rfl ⟨a, rfl, b, rfl, f, h1, g, h2, (hb.2 f g rfl).1, fun c H' s1 hc => q c H' s1 ?_⟩)
    show FormAt H' c (opF z f g)
    rw [show opF z f g = plusF f g from if_pos e]
    exact hc
  · obtain ⟨a, b, f, g, rfl, rfl, h1, h2⟩ := two (by rw [e]; decide +kernel)
    refine rIxL_ok hp rfl (rIxL_ok hp rfl ⟨a, rfl, b, rfl, f, h1, g, h2, (hb.2 f g rfl).1, fun c H' s1 hc => q c H' s1 ?_⟩)
    show FormAt H' c (opF z f g)
    rw [show opF z f g = minusF f g by unfold opF; rw [if_neg n1, if_pos e]]
    exact hc
  · obtain ⟨a, b, f, g, rfl, rfl, h1, h2⟩ := two (by rw [e]; decide +kernel)
    have k1 := hb.1 f List.mem_cons_self
    have k2 := hb.1 g (List.mem_cons_of_mem _ List.mem_cons_self)
    refine rIxL_ok hp rfl (rIxL_ok hp rfl ⟨a, rfl, b, rfl, f, h1, g, h2, (hb.2 f g rfl).2, k1.1, k2.1, k1.2, k2.2, fun c H' s1 hc => q c H' s1 ?_⟩)
    show FormAt H' c (opF z f g)
    rw [show opF z f g = timesF f g by unfold opF; rw [if_neg n1, if_neg n2, if_pos e]]
    exact hc
  · have h1 : arS z = 1 := by
      rcases arS_cases hz with k | k | k | k
      · exact absurd k n1
      · exact absurd k n2
      · exact absurd k n3
      · rw [k]; exact ar_neg
    rw [h1] at hl
    match fs, hl with
    | [f], _ =>
      obtain ⟨a, h2, h3⟩ := hF.2 0 f rfl
      match rs, lr with
      | [x], _ =>
        cases h2
        have k1 := hb.1 f List.mem_cons_self
        refine rIxL_ok (same_new hp0 _ _ _ hp) rfl ⟨a, rfl, [], ⟨[], upd_same, RowsF.nil _⟩, f, h3.keep (TK.of (same_new hp0 _)), by show 0 + f.length < 64; omega, fun c H' s1 hc => q c H' ((same_new hp0 _).trans s1) ?_⟩
        show FormAt H' c (opF z f [])
        rw [show opF z f [] = minusF [] f by unfold opF; rw [if_neg n1, if_neg n2, if_neg n3]]
        exact hc
abbrev sFold : Stmt := top 6
theorem scFold : FnScope ["words", "joined", "done", "word", "parts", "part"] ["words", "joined"] (defScope sFold) := ⟨rfl, rfl, rfl, by decide +kernel, rfl, by decide +kernel, by decide +kernel⟩
theorem hasFold (G : Gs w K mg) (h_how_many_below : Has P w K mg base k "how_many_below" ["word"] spHowF) (hk3 : 3 ≤ k) (D : Def K mg "folded" sFold ["words", "joined"]) : Has P w K mg base (k + 1) "folded" ["words", "joined"] (spFold P w K mg base) := by
  refine D.has scFold (fun vs H Q E h => ?_) (fun f cdv A outer s H vs Q E hr h => ?_)
  · rcases h with ⟨_, _, _, rfl, _, _, _, _, _, _⟩ | ⟨_, _, _, _, _, rfl, _, _, _, _, _, _, _⟩ <;> rfl
  have nd := scFold.nd
  have hu := hu_of hr
  have hu0 := Nat.lt_of_succ_lt hu
  have m_len := G.m_len
  have m_range := G.m_range
  have m_reversed := G.m_reversed
  refine ⟨_, (@pss_cons _ _ _ _ _ (@ps_set _ _ 2 _ _ _ _ nd rfl (by first | exact Or.inl rfl | exact Or.inr rfl) (@pe_lst _ _ _ _ (@pa_nil _)) (by rfl) (by first | exact .inl rfl | exact .inr rfl | assumption)) (@pss_cons _ _ _ _ _ (@ps_for _ _ _ _ _ _ _ _ PassesOwn.never rfl (@pi_rev _ _ _ _ _ _ rfl m_reversed (@pa_cons _ _ _ _ _ (@pvD _ 0 _ _ (by rfl) (by first | exact Or.inl rfl | exact Or.inr (Or.inl rfl) | exact Or.inr (Or.inr rfl)) (by decide) (by decide)) (@pa_nil _) (by rfl)) (by rfl)) (@pg_name _ _ 3 _ nd rfl (by first | exact Or.inl rfl | exact Or.inr rfl) (by first | exact .inl rfl | exact .inr rfl | assumption)) (@pss_cons _ _ _ _ _ (@ps_set _ _ 4 _ _ _ _ nd rfl (by first | exact Or.inl rfl | exact Or.inr rfl) (@pe_lst _ _ _ _ (@pa_nil _)) (by rfl) (by first | exact .inl rfl | exact .inr rfl | assumption)) (@pss_cons _ _ _ _ _ (@ps_for _ _ _ _ _ _ _ _ PassesOwn.never rfl (@pi_range1 _ _ _ _ _ _ rfl m_range (@pa_cons _ _ _ _ _ (@pe_has _ _ _ _ _ _ _ _ _ _ h_how_many_below hr (@pa_cons _ _ _ _ _ (@pvD _ 3 _ _ (by rfl) (by first | exact Or.inl rfl | exact Or.inr (Or.inl rfl) | exact Or.inr (Or.inr rfl)) (by decide) (by decide)) (@pa_nil _) (by rfl)) (by rfl) (by decide +kernel) (by rfl) (by rfl)) (@pa_nil _) (by rfl)) (by rfl)) (@pg_name _ _ 5 _ nd rfl (by first | exact Or.inl rfl | exact Or.inr rfl) (by first | exact .inl rfl | exact .inr rfl | assumption)) (@pss_one _ _ _ (@ps_expr _ _ _ _ (@pe_bm _ _ _ _ _ _ _ _ _ _ _ _ PySem.F.plainAttrs_list PySem.F.slot_list_append PySem.F.type_list_append (@mt_append _) (@pvD _ 4 _ _ (by rfl) (by first | exact Or.inl rfl | exact Or.inr (Or.inl rfl) | exact Or.inr (Or.inr rfl)) (by decide) (by decide)) (@pa_cons _ _ _ _ _ (@pe_bm0 _ _ _ _ _ _ _ _ _ PySem.F.plainAttrs_list PySem.F.slot_list_pop PySem.F.type_list_pop (@mt_pop _) (@pvD _ 2 _ _ (by rfl) (by first | exact Or.inl rfl | exact Or.inr (Or.inl rfl) | exact Or.inr (Or.inr rfl)) (by decide) (by decide)) (by rfl) (by rfl)) (@pa_nil _) (by rfl)) (by rfl) (by rfl) (by rfl) (by rfl) (by rfl)) (by rfl))) (by intro _; rfl)) (@pss_one _ _ _ (@ps_expr _ _ _ _ (@pe_bm _ _ _ _ _ _ _ _ _ _ _ _ PySem.F.plainAttrs_list PySem.F.slot_list_append PySem.F.type_list_append (@mt_append _) (@pvD _ 2 _ _ (by rfl) (by first | exact Or.inl rfl | exact Or.inr (Or.inl rfl) | exact Or.inr (Or.inr rfl)) (by decide) (by decide)) (@pa_cons _ _ _ _ _ (@pe_ifExp _ _ _ _ _ _ _ _ (@pt_cmpR _ _ _ _ _ _ _ _ (@op_gt _) (@pe_callB _ _ _ _ _ _ _ _ _ (@call_len_seq _) rfl m_len b_len (@pa_cons _ _ _ _ _ (@pvD _ 4 _ _ (by rfl) (by first | exact Or.inl rfl | exact Or.inr (Or.inl rfl) | exact Or.inr (Or.inr rfl)) (by decide) (by decide)) (@pa_nil _) (by rfl)) (by decide) (by decide) (by rfl) (by rfl)) (@pe_int _ _ _ _) (@nomark _ _ (by decide) (by decide))) (@pe_callV _ _ _ _ _ _ _ _ 1 ["word", "parts"] rfl (by first | exact Or.inl rfl | exact Or.inr (Or.inl rfl) | exact Or.inr (Or.inr rfl)) hr (@pa_cons _ _ _ _ _ (@pvD _ 3 _ _ (by rfl) (by first | exact Or.inl rfl | exact Or.inr (Or.inl rfl) | exact Or.inr (Or.inr rfl)) (by decide) (by decide)) (@pa_cons _ _ _ _ _ (@pvD _ 4 _ _ (by rfl) (by first | exact Or.inl rfl | exact Or.inr (Or.inl rfl) | exact Or.inr (Or.inr rfl)) (by decide) (by decide)) (@pa_nil _) (by rfl)) (by rfl)) (by decide +kernel) (by decide +kernel) (by rfl) (by rfl)) (@pvD _ 3 _ _ (by rfl) (by first | exact Or.inl rfl | exact Or.inr (Or.inl rfl) | exact Or.inr (Or.inr rfl)) (by decide) (by decide))) (@pa_nil _) (by rfl)) (by rfl) (by rfl) (by rfl) (by rfl) (by rfl)) (by rfl))))) (by intro _; rfl)) (@pss_one _ _ _ (@ps_ret _ _ _ _ (@pe_ix _ _ _ _ _ _ _ (@ix_list _) (@pvD _ 2 _ _ (by rfl) (by first | exact Or.inl rfl | exact Or.inr (Or.inl rfl) | exact Or.inr (Or.inr rfl)) (by decide) (by decide)) (@pe_int _ _ _ _) (fun _ _ => rfl)))))), ?_⟩
  rcases h with ⟨l, fv, ws, rfl, hF, hL, hw, hT, hlen, q⟩ | ⟨l, fv, us, ws, S, rfl, hF, hL, hU, hw, hT, hlen, q⟩
  · rw [show start ["words", "joined", "done", "word", "parts", "part"] [.ref l, fv] = [some (.ref l), some (fv), none, none, none, none] from rfl]
    clear hu hu0 nd hr
    push_cast [spHowF]
    have sz := sizeLine_eq
    have hF' := hF.up (Nat.le_trans (by decide) hk3)
    refine ⟨Nat.zero_le _, fun p hp => ⟨ws, (same_new hp _).seq hL, ?_⟩⟩
    have sub : ∀ i, ∃ m, pend m ((ws.drop i).map arV) = some 0 := fun i => by
      have := pend_drop (ws.map arV) 1 hT i
      rw [← List.map_drop] at this
      exact this
    have hwd : ∀ i, ∀ v ∈ ws.drop i, numW v ∧ leafB v := fun i v hv => hw v (List.mem_of_mem_drop hv)
    refine forW_rev (xs := ws) (fun i σ H' => ∃ (v1 v2 v3 : Option V), σ = [some (.ref l), some fv, some (.ref p), v1, v2, v3] ∧ Same H H' ∧ H' p = some (.lst ((runN (ws.drop (ws.length - i))).reverse.map V.int))) ⟨none, none, none, rfl, same_new hp _, ?_⟩ (fun i σ H' _ h => ?_) ?_ ?_
    · rw [Nat.sub_zero, List.drop_length]
      exact upd_same
    · obtain ⟨_, _, _, _, s1, _⟩ := h
      exact s1.seq hL
    · rintro i x σ H' hi hx ⟨v1, v2, v3, rfl, s1, hd⟩
      push_cast [spHowF]
      have e1 : ws.drop (ws.length - (i + 1)) = x :: ws.drop (ws.length - i) := by
        rw [show ws.length - (i + 1) = ws.length - 1 - i by omega, List.drop_eq_getElem_cons (by omega), show ws.length - 1 - i + 1 = ws.length - i by omega]
        congr 1
        rw [List.getElem?_eq_getElem (by omega)] at hx
        exact Option.some.inj hx
      obtain ⟨m, hm⟩ := sub (ws.length - (i + 1))
      rw [e1] at hm ⊢
      obtain ⟨m', rfl⟩ : ∃ m', m = m' + 1 := by
        cases m with
        | zero => cases hm
        | succ m' => exact ⟨m', rfl⟩
      have hm' : pend (m' + arV x) ((ws.drop (ws.length - i)).map arV) = some 0 := hm
      have hx' := hw x (List.mem_of_getElem? hx)
      have hst := runN_len _ _ (fun v hv => (hwd (ws.length - i) v hv).1) hm'
      have hbits := fun y hy => bits_of_run (x := y) (hwd (ws.length - i)) hm' (by rw [List.length_drop]; omega) hy
      have hmle := pend_le _ _ hm'
      rw [List.length_map, List.length_drop] at hmle
      replace hmle : m' + arV x ≤ i := by omega
      rw [runN_cons]
      generalize runN (ws.drop (ws.length - i)) = st at hd hst hbits ⊢
      have hisW : isW x := by
        cases x with
        | int n => exact isW.int n
        | str z => exact isW.str z
        | _ => exact hx'.1.elim
      refine ⟨Nat.zero_le _, fun p1 hp1 => .inl ⟨hisW, by omega, by have := arV_le x; omega, ?_⟩⟩
      have hpn : H p1 = none := s1.free hp1
      have npp : p ≠ p1 := ne_of_none hd hp1
      refine forW_range (lo := 0) (fun j σ H1 => ∃ v, σ = [some (.ref l), some fv, some (.ref p), some x, some (.ref p1), v] ∧ Same H H1 ∧ H1 p = some (.lst ((st.drop j).reverse.map V.int)) ∧ H1 p1 = some (.lst ((st.take j).map V.int))) ⟨v3, rfl, s1.upd hpn _, by rw [upd_ne npp]; exact hd, upd_same⟩ ?_ ?_
      · rintro j σ H1 hj ⟨v, rfl, s2, hp2, hq2⟩
        push_cast [and_true]
        have hj' : j < st.length := by omega
        have ed : (st.drop j).reverse.map V.int = (st.drop (j + 1)).reverse.map V.int ++ [V.int st[j]] := by
          rw [List.drop_eq_getElem_cons hj', List.reverse_cons, List.map_append]
          rfl
        rw [ed] at hp2
        refine ⟨tyV_list hq2, ?_⟩
        refine pop_ok hp2 ?_
        refine (append_ok (K := K) (by rw [upd_ne npp.symm]; exact hq2) (by rw [List.length_map, List.length_take]; omega) ⟨(s2.upd hp _).upd hpn _, by rw [upd_ne npp, upd_same], ?_⟩).2
        rw [upd_same, List.take_add_one, List.getElem?_eq_getElem hj', List.map_append]
        rfl
      · rintro σ H1 ⟨v, rfl, s2, hp2, hq2⟩
        push_cast [and_true]
        have hA : (((arV x : Nat) : Int)).toNat = arV x := Int.toNat_natCast _
        rw [hA] at hp2 hq2
        have fin : ∀ (y : Int) (H2 : Hp), stepN x st = y :: st.drop (arV x) → Same H1 H2 → rAppend (.ref p) [.int y] H2 fun _ H3 => Same H H3 ∧ H3 p = some (.lst ((stepN x st).reverse.map V.int)) := by
          intro y H2 ey s3
          refine (append_ok (K := K) (s3 _ _ hp2) (by rw [List.length_map, List.length_reverse, List.length_drop]; omega) ⟨(s2.trans s3).upd hp _, ?_⟩).2
          rw [upd_same, ey, List.reverse_cons, List.map_append]
          rfl
        refine ⟨tyV_list hp2, (st.take (arV x)).map V.int, .inl (SqL.of hq2), ?_⟩
        have htl : (((st.take (arV x)).map V.int).length : Int) = (arV x : Int) := by rw [List.length_map, List.length_take]; omega
        rw [htl]
        cases x with
        | int n =>
          rw [if_neg (by show ¬ (0 : Int) < ((0 : Nat) : Int); omega)]
          exact fin n H1 rfl (Same.refl _)
        | str z =>
          have hz : 0 < arS z := hx'.1
          rw [if_pos (by show (0 : Int) < ((arS z : Nat) : Int); omega)]
          refine ⟨spJoinN, hF', z, p1, st.take (arS z), rfl, hz, hq2, by rw [List.length_take]; have : arV (.str z) = arS z := rfl; omega, fun y hy => hbits y (List.mem_of_mem_take hy), ?_⟩
          refine fin _ H1 ?_ (Same.refl _)
          show opN z (st.getD 0 0) (st.getD 1 0) :: st.drop (arS z) = _
          rw [op_take hz]
          rfl
        | _ => exact hx'.1.elim
    · rintro σ H' ⟨v1, v2, v3, rfl, s1, hd⟩
      push_cast [and_true]
      rw [Nat.sub_self, List.drop_zero] at hd
      have h1 := runN_len ws 1 (fun v hv => (hw v hv).1) hT
      obtain ⟨x, hx⟩ : ∃ x, runN ws = [x] := by
        match runN ws, h1 with
        | [x], _ => exact ⟨x, rfl⟩
      rw [hx] at hd
      have q' := q H' s1
      rw [hx] at q'
      exact rIxL_ok hd rfl q'
  · rw [show start ["words", "joined", "done", "word", "parts", "part"] [.ref l, fv] = [some (.ref l), some (fv), none, none, none, none] from rfl]
    clear hu hu0 nd hr
    push_cast [spHowF]
    have sz := sizeLine_eq
    have hF' := hF.up hk3
    have lu := hU.1
    refine ⟨Nat.zero_le _, fun p hp => ⟨us, (same_new hp _).seq hL, ?_⟩⟩
    have sub : ∀ i, ∃ m, pend m ((ws.drop i).map arV) = some 0 := fun i => by
      have := pend_drop (ws.map arV) 1 hT i
      rw [← List.map_drop] at this
      exact this
    have hwd : ∀ i, ∀ v ∈ ws.drop i, wordF S v := fun i v hv => hw v (List.mem_of_mem_drop hv)
    refine forW_rev (xs := us) (fun i σ H' => ∃ (v1 v2 v3 : Option V) (ss : List V), σ = [some (.ref l), some fv, some (.ref p), v1, v2, v3] ∧ Same H H' ∧ H' p = some (.lst ss.reverse) ∧ FormsAt H' ss (runF (ws.drop (ws.length - i)))) ⟨none, none, none, [], rfl, same_new hp _, upd_same, ?_⟩ (fun i σ H' _ h => ?_) ?_ ?_
    · rw [Nat.sub_zero, List.drop_length]
      exact FormsAt.nil _
    · obtain ⟨_, _, _, _, _, s1, _⟩ := h
      exact s1.seq hL
    · rintro i x σ H' hi hx ⟨v1, v2, v3, ss, rfl, s1, hd, hFs⟩
      push_cast [spHowF]
      rw [lu] at hi hx
      have hlt : ws.length - 1 - i < ws.length := by omega
      obtain ⟨u1, u2⟩ := hU.2 (ws.length - 1 - i) ws[ws.length - 1 - i] (List.getElem?_eq_getElem hlt)
      have hy := hw ws[ws.length - 1 - i] (List.getElem_mem hlt)
      have e1 : ws.drop (ws.length - (i + 1)) = ws[ws.length - 1 - i] :: ws.drop (ws.length - i) := by
        rw [show ws.length - (i + 1) = ws.length - 1 - i by omega, List.drop_eq_getElem_cons (by omega), show ws.length - 1 - i + 1 = ws.length - i by omega]
      rw [hx] at u1 u2
      generalize ws[ws.length - 1 - i] = y at u1 u2 hy e1
      obtain ⟨m, hm⟩ := sub (ws.length - (i + 1))
      rw [e1] at hm ⊢
      obtain ⟨m', rfl⟩ : ∃ m', m = m' + 1 := by
        cases m with
        | zero => cases hm
        | succ m' => exact ⟨m', rfl⟩
      have hm' : pend (m' + arV y) ((ws.drop (ws.length - i)).map arV) = some 0 := hm
      have ld : (ws.drop (ws.length - i)).length ≤ 11 := by rw [List.length_drop]; omega
      have hst := runF_len _ _ hm'
      have hjb := StOk.jb (StOk.run (hwd (ws.length - i)) hm' (by omega)) ld
      have hmle := pend_le _ _ hm'
      rw [List.length_map, List.length_drop] at hmle
      replace hmle : m' + arV y ≤ i := by omega
      rw [runF_cons]
      generalize runF (ws.drop (ws.length - i)) = st at hFs hst hjb ⊢
      have lss : ss.length = st.length := hFs.1
      rcases Nat.eq_zero_or_pos (arV y) with h0 | h0
      · obtain ⟨a, ha, hfa⟩ := u2 h0
        cases ha
        refine ⟨Nat.zero_le _, fun p1 hp1 => ?_⟩
        have hpn : H p1 = none := s1.free hp1
        have npp : p ≠ p1 := ne_of_none hd hp1
        have hfa' : FormAt (upd H' p1 (.lst [])) a (leafF y) := hfa.keep (TK.of (s1.trans (same_new hp1 _)))
        obtain ⟨rs, r1, r2⟩ := id hfa'
        refine .inr ⟨a, rfl, rs, r1, r2.nst, ?_⟩
        refine forW_range (lo := 0) (fun j σ H1 => ∃ v, σ = [some (.ref l), some fv, some (.ref p), some (.ref a), some (.ref p1), v] ∧ H1 = upd H' p1 (.lst [])) ⟨v3, rfl, rfl⟩ ?_ ?_
        · rintro j σ H1 hj _
          exact absurd hj (by show ¬ j < 0; omega)
        · rintro σ H1 ⟨v, rfl, rfl⟩
          push_cast [and_true]
          have hd2 : upd H' p1 (.lst []) p = some (.lst ss.reverse) := same_new hp1 _ _ _ hd
          refine ⟨tyV_list hd2, [], .inl (SqL.of upd_same), ?_⟩
          rw [if_neg (by decide)]
          refine (append_ok (K := K) hd2 (by rw [List.length_reverse]; omega) ⟨(s1.upd hpn _).upd hp _, .ref a :: ss, by rw [upd_same, List.reverse_cons], ?_⟩).2
          rw [stepF_leaf h0]
          have tk := TK.put (o' := .lst (ss.reverse ++ [.ref a])) hd2 fun xs e => by cases e
          exact ((hFs.keep (TK.of (same_new hp1 _))).cons hfa').keep tk
      · obtain ⟨z, rfl, hz⟩ := arV_str h0
        cases u1 h0
        have ar2 := arS_two (z := z)
        have ez : arV (.str z) = arS z := rfl
        refine ⟨Nat.zero_le _, fun p1 hp1 => .inl ⟨isW.str z, by omega, by omega, ?_⟩⟩
        have hpn : H p1 = none := s1.free hp1
        have npp : p ≠ p1 := ne_of_none hd hp1
        refine forW_range (lo := 0) (fun j σ H1 => ∃ v, σ = [some (.ref l), some fv, some (.ref p), some (.str z), some (.ref p1), v] ∧ Same H H1 ∧ H1 p = some (.lst (ss.drop j).reverse) ∧ H1 p1 = some (.lst (ss.take j)) ∧ FormsAt H1 ss st) ⟨v3, rfl, s1.upd hpn _, by rw [upd_ne npp]; exact hd, upd_same, hFs.keep (TK.of (same_new hp1 _))⟩ ?_ ?_
        · rintro j σ H1 hj ⟨v, rfl, s2, hp2, hq2, hF2⟩
          push_cast [and_true]
          have hj' : j < ss.length := by omega
          have ed : (ss.drop j).reverse = (ss.drop (j + 1)).reverse ++ [ss[j]] := by
            rw [List.drop_eq_getElem_cons hj', List.reverse_cons]
          rw [ed] at hp2
          refine ⟨tyV_list hq2, ?_⟩
          have hq3 : upd H1 p (.lst (ss.drop (j + 1)).reverse) p1 = some (.lst (ss.take j)) := by rw [upd_ne npp.symm]; exact hq2
          refine pop_ok hp2 ?_
          refine (append_ok (K := K) hq3 (by rw [List.length_take]; omega) ⟨(s2.upd hp _).upd hpn _, by rw [upd_ne npp, upd_same], ?_, (hF2.keep (TK.put hp2 fun xs e => by cases e)).keep (TK.put hq3 fun xs e => by cases e)⟩).2
          rw [upd_same, List.take_add_one, List.getElem?_eq_getElem hj']
          rfl
        · rintro σ H1 ⟨v, rfl, s2, hp2, hq2, hF2⟩
          push_cast [and_true]
          have hA : (((arV (.str z) : Nat) : Int)).toNat = arS z := Int.toNat_natCast _
          rw [hA] at hp2 hq2
          refine ⟨tyV_list hp2, ss.take (arS z), .inl (SqL.of hq2), ?_⟩
          have htl : (((ss.take (arS z)).length : Nat) : Int) = (arS z : Int) := by rw [List.length_take]; omega
          rw [htl, if_pos (by omega)]
          refine ⟨spJoinF, hF', z, p1, ss.take (arS z), st.take (arS z), rfl, hz, hq2, hF2.take _, by rw [List.length_take]; omega, hjb _, fun b H3 s3 hb => ?_⟩
          rw [opF_take hz] at hb
          refine (append_ok (K := K) (s3 _ _ hp2) (by rw [List.length_reverse, List.length_drop]; omega) ⟨(s2.trans s3).upd hp _, .ref b :: ss.drop (arS z), by rw [upd_same, List.reverse_cons], ?_⟩).2
          rw [stepF_op hz]
          exact (((hF2.keep (TK.of s3)).drop _).cons hb).keep (TK.put (s3 _ _ hp2) fun xs e => by cases e)
    · rintro σ H' ⟨v1, v2, v3, ss, rfl, s1, hd, hFs⟩
      push_cast [and_true]
      rw [lu, Nat.sub_self, List.drop_zero, formW_run hT] at hFs
      obtain ⟨a, h1, h2⟩ := hFs.2 0 _ rfl
      have lss := hFs.1
      match ss, lss, h1 with
      | [y], _, h1 =>
        cases h1
        exact rIxL_ok hd rfl (q a H' s1 h2)
abbrev sValOf : Stmt := top 8
theorem scValOf : FnScope ["name", "values"] ["name", "values"] (defScope sValOf) := ⟨rfl, rfl, rfl, by decide +kernel, rfl, by decide +kernel, by decide +kernel⟩
theorem hasValOf (G : Gs w K mg) (D : Def K mg "value_of" sValOf ["name", "values"]) : Has P w K mg base (k + 1) "value_of" ["name", "values"] spValOf := by
  refine D.has scValOf (fun vs H Q E h => ?_) (fun f cdv A outer s H vs Q E hr h => ?_)
  · obtain ⟨_, _, _, _, rfl, _, _, _⟩ := h
    rfl
  have nd := scValOf.nd
  have hu := hu_of hr
  have hu0 := Nat.lt_of_succ_lt hu
  obtain ⟨vl, z, n, kvs, rfl, hV, hn, q⟩ := h
  refine ⟨_, (@pss_cons _ _ _ _ _ (@ps_if _ _ _ _ _ _ _ _ (@pt_cmp _ _ _ _ _ _ (@pc_dnotin _ _ _ _ _ hu (@pvD _ 0 _ _ (by rfl) (by first | exact Or.inl rfl | exact Or.inr (Or.inl rfl) | exact Or.inr (Or.inr rfl)) (by decide) (by decide)) (@pvD _ 1 _ _ (by rfl) (by first | exact Or.inl rfl | exact Or.inr (Or.inl rfl) | exact Or.inr (Or.inr rfl)) (by decide) (by decide))) (by first | exact nobehind _ (by decide) (by decide) | rfl)) (@pss_one _ _ _ (@ps_never _ _)) (@pss_nil _)) (@pss_one _ _ _ (@ps_ret _ _ _ _ (@pe_dget _ _ _ _ _ _ hu (@pvD _ 1 _ _ (by rfl) (by first | exact Or.inl rfl | exact Or.inr (Or.inl rfl) | exact Or.inr (Or.inr rfl)) (by decide) (by decide)) (@pvD _ 0 _ _ (by rfl) (by first | exact Or.inl rfl | exact Or.inr (Or.inl rfl) | exact Or.inr (Or.inr rfl)) (by decide) (by decide)) (fun _ _ => rfl))))), ?_⟩
  rw [show start ["name", "values"] [.str z, .ref vl] = [some (.str z), some (.ref vl)] from rfl]
  clear hu hu0 nd hr
  push_cast [and_true]
  have g : DGet H vl (.str z) (some (.int n)) := by
    have := DGet.k (k := Sum.inr z) hV
    rw [hn] at this
    exact this
  exact ⟨_, g, iteF ⟨_, g, q⟩⟩
abbrev sWithN : Stmt := top 9
theorem scWithN : FnScope ["word", "values"] ["word", "values"] (defScope sWithN) := ⟨rfl, rfl, rfl, by decide +kernel, rfl, by decide +kernel, by decide +kernel⟩
theorem hasWithN (G : Gs w K mg) (h_value_of : Has P w K mg base k "value_of" ["name", "values"] spValOf) (D : Def K mg "with_value" sWithN ["word", "values"]) : Has P w K mg base (k + 1) "with_value" ["word", "values"] spWithN := by
  refine D.has scWithN (fun vs H Q E h => ?_) (fun f cdv A outer s H vs Q E hr h => ?_)
  · obtain ⟨_, _, _, rfl, _, _, _, _⟩ := h
    rfl
  have nd := scWithN.nd
  have hu := hu_of hr
  have hu0 := Nat.lt_of_succ_lt hu
  obtain ⟨v, a, ρ, rfl, hv, hV, hh, q⟩ := h
  obtain ⟨a_PARTS_BELOW, m_PARTS_BELOW, s_PARTS_BELOW⟩ := G.m_PARTS_BELOW
  have m_isinstance := G.m_isinstance
  have m_str := G.m_str
  refine ⟨_, (@pss_cons _ _ _ _ _ (@ps_if _ _ _ _ _ _ _ _ (@PW.pt _ _ _ (@pw_or _ _ _ _ _ _ _ (@pt_not _ _ _ _ (@pt_val _ _ _ (@pe_callB _ _ _ _ _ _ _ _ _ (@call_isinst _) rfl m_isinstance b_isinstance (@pa_cons _ _ _ _ _ (@pvD _ 0 _ _ (by rfl) (by first | exact Or.inl rfl | exact Or.inr (Or.inl rfl) | exact Or.inr (Or.inr rfl)) (by decide) (by decide)) (@pa_cons _ _ _ _ _ (@pe_gty _ _ _ _ m_str b_str (by rfl) (by decide +kernel) (by decide +kernel)) (@pa_nil _) (by rfl)) (by rfl)) (by decide) (by decide) (by rfl) (by rfl)) (by intro _; rfl))) (@pw_or1 _ _ _ _ (@pt_cmpR _ _ _ _ _ _ _ _ (@op_in_mod _ _ _ s_PARTS_BELOW) (@pvD _ 0 _ _ (by rfl) (by first | exact Or.inl rfl | exact Or.inr (Or.inl rfl) | exact Or.inr (Or.inr rfl)) (by decide) (by decide)) (@pe_gref _ _ _ _ m_PARTS_BELOW (by rfl) (by decide +kernel)) (by with_unfolding_all rfl))))) (@pss_one _ _ _ (@ps_ret _ _ _ _ (@pvD _ 0 _ _ (by rfl) (by first | exact Or.inl rfl | exact Or.inr (Or.inl rfl) | exact Or.inr (Or.inr rfl)) (by decide) (by decide)))) (@pss_nil _)) (@pss_one _ _ _ (@ps_ret _ _ _ _ (@pe_has _ _ _ _ _ _ _ _ _ _ h_value_of hr (@pa_cons _ _ _ _ _ (@pvD _ 0 _ _ (by rfl) (by first | exact Or.inl rfl | exact Or.inr (Or.inl rfl) | exact Or.inr (Or.inr rfl)) (by decide) (by decide)) (@pa_cons _ _ _ _ _ (@pvD _ 1 _ _ (by rfl) (by first | exact Or.inl rfl | exact Or.inr (Or.inl rfl) | exact Or.inr (Or.inr rfl)) (by decide) (by decide)) (@pa_nil _) (by rfl)) (by rfl)) (by rfl) (by decide +kernel) (by rfl) (by rfl))))), ?_⟩
  rw [show start ["word", "values"] [v, .ref a] = [some (v), some (.ref a)] from rfl]
  clear hu hu0 nd hr
  push_cast [spValOf]
  obtain ⟨k', rfl⟩ := hv
  cases k' with
  | inl n => exact ⟨_, .int n, false, rfl, iteT q⟩
  | inr z =>
    refine ⟨_, .str z, true, rfl, iteF ⟨Sum.inr z, rfl, ?_⟩⟩
    show if (valV parts (Sum.inr z)).isSome = true then _ else _
    rw [in_parts]
    have q1 : Q (if 0 < arS z then V.str z else V.int ((ρ z).getD 0)) H := q
    by_cases hz : 0 < arS z
    · rw [if_pos (decide_eq_true hz)]
      rw [if_pos hz] at q1
      exact q1
    · rw [if_neg (by rw [decide_eq_false hz]; decide)]
      rw [if_neg hz] at q1
      obtain ⟨kvs, h1, h2⟩ := hV
      obtain ⟨n, hn⟩ := Option.isSome_iff_exists.mp (hh.resolve_left hz)
      rw [hn] at q1
      exact ⟨a, z, rfl, rfl, n, kvs, h1, by rw [h2 z, hn]; rfl, q1⟩
abbrev sWorth : Stmt := top 10
theorem scWorth : FnScope ["words", "values", "numbers"] ["words", "values"] (defScope sWorth) := ⟨rfl, rfl, rfl, by decide +kernel, rfl, by decide +kernel, by decide +kernel⟩
theorem hasWorth (G : Gs w K mg) (h_folded : Has P w K mg base k "folded" ["words", "joined"] (spFold P w K mg base)) (h_joined_numbers : Has P w K mg base k "joined_numbers" ["word", "parts"] spJoinN) (h_with_value : Has P w K mg base k "with_value" ["word", "values"] spWithN) (hj1 : Has P w K mg base 1 "joined_numbers" ["word", "parts"] spJoinN) (D : Def K mg "worth" sWorth ["words", "values"]) : Has P w K mg base (k + 1) "worth" ["words", "values"] (spWorth K) := by
  refine D.has scWorth (fun vs H Q E h => ?_) (fun f cdv A outer s H vs Q E hr h => ?_)
  · obtain ⟨_, _, _, _, rfl, _, _, _, _, _, _⟩ := h
    rfl
  have nd := scWorth.nd
  have hu := hu_of hr
  have hu0 := Nat.lt_of_succ_lt hu
  obtain ⟨t, a, ws, ρ, rfl, hT, hV, hw, hi, hl, q⟩ := h
  obtain ⟨a_joined_numbers, m_joined_numbers, v_joined_numbers⟩ := hj1.val
  refine ⟨_, (@pss_cons _ _ _ _ _ (@ps_setlc _ _ _ _ _ _ _ _ _ _ _ _ _ _ _ 2 _ _ _ nd rfl (Or.inl rfl) (@ClOk.mk _ _ ["word"] ["values"] [1] _ rfl rfl rfl rfl (And.intro rfl trivial) rfl (And.intro (And.intro rfl (And.intro rfl rfl)) trivial)) rfl (@pi_tup _ _ _ _ (@pvD _ 0 _ _ (by rfl) (by first | exact Or.inl rfl | exact Or.inr (Or.inl rfl) | exact Or.inr (Or.inr rfl)) (by decide) (by decide))) (fun _ _ _ => (@pg_name _ _ 0 _ (show List.Nodup (["word", "values"] : List Str) by decide +kernel) rfl (Or.inl rfl) (by first | exact .inl rfl | exact .inr rfl | assumption))) (fun _ _ _ => (@pif0 _)) (fun _ _ _ => (@pe_has _ _ _ _ _ _ _ _ _ _ h_with_value hr (@pa_cons _ _ _ _ _ (@pvD _ 0 _ _ (by rfl) (by first | exact Or.inl rfl | exact Or.inr (Or.inl rfl) | exact Or.inr (Or.inr rfl)) (by decide) (by decide)) (@pa_cons _ _ _ _ _ (@pvD _ 1 _ _ (by rfl) (by first | exact Or.inl rfl | exact Or.inr (Or.inl rfl) | exact Or.inr (Or.inr rfl)) (by decide) (by decide)) (@pa_nil _) (by rfl)) (by rfl)) (by rfl) (by decide +kernel) (by rfl) (by rfl))) (by rfl) (by intro _; rfl) (by first | exact .inl rfl | exact .inr rfl | assumption)) (@pss_one _ _ _ (@ps_ret _ _ _ _ (@pe_has _ _ _ _ _ _ _ _ _ _ h_folded hr (@pa_cons _ _ _ _ _ (@pvD _ 2 _ _ (by rfl) (by first | exact Or.inl rfl | exact Or.inr (Or.inl rfl) | exact Or.inr (Or.inr rfl)) (by decide) (by decide)) (@pa_cons _ _ _ _ _ (@pe_gref _ _ _ _ m_joined_numbers (by rfl) (by decide +kernel)) (@pa_nil _) (by rfl)) (by rfl)) (by rfl) (by decide +kernel) (by rfl) (by rfl))))), ?_⟩
  rw [show start ["words", "values", "numbers"] [.ref t, .ref a] = [some (.ref t), some (.ref a), none] from rfl]
  clear hu hu0 nd hr
  push_cast [spFold, spJoinN, spWithN, spFoldN, spFoldF]
  have sz := sizeLine_eq
  refine ⟨⟨ws, hT⟩, fun l hln => lc_tup (fun i ys => ys = (ws.take i).map (valW ρ)) hT (by omega) hln rfl (fun i x ys H1 G' K' hx hP hl2 hS hG hK => ?_) fun ys H2 hP hl2 hS hD2 => ?_⟩
  · have hx' := hw x (List.mem_of_getElem? hx)
    push_cast [spWithN]
    refine ⟨hx'.1, ρ, hV.same hS, hx'.2.1, hK _ _ (Same.refl _) ?_⟩
    rw [hP, List.take_add_one, hx]
    simp
  · rw [List.take_length] at hP
    subst hP
    refine .inl ⟨v_joined_numbers, ws.map (valW ρ), SqL.of hD2, fun v hv => ?_, ?_, by rw [List.length_map]; exact hl, fun H3 s3 => q H3 (hS.trans s3)⟩
    · obtain ⟨u, hu, rfl⟩ := List.mem_map.mp hv
      exact ⟨numW_valW (hw u hu).1, (hw u hu).2.2⟩
    · show pend 1 ((ws.map (valW ρ)).map arV) = some 0
      rw [map_arV]
      exact hi
abbrev sFormOf : Stmt := top 18
theorem scFormOf : FnScope ["words"] ["words"] (defScope sFormOf) := ⟨rfl, rfl, rfl, by decide +kernel, rfl, by decide +kernel, by decide +kernel⟩
theorem hasFormOf (G : Gs w K mg) (h_folded : Has P w K mg base k "folded" ["words", "joined"] (spFold P w K mg base)) (h_joined_forms : Has P w K mg base k "joined_forms" ["word", "parts"] spJoinF) (h_leaf_form : Has P w K mg base k "leaf_form" ["word"] spLeaf) (hj3 : Has P w K mg base 3 "joined_forms" ["word", "parts"] spJoinF) (D : Def K mg "form_of" sFormOf ["words"]) : Has P w K mg base (k + 1) "form_of" ["words"] (spFormOf K) := by
  refine D.has scFormOf (fun vs H Q E h => ?_) (fun f cdv A outer s H vs Q E hr h => ?_)
  · obtain ⟨_, _, _, rfl, _, _, _, _, _⟩ := h
    rfl
  have nd := scFormOf.nd
  have hu := hu_of hr
  have hu0 := Nat.lt_of_succ_lt hu
  obtain ⟨t, ws, S, rfl, hT, hw, hi, hl, q⟩ := h
  obtain ⟨a_joined_forms, m_joined_forms, v_joined_forms⟩ := hj3.val
  refine ⟨_, (@pss_one _ _ _ (@ps_ret _ _ _ _ (@pe_has _ _ _ _ _ _ _ _ _ _ h_folded hr (@pa_cons _ _ _ _ _ (@pe_lc _ _ _ _ _ _ _ _ _ _ _ _ _ _ _ (@ClOk.mk _ _ ["word"] [] [] _ rfl rfl rfl rfl trivial rfl trivial) rfl (@pi_tup _ _ _ _ (@pvD _ 0 _ _ (by rfl) (by first | exact Or.inl rfl | exact Or.inr (Or.inl rfl) | exact Or.inr (Or.inr rfl)) (by decide) (by decide))) (fun _ _ _ => (@pg_name _ _ 0 _ (show List.Nodup (["word"] : List Str) by decide +kernel) rfl (Or.inl rfl) (by first | exact .inl rfl | exact .inr rfl | assumption))) (fun _ _ _ => (@pif0 _)) (fun _ _ _ => (@pe_has _ _ _ _ _ _ _ _ _ _ h_leaf_form hr (@pa_cons _ _ _ _ _ (@pvD _ 0 _ _ (by rfl) (by first | exact Or.inl rfl | exact Or.inr (Or.inl rfl) | exact Or.inr (Or.inr rfl)) (by decide) (by decide)) (@pa_nil _) (by rfl)) (by rfl) (by decide +kernel) (by rfl) (by rfl))) (by intro _; rfl)) (@pa_cons _ _ _ _ _ (@pe_gref _ _ _ _ m_joined_forms (by rfl) (by decide +kernel)) (@pa_nil _) (by rfl)) (by rfl)) (by rfl) (by decide +kernel) (by rfl) (by rfl)))), ?_⟩
  rw [show start ["words"] [.ref t] = [some (.ref t)] from rfl]
  clear hu hu0 nd hr
  push_cast [spFold, spJoinF, spLeaf, spFoldN, spFoldF]
  have sz := sizeLine_eq
  refine ⟨⟨ws, hT⟩, fun D hD => lc_tupH (fun i ys H' => LeavesAt H' ys (ws.take i)) (fun i ys H1 H2 k h => ⟨h.1, fun j w' hj => ⟨(h.2 j w' hj).1, fun h0 => ?_⟩⟩) hT (by omega) hD ⟨rfl, fun j w' hj => by simp at hj⟩ (fun i x ys H1 G' K' hx hP hl2 hS hG hK => ?_) fun ys H2 hP hl2 hS hD2 => ?_⟩
  · obtain ⟨a, h1, h2⟩ := (h.2 j w' hj).2 h0
    exact ⟨a, h1, h2.keep k⟩
  · push_cast [spLeaf]
    have hi : i < ws.length := (List.getElem?_eq_some_iff.mp hx).1
    have lt' : (ws.take i).length = i := by rw [List.length_take]; omega
    have ly : ys.length = i := hP.1.trans lt'
    have more : ∀ (y : V) (H4 : Hp), Same H1 H4 → (0 < arV x → y = x) → (arV x = 0 → ∃ a, y = .ref a ∧ FormAt H4 a (leafF x)) → LeavesAt H4 (ys ++ [y]) (ws.take (i + 1)) := fun y H4 s4 k1 k2 => by
      rw [List.take_add_one, hx]
      refine ⟨by rw [List.length_append, List.length_append, hP.1]; rfl, fun j w' hj => ?_⟩
      by_cases hji : j < i
      · rw [List.getElem?_append_left (by omega)] at hj
        rw [List.getElem?_append_left (by omega)]
        refine ⟨(hP.2 j w' hj).1, fun h0 => ?_⟩
        obtain ⟨a, h1, h2⟩ := (hP.2 j w' hj).2 h0
        exact ⟨a, h1, h2.keep (TK.of s4)⟩
      · have hl3 := (List.getElem?_eq_some_iff.mp hj).1
        rw [List.length_append, lt'] at hl3
        have e : j = i := by
          have : j < i + 1 := hl3
          omega
        subst e
        rw [List.getElem?_append_right (by omega), lt', Nat.sub_self] at hj
        have e : x = w' := Option.some.inj hj
        subst e
        rw [List.getElem?_append_right (by omega), ly, Nat.sub_self]
        refine ⟨fun h => by rw [k1 h]; rfl, fun h => ?_⟩
        obtain ⟨a, rfl, h2⟩ := k2 h
        exact ⟨a, rfl, h2⟩
    refine ⟨(hw x (List.mem_of_getElem? hx)).isW, fun h => hK _ _ (Same.refl _) (more x _ (Same.refl _) (fun _ => rfl) fun h0 => absurd h (by omega)), fun h b H4 s4 hb => hK _ _ s4 (more (.ref b) H4 s4 (fun h0 => absurd h0 (by omega)) fun _ => ⟨b, rfl, hb⟩)⟩
  · rw [List.take_length] at hP
    exact .inr ⟨v_joined_forms, ys, SqL.of hD2, ws, hP, ⟨S, hw⟩, hi, hl, fun b H3 s3 hb => q b H3 (hS.trans s3) hb⟩
abbrev sRepl : Stmt := top 21
theorem scRepl : FnScope ["form", "name", "value", "rows", "names", "factor", "rest", "product", "turn"] ["form", "name", "value"] (defScope sRepl) := ⟨rfl, rfl, rfl, by decide +kernel, rfl, by decide +kernel, by decide +kernel⟩
theorem hasRepl (G : Gs w K mg) (h_gathered : Has P w K mg base k "gathered" ["rows"] spGath) (D : Def K mg "name_replaced" sRepl ["form", "name", "value"]) : Has P w K mg base (k + 1) "name_replaced" ["form", "name", "value"] spRepl := by
  refine D.has scRepl (fun vs H Q E h => ?_) (fun f cdv A outer s H vs Q E hr h => ?_)
  · obtain ⟨_, _, _, _, rfl, _, _, _, _, _⟩ := h
    rfl
  have nd := scRepl.nd
  have hu := hu_of hr
  have hu0 := Nat.lt_of_succ_lt hu
  obtain ⟨a, f, x, v, rfl, ha, hl, hb, hv, q⟩ := h
  have m_range := G.m_range
  have m_tuple := G.m_tuple
  refine ⟨_, (@pss_cons _ _ _ _ _ (@ps_set _ _ 3 _ _ _ _ nd rfl (by first | exact Or.inl rfl | exact Or.inr rfl) (@pe_lst _ _ _ _ (@pa_nil _)) (by rfl) (by first | exact .inl rfl | exact .inr rfl | assumption)) (@pss_cons _ _ _ _ _ (@ps_for _ _ _ _ _ _ _ _ PassesOwn.never rfl (@pi_tup _ _ _ _ (@pvD _ 0 _ _ (by rfl) (by first | exact Or.inl rfl | exact Or.inr (Or.inl rfl) | exact Or.inr (Or.inr rfl)) (by decide) (by decide))) (@pg_tup _ _ _ _ _ _ rfl (@pgs_cons _ _ _ _ _ (@pg_name _ _ 4 _ nd rfl (by first | exact Or.inl rfl | exact Or.inr rfl) (by first | exact .inl rfl | exact .inr rfl | assumption)) (@pgs_cons _ _ _ _ _ (@pg_name _ _ 5 _ nd rfl (by first | exact Or.inl rfl | exact Or.inr rfl) (by first | exact .inl rfl | exact .inr rfl | assumption)) (@pgs_nil _) (by rfl)) (by rfl)) (by rfl) (by rfl)) (@pss_cons _ _ _ _ _ (@ps_set _ _ 6 _ _ _ _ nd rfl (by first | exact Or.inl rfl | exact Or.inr rfl) (@pe_callTy _ _ _ _ _ _ _ _ _ (@call_tuple_of _) rfl m_tuple b_tuple (@pa_cons _ _ _ _ _ (@pe_lc _ _ _ _ _ _ _ _ _ _ _ _ _ _ _ (@ClOk.mk _ _ ["other"] ["name"] [1] _ rfl rfl rfl rfl (And.intro rfl trivial) rfl (And.intro (And.intro rfl (And.intro rfl rfl)) trivial)) rfl (@pi_tup _ _ _ _ (@pvD _ 4 _ _ (by rfl) (by first | exact Or.inl rfl | exact Or.inr (Or.inl rfl) | exact Or.inr (Or.inr rfl)) (by decide) (by decide))) (fun _ _ _ => (@pg_name _ _ 0 _ (show List.Nodup (["other", "name"] : List Str) by decide +kernel) rfl (Or.inl rfl) (by first | exact .inl rfl | exact .inr rfl | assumption))) (fun _ _ _ => (@pif1 _ _ _ (@pt_cmpR _ _ _ _ _ _ _ _ (@op_ne _) (@pvD _ 0 _ _ (by rfl) (by first | exact Or.inl rfl | exact Or.inr (Or.inl rfl) | exact Or.inr (Or.inr rfl)) (by decide) (by decide)) (@pvD _ 1 _ _ (by rfl) (by first | exact Or.inl rfl | exact Or.inr (Or.inl rfl) | exact Or.inr (Or.inr rfl)) (by decide) (by decide)) (@nomark _ _ (by decide) (by decide))))) (fun _ _ _ => (@pvD _ 0 _ _ (by rfl) (by first | exact Or.inl rfl | exact Or.inr (Or.inl rfl) | exact Or.inr (Or.inr rfl)) (by decide) (by decide))) (by intro _; rfl)) (@pa_nil _) (by rfl)) (by decide) (by decide) (by rfl) (by rfl)) (by rfl) (by first | exact .inl rfl | exact .inr rfl | assumption)) (@pss_cons _ _ _ _ _ (@ps_set _ _ 7 _ _ _ _ nd rfl (by first | exact Or.inl rfl | exact Or.inr rfl) (@pvD _ 5 _ _ (by rfl) (by first | exact Or.inl rfl | exact Or.inr (Or.inl rfl) | exact Or.inr (Or.inr rfl)) (by decide) (by decide)) (by rfl) (by first | exact .inl rfl | exact .inr rfl | assumption)) (@pss_cons _ _ _ _ _ (@ps_for _ _ _ _ _ _ _ _ PassesOwn.never rfl (@pi_range1 _ _ _ _ _ _ rfl m_range (@pa_cons _ _ _ _ _ (@pe_bm _ _ _ _ _ _ _ _ _ _ _ _ PySem.F.plainAttrs_tuple PySem.F.slot_tuple_count PySem.F.type_tuple_count (@mt_countT _) (@pvD _ 4 _ _ (by rfl) (by first | exact Or.inl rfl | exact Or.inr (Or.inl rfl) | exact Or.inr (Or.inr rfl)) (by decide) (by decide)) (@pa_cons _ _ _ _ _ (@pvD _ 1 _ _ (by rfl) (by first | exact Or.inl rfl | exact Or.inr (Or.inl rfl) | exact Or.inr (Or.inr rfl)) (by decide) (by decide)) (@pa_nil _) (by rfl)) (by rfl) (by rfl) (by rfl) (by rfl) (by rfl)) (@pa_nil _) (by rfl)) (by rfl)) (@pg_name _ _ 8 _ nd rfl (by first | exact Or.inl rfl | exact Or.inr rfl) (by first | exact .inl rfl | exact .inr rfl | assumption)) (@pss_one _ _ _ (@ps_set _ _ 7 _ _ _ _ nd rfl (by first | exact Or.inl rfl | exact Or.inr rfl) (@pe_op _ _ _ _ _ _ _ _ (@op_mulB _) (@pvD _ 7 _ _ (by rfl) (by first | exact Or.inl rfl | exact Or.inr (Or.inl rfl) | exact Or.inr (Or.inr rfl)) (by decide) (by decide)) (@pvD _ 2 _ _ (by rfl) (by first | exact Or.inl rfl | exact Or.inr (Or.inl rfl) | exact Or.inr (Or.inr rfl)) (by decide) (by decide))) (by rfl) (by first | exact .inl rfl | exact .inr rfl | assumption))) (by intro _; rfl)) (@pss_one _ _ _ (@ps_expr _ _ _ _ (@pe_bm _ _ _ _ _ _ _ _ _ _ _ _ PySem.F.plainAttrs_list PySem.F.slot_list_append PySem.F.type_list_append (@mt_append _) (@pvD _ 3 _ _ (by rfl) (by first | exact Or.inl rfl | exact Or.inr (Or.inl rfl) | exact Or.inr (Or.inr rfl)) (by decide) (by decide)) (@pa_cons _ _ _ _ _ (@pe_tup _ _ _ _ _ (@pa_cons _ _ _ _ _ (@pvD _ 6 _ _ (by rfl) (by first | exact Or.inl rfl | exact Or.inr (Or.inl rfl) | exact Or.inr (Or.inr rfl)) (by decide) (by decide)) (@pa_cons _ _ _ _ _ (@pvD _ 7 _ _ (by rfl) (by first | exact Or.inl rfl | exact Or.inr (Or.inl rfl) | exact Or.inr (Or.inr rfl)) (by decide) (by decide)) (@pa_nil _) (by rfl)) (by rfl))) (@pa_nil _) (by rfl)) (by rfl) (by rfl) (by rfl) (by rfl) (by rfl)) (by rfl)))))) (by intro _; rfl)) (@pss_one _ _ _ (@ps_ret _ _ _ _ (@pe_has _ _ _ _ _ _ _ _ _ _ h_gathered hr (@pa_cons _ _ _ _ _ (@pvD _ 3 _ _ (by rfl) (by first | exact Or.inl rfl | exact Or.inr (Or.inl rfl) | exact Or.inr (Or.inr rfl)) (by decide) (by decide)) (@pa_nil _) (by rfl)) (by rfl) (by decide +kernel) (by rfl) (by rfl)))))), ?_⟩
  rw [show start ["form", "name", "value", "rows", "names", "factor", "rest", "product", "turn"] [.ref a, .str x, .int v] = [some (.ref a), some (.str x), some (.int v), none, none, none, none, none, none] from rfl]
  clear hu hu0 nd hr
  push_cast [spGath]
  have sz := sizeLine_eq
  obtain ⟨ra, a1, a2⟩ := id ha
  have la := a2.1
  refine ⟨Nat.zero_le _, fun p hp => ⟨⟨ra, SqT.of (same_new hp _ _ _ a1)⟩, forW_tup (xs := ra) (fun i σ H' => ∃ (v4 v5 v6 v7 v8 : Option V) (ys : List V), σ = [some (.ref a), some (.str x), some (.int v), some (.ref p), v4, v5, v6, v7, v8] ∧ Same H H' ∧ H' p = some (.lst ys) ∧ RowsF H' ys (replR (f.take i) x v)) ⟨none, none, none, none, none, [], rfl, same_new hp _, upd_same, RowsF.nil _⟩ (fun i σ H' _ h => ?_) ?_ ?_⟩⟩
  · obtain ⟨_, _, _, _, _, _, _, s1, _⟩ := h
    exact SqT.of (s1 _ _ a1)
  · rintro i y σ H' hx ⟨v4, v5, v6, v7, v8, ys, rfl, s1, hy, hY⟩
    have hi : i < f.length := by rw [← la]; exact (List.getElem?_eq_some_iff.mp hx).1
    obtain ⟨t, m, r1, r2, r3⟩ := a2.2 i f[i].1 f[i].2 (List.getElem?_eq_getElem hi)
    rw [hx] at r1
    cases r1
    obtain ⟨b1, b2⟩ := hb f[i] (List.getElem_mem hi)
    push_cast [gTup, gCons, gNil, rCountT]
    refine ⟨_, SqT.of (s1 _ _ r2), rfl, _, _, rfl, _, _, rfl, rfl, ?_⟩
    have hm := s1 _ _ r3
    have lc := List.count_le_length (a := x) (l := f[i].1)
    refine ⟨m, rfl, ⟨_, SqT.of hm⟩, fun Dd hDd => ?_⟩
    refine lc_tup (fun j zs => zs = ((f[i].1.take j).filter (fun y => decide (y ≠ x))).map V.str) (SqT.of hm) (by rw [List.length_map]; omega) hDd rfl (fun j y zs H1 G' K' hx hP hl2 hS hG hK => ?_) fun zs H2 hP hl2 hS hD2 => ?_
    · rw [List.getElem?_map] at hx
      obtain ⟨z, hz, rfl⟩ := Option.map_eq_some_iff.mp hx
      have et : (f[i].1.take (j + 1)).filter (fun y => decide (y ≠ x)) = (f[i].1.take j).filter (fun y => decide (y ≠ x)) ++ [z].filter (fun y => decide (y ≠ x)) := by
        rw [List.take_add_one, hz, List.filter_append]
        rfl
      push_cast [and_true]
      refine ⟨rfl, ?_⟩
      by_cases e : z = x
      · refine ifN (fun h => by rw [decide_eq_true (by rw [e])] at h; cases h) ?_
        refine hG _ (Same.refl _) ?_
        rw [et, List.filter_cons, if_neg (by simp [e]), List.filter_nil, List.append_nil]
        exact hP
      · refine ifY (by rw [decide_eq_false (fun h => e h)]; rfl) ?_
        refine hK _ _ (Same.refl _) ?_
        rw [et, List.filter_cons, if_pos (by simp [e]), List.filter_nil, List.map_append, hP]
        rfl
    · rw [List.length_map, List.take_length] at hP
      subst hP
      refine ⟨_, .inl ⟨SqL.of hD2, fun l hl => ?_⟩⟩
      have S := hS.trans (same_new hl (.tup ((f[i].1.filter (fun y => decide (y ≠ x))).map V.str)))
      have tn : (((f[i].1.count x : Nat) : Int)).toNat = f[i].1.count x := Int.toNat_natCast _
      refine ⟨tyV_tup (S _ _ hm), m, rfl, f[i].1, S _ _ hm, by omega, by omega, ?_⟩
      refine forW_range (lo := 0) (n := f[i].1.count x) (fun j σ H3 => ∃ v8 : Option V, σ = [some (.ref a), some (.str x), some (.int v), some (.ref p), some (.ref m), some (.int f[i].2), some (.ref l), some (.int (f[i].2 * v ^ j)), v8] ∧ H3 = upd H2 l (.tup ((f[i].1.filter (fun y => decide (y ≠ x))).map V.str)) ∧ (f[i].2 * v ^ j).natAbs < 2 ^ (5000 + 100 * j)) ⟨v8, by rw [Int.pow_zero, Int.mul_one], rfl, by rw [Int.pow_zero, Int.mul_one]; exact b2⟩ ?_ ?_
      · rintro j σ H3 hj ⟨v8, rfl, rfl, hbd⟩
        push_cast [and_true]
        refine ⟨⟨⟨_, by omega, hbd⟩, ⟨100, by decide, hv⟩⟩, by rw [Int.mul_assoc, ← Int.pow_succ], ?_⟩
        rw [Int.pow_succ, ← Int.mul_assoc, Int.natAbs_mul, show 5000 + 100 * (j + 1) = (5000 + 100 * j) + 100 by omega, Nat.pow_add]
        exact Nat.mul_lt_mul'' hbd hv
      · rintro σ H3 ⟨v8, rfl, rfl, hbd⟩
        push_cast [and_true]
        refine ⟨tyV_list (S _ _ hy), by show (2 : Nat) ≤ sizeLine; decide, fun p1 hp1 => ?_⟩
        have sB := S.trans (same_new hp1 (.tup [.ref l, .int (f[i].2 * v ^ f[i].1.count x)]))
        have h4 := sB _ _ hy
        have ly := hY.1
        have er : replR (f.take (i + 1)) x v = replR (f.take i) x v ++ [(f[i].1.filter (fun y => decide (y ≠ x)), f[i].2 * v ^ f[i].1.count x)] := by
          unfold replR
          rw [List.take_add_one, List.getElem?_eq_getElem hi, List.map_append]
          rfl
        have lr : (replR (f.take i) x v).length = (f.take i).length := List.length_map _
        rw [lr, List.length_take] at ly
        refine (append_ok (K := K) h4 (by omega) ⟨(s1.trans sB).upd hp _, _, upd_same, ?_⟩).2
        rw [er]
        have tk := TK.put (o' := .lst (ys ++ [.ref p1])) h4 fun xs e => by cases e
        exact ((hY.keep (TK.of sB)).app (RowsF.one upd_same (same_new hp1 _ _ _ upd_same))).keep tk
  · rintro σ H' ⟨v4, v5, v6, v7, v8, ys, rfl, s1, hy, hY⟩
    rw [la, List.take_length] at hY
    push_cast [spGath]
    exact ⟨ys, .inl hy, _, hY, by unfold replR; rw [List.length_map]; exact hl, fun c H1 s2 hc => q c H1 (s1.trans s2) hc⟩
abbrev sKeepV : Stmt := top 22
theorem scKeepV : FnScope ["form", "name", "most", "value"] ["form", "name", "most"] (defScope sKeepV) := ⟨rfl, rfl, rfl, by decide +kernel, rfl, by decide +kernel, by decide +kernel⟩
theorem hasKeepV (G : Gs w K mg) (h_name_replaced : Has P w K mg base k "name_replaced" ["form", "name", "value"] spRepl) (D : Def K mg "keeping_value" sKeepV ["form", "name", "most"]) : Has P w K mg base (k + 1) "keeping_value" ["form", "name", "most"] spKeepV := by
  refine D.has scKeepV (fun vs H Q E h => ?_) (fun f cdv A outer s H vs Q E hr h => ?_)
  · obtain ⟨_, _, _, _, rfl, _, _, _, _, _⟩ := h
    rfl
  have nd := scKeepV.nd
  have hu := hu_of hr
  have hu0 := Nat.lt_of_succ_lt hu
  have hu8 := hu8_of hr
  obtain ⟨a, f, x, m, rfl, ha, hl, hb, hm, q⟩ := h
  have m_range := G.m_range
  refine ⟨_, (@pss_cons _ _ _ _ _ (@ps_for _ _ _ _ _ _ _ _ PassesOwn.never rfl (@pi_range1 _ _ _ _ _ _ rfl m_range (@pa_cons _ _ _ _ _ (@pvD _ 2 _ _ (by rfl) (by first | exact Or.inl rfl | exact Or.inr (Or.inl rfl) | exact Or.inr (Or.inr rfl)) (by decide) (by decide)) (@pa_nil _) (by rfl)) (by rfl)) (@pg_name _ _ 3 _ nd rfl (by first | exact Or.inl rfl | exact Or.inr rfl) (by first | exact .inl rfl | exact .inr rfl | assumption)) (@pss_one _ _ _ (@ps_if _ _ _ _ _ _ _ _ (@pt_cmpR _ _ _ _ _ _ _ _ (@op_neG _ hu8) (@pe_has _ _ _ _ _ _ _ _ _ _ h_name_replaced hr (@pa_cons _ _ _ _ _ (@pvD _ 0 _ _ (by rfl) (by first | exact Or.inl rfl | exact Or.inr (Or.inl rfl) | exact Or.inr (Or.inr rfl)) (by decide) (by decide)) (@pa_cons _ _ _ _ _ (@pvD _ 1 _ _ (by rfl) (by first | exact Or.inl rfl | exact Or.inr (Or.inl rfl) | exact Or.inr (Or.inr rfl)) (by decide) (by decide)) (@pa_cons _ _ _ _ _ (@pvD _ 3 _ _ (by rfl) (by first | exact Or.inl rfl | exact Or.inr (Or.inl rfl) | exact Or.inr (Or.inr rfl)) (by decide) (by decide)) (@pa_nil _) (by rfl)) (by rfl)) (by rfl)) (by rfl) (by decide +kernel) (by rfl) (by rfl)) (@pe_tup _ _ _ _ _ (@pa_nil _)) (@nomark _ _ (by decide) (by decide))) (@pss_one _ _ _ (@ps_ret _ _ _ _ (@pvD _ 3 _ _ (by rfl) (by first | exact Or.inl rfl | exact Or.inr (Or.inl rfl) | exact Or.inr (Or.inr rfl)) (by decide) (by decide)))) (@pss_nil _))) (by intro _; rfl)) (@pss_one _ _ _ (@ps_ret _ _ _ _ (@pvD _ 2 _ _ (by rfl) (by first | exact Or.inl rfl | exact Or.inr (Or.inl rfl) | exact Or.inr (Or.inr rfl)) (by decide) (by decide))))), ?_⟩
  rw [show start ["form", "name", "most", "value"] [.ref a, .str x, .int (m : Int)] = [some (.ref a), some (.str x), some (.int (m : Int)), none] from rfl]
  clear hu hu0 nd hr
  push_cast [spRepl]
  have tn : ((m : Nat) : Int).toNat = m := Int.toNat_natCast _
  refine ⟨by omega, by omega, ?_⟩
  refine forW_range (lo := 0) (n := m) (fun i σ H' => ∃ v3 : Option V, σ = [some (.ref a), some (.str x), some (.int (m : Int)), v3] ∧ Same H H' ∧ ∀ u : Nat, u < i → replF f x (u : Int) = []) ⟨none, rfl, Same.refl _, fun u h => absurd h (Nat.not_lt_zero u)⟩ ?_ ?_
  · rintro i σ H' hi ⟨v3, rfl, s1, hz⟩
    push_cast [spRepl, rEqG]
    have e0 : (0 : Int) + (i : Int) = (i : Int) := Int.zero_add _
    rw [e0]
    refine ⟨f, ha.keep (TK.of s1), hl, hb, ?_, fun b H1 s2 hb2 => ⟨Nat.zero_le _, fun p hp => ⟨_, hb2.keep (TK.of (same_new hp _)), [], ⟨[], upd_same, RowsF.nil _⟩, ?_⟩⟩⟩
    · show i < 2 ^ 100
      exact Nat.lt_of_lt_of_le (Nat.lt_of_lt_of_le hi hm) (by decide +kernel)
    · have S := (s1.trans s2).trans (same_new hp (.tup []))
      by_cases e : replF f x (i : Int) = []
      · rw [decide_eq_true e]
        refine ⟨S, fun u hu => ?_⟩
        rcases Nat.lt_or_ge u i with k' | k'
        · exact hz u k'
        · rw [show u = i by omega]; exact e
      · rw [decide_eq_false e]
        exact q i _ S (Nat.le_of_lt hi) (fun _ => e) fun z => absurd z (by omega)
  · rintro σ H' ⟨v3, rfl, s1, hz⟩
    push_cast [and_true]
    exact q m H' s1 (Nat.le_refl _) (fun z => absurd z (Nat.lt_irrefl _)) fun _ => hz
abbrev sNamesIn : Stmt := top 19
theorem scNamesIn : FnScope ["rows", "found", "names", "factor", "name"] ["rows"] (defScope sNamesIn) := ⟨rfl, rfl, rfl, by decide +kernel, rfl, by decide +kernel, by decide +kernel⟩
theorem hasNamesIn (G : Gs w K mg) (D : Def K mg "names_in" sNamesIn ["rows"]) : Has P w K mg base (k + 1) "names_in" ["rows"] spNamesIn := by
  refine D.has scNamesIn (fun vs H Q E h => ?_) (fun f cdv A outer s H vs Q E hr h => ?_)
  · obtain ⟨_, _, _, rfl, _, _, _, _⟩ := h
    rfl
  have nd := scNamesIn.nd
  have hu := hu_of hr
  have hu0 := Nat.lt_of_succ_lt hu
  obtain ⟨a, f, zs, rfl, ha, hf, hz, q⟩ := h
  have m_sorted := G.m_sorted
  refine ⟨_, (@pss_cons _ _ _ _ _ (@ps_set _ _ 1 _ _ _ _ nd rfl (by first | exact Or.inl rfl | exact Or.inr rfl) (@pe_dnewK _ _) (by rfl) (by first | exact .inl rfl | exact .inr rfl | assumption)) (@pss_cons _ _ _ _ _ (@ps_for _ _ _ _ _ _ _ _ PassesOwn.never rfl (@pi_tup _ _ _ _ (@pvD _ 0 _ _ (by rfl) (by first | exact Or.inl rfl | exact Or.inr (Or.inl rfl) | exact Or.inr (Or.inr rfl)) (by decide) (by decide))) (@pg_tup _ _ _ _ _ _ rfl (@pgs_cons _ _ _ _ _ (@pg_name _ _ 2 _ nd rfl (by first | exact Or.inl rfl | exact Or.inr rfl) (by first | exact .inl rfl | exact .inr rfl | assumption)) (@pgs_cons _ _ _ _ _ (@pg_name _ _ 3 _ nd rfl (by first | exact Or.inl rfl | exact Or.inr rfl) (by first | exact .inl rfl | exact .inr rfl | assumption)) (@pgs_nil _) (by rfl)) (by rfl)) (by rfl) (by rfl)) (@pss_one _ _ _ (@ps_for _ _ _ _ _ _ _ _ PassesOwn.never rfl (@pi_tup _ _ _ _ (@pvD _ 2 _ _ (by rfl) (by first | exact Or.inl rfl | exact Or.inr (Or.inl rfl) | exact Or.inr (Or.inr rfl)) (by decide) (by decide))) (@pg_name _ _ 4 _ nd rfl (by first | exact Or.inl rfl | exact Or.inr rfl) (by first | exact .inl rfl | exact .inr rfl | assumption)) (@pss_one _ _ _ (@ps_dput _ _ _ _ _ _ _ _ _ hu (@pvD _ 1 _ _ (by rfl) (by first | exact Or.inl rfl | exact Or.inr (Or.inl rfl) | exact Or.inr (Or.inr rfl)) (by decide) (by decide)) (@pvD _ 4 _ _ (by rfl) (by first | exact Or.inl rfl | exact Or.inr (Or.inl rfl) | exact Or.inr (Or.inr rfl)) (by decide) (by decide)) (@pe_bl _ _ _ _) rfl)) (by intro _; rfl))) (by intro _; rfl)) (@pss_one _ _ _ (@ps_ret _ _ _ _ (@pe_callB _ _ _ _ _ _ _ _ _ (@call_sortedS _ rfl) rfl m_sorted b_sorted (@pa_cons _ _ _ _ _ (@pvD _ 1 _ _ (by rfl) (by first | exact Or.inl rfl | exact Or.inr (Or.inl rfl) | exact Or.inr (Or.inr rfl)) (by decide) (by decide)) (@pa_nil _) (by rfl)) (by decide) (by decide) (by rfl) (by rfl)))))), ?_⟩
  rw [show start ["rows", "found", "names", "factor", "name"] [.ref a] = [some (.ref a), none, none, none, none] from rfl]
  clear hu hu0 nd hr
  push_cast [and_true]
  have sz := sizeLine_eq
  intro d hd
  obtain ⟨ra, a1, a2⟩ := id ha
  have la := a2.1
  have nda : d ≠ a := (ne_of_none a1 hd).symm
  refine ⟨⟨ra, SqT.of (same_new hd _ _ _ a1)⟩, forW_tup (xs := ra) (fun i σ H' => ∃ (v2 v3 v4 : Option V) (ks : List Str), σ = [some (.ref a), some (.ref d), v2, v3, v4] ∧ Same H H' ∧ H' d = some (.dK (trN ks)) ∧ ks.Nodup ∧ (∀ z, z ∈ ks ↔ ∃ p ∈ f.take i, z ∈ p.1)) ⟨none, none, none, [], rfl, same_new hd _, upd_same, List.nodup_nil, fun z => by rw [List.take_zero]; exact ⟨fun h => (nomatch h), fun ⟨_, h, _⟩ => (nomatch h)⟩⟩ (fun i σ H' _ h => ?_) ?_ ?_⟩
  · obtain ⟨_, _, _, _, _, s1, _⟩ := h
    exact SqT.of (s1 _ _ a1)
  · rintro i x σ H' hx ⟨v2, v3, v4, ks, rfl, s1, hD, nd', hks⟩
    have hi : i < f.length := by rw [← la]; exact (List.getElem?_eq_some_iff.mp hx).1
    obtain ⟨t, m, r1, r2, r3⟩ := a2.2 i f[i].1 f[i].2 (List.getElem?_eq_getElem hi)
    rw [hx] at r1
    cases r1
    have hm := s1 _ _ r3
    push_cast [gTup, gCons, gNil]
    refine ⟨_, SqT.of (s1 _ _ r2), rfl, _, _, rfl, _, _, rfl, rfl, ?_⟩
    refine ⟨m, rfl, ⟨_, SqT.of hm⟩, ?_⟩
    refine forW_tup (xs := f[i].1.map V.str) (fun j σ H1 => ∃ (v4 : Option V) (ks : List Str), σ = [some (.ref a), some (.ref d), some (.ref m), some (.int f[i].2), v4] ∧ Same H H1 ∧ H1 d = some (.dK (trN ks)) ∧ ks.Nodup ∧ (∀ z, z ∈ ks ↔ (∃ p ∈ f.take i, z ∈ p.1) ∨ z ∈ f[i].1.take j)) ⟨v4, ks, rfl, s1, hD, nd', fun z => by rw [hks z, List.take_zero]; exact ⟨fun h => .inl h, fun h => h.elim id fun z => (nomatch z)⟩⟩ (fun j σ H1 _ h => ?_) ?_ ?_
    · obtain ⟨_, _, _, s2, _⟩ := h
      exact SqT.of (s2 _ _ r3)
    · rintro j y σ H1 hy ⟨v4, ks, rfl, s2, hD2, nd2, hk2⟩
      rw [List.getElem?_map] at hy
      obtain ⟨z, hz', rfl⟩ := Option.map_eq_some_iff.mp hy
      push_cast [and_true]
      have hz1 : z ∈ f[i].1 := List.mem_of_getElem? hz'
      have kl : ks.length ≤ zs.length := nd_len nd2 fun y hy => by
        rcases (hk2 y).mp hy with ⟨p, hp, hp2⟩ | h
        · exact (hf p (List.mem_of_mem_take hp)).2 y hp2
        · exact (hf _ (List.getElem_mem hi)).2 y (List.mem_of_mem_take h)
      have tl : (trN ks).length = ks.length := List.length_map _
      refine ⟨_, DPut.k (k := Sum.inr z) hD2 (by omega), s2.upd hd _, if z ∈ ks then ks else ks ++ [z], by rw [upd_same, trN_put], ?_, fun y => ?_⟩
      · split
        · exact nd2
        · rename_i h
          exact List.nodup_append.mpr ⟨nd2, by simp, fun x hx y hy e => h (by rw [← List.mem_singleton.mp hy, ← e]; exact hx)⟩
      · rw [List.take_add_one, hz']
        show y ∈ (if z ∈ ks then ks else ks ++ [z]) ↔ (∃ p ∈ f.take i, y ∈ p.1) ∨ y ∈ f[i].1.take j ++ [z]
        rw [List.mem_append, List.mem_singleton, ← or_assoc, ← hk2 y]
        split
        · rename_i h
          exact ⟨fun x => .inl x, fun x => x.elim id fun e => by rw [e]; exact h⟩
        · rw [List.mem_append, List.mem_singleton]
    · rintro σ H1 ⟨v4, ks, rfl, s2, hD2, nd2, hk2⟩
      rw [List.length_map, List.take_length] at hk2
      refine ⟨⟨_, _, _, rfl⟩, s2, ks, hD2, nd2, fun z => ?_⟩
      rw [hk2 z, List.take_add_one, List.getElem?_eq_getElem hi]
      constructor
      · rintro (⟨p, hp, h⟩ | h)
        · exact ⟨p, List.mem_append_left _ hp, h⟩
        · exact ⟨f[i], List.mem_append_right _ (List.mem_singleton.mpr rfl), h⟩
      · rintro ⟨p, hp, h⟩
        rcases List.mem_append.mp hp with hp | hp
        · exact .inl ⟨p, hp, h⟩
        · rw [List.mem_singleton.mp hp] at h
          exact .inr h
  · rintro σ H' ⟨v2, v3, v4, ks, rfl, s1, hD, nd', hks⟩
    rw [la, List.take_length] at hks
    push_cast [and_true]
    have kl : ks.length ≤ zs.length := nd_len nd' fun y hy => by
      obtain ⟨p, hp, hp2⟩ := (hks y).mp hy
      exact (hf p hp).2 y hp2
    refine ⟨trN ks, .inl hD, ks, by unfold trN; rw [List.map_map]; rfl, by omega, fun l is hp hi hl => ?_⟩
    have hin : ∀ i ∈ is, i < ks.length := fun i h => List.mem_range.mp (hp.mem_iff.mp h)
    rw [sorted_names (zs := ks) (by rw [List.length_map]; exact hp) (by rw [List.length_map]; exact hi)]
    have pm := isort_perm (lt := ltS) ks
    exact q l (sortS ks) _ (s1.trans (same_new hl _)) upd_same (isort_srt (linS.pre id) ks) (pm.nodup_iff.mpr nd') fun z => by rw [sortS_mem]; exact hks z
abbrev sMost : Stmt := top 20
theorem scMost : FnScope ["rows", "most", "names", "factor", "name"] ["rows"] (defScope sMost) := ⟨rfl, rfl, rfl, by decide +kernel, rfl, by decide +kernel, by decide +kernel⟩
theorem hasMost (G : Gs w K mg) (D : Def K mg "most_times" sMost ["rows"]) : Has P w K mg base (k + 1) "most_times" ["rows"] spMost := by
  refine D.has scMost (fun vs H Q E h => ?_) (fun f cdv A outer s H vs Q E hr h => ?_)
  · obtain ⟨_, _, rfl, _, _, _⟩ := h
    rfl
  have nd := scMost.nd
  have hu := hu_of hr
  have hu0 := Nat.lt_of_succ_lt hu
  obtain ⟨a, f, rfl, ha, hf, q⟩ := h
  have m_max := G.m_max
  refine ⟨_, (@pss_cons _ _ _ _ _ (@ps_set _ _ 1 _ _ _ _ nd rfl (by first | exact Or.inl rfl | exact Or.inr rfl) (@pe_int _ _ _ _) (by rfl) (by first | exact .inl rfl | exact .inr rfl | assumption)) (@pss_cons _ _ _ _ _ (@ps_for _ _ _ _ _ _ _ _ PassesOwn.never rfl (@pi_tup _ _ _ _ (@pvD _ 0 _ _ (by rfl) (by first | exact Or.inl rfl | exact Or.inr (Or.inl rfl) | exact Or.inr (Or.inr rfl)) (by decide) (by decide))) (@pg_tup _ _ _ _ _ _ rfl (@pgs_cons _ _ _ _ _ (@pg_name _ _ 2 _ nd rfl (by first | exact Or.inl rfl | exact Or.inr rfl) (by first | exact .inl rfl | exact .inr rfl | assumption)) (@pgs_cons _ _ _ _ _ (@pg_name _ _ 3 _ nd rfl (by first | exact Or.inl rfl | exact Or.inr rfl) (by first | exact .inl rfl | exact .inr rfl | assumption)) (@pgs_nil _) (by rfl)) (by rfl)) (by rfl) (by rfl)) (@pss_one _ _ _ (@ps_for _ _ _ _ _ _ _ _ PassesOwn.never rfl (@pi_tup _ _ _ _ (@pvD _ 2 _ _ (by rfl) (by first | exact Or.inl rfl | exact Or.inr (Or.inl rfl) | exact Or.inr (Or.inr rfl)) (by decide) (by decide))) (@pg_name _ _ 4 _ nd rfl (by first | exact Or.inl rfl | exact Or.inr rfl) (by first | exact .inl rfl | exact .inr rfl | assumption)) (@pss_one _ _ _ (@ps_set _ _ 1 _ _ _ _ nd rfl (by first | exact Or.inl rfl | exact Or.inr rfl) (@pe_callB _ _ _ _ _ _ _ _ _ (@call_max2 _ rfl) rfl m_max b_max (@pa_cons _ _ _ _ _ (@pvD _ 1 _ _ (by rfl) (by first | exact Or.inl rfl | exact Or.inr (Or.inl rfl) | exact Or.inr (Or.inr rfl)) (by decide) (by decide)) (@pa_cons _ _ _ _ _ (@pe_bm _ _ _ _ _ _ _ _ _ _ _ _ PySem.F.plainAttrs_tuple PySem.F.slot_tuple_count PySem.F.type_tuple_count (@mt_countT _) (@pvD _ 2 _ _ (by rfl) (by first | exact Or.inl rfl | exact Or.inr (Or.inl rfl) | exact Or.inr (Or.inr rfl)) (by decide) (by decide)) (@pa_cons _ _ _ _ _ (@pvD _ 4 _ _ (by rfl) (by first | exact Or.inl rfl | exact Or.inr (Or.inl rfl) | exact Or.inr (Or.inr rfl)) (by decide) (by decide)) (@pa_nil _) (by rfl)) (by rfl) (by rfl) (by rfl) (by rfl) (by rfl)) (@pa_nil _) (by rfl)) (by rfl)) (by decide) (by decide) (by rfl) (by rfl)) (by rfl) (by first | exact .inl rfl | exact .inr rfl | assumption))) (by intro _; rfl))) (by intro _; rfl)) (@pss_one _ _ _ (@ps_ret _ _ _ _ (@pvD _ 1 _ _ (by rfl) (by first | exact Or.inl rfl | exact Or.inr (Or.inl rfl) | exact Or.inr (Or.inr rfl)) (by decide) (by decide)))))), ?_⟩
  rw [show start ["rows", "most", "names", "factor", "name"] [.ref a] = [some (.ref a), none, none, none, none] from rfl]
  clear hu hu0 nd hr
  push_cast [and_true]
  have sz := sizeLine_eq
  obtain ⟨ra, a1, a2⟩ := id ha
  have la := a2.1
  refine ⟨⟨ra, SqT.of a1⟩, forW_tup (xs := ra) (fun i σ H' => ∃ (v2 v3 v4 : Option V), σ = [some (.ref a), some (.int (mostF (f.take i) : Int)), v2, v3, v4] ∧ H' = H) ⟨none, none, none, rfl, rfl⟩ (fun i σ H' _ h => ?_) ?_ ?_⟩
  · obtain ⟨_, _, _, _, rfl⟩ := h
    exact SqT.of a1
  · rintro i x σ H' hx ⟨v2, v3, v4, rfl, rfl⟩
    have hi : i < f.length := by rw [← la]; exact (List.getElem?_eq_some_iff.mp hx).1
    obtain ⟨t, m, r1, r2, r3⟩ := a2.2 i f[i].1 f[i].2 (List.getElem?_eq_getElem hi)
    rw [hx] at r1
    cases r1
    push_cast [gTup, gCons, gNil]
    refine ⟨_, SqT.of r2, rfl, _, _, rfl, _, _, rfl, rfl, m, rfl, ⟨_, SqT.of r3⟩, ?_⟩
    refine forW_tup (xs := f[i].1.map V.str) (fun j σ H1 => ∃ v4 : Option V, σ = [some (.ref a), some (.int (((f[i].1.take j).map fun z => f[i].1.count z).foldl max (mostF (f.take i)) : Nat)), some (.ref m), some (.int f[i].2), v4] ∧ H1 = H') ⟨v4, rfl, rfl⟩ (fun j σ H1 _ h => ?_) ?_ ?_
    · obtain ⟨_, _, rfl⟩ := h
      exact SqT.of r3
    · rintro j y σ H1 hy ⟨v4, rfl, rfl⟩
      rw [List.getElem?_map] at hy
      obtain ⟨z, hz', rfl⟩ := Option.map_eq_some_iff.mp hy
      push_cast [rCountT]
      refine ⟨tyV_tup r3, f[i].1, r3, ?_⟩
      rw [List.take_add_one, hz']
      show _ = ((((f[i].1.take j ++ [z]).map fun z => f[i].1.count z).foldl max (mostF (f.take i)) : Nat) : Int)
      rw [List.map_append, List.foldl_append]
      show _ = ((max _ (f[i].1.count z) : Nat) : Int)
      rw [Nat.max_def]
      split <;> split <;> omega
    · rintro σ H1 ⟨v4, rfl, rfl⟩
      rw [List.length_map, List.take_length]
      refine ⟨⟨some (.ref m), some (.int f[i].2), v4, ?_⟩, rfl⟩
      rw [List.take_add_one, List.getElem?_eq_getElem hi]
      unfold mostF
      rw [List.foldl_append]
      rfl
  · rintro σ H' ⟨v2, v3, v4, rfl, rfl⟩
    rw [la, List.take_length]
    push_cast [and_true]
    exact q _ (Same.refl _)
abbrev sPart : Stmt := top 23
theorem scPart : FnScope ["one", "other", "left", "most", "values", "name"] ["one", "other"] (defScope sPart) := ⟨rfl, rfl, rfl, by decide +kernel, rfl, by decide +kernel, by decide +kernel⟩
theorem hasPart (G : Gs w K mg) (h_keeping_value : Has P w K mg base k "keeping_value" ["form", "name", "most"] spKeepV) (h_minus : Has P w K mg base k "minus" ["one", "other"] spMinus) (h_most_times : Has P w K mg base k "most_times" ["rows"] spMost) (h_name_replaced : Has P w K mg base k "name_replaced" ["form", "name", "value"] spRepl) (h_names_in : Has P w K mg base k "names_in" ["rows"] spNamesIn) (D : Def K mg "parting" sPart ["one", "other"]) : Has P w K mg base (k + 1) "parting" ["one", "other"] spPart := by
  refine D.has scPart (fun vs H Q E h => ?_) (fun f cdv A outer s H vs Q E hr h => ?_)
  · obtain ⟨_, _, _, _, _, rfl, _, _, _, _, _, _, _, _⟩ := h
    rfl
  have nd := scPart.nd
  have hu := hu_of hr
  have hu0 := Nat.lt_of_succ_lt hu
  have hu8 := hu8_of hr
  obtain ⟨a, b, f, g, zs, rfl, ha, hb, hf, hg, hl, hz, q1, q2⟩ := h
  refine ⟨_, (@pss_cons _ _ _ _ _ (@ps_set _ _ 2 _ _ _ _ nd rfl (by first | exact Or.inl rfl | exact Or.inr rfl) (@pe_has _ _ _ _ _ _ _ _ _ _ h_minus hr (@pa_cons _ _ _ _ _ (@pvD _ 0 _ _ (by rfl) (by first | exact Or.inl rfl | exact Or.inr (Or.inl rfl) | exact Or.inr (Or.inr rfl)) (by decide) (by decide)) (@pa_cons _ _ _ _ _ (@pvD _ 1 _ _ (by rfl) (by first | exact Or.inl rfl | exact Or.inr (Or.inl rfl) | exact Or.inr (Or.inr rfl)) (by decide) (by decide)) (@pa_nil _) (by rfl)) (by rfl)) (by rfl) (by decide +kernel) (by rfl) (by rfl)) (by rfl) (by first | exact .inl rfl | exact .inr rfl | assumption)) (@pss_cons _ _ _ _ _ (@ps_if _ _ _ _ _ _ _ _ (@pt_cmpR _ _ _ _ _ _ _ _ (@op_eqG _ hu8) (@pvD _ 2 _ _ (by rfl) (by first | exact Or.inl rfl | exact Or.inr (Or.inl rfl) | exact Or.inr (Or.inr rfl)) (by decide) (by decide)) (@pe_tup _ _ _ _ _ (@pa_nil _)) (@nomark _ _ (by decide) (by decide))) (@pss_one _ _ _ (@ps_ret _ _ _ _ (@pe_non _ _ _))) (@pss_nil _)) (@pss_cons _ _ _ _ _ (@ps_set _ _ 3 _ _ _ _ nd rfl (by first | exact Or.inl rfl | exact Or.inr rfl) (@pe_has _ _ _ _ _ _ _ _ _ _ h_most_times hr (@pa_cons _ _ _ _ _ (@pe_op _ _ _ _ _ _ _ _ (@op_catU _) (@pvD _ 0 _ _ (by rfl) (by first | exact Or.inl rfl | exact Or.inr (Or.inl rfl) | exact Or.inr (Or.inr rfl)) (by decide) (by decide)) (@pvD _ 1 _ _ (by rfl) (by first | exact Or.inl rfl | exact Or.inr (Or.inl rfl) | exact Or.inr (Or.inr rfl)) (by decide) (by decide))) (@pa_nil _) (by rfl)) (by rfl) (by decide +kernel) (by rfl) (by rfl)) (by rfl) (by first | exact .inl rfl | exact .inr rfl | assumption)) (@pss_cons _ _ _ _ _ (@ps_set _ _ 4 _ _ _ _ nd rfl (by first | exact Or.inl rfl | exact Or.inr rfl) (@pe_dnewK _ _) (by rfl) (by first | exact .inl rfl | exact .inr rfl | assumption)) (@pss_cons _ _ _ _ _ (@ps_for _ _ _ _ _ _ _ _ PassesOwn.never rfl (@pi_list _ _ _ _ (@pe_has _ _ _ _ _ _ _ _ _ _ h_names_in hr (@pa_cons _ _ _ _ _ (@pe_op _ _ _ _ _ _ _ _ (@op_catU _) (@pvD _ 0 _ _ (by rfl) (by first | exact Or.inl rfl | exact Or.inr (Or.inl rfl) | exact Or.inr (Or.inr rfl)) (by decide) (by decide)) (@pvD _ 1 _ _ (by rfl) (by first | exact Or.inl rfl | exact Or.inr (Or.inl rfl) | exact Or.inr (Or.inr rfl)) (by decide) (by decide))) (@pa_nil _) (by rfl)) (by rfl) (by decide +kernel) (by rfl) (by rfl))) (@pg_name _ _ 5 _ nd rfl (by first | exact Or.inl rfl | exact Or.inr rfl) (by first | exact .inl rfl | exact .inr rfl | assumption)) (@pss_cons _ _ _ _ _ (@ps_dput _ _ _ _ _ _ _ _ _ hu (@pvD _ 4 _ _ (by rfl) (by first | exact Or.inl rfl | exact Or.inr (Or.inl rfl) | exact Or.inr (Or.inr rfl)) (by decide) (by decide)) (@pvD _ 5 _ _ (by rfl) (by first | exact Or.inl rfl | exact Or.inr (Or.inl rfl) | exact Or.inr (Or.inr rfl)) (by decide) (by decide)) (@pe_has _ _ _ _ _ _ _ _ _ _ h_keeping_value hr (@pa_cons _ _ _ _ _ (@pvD _ 2 _ _ (by rfl) (by first | exact Or.inl rfl | exact Or.inr (Or.inl rfl) | exact Or.inr (Or.inr rfl)) (by decide) (by decide)) (@pa_cons _ _ _ _ _ (@pvD _ 5 _ _ (by rfl) (by first | exact Or.inl rfl | exact Or.inr (Or.inl rfl) | exact Or.inr (Or.inr rfl)) (by decide) (by decide)) (@pa_cons _ _ _ _ _ (@pvD _ 3 _ _ (by rfl) (by first | exact Or.inl rfl | exact Or.inr (Or.inl rfl) | exact Or.inr (Or.inr rfl)) (by decide) (by decide)) (@pa_nil _) (by rfl)) (by rfl)) (by rfl)) (by rfl) (by decide +kernel) (by rfl) (by rfl)) rfl) (@pss_one _ _ _ (@ps_set _ _ 2 _ _ _ _ nd rfl (by first | exact Or.inl rfl | exact Or.inr rfl) (@pe_has _ _ _ _ _ _ _ _ _ _ h_name_replaced hr (@pa_cons _ _ _ _ _ (@pvD _ 2 _ _ (by rfl) (by first | exact Or.inl rfl | exact Or.inr (Or.inl rfl) | exact Or.inr (Or.inr rfl)) (by decide) (by decide)) (@pa_cons _ _ _ _ _ (@pvD _ 5 _ _ (by rfl) (by first | exact Or.inl rfl | exact Or.inr (Or.inl rfl) | exact Or.inr (Or.inr rfl)) (by decide) (by decide)) (@pa_cons _ _ _ _ _ (@pe_dget _ _ _ _ _ _ hu (@pvD _ 4 _ _ (by rfl) (by first | exact Or.inl rfl | exact Or.inr (Or.inl rfl) | exact Or.inr (Or.inr rfl)) (by decide) (by decide)) (@pvD _ 5 _ _ (by rfl) (by first | exact Or.inl rfl | exact Or.inr (Or.inl rfl) | exact Or.inr (Or.inr rfl)) (by decide) (by decide)) (fun _ _ => rfl)) (@pa_nil _) (by rfl)) (by rfl)) (by rfl)) (by rfl) (by decide +kernel) (by rfl) (by rfl)) (by rfl) (by first | exact .inl rfl | exact .inr rfl | assumption)))) (by intro _; rfl)) (@pss_one _ _ _ (@ps_ret _ _ _ _ (@pvD _ 4 _ _ (by rfl) (by first | exact Or.inl rfl | exact Or.inr (Or.inl rfl) | exact Or.inr (Or.inr rfl)) (by decide) (by decide))))))))), ?_⟩
  rw [show start ["one", "other", "left", "most", "values", "name"] [.ref a, .ref b] = [some (.ref a), some (.ref b), none, none, none, none] from rfl]
  clear hu hu0 nd hr
  push_cast [spKeepV, spMinus, spMost, spRepl, spNamesIn]
  have sz := sizeLine_eq
  have rowsS : ∀ p ∈ f ++ g, p.1.length ≤ 16 ∧ ∀ z ∈ p.1, z ∈ zs := fun p hp => by
    rcases List.mem_append.mp hp with k' | k'
    · exact ⟨(hf.row p k').1, (hf.row p k').2.2.2⟩
    · exact ⟨(hg.row p k').1, (hg.row p k').2.2.2⟩
  have hm16 : mostF (f ++ g) ≤ 16 := mostF_le _ 0 (Nat.zero_le _) fun p hp => (rowsS p hp).1
  refine ⟨f, ha, g, hb, hl, fun c H1 s1 hc => ⟨Nat.zero_le _, fun p hp => ?_⟩⟩
  push_cast [rEqG]
  refine ⟨_, hc.keep (TK.of (same_new hp _)), [], ⟨[], upd_same, RowsF.nil _⟩, ?_⟩
  have s2 : Same H (upd H1 p (.tup [])) := s1.trans (same_new hp _)
  by_cases e : minusF f g = []
  · rw [if_pos e]
    exact q1 ((minus_none hf.nf hg.nf).mp e) _ s2
  · rw [if_neg e]
    have hne : f ≠ g := fun z => e ((minus_none hf.nf hg.nf).mpr z)
    obtain ⟨rA, a1, a2⟩ := id ha
    obtain ⟨rB, b1, b2⟩ := id hb
    have lA := a2.1
    have lB := b2.1
    refine rCatU_ok (s2 _ _ a1) (s2 _ _ b1) (by omega) fun pc H3 s3 h3 => ⟨pc, rfl, f ++ g, ⟨_, h3, (a2.keep (TK.of (s2.trans s3))).app (b2.keep (TK.of (s2.trans s3)))⟩, fun p hp => Nat.le_trans (rowsS p hp).1 (by decide), fun H4 s4 d hd => ?_⟩
    have S4 : Same H (upd H4 d (.dK [])) := ((s2.trans s3).trans s4).trans (same_new hd _)
    have hdn : H d = none := ((s2.trans s3).trans s4).free hd
    refine rCatU_ok (S4 _ _ a1) (S4 _ _ b1) (by omega) fun pc2 H5 s5 h5 => ⟨pc2, rfl, f ++ g, ⟨_, h5, (a2.keep (TK.of (S4.trans s5))).app (b2.keep (TK.of (S4.trans s5)))⟩, zs, fun p hp => ⟨Nat.le_trans (rowsS p hp).1 (by decide), (rowsS p hp).2⟩, by omega, fun l ns H6 s6 hL hsrt hnd hmem => ⟨⟨_, SqL.of hL⟩, ?_⟩⟩
    have hd6 : H6 d = some (.dK []) := s6 _ _ (s5 _ _ upd_same)
    have S6 := (S4.trans s5).trans s6
    have hc6 : FormAt H6 c (minusF f g) := hc.keep (TK.of (((((same_new hp _).trans s3).trans s4).trans (same_new hd _)).trans (s5.trans s6)))
    have nld : l ≠ d := ne_of hL hd6 (by intro e; cases e)
    have nlen : ns.length ≤ zs.length := nd_len hnd fun z hz' => by
      obtain ⟨p, hp, h⟩ := (hmem z).mp hz'
      exact (rowsS p hp).2 z h
    have st := PartOk.start hf hg hl (ns := ns) (fun z h => (hmem z).mpr h) hne
    refine forW_list (xs := ns.map V.str) (fun i σ H' => ∃ (v5 : Option V) (lf : Addr) (left : Form) (us : List Nat), σ = [some (.ref a), some (.ref b), some (.ref lf), some (.int (mostF (f ++ g) : Int)), some (.ref d), v5] ∧ Same H H' ∧ H' l = some (.lst (ns.map V.str)) ∧ FormAt H' lf left ∧ us.length = i ∧ H' d = some (.dK (((ns.take i).zip us).map fun p => (Sum.inr p.1, V.int (p.2 : Int)))) ∧ PartOk (ns.drop i) (mostF (f ++ g)) (2606 + 86 * i) left ∧ (∀ u ∈ us, u ≤ mostF (f ++ g)) ∧ ∀ ρ : Str → Option Int, (∀ p ∈ (ns.take i).zip us, ρ p.1 = some (p.2 : Int)) → evF ρ (minusF f g) = evF ρ left) ⟨none, c, minusF f g, [], rfl, S6, hL, hc6, rfl, by rw [List.take_zero]; exact hd6, st, (fun _ h => nomatch h), fun _ _ => rfl⟩ (fun i σ H' _ h => ?_) ?_ ?_
    · obtain ⟨_, _, _, _, _, _, h, _⟩ := h
      exact SqL.of h
    · rintro i x σ H' hx ⟨v5, lf, left, us, rfl, s7, hL7, hlf, hul, hd7, po, hub, hev⟩
      rw [List.getElem?_map] at hx
      obtain ⟨z, hz', rfl⟩ := Option.map_eq_some_iff.mp hx
      have hi : i < ns.length := (List.getElem?_eq_some_iff.mp hz').1
      have ez : ns[i] = z := by rw [List.getElem?_eq_getElem hi] at hz'; exact Option.some.inj hz'
      have ed : ns.drop i = z :: ns.drop (i + 1) := by rw [List.drop_eq_getElem_cons hi, ez]
      rw [ed] at po
      have lt' : (ns.take i).length = us.length := by rw [List.length_take]; omega
      have rb : ∀ p ∈ left, p.1.length ≤ 64 ∧ p.2.natAbs < 2 ^ 5000 := fun p hp => ⟨Nat.le_trans (po.row p hp).1 (by decide), Nat.lt_of_lt_of_le (po.row p hp).2.1 (Nat.pow_le_pow_right (by decide) (by omega))⟩
      push_cast [spKeepV, spRepl]
      refine ⟨left, _, rfl, hlf, po.len, rb, hm16, fun v H1 s8 hv h1 h2 => ?_⟩
      have kl : (((ns.take i).zip us).map fun p => ((Sum.inr p.1 : Key), V.int (p.2 : Int))).length ≤ 8 := by
        rw [List.length_map, List.length_zip]
        omega
      have hnz : z ∉ ns.take i := fun h => by
        have n1 : (ns.take i ++ ns.drop i).Nodup := by rw [List.take_append_drop]; exact hnd
        rw [ed] at n1
        exact (List.nodup_append.mp n1).2.2 z h z List.mem_cons_self rfl
      have pk : putK (((ns.take i).zip us).map fun p => ((Sum.inr p.1 : Key), V.int (p.2 : Int))) (Sum.inr z) (.int (v : Int)) = ((ns.take (i + 1)).zip (us ++ [v])).map fun p => (Sum.inr p.1, V.int (p.2 : Int)) := by
        rw [List.take_add_one, hz']
        show _ = ((ns.take i ++ [z]).zip (us ++ [v])).map fun p => (Sum.inr p.1, V.int (p.2 : Int))
        rw [List.zip_append lt', List.map_append]
        unfold putK
        rw [if_neg]
        · rfl
        · rw [List.any_eq_true]
          rintro ⟨kv, hkv, e⟩
          obtain ⟨p, hp, rfl⟩ := List.mem_map.mp hkv
          have e : (Sum.inr p.1 : Key) = Sum.inr z := of_decide_eq_true e
          exact hnz (Sum.inr.inj e ▸ (List.of_mem_zip hp).1)
      have kp := po.keep hv h1 h2
      have hd1 := s8 _ _ hd7
      have g0 : DGet (upd H1 d (.dK (putK (((ns.take i).zip us).map fun p => ((Sum.inr p.1 : Key), V.int (p.2 : Int))) (Sum.inr z) (.int (v : Int))))) d (.str z) (some (.int (v : Int))) := by
        have := DGet.k (k := Sum.inr z) (a := d) (H := upd H1 d (.dK (putK (((ns.take i).zip us).map fun p => ((Sum.inr p.1 : Key), V.int (p.2 : Int))) (Sum.inr z) (.int (v : Int))))) upd_same
        rw [valV_put, if_pos rfl] at this
        exact this
      refine ⟨_, DPut.k (k := Sum.inr z) hd1 (by omega), _, g0, left, (v : Int), rfl, (hlf.keep (TK.of s8)).keep (TK.put hd1 fun xs e => by cases e), po.len, rb, ?_, fun b2 H3 s9 hb2 => ⟨((s7.trans s8).upd hdn _).trans s9, s9 _ _ (by rw [upd_ne nld]; exact s8 _ _ hL7), replF left z v, hb2, us ++ [v], by rw [List.length_append, hul]; rfl, by rw [← pk]; exact s9 _ _ upd_same, ?_, ?_, ?_⟩⟩
      · show v < 2 ^ 100
        exact Nat.lt_of_le_of_lt (Nat.le_trans hv hm16) (by decide +kernel)
      · rw [show 2606 + 86 * (i + 1) = 2606 + 86 * i + 86 by omega]
        exact po.step hm16 hv kp
      · intro u hu'
        rcases List.mem_append.mp hu' with k' | k'
        · exact hub u k'
        · rw [List.mem_singleton.mp k']
          exact hv
      · intro ρ hρ
        rw [List.take_add_one, hz'] at hρ
        have hρ : ∀ p ∈ (ns.take i ++ [z]).zip (us ++ [v]), ρ p.1 = some (p.2 : Int) := hρ
        rw [List.zip_append lt'] at hρ
        rw [ev_repl ρ (hρ (z, v) (List.mem_append_right _ List.mem_cons_self)) left]
        exact hev ρ fun p hp => hρ p (List.mem_append_left _ hp)
    · rintro σ H' ⟨v5, lf, left, us, rfl, s7, hL7, hlf, hul, hd7, po, hub, hev⟩
      rw [List.length_map] at hul hd7 po hev
      rw [List.take_length] at hd7 hev
      rw [List.drop_length] at po
      push_cast [and_true]
      exact q2 hne d ns us H' s7 hdn hd7 hul.symm hsrt hnd hmem hub fun ρ hρ h => po.fin ρ (by rw [← hev ρ hρ, ev_minus, h]; omega)
abbrev sNext : Stmt := top 25
theorem scNext : FnScope ["deck", "at"] ["deck"] (defScope sNext) := ⟨rfl, rfl, rfl, by decide +kernel, rfl, by decide +kernel, by decide +kernel⟩
theorem hasNext (G : Gs w K mg) (D : Def K mg "_law_next" sNext ["deck"]) : Has P w K mg base (k + 1) "_law_next" ["deck"] spNext := by
  refine D.has scNext (fun vs H Q E h => ?_) (fun f cdv A outer s H vs Q E hr h => ?_)
  · obtain ⟨_, _, _, _, rfl, _, _, _⟩ := h
    rfl
  have nd := scNext.nd
  have hu := hu_of hr
  have hu0 := Nat.lt_of_succ_lt hu
  obtain ⟨d, b, ns, n, rfl, hD, hn, q⟩ := h
  have m_len := G.m_len
  have m_sum := G.m_sum
  refine ⟨_, (@pss_cons _ _ _ _ _ (@ps_set _ _ 1 _ _ _ _ nd rfl (by first | exact Or.inl rfl | exact Or.inr rfl) (@pe_ix _ _ _ _ _ _ _ (@ix_list _) (@pvD _ 0 _ _ (by rfl) (by first | exact Or.inl rfl | exact Or.inr (Or.inl rfl) | exact Or.inr (Or.inr rfl)) (by decide) (by decide)) (@pe_int _ _ _ _) (fun _ _ => rfl)) (by rfl) (by first | exact .inl rfl | exact .inr rfl | assumption)) (@pss_cons _ _ _ _ _ (@ps_asg _ _ _ _ _ _ (@pe_op _ _ _ _ _ _ _ _ (@op_add _) (@pvD _ 1 _ _ (by rfl) (by first | exact Or.inl rfl | exact Or.inr (Or.inl rfl) | exact Or.inr (Or.inr rfl)) (by decide) (by decide)) (@pe_int _ _ _ _)) (@pg_sub _ _ _ _ _ _ _ (@pvD _ 0 _ _ (by rfl) (by first | exact Or.inl rfl | exact Or.inr (Or.inl rfl) | exact Or.inr (Or.inr rfl)) (by decide) (by decide)) (@pe_int _ _ _ _) (@set_list _) (by intro _; rfl)) (by rfl) (by rfl) (by rfl)) (@pss_cons _ _ _ _ _ (@ps_if _ _ _ _ _ _ _ _ (@pt_cmpR _ _ _ _ _ _ _ _ (@op_lt _) (@pvD _ 1 _ _ (by rfl) (by first | exact Or.inl rfl | exact Or.inr (Or.inl rfl) | exact Or.inr (Or.inr rfl)) (by decide) (by decide)) (@pe_callB _ _ _ _ _ _ _ _ _ (@call_len_seq _) rfl m_len b_len (@pa_cons _ _ _ _ _ (@pe_ix _ _ _ _ _ _ _ (@ix_list _) (@pvD _ 0 _ _ (by rfl) (by first | exact Or.inl rfl | exact Or.inr (Or.inl rfl) | exact Or.inr (Or.inr rfl)) (by decide) (by decide)) (@pe_int _ _ _ _) (fun _ _ => rfl)) (@pa_nil _) (by rfl)) (by decide) (by decide) (by rfl) (by rfl)) (@nomark _ _ (by decide) (by decide))) (@pss_one _ _ _ (@ps_ret _ _ _ _ (@pe_ix _ _ _ _ _ _ _ (@ix_list _) (@pe_ix _ _ _ _ _ _ _ (@ix_list _) (@pvD _ 0 _ _ (by rfl) (by first | exact Or.inl rfl | exact Or.inr (Or.inl rfl) | exact Or.inr (Or.inr rfl)) (by decide) (by decide)) (@pe_int _ _ _ _) (fun _ _ => rfl)) (@pvD _ 1 _ _ (by rfl) (by first | exact Or.inl rfl | exact Or.inr (Or.inl rfl) | exact Or.inr (Or.inr rfl)) (by decide) (by decide)) (fun _ _ => rfl)))) (@pss_nil _)) (@pss_one _ _ _ (@ps_ret _ _ _ _ (@pe_op _ _ _ _ _ _ _ _ (@op_mod _) (@pe_op _ _ _ _ _ _ _ _ (@op_add _) (@pe_op _ _ _ _ _ _ _ _ (@op_add _) (@pe_op _ _ _ _ _ _ _ _ (@op_mul _) (@pe_op _ _ _ _ _ _ _ _ (@op_mul _) (@pe_op _ _ _ _ _ _ _ _ (@op_mul _) (@pvD _ 1 _ _ (by rfl) (by first | exact Or.inl rfl | exact Or.inr (Or.inl rfl) | exact Or.inr (Or.inr rfl)) (by decide) (by decide)) (@pvD _ 1 _ _ (by rfl) (by first | exact Or.inl rfl | exact Or.inr (Or.inl rfl) | exact Or.inr (Or.inr rfl)) (by decide) (by decide))) (@pvD _ 1 _ _ (by rfl) (by first | exact Or.inl rfl | exact Or.inr (Or.inl rfl) | exact Or.inr (Or.inr rfl)) (by decide) (by decide))) (@pe_int _ _ _ _)) (@pe_op _ _ _ _ _ _ _ _ (@op_mul _) (@pe_op _ _ _ _ _ _ _ _ (@op_mul _) (@pe_int _ _ _ _) (@pvD _ 1 _ _ (by rfl) (by first | exact Or.inl rfl | exact Or.inr (Or.inl rfl) | exact Or.inr (Or.inr rfl)) (by decide) (by decide))) (@pvD _ 1 _ _ (by rfl) (by first | exact Or.inl rfl | exact Or.inr (Or.inl rfl) | exact Or.inr (Or.inr rfl)) (by decide) (by decide)))) (@pe_callB _ _ _ _ _ _ _ _ _ (@call_sum_list _ rfl) rfl m_sum b_sum (@pa_cons _ _ _ _ _ (@pe_slice _ _ _ _ _ _ _ _ _ _ (@sl_list _) (@pe_ix _ _ _ _ _ _ _ (@ix_list _) (@pvD _ 0 _ _ (by rfl) (by first | exact Or.inl rfl | exact Or.inr (Or.inl rfl) | exact Or.inr (Or.inr rfl)) (by decide) (by decide)) (@pe_int _ _ _ _) (fun _ _ => rfl)) (@po_none _) (@po_some _ _ _ (@pe_int _ _ _ _))) (@pa_nil _) (by rfl)) (by decide) (by decide) (by rfl) (by rfl))) (@pe_int _ _ _ _))))))), ?_⟩
  rw [show start ["deck", "at"] [.ref d] = [some (.ref d), none] from rfl]
  clear hu hu0 nd hr
  push_cast [rIxL, gSub, rSetL]
  have nb := hD.ne
  obtain ⟨h1, h2⟩ := hD
  refine ⟨_, SqL.of h1, .int (n : Int), rfl, ?_⟩
  push_cast [and_true]
  refine ⟨_, h1, 1, rfl, [.ref b, .int ((n : Int) + 1)], SqL.of upd_same, .ref b, rfl, ?_⟩
  push_cast [and_true]
  have h3 : upd H d (.lst [.ref b, .int ((n : Int) + 1)]) b = some (.lst (ns.map V.int)) := by rw [upd_ne nb]; exact h2
  have hS : SameB d H (upd H d (.lst [.ref b, .int ((n : Int) + 1)])) := fun c o hc ho => by rw [upd_ne hc]; exact ho
  have hD' : upd H d (.lst [.ref b, .int ((n : Int) + 1)]) d = some (.lst [.ref b, .int ((n + 1 : Nat) : Int)]) := upd_same
  refine ⟨ns.map V.int, .inl (SqL.of h3), ite2 (fun c => ?_) fun c => ?_⟩
  · rw [List.length_map] at c
    have hlt : n < ns.length := by omega
    refine ⟨_, SqL.of upd_same, .ref b, rfl, ?_⟩
    push_cast [and_true]
    exact ⟨_, SqL.of h3, .int ns[n], atI_nat (by rw [List.getElem?_map, List.getElem?_eq_getElem hlt]; rfl), q _ _ hS hD'⟩
  · refine ⟨.inl ⟨by omega, by omega⟩, .inr ⟨by omega, by omega⟩, .inr ⟨by decide, by decide⟩, .inl ⟨by decide, by decide⟩, .inr ⟨by omega, by omega⟩, _, SqL.of upd_same, .ref b, rfl, ?_⟩
    push_cast [and_true]
    refine ⟨_, SqL.of h3, fun p hp => ?_⟩
    have e : ∃ ms : List Int, cutV (ns.map V.int) none (some 40) = ms.map V.int := ⟨_, by unfold cutV; rw [← List.map_drop, ← List.map_take]⟩
    obtain ⟨ms, em⟩ := e
    rw [em]
    exact ⟨ms, SqL.of upd_same, q _ _ (fun c o hc ho => by rw [upd_ne (ne_of_none (hS c o hc ho) hp)]; exact hS c o hc ho) (same_new hp _ _ _ hD')⟩
abbrev sNames : Stmt := top 26
theorem scNames : FnScope ["cell", "letters", "first", "other", "rest", "size", "at", "base", "names", "kept"] ["cell"] (defScope sNames) := ⟨rfl, rfl, rfl, by decide +kernel, rfl, by decide +kernel, by decide +kernel⟩
theorem hasNames (G : Gs w K mg) (D : Def K mg "_law_names" sNames ["cell"]) : Has P w K mg base (k + 1) "_law_names" ["cell"] spNames4 := by
  refine D.has scNames (fun vs H Q E h => ?_) (fun f cdv A outer s H vs Q E hr h => ?_)
  · obtain ⟨_, rfl, _⟩ := h
    rfl
  have nd := scNames.nd
  have hu := hu_of hr
  have hu0 := Nat.lt_of_succ_lt hu
  obtain ⟨c, rfl, q⟩ := h
  have m_int := G.m_int
  have m_range := G.m_range
  refine ⟨_, (@pss_cons _ _ _ _ _ (@ps_set _ _ 1 _ _ _ _ nd rfl (by first | exact Or.inl rfl | exact Or.inr rfl) (@pe_str _ _ _ _) (by rfl) (by first | exact .inl rfl | exact .inr rfl | assumption)) (@pss_cons _ _ _ _ _ (@ps_set _ _ 2 _ _ _ _ nd rfl (by first | exact Or.inl rfl | exact Or.inr rfl) (@pe_ix _ _ _ _ _ _ _ (@ix_str _) (@pvD _ 1 _ _ (by rfl) (by first | exact Or.inl rfl | exact Or.inr (Or.inl rfl) | exact Or.inr (Or.inr rfl)) (by decide) (by decide)) (@pe_op _ _ _ _ _ _ _ _ (@op_mod _) (@pvD _ 0 _ _ (by rfl) (by first | exact Or.inl rfl | exact Or.inr (Or.inl rfl) | exact Or.inr (Or.inr rfl)) (by decide) (by decide)) (@pe_int _ _ _ _)) (fun _ _ => rfl)) (by rfl) (by first | exact .inl rfl | exact .inr rfl | assumption)) (@pss_cons _ _ _ _ _ (@ps_set _ _ 3 _ _ _ _ nd rfl (by first | exact Or.inl rfl | exact Or.inr rfl) (@pe_ix _ _ _ _ _ _ _ (@ix_str _) (@pvD _ 1 _ _ (by rfl) (by first | exact Or.inl rfl | exact Or.inr (Or.inl rfl) | exact Or.inr (Or.inr rfl)) (by decide) (by decide)) (@pe_op _ _ _ _ _ _ _ _ (@op_mod _) (@pe_op _ _ _ _ _ _ _ _ (@op_add _) (@pe_op _ _ _ _ _ _ _ _ (@op_add _) (@pvD _ 0 _ _ (by rfl) (by first | exact Or.inl rfl | exact Or.inr (Or.inl rfl) | exact Or.inr (Or.inr rfl)) (by decide) (by decide)) (@pe_int _ _ _ _)) (@pe_op _ _ _ _ _ _ _ _ (@op_mod _) (@pe_op _ _ _ _ _ _ _ _ (@op_fdiv _) (@pvD _ 0 _ _ (by rfl) (by first | exact Or.inl rfl | exact Or.inr (Or.inl rfl) | exact Or.inr (Or.inr rfl)) (by decide) (by decide)) (@pe_int _ _ _ _)) (@pe_int _ _ _ _))) (@pe_int _ _ _ _)) (fun _ _ => rfl)) (by rfl) (by first | exact .inl rfl | exact .inr rfl | assumption)) (@pss_cons _ _ _ _ _ (@ps_set _ _ 4 _ _ _ _ nd rfl (by first | exact Or.inl rfl | exact Or.inr rfl) (@pe_op _ _ _ _ _ _ _ _ (@op_fdiv _) (@pvD _ 0 _ _ (by rfl) (by first | exact Or.inl rfl | exact Or.inr (Or.inl rfl) | exact Or.inr (Or.inr rfl)) (by decide) (by decide)) (@pe_int _ _ _ _)) (by rfl) (by first | exact .inl rfl | exact .inr rfl | assumption)) (@pss_cons _ _ _ _ _ (@ps_if _ _ _ _ _ _ _ _ (@pt_cmpR _ _ _ _ _ _ _ _ (@op_eq _) (@pe_op _ _ _ _ _ _ _ _ (@op_mod _) (@pvD _ 4 _ _ (by rfl) (by first | exact Or.inl rfl | exact Or.inr (Or.inl rfl) | exact Or.inr (Or.inr rfl)) (by decide) (by decide)) (@pe_int _ _ _ _)) (@pe_int _ _ _ _) (@nomark _ _ (by decide) (by decide))) (@pss_one _ _ _ (@ps_ret _ _ _ _ (@pe_lst _ _ _ _ (@pa_cons _ _ _ _ _ (@pvD _ 3 _ _ (by rfl) (by first | exact Or.inl rfl | exact Or.inr (Or.inl rfl) | exact Or.inr (Or.inr rfl)) (by decide) (by decide)) (@pa_cons _ _ _ _ _ (@pe_op _ _ _ _ _ _ _ _ (@op_add_str _) (@pvD _ 2 _ _ (by rfl) (by first | exact Or.inl rfl | exact Or.inr (Or.inl rfl) | exact Or.inr (Or.inr rfl)) (by decide) (by decide)) (@pvD _ 3 _ _ (by rfl) (by first | exact Or.inl rfl | exact Or.inr (Or.inl rfl) | exact Or.inr (Or.inr rfl)) (by decide) (by decide))) (@pa_cons _ _ _ _ _ (@pvD _ 2 _ _ (by rfl) (by first | exact Or.inl rfl | exact Or.inr (Or.inl rfl) | exact Or.inr (Or.inr rfl)) (by decide) (by decide)) (@pa_cons _ _ _ _ _ (@pe_op _ _ _ _ _ _ _ _ (@op_mul_str _) (@pvD _ 2 _ _ (by rfl) (by first | exact Or.inl rfl | exact Or.inr (Or.inl rfl) | exact Or.inr (Or.inr rfl)) (by decide) (by decide)) (@pe_int _ _ _ _)) (@pa_nil _) (by rfl)) (by rfl)) (by rfl)) (by rfl))))) (@pss_nil _)) (@pss_cons _ _ _ _ _ (@ps_set _ _ 5 _ _ _ _ nd rfl (by first | exact Or.inl rfl | exact Or.inr rfl) (@pe_op _ _ _ _ _ _ _ _ (@op_mod _) (@pe_op _ _ _ _ _ _ _ _ (@op_fdiv _) (@pvD _ 4 _ _ (by rfl) (by first | exact Or.inl rfl | exact Or.inr (Or.inl rfl) | exact Or.inr (Or.inr rfl)) (by decide) (by decide)) (@pe_int _ _ _ _)) (@pe_int _ _ _ _)) (by rfl) (by first | exact .inl rfl | exact .inr rfl | assumption)) (@pss_cons _ _ _ _ _ (@ps_set _ _ 6 _ _ _ _ nd rfl (by first | exact Or.inl rfl | exact Or.inr rfl) (@pe_op _ _ _ _ _ _ _ _ (@op_mod _) (@pe_op _ _ _ _ _ _ _ _ (@op_fdiv _) (@pvD _ 4 _ _ (by rfl) (by first | exact Or.inl rfl | exact Or.inr (Or.inl rfl) | exact Or.inr (Or.inr rfl)) (by decide) (by decide)) (@pe_int _ _ _ _)) (@pe_op _ _ _ _ _ _ _ _ (@op_add _) (@pvD _ 5 _ _ (by rfl) (by first | exact Or.inl rfl | exact Or.inr (Or.inl rfl) | exact Or.inr (Or.inr rfl)) (by decide) (by decide)) (@pe_int _ _ _ _))) (by rfl) (by first | exact .inl rfl | exact .inr rfl | assumption)) (@pss_cons _ _ _ _ _ (@ps_set _ _ 7 _ _ _ _ nd rfl (by first | exact Or.inl rfl | exact Or.inr rfl) (@pe_bm _ _ _ _ _ _ _ _ _ _ _ _ PySem.F.plainAttrs_str PySem.F.slot_str_join PySem.F.type_str_join (@mt_join _) (@pe_str _ _ _ _) (@pa_cons _ _ _ _ _ (@pe_lc _ _ _ _ _ _ _ _ _ _ _ _ _ _ _ (@ClOk.mk _ _ ["k"] ["first", "other", "letters", "rest"] [2, 3, 1, 4] _ rfl rfl rfl rfl (And.intro rfl (And.intro rfl (And.intro rfl (And.intro rfl trivial)))) rfl (And.intro (And.intro rfl (And.intro rfl rfl)) (And.intro (And.intro rfl (And.intro rfl rfl)) (And.intro (And.intro rfl (And.intro rfl rfl)) (And.intro (And.intro rfl (And.intro rfl rfl)) trivial))))) rfl (@pi_range1 _ _ _ _ _ _ rfl m_range (@pa_cons _ _ _ _ _ (@pvD _ 5 _ _ (by rfl) (by first | exact Or.inl rfl | exact Or.inr (Or.inl rfl) | exact Or.inr (Or.inr rfl)) (by decide) (by decide)) (@pa_nil _) (by rfl)) (by rfl)) (fun _ _ _ => (@pg_name _ _ 0 _ (show List.Nodup (["k", "first", "other", "letters", "rest"] : List Str) by decide +kernel) rfl (Or.inl rfl) (by first | exact .inl rfl | exact .inr rfl | assumption))) (fun _ _ _ => (@pif0 _)) (fun _ _ _ => (@pe_ix _ _ _ _ _ _ _ (@ix_listK _ K rfl) (@pe_lst _ _ _ _ (@pa_cons _ _ _ _ _ (@pvD _ 1 _ _ (by rfl) (by first | exact Or.inl rfl | exact Or.inr (Or.inl rfl) | exact Or.inr (Or.inr rfl)) (by decide) (by decide)) (@pa_cons _ _ _ _ _ (@pvD _ 2 _ _ (by rfl) (by first | exact Or.inl rfl | exact Or.inr (Or.inl rfl) | exact Or.inr (Or.inr rfl)) (by decide) (by decide)) (@pa_cons _ _ _ _ _ (@pe_ix _ _ _ _ _ _ _ (@ix_str _) (@pvD _ 3 _ _ (by rfl) (by first | exact Or.inl rfl | exact Or.inr (Or.inl rfl) | exact Or.inr (Or.inr rfl)) (by decide) (by decide)) (@pe_op _ _ _ _ _ _ _ _ (@op_mod _) (@pe_op _ _ _ _ _ _ _ _ (@op_fdiv _) (@pvD _ 4 _ _ (by rfl) (by first | exact Or.inl rfl | exact Or.inr (Or.inl rfl) | exact Or.inr (Or.inr rfl)) (by decide) (by decide)) (@pe_int _ _ _ _)) (@pe_int _ _ _ _)) (fun _ _ => rfl)) (@pa_nil _) (by rfl)) (by rfl)) (by rfl))) (@pe_op _ _ _ _ _ _ _ _ (@op_mod _) (@pe_op _ _ _ _ _ _ _ _ (@op_mul _) (@pvD _ 0 _ _ (by rfl) (by first | exact Or.inl rfl | exact Or.inr (Or.inl rfl) | exact Or.inr (Or.inr rfl)) (by decide) (by decide)) (@pe_op _ _ _ _ _ _ _ _ (@op_add _) (@pe_int _ _ _ _) (@pe_op _ _ _ _ _ _ _ _ (@op_fdiv _) (@pvD _ 4 _ _ (by rfl) (by first | exact Or.inl rfl | exact Or.inr (Or.inl rfl) | exact Or.inr (Or.inr rfl)) (by decide) (by decide)) (@pe_int _ _ _ _)))) (@pe_int _ _ _ _)) (fun _ _ => rfl))) (by intro _; rfl)) (@pa_nil _) (by rfl)) (by rfl) (by rfl) (by rfl) (by rfl) (by rfl)) (by rfl) (by first | exact .inl rfl | exact .inr rfl | assumption)) (@pss_cons _ _ _ _ _ (@ps_setlc _ _ _ _ _ _ _ _ _ _ _ _ _ _ _ 8 _ _ _ nd rfl (Or.inl rfl) (@ClOk.mk _ _ ["k"] ["base", "at", "letters", "cell"] [7, 6, 1, 0] _ rfl rfl rfl rfl (And.intro rfl (And.intro rfl (And.intro rfl (And.intro rfl trivial)))) rfl (And.intro (And.intro rfl (And.intro rfl rfl)) (And.intro (And.intro rfl (And.intro rfl rfl)) (And.intro (And.intro rfl (And.intro rfl rfl)) (And.intro (And.intro rfl (And.intro rfl rfl)) trivial))))) rfl (@pi_range1 _ _ _ _ _ _ rfl m_range (@pa_cons _ _ _ _ _ (@pe_int _ _ _ _) (@pa_nil _) (by rfl)) (by rfl)) (fun _ _ _ => (@pg_name _ _ 0 _ (show List.Nodup (["k", "base", "at", "letters", "cell"] : List Str) by decide +kernel) rfl (Or.inl rfl) (by first | exact .inl rfl | exact .inr rfl | assumption))) (fun _ _ _ => (@pif0 _)) (fun _ _ _ => (@pe_op _ _ _ _ _ _ _ _ (@op_add_str _) (@pe_op _ _ _ _ _ _ _ _ (@op_add_str _) (@pe_slice _ _ _ _ _ _ _ _ _ _ (@sl_str _) (@pvD _ 1 _ _ (by rfl) (by first | exact Or.inl rfl | exact Or.inr (Or.inl rfl) | exact Or.inr (Or.inr rfl)) (by decide) (by decide)) (@po_none _) (@po_some _ _ _ (@pvD _ 2 _ _ (by rfl) (by first | exact Or.inl rfl | exact Or.inr (Or.inl rfl) | exact Or.inr (Or.inr rfl)) (by decide) (by decide)))) (@pe_ix _ _ _ _ _ _ _ (@ix_str _) (@pvD _ 3 _ _ (by rfl) (by first | exact Or.inl rfl | exact Or.inr (Or.inl rfl) | exact Or.inr (Or.inr rfl)) (by decide) (by decide)) (@pe_op _ _ _ _ _ _ _ _ (@op_mod _) (@pe_op _ _ _ _ _ _ _ _ (@op_add _) (@pe_op _ _ _ _ _ _ _ _ (@op_fdiv _) (@pvD _ 4 _ _ (by rfl) (by first | exact Or.inl rfl | exact Or.inr (Or.inl rfl) | exact Or.inr (Or.inr rfl)) (by decide) (by decide)) (@pe_int _ _ _ _)) (@pvD _ 0 _ _ (by rfl) (by first | exact Or.inl rfl | exact Or.inr (Or.inl rfl) | exact Or.inr (Or.inr rfl)) (by decide) (by decide))) (@pe_int _ _ _ _)) (fun _ _ => rfl))) (@pe_slice _ _ _ _ _ _ _ _ _ _ (@sl_str _) (@pvD _ 1 _ _ (by rfl) (by first | exact Or.inl rfl | exact Or.inr (Or.inl rfl) | exact Or.inr (Or.inr rfl)) (by decide) (by decide)) (@po_some _ _ _ (@pvD _ 2 _ _ (by rfl) (by first | exact Or.inl rfl | exact Or.inr (Or.inl rfl) | exact Or.inr (Or.inr rfl)) (by decide) (by decide))) (@po_none _)))) (by rfl) (by intro _; rfl) (by first | exact .inl rfl | exact .inr rfl | assumption)) (@pss_cons _ _ _ _ _ (@ps_set _ _ 9 _ _ _ _ nd rfl (by first | exact Or.inl rfl | exact Or.inr rfl) (@pe_lst _ _ _ _ (@pa_const _ _ _ (@CsOk.str _ _ _ _ _ (@CsOk.str _ _ _ _ _ (@CsOk.str _ _ _ _ _ (@CsOk.str _ _ _ _ _ (@CsOk.str _ _ _ _ _ (@CsOk.str _ _ _ _ _ (@CsOk.str _ _ _ _ _ (@CsOk.str _ _ _ _ _ (@CsOk.str _ _ _ _ _ (@CsOk.nil)))))))))))) (by rfl) (by first | exact .inl rfl | exact .inr rfl | assumption)) (@pss_one _ _ _ (@ps_ret _ _ _ _ (@pe_lc _ _ _ _ _ _ _ _ _ _ _ _ _ _ _ (@ClOk.mk _ _ ["name"] ["kept"] [9] _ rfl rfl rfl rfl (And.intro rfl trivial) rfl (And.intro (And.intro rfl (And.intro rfl rfl)) trivial)) rfl (@pi_list _ _ _ _ (@pvD _ 8 _ _ (by rfl) (by first | exact Or.inl rfl | exact Or.inr (Or.inl rfl) | exact Or.inr (Or.inr rfl)) (by decide) (by decide))) (fun _ _ _ => (@pg_name _ _ 0 _ (show List.Nodup (["name", "kept"] : List Str) by decide +kernel) rfl (Or.inl rfl) (by first | exact .inl rfl | exact .inr rfl | assumption))) (fun _ _ _ => (@pif0 _)) (fun _ _ _ => (@pe_op _ _ _ _ _ _ _ _ (@op_add_str _) (@pvD _ 0 _ _ (by rfl) (by first | exact Or.inl rfl | exact Or.inr (Or.inl rfl) | exact Or.inr (Or.inr rfl)) (by decide) (by decide)) (@pe_op _ _ _ _ _ _ _ _ (@op_mul_str _) (@pe_str _ _ _ _) (@pe_callTy _ _ _ _ _ _ _ _ _ (@call_int1 _) rfl m_int b_int (@pa_cons _ _ _ _ _ (@pe_cmpR _ _ _ _ _ _ _ _ (@op_in_seqK _ K rfl) (@pvD _ 0 _ _ (by rfl) (by first | exact Or.inl rfl | exact Or.inr (Or.inl rfl) | exact Or.inr (Or.inr rfl)) (by decide) (by decide)) (@pvD _ 1 _ _ (by rfl) (by first | exact Or.inl rfl | exact Or.inr (Or.inl rfl) | exact Or.inr (Or.inr rfl)) (by decide) (by decide)) (by with_unfolding_all rfl)) (@pa_nil _) (by rfl)) (by decide) (by decide) (by rfl) (by rfl))))) (by intro _; rfl)))))))))))))), ?_⟩
  rw [show start ["cell", "letters", "first", "other", "rest", "size", "at", "base", "names", "kept"] [.int c] = [some (.int c), none, none, none, none, none, none, none, none, none] from rfl]
  clear hu hu0 nd hr
  push_cast [and_true]
  have sz := sizeLine_eq
  obtain ⟨c1, h1, l1⟩ := let_at c
  obtain ⟨c2, h2, l2⟩ := let_at (c + 1 + c / 26 % 25)
  have ll : (Str.ofString "abcdefghijklmnopqrstuvwxyz").length ≤ sizeLine := by decide +kernel
  have la : ∀ a b : Str, (a ++ b).length = a.length + b.length := fun a b => Array.size_append
  have one : ∀ x : Nat, (⟨#[x]⟩ : Str).length ≤ 1000 := fun x => by rw [one_len]; decide
  refine ⟨_, _, _, rfl, rfl, ll, h1, _, _, _, rfl, rfl, ll, h2, rfl, ite2 (fun _ => ?_) fun _ => ?_⟩
  · refine ⟨_, rfl, _, rfl, by rw [one_len, one_len, sz]; decide, _, rfl, one _, by show (4 : Nat) ≤ sizeLine; decide, fun p hp => ?_⟩
    exact q p _ [⟨#[97 + c2]⟩, (⟨#[97 + c1]⟩ : Str) ++ ⟨#[97 + c2]⟩, ⟨#[97 + c1]⟩, mulS ⟨#[97 + c1]⟩ 2] rfl (four_first _ _) (same_new hp _) upd_same
  · have b0 : 0 ≤ c / 650 / 4 % 8 := Int.emod_nonneg _ (by decide)
    have b1 : c / 650 / 4 % 8 < 8 := Int.emod_lt_of_pos _ (by decide)
    refine ⟨by omega, by omega, by omega, fun D hD => ?_⟩
    refine lc_range (fun i ys => ∃ zs : List Str, ys = zs.map V.str ∧ zs.length = i ∧ ∀ z ∈ zs, z.length = 1) (by omega) hD ⟨[], rfl, rfl, fun _ h => nomatch h⟩ (fun i ys H1 G' K' hi hP hl2 hS1 hG hK => ?_) fun ys H2 hP hl2 hS1 hD2 => ?_
    · push_cast [rIxS]
      obtain ⟨x, hx, _⟩ := let_at (c / 650 / 256)
      obtain ⟨v, hv, hm⟩ := atI_in [V.str ⟨#[97 + c1]⟩, V.str ⟨#[97 + c2]⟩, V.str ⟨#[97 + x]⟩] ((0 + (i : Int)) * (1 + c / 650 / 6656) % 3) (Int.emod_nonneg _ (by decide)) (Int.emod_lt_of_pos _ (by decide))
      refine ⟨ll, 97 + x, hx, by show (3 : Nat) ≤ sizeLine; decide, fun p hp => ⟨.inl ⟨by omega, by omega⟩, rIxL_ok upd_same hv ?_⟩⟩
      obtain ⟨zs, rfl, hz, hz1⟩ := hP
      obtain ⟨y, rfl⟩ : ∃ y : Nat, v = .str ⟨#[y]⟩ := by
        simp only [List.mem_cons, List.not_mem_nil, or_false] at hm
        rcases hm with rfl | rfl | rfl <;> exact ⟨_, rfl⟩
      refine hK _ _ (same_new hp _) ⟨zs ++ [⟨#[y]⟩], by rw [List.map_append]; rfl, by rw [List.length_append, hz]; rfl, fun z hz' => ?_⟩
      rcases List.mem_append.mp hz' with m | m
      · exact hz1 z m
      · rw [List.mem_singleton.mp m]
        rfl
    · obtain ⟨zs, rfl, hz, hz1⟩ := hP
      have hsum : (zs.map fun x => x.length).sum ≤ 8 := by
        have : ∀ l : List Str, (∀ z ∈ l, z.length = 1) → (l.map fun x => x.length).sum = l.length := by
          intro l
          induction l with
          | nil => exact fun _ => rfl
          | cons a r ih =>
            intro h
            rw [List.map_cons, List.sum_cons, ih fun z hz => h z (List.mem_cons_of_mem _ hz), h a List.mem_cons_self, List.length_cons]
            omega
        rw [this zs hz1]
        omega
      have e0 : (Str.ofString "").length = 0 := by decide +kernel
      have jl := join_le (Str.ofString "") zs
      rw [e0, Nat.mul_zero, Nat.add_zero] at jl
      refine ⟨zs, SqL.of hD2, by rw [e0, Nat.mul_zero, Nat.add_zero]; omega, fun l hl => ?_⟩
      refine lc_range (fun i ys => ∃ zs : List Str, ys = zs.map V.str ∧ zs.length = i ∧ ∀ z ∈ zs, z.length ≤ 18) (by show (4 : Nat) < sizeLine; rw [sz]; decide) hl ⟨[], rfl, rfl, fun _ h => nomatch h⟩ (fun i ys H3 G' K' hi hP hl2 hS3 hG hK => ?_) fun ys H4 hP hl2 hS4 hD4 => ?_
      · push_cast [rIxS]
        obtain ⟨x, hx, _⟩ := let_at (c / 7 + (0 + (i : Int)))
        obtain ⟨ws, rfl, hw, hw1⟩ := hP
        have k1 := cutS_le (Txt.join (Str.ofString "") zs) none (some (c / 650 / 32 % (c / 650 / 4 % 8 + 1)))
        have k2 := cutS_le (Txt.join (Str.ofString "") zs) (some (c / 650 / 32 % (c / 650 / 4 % 8 + 1))) none
        have k3 := one_len (97 + x)
        refine ⟨by omega, ll, 97 + x, hx, by omega, by omega, by rw [la]; omega, hK _ _ (Same.refl _) ⟨ws ++ [_], by rw [List.map_append]; rfl, by rw [List.length_append, hw]; rfl, fun z hz' => ?_⟩⟩
        rcases List.mem_append.mp hz' with m | m
        · exact hw1 z m
        · rw [List.mem_singleton.mp m, la, la]
          omega
      · obtain ⟨ws, rfl, hw, hw1⟩ := hP
        have hw : ws.length = 4 := hw
        refine ⟨by show (9 : Nat) ≤ sizeLine; decide, fun p hp => ⟨⟨_, SqL.of (same_new hp _ _ _ hD4)⟩, fun D5 hD5 => ?_⟩⟩
        refine lc_list (fun i ys => ∃ zs : List Str, ys = zs.map V.str ∧ zs.length = i ∧ ∀ z ∈ zs, arS z = 0 ∧ z.length ≤ 20) (SqL.of (same_new hp _ _ _ hD4)) (by rw [List.length_map]; omega) hD5 ⟨[], rfl, rfl, fun _ h => nomatch h⟩ (fun i y ys H6 G' K' hy hP hl2 hS6 hG hK => ?_) fun ys H7 hP hl2 hS7 hD7 => ?_
        · rw [List.getElem?_map] at hy
          obtain ⟨z, hz', rfl⟩ := Option.map_eq_some_iff.mp hy
          push_cast [rIn]
          obtain ⟨us, rfl, hu1, hu2⟩ := hP
          have hp6 : H6 p = some (.lst keptV) := hS6 _ _ upd_same
          have kx := kept_x (hw1 z (List.mem_of_getElem? hz'))
          refine ⟨keptV, .inl (SqL.of hp6), rfl, rfl, by split <;> decide, by split <;> decide, by decide +kernel, by rw [← la]; omega, hK _ _ (Same.refl _) ⟨us ++ [_], by rw [List.map_append]; rfl, by rw [List.length_append, hu1]; rfl, fun z' hz' => ?_⟩⟩
          rcases List.mem_append.mp hz' with m | m
          · exact hu2 z' m
          · rw [List.mem_singleton.mp m]
            exact kx
        · obtain ⟨us, rfl, hu1, hu2⟩ := hP
          rw [List.length_map, hw] at hu1
          exact q D5 H7 us hu1 hu2 (((hS1.trans hS4).trans (same_new hp _)).trans hS7) hD7
abbrev sTerm : Stmt := top 27
theorem scTerm : FnScope ["deck", "names", "most", "words", "due", "cell", "room", "rest"] ["deck", "names", "most"] (defScope sTerm) := ⟨rfl, rfl, rfl, by decide +kernel, rfl, by decide +kernel, by decide +kernel⟩
theorem hasTerm (G : Gs w K mg) (h_law_next : Has P w K mg base k "_law_next" ["deck"] spNext) (D : Def K mg "_law_term" sTerm ["deck", "names", "most"]) : Has P w K mg base (k + 1) "_law_term" ["deck", "names", "most"] spTerm := by
  refine D.has scTerm (fun vs H Q E h => ?_) (fun f cdv A outer s H vs Q E hr h => ?_)
  · obtain ⟨_, _, _, _, _, _, _, rfl, _, _, _, _, _, _, _, _⟩ := h
    rfl
  have nd := scTerm.nd
  have hu := hu_of hr
  have hu0 := Nat.lt_of_succ_lt hu
  obtain ⟨d, nl, b, ns, zs, m, n, rfl, hD, hN, h6, hz0, h1, h2, hn, q⟩ := h
  have m_len := G.m_len
  have m_tuple := G.m_tuple
  refine ⟨_, (@pss_cons _ _ _ _ _ (@ps_set _ _ 3 _ _ _ _ nd rfl (by first | exact Or.inl rfl | exact Or.inr rfl) (@pe_lst _ _ _ _ (@pa_nil _)) (by rfl) (by first | exact .inl rfl | exact .inr rfl | assumption)) (@pss_cons _ _ _ _ _ (@ps_set _ _ 4 _ _ _ _ nd rfl (by first | exact Or.inl rfl | exact Or.inr rfl) (@pe_int _ _ _ _) (by rfl) (by first | exact .inl rfl | exact .inr rfl | assumption)) (@pss_cons _ _ _ _ _ (@ps_while _ _ _ _ _ _ PassesOwn.never (@pt_cmpR _ _ _ _ _ _ _ _ (@op_gt _) (@pvD _ 4 _ _ (by rfl) (by first | exact Or.inl rfl | exact Or.inr (Or.inl rfl) | exact Or.inr (Or.inr rfl)) (by decide) (by decide)) (@pe_int _ _ _ _) (@nomark _ _ (by decide) (by decide))) (@pss_cons _ _ _ _ _ (@ps_set _ _ 5 _ _ _ _ nd rfl (by first | exact Or.inl rfl | exact Or.inr rfl) (@pe_has _ _ _ _ _ _ _ _ _ _ h_law_next hr (@pa_cons _ _ _ _ _ (@pvD _ 0 _ _ (by rfl) (by first | exact Or.inl rfl | exact Or.inr (Or.inl rfl) | exact Or.inr (Or.inr rfl)) (by decide) (by decide)) (@pa_nil _) (by rfl)) (by rfl) (by decide +kernel) (by rfl) (by rfl)) (by rfl) (by first | exact .inl rfl | exact .inr rfl | assumption)) (@pss_cons _ _ _ _ _ (@ps_set _ _ 6 _ _ _ _ nd rfl (by first | exact Or.inl rfl | exact Or.inr rfl) (@pe_op _ _ _ _ _ _ _ _ (@op_sub _) (@pe_op _ _ _ _ _ _ _ _ (@op_sub _) (@pvD _ 2 _ _ (by rfl) (by first | exact Or.inl rfl | exact Or.inr (Or.inl rfl) | exact Or.inr (Or.inr rfl)) (by decide) (by decide)) (@pe_callB _ _ _ _ _ _ _ _ _ (@call_len_seq _) rfl m_len b_len (@pa_cons _ _ _ _ _ (@pvD _ 3 _ _ (by rfl) (by first | exact Or.inl rfl | exact Or.inr (Or.inl rfl) | exact Or.inr (Or.inr rfl)) (by decide) (by decide)) (@pa_nil _) (by rfl)) (by decide) (by decide) (by rfl) (by rfl))) (@pvD _ 4 _ _ (by rfl) (by first | exact Or.inl rfl | exact Or.inr (Or.inl rfl) | exact Or.inr (Or.inr rfl)) (by decide) (by decide))) (by rfl) (by first | exact .inl rfl | exact .inr rfl | assumption)) (@pss_cons _ _ _ _ _ (@ps_set _ _ 7 _ _ _ _ nd rfl (by first | exact Or.inl rfl | exact Or.inr rfl) (@pe_op _ _ _ _ _ _ _ _ (@op_fdiv _) (@pvD _ 5 _ _ (by rfl) (by first | exact Or.inl rfl | exact Or.inr (Or.inl rfl) | exact Or.inr (Or.inr rfl)) (by decide) (by decide)) (@pe_int _ _ _ _)) (by rfl) (by first | exact .inl rfl | exact .inr rfl | assumption)) (@pss_cons _ _ _ _ _ (@ps_set _ _ 4 _ _ _ _ nd rfl (by first | exact Or.inl rfl | exact Or.inr rfl) (@pe_op _ _ _ _ _ _ _ _ (@op_sub _) (@pvD _ 4 _ _ (by rfl) (by first | exact Or.inl rfl | exact Or.inr (Or.inl rfl) | exact Or.inr (Or.inr rfl)) (by decide) (by decide)) (@pe_int _ _ _ _)) (by rfl) (by first | exact .inl rfl | exact .inr rfl | assumption)) (@pss_one _ _ _ (@ps_if _ _ _ _ _ _ _ _ (@PW.pt _ _ _ (@pw_and _ _ _ _ _ _ _ (@pt_cmpR _ _ _ _ _ _ _ _ (@op_lt _) (@pe_op _ _ _ _ _ _ _ _ (@op_mod _) (@pvD _ 5 _ _ (by rfl) (by first | exact Or.inl rfl | exact Or.inr (Or.inl rfl) | exact Or.inr (Or.inr rfl)) (by decide) (by decide)) (@pe_int _ _ _ _)) (@pe_int _ _ _ _) (@nomark _ _ (by decide) (by decide))) (@pw_and1 _ _ _ _ (@pt_cmpR _ _ _ _ _ _ _ _ (@op_gt _) (@pvD _ 6 _ _ (by rfl) (by first | exact Or.inl rfl | exact Or.inr (Or.inl rfl) | exact Or.inr (Or.inr rfl)) (by decide) (by decide)) (@pe_int _ _ _ _) (@nomark _ _ (by decide) (by decide)))))) (@pss_cons _ _ _ _ _ (@ps_expr _ _ _ _ (@pe_bm _ _ _ _ _ _ _ _ _ _ _ _ PySem.F.plainAttrs_list PySem.F.slot_list_append PySem.F.type_list_append (@mt_append _) (@pvD _ 3 _ _ (by rfl) (by first | exact Or.inl rfl | exact Or.inr (Or.inl rfl) | exact Or.inr (Or.inr rfl)) (by decide) (by decide)) (@pa_cons _ _ _ _ _ (@pe_ix _ _ _ _ _ _ _ (@ix_list _) (@pe_lst _ _ _ _ (@pa_const _ _ _ (@CsOk.str _ _ _ _ _ (@CsOk.str _ _ _ _ _ (@CsOk.str _ _ _ _ _ (@CsOk.str _ _ _ _ _ (@CsOk.nil))))))) (@pe_op _ _ _ _ _ _ _ _ (@op_mod _) (@pvD _ 5 _ _ (by rfl) (by first | exact Or.inl rfl | exact Or.inr (Or.inl rfl) | exact Or.inr (Or.inr rfl)) (by decide) (by decide)) (@pe_int _ _ _ _)) (fun _ _ => rfl)) (@pa_nil _) (by rfl)) (by rfl) (by rfl) (by rfl) (by rfl) (by rfl)) (by rfl)) (@pss_one _ _ _ (@ps_set _ _ 4 _ _ _ _ nd rfl (by first | exact Or.inl rfl | exact Or.inr rfl) (@pe_op _ _ _ _ _ _ _ _ (@op_add _) (@pvD _ 4 _ _ (by rfl) (by first | exact Or.inl rfl | exact Or.inr (Or.inl rfl) | exact Or.inr (Or.inr rfl)) (by decide) (by decide)) (@pe_int _ _ _ _)) (by rfl) (by first | exact .inl rfl | exact .inr rfl | assumption)))) (@pss_one _ _ _ (@ps_if _ _ _ _ _ _ _ _ (@PW.pt _ _ _ (@pw_and _ _ _ _ _ _ _ (@pt_cmpR _ _ _ _ _ _ _ _ (@op_eq _) (@pe_op _ _ _ _ _ _ _ _ (@op_mod _) (@pvD _ 5 _ _ (by rfl) (by first | exact Or.inl rfl | exact Or.inr (Or.inl rfl) | exact Or.inr (Or.inr rfl)) (by decide) (by decide)) (@pe_int _ _ _ _)) (@pe_int _ _ _ _) (@nomark _ _ (by decide) (by decide))) (@pw_and1 _ _ _ _ (@pt_cmpR _ _ _ _ _ _ _ _ (@op_gt _) (@pvD _ 6 _ _ (by rfl) (by first | exact Or.inl rfl | exact Or.inr (Or.inl rfl) | exact Or.inr (Or.inr rfl)) (by decide) (by decide)) (@pe_int _ _ _ _) (@nomark _ _ (by decide) (by decide)))))) (@pss_cons _ _ _ _ _ (@ps_expr _ _ _ _ (@pe_bm _ _ _ _ _ _ _ _ _ _ _ _ PySem.F.plainAttrs_list PySem.F.slot_list_append PySem.F.type_list_append (@mt_append _) (@pvD _ 3 _ _ (by rfl) (by first | exact Or.inl rfl | exact Or.inr (Or.inl rfl) | exact Or.inr (Or.inr rfl)) (by decide) (by decide)) (@pa_cons _ _ _ _ _ (@pe_str _ _ _ _) (@pa_nil _) (by rfl)) (by rfl) (by rfl) (by rfl) (by rfl) (by rfl)) (by rfl)) (@pss_one _ _ _ (@ps_set _ _ 4 _ _ _ _ nd rfl (by first | exact Or.inl rfl | exact Or.inr rfl) (@pe_op _ _ _ _ _ _ _ _ (@op_add _) (@pvD _ 4 _ _ (by rfl) (by first | exact Or.inl rfl | exact Or.inr (Or.inl rfl) | exact Or.inr (Or.inr rfl)) (by decide) (by decide)) (@pe_int _ _ _ _)) (by rfl) (by first | exact .inl rfl | exact .inr rfl | assumption)))) (@pss_one _ _ _ (@ps_if _ _ _ _ _ _ _ _ (@pt_cmpR _ _ _ _ _ _ _ _ (@op_eq _) (@pe_op _ _ _ _ _ _ _ _ (@op_mod _) (@pvD _ 5 _ _ (by rfl) (by first | exact Or.inl rfl | exact Or.inr (Or.inl rfl) | exact Or.inr (Or.inr rfl)) (by decide) (by decide)) (@pe_int _ _ _ _)) (@pe_int _ _ _ _) (@nomark _ _ (by decide) (by decide))) (@pss_one _ _ _ (@ps_expr _ _ _ _ (@pe_bm _ _ _ _ _ _ _ _ _ _ _ _ PySem.F.plainAttrs_list PySem.F.slot_list_append PySem.F.type_list_append (@mt_append _) (@pvD _ 3 _ _ (by rfl) (by first | exact Or.inl rfl | exact Or.inr (Or.inl rfl) | exact Or.inr (Or.inr rfl)) (by decide) (by decide)) (@pa_cons _ _ _ _ _ (@pe_op _ _ _ _ _ _ _ _ (@op_sub _) (@pe_op _ _ _ _ _ _ _ _ (@op_mod _) (@pvD _ 7 _ _ (by rfl) (by first | exact Or.inl rfl | exact Or.inr (Or.inl rfl) | exact Or.inr (Or.inr rfl)) (by decide) (by decide)) (@pe_int _ _ _ _)) (@pe_int _ _ _ _)) (@pa_nil _) (by rfl)) (by rfl) (by rfl) (by rfl) (by rfl) (by rfl)) (by rfl))) (@pss_one _ _ _ (@ps_expr _ _ _ _ (@pe_bm _ _ _ _ _ _ _ _ _ _ _ _ PySem.F.plainAttrs_list PySem.F.slot_list_append PySem.F.type_list_append (@mt_append _) (@pvD _ 3 _ _ (by rfl) (by first | exact Or.inl rfl | exact Or.inr (Or.inl rfl) | exact Or.inr (Or.inr rfl)) (by decide) (by decide)) (@pa_cons _ _ _ _ _ (@pe_ix _ _ _ _ _ _ _ (@ix_list _) (@pvD _ 1 _ _ (by rfl) (by first | exact Or.inl rfl | exact Or.inr (Or.inl rfl) | exact Or.inr (Or.inr rfl)) (by decide) (by decide)) (@pe_op _ _ _ _ _ _ _ _ (@op_mod _) (@pvD _ 7 _ _ (by rfl) (by first | exact Or.inl rfl | exact Or.inr (Or.inl rfl) | exact Or.inr (Or.inr rfl)) (by decide) (by decide)) (@pe_int _ _ _ _)) (fun _ _ => rfl)) (@pa_nil _) (by rfl)) (by rfl) (by rfl) (by rfl) (by rfl) (by rfl)) (by rfl)))))))))))))) (@pss_one _ _ _ (@ps_ret _ _ _ _ (@pe_callTy _ _ _ _ _ _ _ _ _ (@call_tuple_of _) rfl m_tuple b_tuple (@pa_cons _ _ _ _ _ (@pvD _ 3 _ _ (by rfl) (by first | exact Or.inl rfl | exact Or.inr (Or.inl rfl) | exact Or.inr (Or.inr rfl)) (by decide) (by decide)) (@pa_nil _) (by rfl)) (by decide) (by decide) (by rfl) (by rfl))))))), ?_⟩
  rw [show start ["deck", "names", "most", "words", "due", "cell", "room", "rest"] [.ref d, .ref nl, .int (m : Int)] = [some (.ref d), some (.ref nl), some (.int (m : Int)), none, none, none, none, none] from rfl]
  clear hu hu0 nd hr
  push_cast [spNext]
  have sz := sizeLine_eq
  refine ⟨Nat.zero_le _, fun p hp => ?_⟩
  have npd : p ≠ d := (ne_of_none hD.1 hp).symm
  have nld : nl ≠ d := ne_of hN hD.1 (by intro e; match zs, h6, e with | [_, _, _, _], _, e => cases e)
  have nlp : nl ≠ p := ne_of_none hN hp
  refine while_by (fun σ H' => ∃ (ws : List V) (due : Nat) (v1 v2 v3 : Option V), σ = [some (.ref d), some (.ref nl), some (.int (m : Int)), some (.ref p), some (.int (due : Int)), v1, v2, v3] ∧ SameB d H H' ∧ H' d = some (.lst [.ref b, .int ((n + ws.length : Nat) : Int)]) ∧ H' p = some (.lst ws) ∧ (∀ v ∈ ws, wS zs v) ∧ pend 1 (ws.map arV) = some due ∧ ws.length + due ≤ m)
    (fun σ H' => m - lenAt H' p) ?_ ?_ ?_
  · exact ⟨[], 1, none, none, none, rfl, (SameB.refl d H).upd hp _, same_new hp _ _ _ hD.1, upd_same, (fun _ h => nomatch h), rfl, by show 0 + 1 ≤ m; omega⟩
  · rintro σ H' ⟨ws, due, v1, v2, v3, rfl, hS, hD', hp', hw, hpd, hr⟩
    push_cast [spNext, CDiv]
    have hDk : Deck H' d b ns (n + ws.length) := hD.next hS hD'
    refine ite2 (fun hdue => ⟨b, ns, _, hDk, by omega, fun c H1 s1 d1 => ?_⟩) fun hdue => ?_
    · have hp1 : H1 p = some (.lst ws) := s1 p _ npd hp'
      have hl1 := s1 nl _ nld (hS nl _ nld hN)
      have app : ∀ (v : V) (H2 : Hp) (dd : Int), wS zs v → dd = (due : Int) - 1 + (arV v : Int) → ws.length + due + arV v ≤ m → Same H1 H2 →
          rAppend (.ref p) [v] H2 fun _ H3 => (∃ ws due_1, dd = ((due_1 : Nat) : Int) ∧ SameB d H H3 ∧ H3 d = some (.lst [.ref b, .int ((n + ws.length : Nat) : Int)]) ∧ H3 p = some (.lst ws) ∧ (∀ v ∈ ws, wS zs v) ∧ pend 1 (ws.map arV) = some due_1 ∧ ws.length + due_1 ≤ m) ∧ m - lenAt H3 p < m - lenAt H' p := by
        intro v H2 dd hv hdd hroom s2
        have hp2 := s2 _ _ hp1
        refine ⟨p, ws, v, rfl, rfl, hp2, by omega, ⟨ws ++ [v], due - 1 + arV v, by omega, (hS.trans (s1.trans (SameB.of s2))).upd hp _, ?_, upd_same, fun x hx => ?_, ?_, ?_⟩, ?_⟩
        · rw [upd_ne npd.symm, List.length_append]
          exact s2 _ _ d1
        · rcases List.mem_append.mp hx with h | h
          · exact hw x h
          · rw [List.mem_singleton.mp h]; exact hv
        · rw [List.map_append]
          exact pend_snoc _ _ _ _ hpd (by omega)
        · rw [List.length_append, List.length_singleton]; omega
        · rw [lenAt_of upd_same, lenAt_of hp', List.length_append, List.length_singleton]; omega
      have tl : tyV K "list" (.ref p) H1 := tyV_list hp1
      have num := app (.int (c / 8 % 7 - 2)) H1 ((due : Int) - 1) (by show (c / 8 % 7 - 2).natAbs ≤ 100; omega) (by show _ = (due : Int) - 1 + ((0 : Nat) : Int); omega) (by show ws.length + due + 0 ≤ m; omega) (Same.refl _)
      obtain ⟨z, hzat, hz⟩ := strs_at h6 (k := c / 8 % 4) (Int.emod_nonneg _ (by decide)) (by show c / 8 % 4 < 4; omega)
      have az : arV (.str z) = 0 := hz0 z hz
      have nam := app (.str z) H1 ((due : Int) - 1) (.inr hz) (by rw [az]; omega) (by rw [az]; omega) (Same.refl _)
      have an : arV (.str (Str.ofString "neg")) = 1 := ar_neg
      have neg := fun (r0 : 0 < (m : Int) - (ws.length : Int) - (due : Int)) => app (.str (Str.ofString "neg")) H1 ((due : Int) - 1 + 1) (.inl (by rw [ar_neg]; decide)) (by rw [an]; omega) (by rw [an]; omega) (Same.refl _)
      refine ⟨ws, .inl (SqL.of hp1), ite2 (fun c4 => ite2 (fun r1 => ⟨tl, by show (4 : Nat) ≤ sizeLine; decide, fun p2 hp2 => ?_⟩) fun r1 => ⟨rfl, ite2 (fun e4 => ite2 (fun r0 => ⟨tl, neg r0⟩) fun r0 => ⟨rfl, ite2 (fun _ => ⟨tl, num⟩) fun _ => ⟨tl, rIxL_ok hl1 hzat nam⟩⟩) fun e4 => ⟨rfl, ite2 (fun _ => ⟨tl, num⟩) fun _ => ⟨tl, rIxL_ok hl1 hzat nam⟩⟩⟩)
        fun c4 => ⟨rfl, ite2 (fun e4 => ite2 (fun r0 => ⟨tl, neg r0⟩) fun r0 => ⟨rfl, ite2 (fun _ => ⟨tl, num⟩) fun _ => ⟨tl, rIxL_ok hl1 hzat nam⟩⟩) fun e4 => ⟨rfl, ite2 (fun _ => ⟨tl, num⟩) fun _ => ⟨tl, rIxL_ok hl1 hzat nam⟩⟩⟩⟩
      obtain ⟨y, hy, ay⟩ := bin_at3 c c4
      have ay' : arV (.str y) = 2 := ay
      exact rIxL_ok upd_same hy (app (.str y) _ ((due : Int) - 1 + 2) (.inl (by rw [ay]; decide)) (by rw [ay']; omega) (by rw [ay']; omega) (same_new hp2 _))
    · have d0 : due = 0 := by omega
      subst d0
      refine ⟨ws, .inl ⟨SqL.of hp', fun t ht => ?_⟩⟩
      have htn := hS.free hD' ht
      exact q t (n + ws.length) _ ws (hS.upd htn _) (by rw [upd_ne (ne_of_none hD' ht)]; exact hD') (by omega) htn upd_same ⟨hw, hpd, by omega⟩
  · intro σ H' Q1 Q2 hq h
    simp only [tTest, tOp, rI0, tVarD_any, tC] at h ⊢
    obtain ⟨v, hv, i, j, e1, e2, k, e3, h⟩ := h
    exact ⟨v, hv, i, j, e1, e2, k, e3, hq _ _ h⟩
abbrev sBeh : Stmt := top 28
theorem scBeh : FnScope ["words", "place", "due"] ["words", "place"] (defScope sBeh) := ⟨rfl, rfl, rfl, by decide +kernel, rfl, by decide +kernel, by decide +kernel⟩
theorem hasBeh (G : Gs w K mg) (D : Def K mg "_law_behind" sBeh ["words", "place"]) : Has P w K mg base (k + 1) "_law_behind" ["words", "place"] (spBehind K) := by
  refine D.has scBeh (fun vs H Q E h => ?_) (fun f cdv A outer s H vs Q E hr h => ?_)
  · obtain ⟨_, _, _, _, rfl, _, _, _, _, _⟩ := h
    rfl
  have nd := scBeh.nd
  have hu := hu_of hr
  have hu0 := Nat.lt_of_succ_lt hu
  obtain ⟨t, ws, p, n, rfl, hT, hw, hl, he, q⟩ := h
  refine ⟨_, (@pss_cons _ _ _ _ _ (@ps_set _ _ 2 _ _ _ _ nd rfl (by first | exact Or.inl rfl | exact Or.inr rfl) (@pe_int _ _ _ _) (by rfl) (by first | exact .inl rfl | exact .inr rfl | assumption)) (@pss_cons _ _ _ _ _ (@ps_while _ _ _ _ _ _ PassesOwn.never (@pt_cmpR _ _ _ _ _ _ _ _ (@op_gt _) (@pvD _ 2 _ _ (by rfl) (by first | exact Or.inl rfl | exact Or.inr (Or.inl rfl) | exact Or.inr (Or.inr rfl)) (by decide) (by decide)) (@pe_int _ _ _ _) (@nomark _ _ (by decide) (by decide))) (@pss_mid _ _ _ _ _ (@ps_if _ _ _ _ _ _ _ _ (@pt_cmpR _ _ _ _ _ _ _ _ (@op_in_seq _) (@pe_ix _ _ _ _ _ _ _ (@ix_tup _) (@pvD _ 0 _ _ (by rfl) (by first | exact Or.inl rfl | exact Or.inr (Or.inl rfl) | exact Or.inr (Or.inr rfl)) (by decide) (by decide)) (@pvD _ 1 _ _ (by rfl) (by first | exact Or.inl rfl | exact Or.inr (Or.inl rfl) | exact Or.inr (Or.inr rfl)) (by decide) (by decide)) (fun _ _ => rfl)) (@pe_lst _ _ _ _ (@pa_const _ _ _ (@CsOk.str _ _ _ _ _ (@CsOk.str _ _ _ _ _ (@CsOk.str _ _ _ _ _ (@CsOk.nil)))))) (by with_unfolding_all rfl)) (@pss_one _ _ _ (@ps_set _ _ 2 _ _ _ _ nd rfl (by first | exact Or.inl rfl | exact Or.inr rfl) (@pe_op _ _ _ _ _ _ _ _ (@op_add _) (@pvD _ 2 _ _ (by rfl) (by first | exact Or.inl rfl | exact Or.inr (Or.inl rfl) | exact Or.inr (Or.inr rfl)) (by decide) (by decide)) (@pe_int _ _ _ _)) (by rfl) (by first | exact .inl rfl | exact .inr rfl | assumption))) (@pss_one _ _ _ (@ps_if _ _ _ _ _ _ _ _ (@pt_cmpR _ _ _ _ _ _ _ _ (@op_ne _) (@pe_ix _ _ _ _ _ _ _ (@ix_tup _) (@pvD _ 0 _ _ (by rfl) (by first | exact Or.inl rfl | exact Or.inr (Or.inl rfl) | exact Or.inr (Or.inr rfl)) (by decide) (by decide)) (@pvD _ 1 _ _ (by rfl) (by first | exact Or.inl rfl | exact Or.inr (Or.inl rfl) | exact Or.inr (Or.inr rfl)) (by decide) (by decide)) (fun _ _ => rfl)) (@pe_str _ _ _ _) (@nomark _ _ (by decide) (by decide))) (@pss_one _ _ _ (@ps_set _ _ 2 _ _ _ _ nd rfl (by first | exact Or.inl rfl | exact Or.inr rfl) (@pe_op _ _ _ _ _ _ _ _ (@op_sub _) (@pvD _ 2 _ _ (by rfl) (by first | exact Or.inl rfl | exact Or.inr (Or.inl rfl) | exact Or.inr (Or.inr rfl)) (by decide) (by decide)) (@pe_int _ _ _ _)) (by rfl) (by first | exact .inl rfl | exact .inr rfl | assumption))) (@pss_nil _)))) (@pss_one _ _ _ (@ps_set _ _ 1 _ _ _ _ nd rfl (by first | exact Or.inl rfl | exact Or.inr rfl) (@pe_op _ _ _ _ _ _ _ _ (@op_add _) (@pvD _ 1 _ _ (by rfl) (by first | exact Or.inl rfl | exact Or.inr (Or.inl rfl) | exact Or.inr (Or.inr rfl)) (by decide) (by decide)) (@pe_int _ _ _ _)) (by rfl) (by first | exact .inl rfl | exact .inr rfl | assumption))))) (@pss_one _ _ _ (@ps_ret _ _ _ _ (@pvD _ 1 _ _ (by rfl) (by first | exact Or.inl rfl | exact Or.inr (Or.inl rfl) | exact Or.inr (Or.inr rfl)) (by decide) (by decide)))))), ?_⟩
  rw [show start ["words", "place", "due"] [.ref t, .int (p : Int)] = [some (.ref t), some (.int (p : Int)), none] from rfl]
  clear hu hu0 nd hr
  push_cast [and_true]
  have hn := eat_le _ _ _ he
  rw [List.length_map, List.length_drop] at hn
  have hn0 := eat_pos _ 0 _ he
  replace hn : p + n ≤ ws.length := by omega
  refine while_by (fun σ H' => ∃ (d j : Nat), σ = [some (.ref t), some (.int ((p + j : Nat) : Int)), some (.int (d : Int))] ∧ Same H H' ∧ j ≤ n ∧ eat d ((ws.drop (p + j)).map arV) = some (n - j))
    (fun σ _ => p + n - intAt σ 1) ⟨1, 0, rfl, Same.refl _, Nat.zero_le _, he⟩ ?_ ?_
  · rintro σ H' ⟨d, j, rfl, hS, hj, hd⟩
    push_cast [spHow, rIn]
    refine ite2 (fun c => ?_) fun c => ?_
    · obtain ⟨d', rfl⟩ : ∃ d', d = d' + 1 := ⟨d - 1, by omega⟩
      have hpos := eat_pos _ _ _ hd
      have hlt : p + j < ws.length := by omega
      have ed : ws.drop (p + j) = ws[p + j] :: ws.drop (p + j + 1) := List.drop_eq_getElem_cons hlt
      rw [ed, List.map_cons, eat_cons] at hd
      obtain ⟨m, hm, em⟩ := Option.map_eq_some_iff.mp hd
      have hx := hw _ (List.getElem_mem hlt)
      have hat : atI ws ((p + j : Nat) : Int) = some ws[p + j] := atI_nat (List.getElem?_eq_getElem hlt)
      refine tMid_of (fun σ' H1 => σ' = [some (.ref t), some (.int ((p + j : Nat) : Int)), some (.int ((d' + arV ws[p + j] : Nat) : Int))] ∧ Same H H1) ?_ ?_
      · generalize ws[p + j] = x at hx hat ⊢
        push_cast [rIn]
        refine ⟨t, ws, _, x, rfl, rfl, hS.tup hT, hat, by show (3 : Nat) ≤ sizeLine; decide, fun a ha => ⟨_, .inl (SqL.of upd_same), ?_⟩⟩
        have three := three_in hx
        have ng := neg_is hx
        have fx : flatV x = true := by
          obtain ⟨k', rfl⟩ := hx
          exact kV_flat k'
        have sx : scal x (.str (Str.ofString "neg")) = true := by
          obtain ⟨k', rfl⟩ := hx
          cases k' <;> rfl
        have ar2 := arV_le x
        refine ⟨fx, rfl, ite2 (fun c2 => ⟨?_, hS.upd (hS.free ha) _⟩) fun c2 => ⟨t, ws, _, x, rfl, rfl, (hS.upd (hS.free ha) _).tup hT, hat, sx, ite2 (fun c3 => ⟨?_, hS.upd (hS.free ha) _⟩) fun c3 => ⟨?_, hS.upd (hS.free ha) _⟩⟩⟩
        · have := three.mp c2
          omega
        · have n2 : ¬ arV x = 2 := fun e => c2 (three.mpr e)
          have n1 : ¬ arV x = 1 := fun e => by
            rw [decide_eq_true ((ng n2).mpr e)] at c3
            exact absurd c3 (by decide)
          omega
        · have n2 : ¬ arV x = 2 := fun e => c2 (three.mpr e)
          have : arV x = 1 := by
            apply (ng n2).mp
            by_cases e : x = .str (Str.ofString "neg")
            · exact e
            · rw [decide_eq_false e] at c3
              exact absurd rfl c3
          omega
      · rintro σ' H1 ⟨rfl, s1⟩
        push_cast [and_true]
        refine ⟨⟨d' + arV ws[p + j], j + 1, by omega, rfl, s1, by omega, ?_⟩, ?_⟩
        · rw [show n - (j + 1) = m by omega]
          exact hm
        · show p + n - (p + j + 1) < p + n - (p + j)
          have : j < n := by omega
          clear em hm
          omega
    · have d0 : d = 0 := by omega
      subst d0
      rw [eat_zero] at hd
      have : n - j = 0 := (Option.some.inj hd).symm
      have e : ((p + j : Nat) : Int) = (p : Int) + (n : Int) := by omega
      rw [e]
      exact q H' hS
  · intro σ H' Q1 Q2 hq h
    simp only [tTest, tOp, rI0, tVarD_any, tC] at h ⊢
    obtain ⟨v, hv, i, j, e1, e2, k, e3, h⟩ := h
    exact ⟨v, hv, i, j, e1, e2, k, e3, hq _ _ h⟩
abbrev sTurned : Stmt := top 29
theorem scTurned : FnScope ["part", "cell", "names", "word", "way", "amid", "one", "other", "far", "some"] ["part", "cell", "names"] (defScope sTurned) := ⟨rfl, rfl, rfl, by decide +kernel, rfl, by decide +kernel, by decide +kernel⟩
theorem hasTurned (G : Gs w K mg) (h_law_behind : Has P w K mg base k "_law_behind" ["words", "place"] (spBehind K)) (D : Def K mg "_law_turned" sTurned ["part", "cell", "names"]) : Has P w K mg base (k + 1) "_law_turned" ["part", "cell", "names"] spTurned := by
  refine D.has scTurned (fun vs H Q E h => ?_) (fun f cdv A outer s H vs Q E hr h => ?_)
  · obtain ⟨_, _, _, _, _, rfl, _, _, _, _, _, _⟩ := h
    rfl
  have nd := scTurned.nd
  have hu := hu_of hr
  have hu0 := Nat.lt_of_succ_lt hu
  obtain ⟨t, nl, us, c, zs, rfl, ht, hus, hN, h4, hz0, q⟩ := h
  refine ⟨_, (@pss_cons _ _ _ _ _ (@ps_set _ _ 3 _ _ _ _ nd rfl (by first | exact Or.inl rfl | exact Or.inr rfl) (@pe_ix _ _ _ _ _ _ _ (@ix_tup _) (@pvD _ 0 _ _ (by rfl) (by first | exact Or.inl rfl | exact Or.inr (Or.inl rfl) | exact Or.inr (Or.inr rfl)) (by decide) (by decide)) (@pe_int _ _ _ _) (fun _ _ => rfl)) (by rfl) (by first | exact .inl rfl | exact .inr rfl | assumption)) (@pss_cons _ _ _ _ _ (@ps_set _ _ 4 _ _ _ _ nd rfl (by first | exact Or.inl rfl | exact Or.inr rfl) (@pe_op _ _ _ _ _ _ _ _ (@op_mod _) (@pvD _ 1 _ _ (by rfl) (by first | exact Or.inl rfl | exact Or.inr (Or.inl rfl) | exact Or.inr (Or.inr rfl)) (by decide) (by decide)) (@pe_int _ _ _ _)) (by rfl) (by first | exact .inl rfl | exact .inr rfl | assumption)) (@pss_mid _ _ _ _ _ (@ps_if _ _ _ _ _ _ _ _ (@pt_cmpR _ _ _ _ _ _ _ _ (@op_in_seq _) (@pvD _ 3 _ _ (by rfl) (by first | exact Or.inl rfl | exact Or.inr (Or.inl rfl) | exact Or.inr (Or.inr rfl)) (by decide) (by decide)) (@pe_lst _ _ _ _ (@pa_const _ _ _ (@CsOk.str _ _ _ _ _ (@CsOk.str _ _ _ _ _ (@CsOk.str _ _ _ _ _ (@CsOk.nil)))))) (by with_unfolding_all rfl)) (@pss_cons _ _ _ _ _ (@ps_set _ _ 5 _ _ _ _ nd rfl (by first | exact Or.inl rfl | exact Or.inr rfl) (@pe_has _ _ _ _ _ _ _ _ _ _ h_law_behind hr (@pa_cons _ _ _ _ _ (@pvD _ 0 _ _ (by rfl) (by first | exact Or.inl rfl | exact Or.inr (Or.inl rfl) | exact Or.inr (Or.inr rfl)) (by decide) (by decide)) (@pa_cons _ _ _ _ _ (@pe_int _ _ _ _) (@pa_nil _) (by rfl)) (by rfl)) (by rfl) (by decide +kernel) (by rfl) (by rfl)) (by rfl) (by first | exact .inl rfl | exact .inr rfl | assumption)) (@pss_cons _ _ _ _ _ (@ps_set _ _ 6 _ _ _ _ nd rfl (by first | exact Or.inl rfl | exact Or.inr rfl) (@pe_slice _ _ _ _ _ _ _ _ _ _ (@sl_tupU _) (@pvD _ 0 _ _ (by rfl) (by first | exact Or.inl rfl | exact Or.inr (Or.inl rfl) | exact Or.inr (Or.inr rfl)) (by decide) (by decide)) (@po_some _ _ _ (@pe_int _ _ _ _)) (@po_some _ _ _ (@pvD _ 5 _ _ (by rfl) (by first | exact Or.inl rfl | exact Or.inr (Or.inl rfl) | exact Or.inr (Or.inr rfl)) (by decide) (by decide)))) (by rfl) (by first | exact .inl rfl | exact .inr rfl | assumption)) (@pss_cons _ _ _ _ _ (@ps_set _ _ 7 _ _ _ _ nd rfl (by first | exact Or.inl rfl | exact Or.inr rfl) (@pe_slice _ _ _ _ _ _ _ _ _ _ (@sl_tupU _) (@pvD _ 0 _ _ (by rfl) (by first | exact Or.inl rfl | exact Or.inr (Or.inl rfl) | exact Or.inr (Or.inr rfl)) (by decide) (by decide)) (@po_some _ _ _ (@pvD _ 5 _ _ (by rfl) (by first | exact Or.inl rfl | exact Or.inr (Or.inl rfl) | exact Or.inr (Or.inr rfl)) (by decide) (by decide))) (@po_none _)) (by rfl) (by first | exact .inl rfl | exact .inr rfl | assumption)) (@pss_cons _ _ _ _ _ (@ps_if _ _ _ _ _ _ _ _ (@PW.pt _ _ _ (@pw_and _ _ _ _ _ _ _ (@pt_cmpR _ _ _ _ _ _ _ _ (@op_eq _) (@pvD _ 4 _ _ (by rfl) (by first | exact Or.inl rfl | exact Or.inr (Or.inl rfl) | exact Or.inr (Or.inr rfl)) (by decide) (by decide)) (@pe_int _ _ _ _) (@nomark _ _ (by decide) (by decide))) (@pw_and1 _ _ _ _ (@pt_cmpR _ _ _ _ _ _ _ _ (@op_ne _) (@pvD _ 3 _ _ (by rfl) (by first | exact Or.inl rfl | exact Or.inr (Or.inl rfl) | exact Or.inr (Or.inr rfl)) (by decide) (by decide)) (@pe_str _ _ _ _) (@nomark _ _ (by decide) (by decide)))))) (@pss_one _ _ _ (@ps_ret _ _ _ _ (@pe_op _ _ _ _ _ _ _ _ (@op_catU _) (@pe_op _ _ _ _ _ _ _ _ (@op_catU _) (@pe_tup _ _ _ _ _ (@pa_cons _ _ _ _ _ (@pvD _ 3 _ _ (by rfl) (by first | exact Or.inl rfl | exact Or.inr (Or.inl rfl) | exact Or.inr (Or.inr rfl)) (by decide) (by decide)) (@pa_nil _) (by rfl))) (@pvD _ 7 _ _ (by rfl) (by first | exact Or.inl rfl | exact Or.inr (Or.inl rfl) | exact Or.inr (Or.inr rfl)) (by decide) (by decide))) (@pvD _ 6 _ _ (by rfl) (by first | exact Or.inl rfl | exact Or.inr (Or.inl rfl) | exact Or.inr (Or.inr rfl)) (by decide) (by decide))))) (@pss_nil _)) (@pss_cons _ _ _ _ _ (@ps_if _ _ _ _ _ _ _ _ (@PW.pt _ _ _ (@pw_and _ _ _ _ _ _ _ (@pt_cmpR _ _ _ _ _ _ _ _ (@op_eq _) (@pvD _ 4 _ _ (by rfl) (by first | exact Or.inl rfl | exact Or.inr (Or.inl rfl) | exact Or.inr (Or.inr rfl)) (by decide) (by decide)) (@pe_int _ _ _ _) (@nomark _ _ (by decide) (by decide))) (@pw_and1 _ _ _ _ (@pt_cmpR _ _ _ _ _ _ _ _ (@op_eq _) (@pvD _ 3 _ _ (by rfl) (by first | exact Or.inl rfl | exact Or.inr (Or.inl rfl) | exact Or.inr (Or.inr rfl)) (by decide) (by decide)) (@pe_str _ _ _ _) (@nomark _ _ (by decide) (by decide)))))) (@pss_one _ _ _ (@ps_ret _ _ _ _ (@pe_op _ _ _ _ _ _ _ _ (@op_catU _) (@pe_op _ _ _ _ _ _ _ _ (@op_catU _) (@pe_op _ _ _ _ _ _ _ _ (@op_catU _) (@pe_tup _ _ _ _ _ (@pa_cons _ _ _ _ _ (@pe_str _ _ _ _) (@pa_nil _) (by rfl))) (@pvD _ 6 _ _ (by rfl) (by first | exact Or.inl rfl | exact Or.inr (Or.inl rfl) | exact Or.inr (Or.inr rfl)) (by decide) (by decide))) (@pe_tup _ _ _ _ _ (@pa_cons _ _ _ _ _ (@pe_str _ _ _ _) (@pa_nil _) (by rfl)))) (@pvD _ 7 _ _ (by rfl) (by first | exact Or.inl rfl | exact Or.inr (Or.inl rfl) | exact Or.inr (Or.inr rfl)) (by decide) (by decide))))) (@pss_nil _)) (@pss_cons _ _ _ _ _ (@ps_if _ _ _ _ _ _ _ _ (@PW.pt _ _ _ (@pw_and _ _ _ _ _ _ _ (@pt_cmpR _ _ _ _ _ _ _ _ (@op_eq _) (@pvD _ 4 _ _ (by rfl) (by first | exact Or.inl rfl | exact Or.inr (Or.inl rfl) | exact Or.inr (Or.inr rfl)) (by decide) (by decide)) (@pe_int _ _ _ _) (@nomark _ _ (by decide) (by decide))) (@pw_and _ _ _ _ _ _ _ (@pt_cmpR _ _ _ _ _ _ _ _ (@op_eq _) (@pvD _ 3 _ _ (by rfl) (by first | exact Or.inl rfl | exact Or.inr (Or.inl rfl) | exact Or.inr (Or.inr rfl)) (by decide) (by decide)) (@pe_str _ _ _ _) (@nomark _ _ (by decide) (by decide))) (@pw_and1 _ _ _ _ (@pt_cmpR _ _ _ _ _ _ _ _ (@op_eq _) (@pe_ix _ _ _ _ _ _ _ (@ix_tup _) (@pvD _ 7 _ _ (by rfl) (by first | exact Or.inl rfl | exact Or.inr (Or.inl rfl) | exact Or.inr (Or.inr rfl)) (by decide) (by decide)) (@pe_int _ _ _ _) (fun _ _ => rfl)) (@pe_str _ _ _ _) (@nomark _ _ (by decide) (by decide))))))) (@pss_cons _ _ _ _ _ (@ps_set _ _ 8 _ _ _ _ nd rfl (by first | exact Or.inl rfl | exact Or.inr rfl) (@pe_has _ _ _ _ _ _ _ _ _ _ h_law_behind hr (@pa_cons _ _ _ _ _ (@pvD _ 7 _ _ (by rfl) (by first | exact Or.inl rfl | exact Or.inr (Or.inl rfl) | exact Or.inr (Or.inr rfl)) (by decide) (by decide)) (@pa_cons _ _ _ _ _ (@pe_int _ _ _ _) (@pa_nil _) (by rfl)) (by rfl)) (by rfl) (by decide +kernel) (by rfl) (by rfl)) (by rfl) (by first | exact .inl rfl | exact .inr rfl | assumption)) (@pss_one _ _ _ (@ps_ret _ _ _ _ (@pe_op _ _ _ _ _ _ _ _ (@op_catU _) (@pe_op _ _ _ _ _ _ _ _ (@op_catU _) (@pe_op _ _ _ _ _ _ _ _ (@op_catU _) (@pe_op _ _ _ _ _ _ _ _ (@op_catU _) (@pe_op _ _ _ _ _ _ _ _ (@op_catU _) (@pe_tup _ _ _ _ _ (@pa_cons _ _ _ _ _ (@pe_str _ _ _ _) (@pa_cons _ _ _ _ _ (@pe_str _ _ _ _) (@pa_nil _) (by rfl)) (by rfl))) (@pvD _ 6 _ _ (by rfl) (by first | exact Or.inl rfl | exact Or.inr (Or.inl rfl) | exact Or.inr (Or.inr rfl)) (by decide) (by decide))) (@pe_slice _ _ _ _ _ _ _ _ _ _ (@sl_tupU _) (@pvD _ 7 _ _ (by rfl) (by first | exact Or.inl rfl | exact Or.inr (Or.inl rfl) | exact Or.inr (Or.inr rfl)) (by decide) (by decide)) (@po_some _ _ _ (@pe_int _ _ _ _)) (@po_some _ _ _ (@pvD _ 8 _ _ (by rfl) (by first | exact Or.inl rfl | exact Or.inr (Or.inl rfl) | exact Or.inr (Or.inr rfl)) (by decide) (by decide))))) (@pe_tup _ _ _ _ _ (@pa_cons _ _ _ _ _ (@pe_str _ _ _ _) (@pa_nil _) (by rfl)))) (@pvD _ 6 _ _ (by rfl) (by first | exact Or.inl rfl | exact Or.inr (Or.inl rfl) | exact Or.inr (Or.inr rfl)) (by decide) (by decide))) (@pe_slice _ _ _ _ _ _ _ _ _ _ (@sl_tupU _) (@pvD _ 7 _ _ (by rfl) (by first | exact Or.inl rfl | exact Or.inr (Or.inl rfl) | exact Or.inr (Or.inr rfl)) (by decide) (by decide)) (@po_some _ _ _ (@pvD _ 8 _ _ (by rfl) (by first | exact Or.inl rfl | exact Or.inr (Or.inl rfl) | exact Or.inr (Or.inr rfl)) (by decide) (by decide))) (@po_none _)))))) (@pss_nil _)) (@pss_one _ _ _ (@ps_if _ _ _ _ _ _ _ _ (@PW.pt _ _ _ (@pw_and _ _ _ _ _ _ _ (@pt_cmpR _ _ _ _ _ _ _ _ (@op_eq _) (@pvD _ 4 _ _ (by rfl) (by first | exact Or.inl rfl | exact Or.inr (Or.inl rfl) | exact Or.inr (Or.inr rfl)) (by decide) (by decide)) (@pe_int _ _ _ _) (@nomark _ _ (by decide) (by decide))) (@pw_and1 _ _ _ _ (@pt_cmpR _ _ _ _ _ _ _ _ (@op_eq _) (@pvD _ 3 _ _ (by rfl) (by first | exact Or.inl rfl | exact Or.inr (Or.inl rfl) | exact Or.inr (Or.inr rfl)) (by decide) (by decide)) (@pe_str _ _ _ _) (@nomark _ _ (by decide) (by decide)))))) (@pss_one _ _ _ (@ps_ret _ _ _ _ (@pe_op _ _ _ _ _ _ _ _ (@op_catU _) (@pe_op _ _ _ _ _ _ _ _ (@op_catU _) (@pe_op _ _ _ _ _ _ _ _ (@op_catU _) (@pe_tup _ _ _ _ _ (@pa_cons _ _ _ _ _ (@pe_str _ _ _ _) (@pa_nil _) (by rfl))) (@pvD _ 6 _ _ (by rfl) (by first | exact Or.inl rfl | exact Or.inr (Or.inl rfl) | exact Or.inr (Or.inr rfl)) (by decide) (by decide))) (@pe_tup _ _ _ _ _ (@pa_cons _ _ _ _ _ (@pe_str _ _ _ _) (@pa_nil _) (by rfl)))) (@pvD _ 7 _ _ (by rfl) (by first | exact Or.inl rfl | exact Or.inr (Or.inl rfl) | exact Or.inr (Or.inr rfl)) (by decide) (by decide))))) (@pss_nil _))))))))) (@pss_nil _)) (@pss_cons _ _ _ _ _ (@ps_if _ _ _ _ _ _ _ _ (@pt_cmpR _ _ _ _ _ _ _ _ (@op_eq _) (@pvD _ 4 _ _ (by rfl) (by first | exact Or.inl rfl | exact Or.inr (Or.inl rfl) | exact Or.inr (Or.inr rfl)) (by decide) (by decide)) (@pe_int _ _ _ _) (@nomark _ _ (by decide) (by decide))) (@pss_one _ _ _ (@ps_ret _ _ _ _ (@pe_op _ _ _ _ _ _ _ _ (@op_catU _) (@pe_tup _ _ _ _ _ (@pa_cons _ _ _ _ _ (@pe_str _ _ _ _) (@pa_cons _ _ _ _ _ (@pe_str _ _ _ _) (@pa_nil _) (by rfl)) (by rfl))) (@pvD _ 0 _ _ (by rfl) (by first | exact Or.inl rfl | exact Or.inr (Or.inl rfl) | exact Or.inr (Or.inr rfl)) (by decide) (by decide))))) (@pss_nil _)) (@pss_cons _ _ _ _ _ (@ps_if _ _ _ _ _ _ _ _ (@pt_cmpR _ _ _ _ _ _ _ _ (@op_eq _) (@pvD _ 4 _ _ (by rfl) (by first | exact Or.inl rfl | exact Or.inr (Or.inl rfl) | exact Or.inr (Or.inr rfl)) (by decide) (by decide)) (@pe_int _ _ _ _) (@nomark _ _ (by decide) (by decide))) (@pss_one _ _ _ (@ps_ret _ _ _ _ (@pe_ix _ _ _ _ _ _ _ (@ix_list _) (@pe_lst _ _ _ _ (@pa_cons _ _ _ _ _ (@pe_op _ _ _ _ _ _ _ _ (@op_catU _) (@pe_tup _ _ _ _ _ (@pa_cons _ _ _ _ _ (@pe_str _ _ _ _) (@pa_cons _ _ _ _ _ (@pe_int _ _ _ _) (@pa_nil _) (by rfl)) (by rfl))) (@pvD _ 0 _ _ (by rfl) (by first | exact Or.inl rfl | exact Or.inr (Or.inl rfl) | exact Or.inr (Or.inr rfl)) (by decide) (by decide))) (@pa_cons _ _ _ _ _ (@pe_op _ _ _ _ _ _ _ _ (@op_catU _) (@pe_tup _ _ _ _ _ (@pa_cons _ _ _ _ _ (@pe_str _ _ _ _) (@pa_cons _ _ _ _ _ (@pe_int _ _ _ _) (@pa_nil _) (by rfl)) (by rfl))) (@pvD _ 0 _ _ (by rfl) (by first | exact Or.inl rfl | exact Or.inr (Or.inl rfl) | exact Or.inr (Or.inr rfl)) (by decide) (by decide))) (@pa_cons _ _ _ _ _ (@pe_op _ _ _ _ _ _ _ _ (@op_catU _) (@pe_op _ _ _ _ _ _ _ _ (@op_catU _) (@pe_tup _ _ _ _ _ (@pa_cons _ _ _ _ _ (@pe_str _ _ _ _) (@pa_nil _) (by rfl))) (@pvD _ 0 _ _ (by rfl) (by first | exact Or.inl rfl | exact Or.inr (Or.inl rfl) | exact Or.inr (Or.inr rfl)) (by decide) (by decide))) (@pe_tup _ _ _ _ _ (@pa_cons _ _ _ _ _ (@pe_int _ _ _ _) (@pa_nil _) (by rfl)))) (@pa_nil _) (by rfl)) (by rfl)) (by rfl))) (@pe_op _ _ _ _ _ _ _ _ (@op_mod _) (@pe_op _ _ _ _ _ _ _ _ (@op_fdiv _) (@pvD _ 1 _ _ (by rfl) (by first | exact Or.inl rfl | exact Or.inr (Or.inl rfl) | exact Or.inr (Or.inr rfl)) (by decide) (by decide)) (@pe_int _ _ _ _)) (@pe_int _ _ _ _)) (fun _ _ => rfl)))) (@pss_nil _)) (@pss_cons _ _ _ _ _ (@ps_if _ _ _ _ _ _ _ _ (@pt_cmpR _ _ _ _ _ _ _ _ (@op_eq _) (@pvD _ 4 _ _ (by rfl) (by first | exact Or.inl rfl | exact Or.inr (Or.inl rfl) | exact Or.inr (Or.inr rfl)) (by decide) (by decide)) (@pe_int _ _ _ _) (@nomark _ _ (by decide) (by decide))) (@pss_cons _ _ _ _ _ (@ps_set _ _ 9 _ _ _ _ nd rfl (by first | exact Or.inl rfl | exact Or.inr rfl) (@pe_ix _ _ _ _ _ _ _ (@ix_list _) (@pe_lst _ _ _ _ (@pa_cons _ _ _ _ _ (@pe_tup _ _ _ _ _ (@pa_cons _ _ _ _ _ (@pe_ix _ _ _ _ _ _ _ (@ix_list _) (@pvD _ 2 _ _ (by rfl) (by first | exact Or.inl rfl | exact Or.inr (Or.inl rfl) | exact Or.inr (Or.inr rfl)) (by decide) (by decide)) (@pe_int _ _ _ _) (fun _ _ => rfl)) (@pa_nil _) (by rfl))) (@pa_cons _ _ _ _ _ (@pe_tup _ _ _ _ _ (@pa_cons _ _ _ _ _ (@pe_int _ _ _ _) (@pa_nil _) (by rfl))) (@pa_cons _ _ _ _ _ (@pe_tup _ _ _ _ _ (@pa_cons _ _ _ _ _ (@pe_str _ _ _ _) (@pa_cons _ _ _ _ _ (@pe_ix _ _ _ _ _ _ _ (@ix_list _) (@pvD _ 2 _ _ (by rfl) (by first | exact Or.inl rfl | exact Or.inr (Or.inl rfl) | exact Or.inr (Or.inr rfl)) (by decide) (by decide)) (@pe_int _ _ _ _) (fun _ _ => rfl)) (@pa_nil _) (by rfl)) (by rfl))) (@pa_nil _) (by rfl)) (by rfl)) (by rfl))) (@pe_op _ _ _ _ _ _ _ _ (@op_mod _) (@pe_op _ _ _ _ _ _ _ _ (@op_fdiv _) (@pvD _ 1 _ _ (by rfl) (by first | exact Or.inl rfl | exact Or.inr (Or.inl rfl) | exact Or.inr (Or.inr rfl)) (by decide) (by decide)) (@pe_int _ _ _ _)) (@pe_int _ _ _ _)) (fun _ _ => rfl)) (by rfl) (by first | exact .inl rfl | exact .inr rfl | assumption)) (@pss_one _ _ _ (@ps_ret _ _ _ _ (@pe_op _ _ _ _ _ _ _ _ (@op_catU _) (@pe_op _ _ _ _ _ _ _ _ (@op_catU _) (@pe_op _ _ _ _ _ _ _ _ (@op_catU _) (@pe_tup _ _ _ _ _ (@pa_cons _ _ _ _ _ (@pe_str _ _ _ _) (@pa_cons _ _ _ _ _ (@pe_str _ _ _ _) (@pa_nil _) (by rfl)) (by rfl))) (@pvD _ 0 _ _ (by rfl) (by first | exact Or.inl rfl | exact Or.inr (Or.inl rfl) | exact Or.inr (Or.inr rfl)) (by decide) (by decide))) (@pvD _ 9 _ _ (by rfl) (by first | exact Or.inl rfl | exact Or.inr (Or.inl rfl) | exact Or.inr (Or.inr rfl)) (by decide) (by decide))) (@pvD _ 9 _ _ (by rfl) (by first | exact Or.inl rfl | exact Or.inr (Or.inl rfl) | exact Or.inr (Or.inr rfl)) (by decide) (by decide)))))) (@pss_nil _)) (@pss_one _ _ _ (@ps_ret _ _ _ _ (@pvD _ 0 _ _ (by rfl) (by first | exact Or.inl rfl | exact Or.inr (Or.inl rfl) | exact Or.inr (Or.inr rfl)) (by decide) (by decide)))))))))), ?_⟩
  rw [show start ["part", "cell", "names", "word", "way", "amid", "one", "other", "far", "some"] [.ref t, .int c, .ref nl] = [some (.ref t), some (.int c), some (.ref nl), none, none, none, none, none, none, none] from rfl]
  clear hu hu0 nd hr
  push_cast [spBehind]
  have sz := sizeLine_eq
  have hp := hus.pos
  have hat : atI us 0 = some us[0] := atI_nat (j := 0) (List.getElem?_eq_getElem hp)
  have hlen := hus.len
  refine rIxT_ok ht hat ?_
  refine tMid_of (fun σ' H1 => ∃ v5 v6 v7 v8 : Option V, σ' = [some (.ref t), some (.int c), some (.ref nl), some us[0], some (.int (c % 7)), v5, v6, v7, v8, none] ∧ Same H H1) ?_ ?_
  · have hx : isW us[0] := hus.isW _ (List.getElem_mem hp)
    have e0 : us[0]? = some us[0] := List.getElem?_eq_getElem hp
    generalize us[0] = x at hx e0 ⊢
    push_cast [rIn, spBehind]
    refine ⟨by show (3 : Nat) ≤ sizeLine; decide, fun a ha => ⟨_, .inl (SqL.of upd_same), ?_⟩⟩
    have three := three_in hx
    have fx : flatV x = true := by
      obtain ⟨k', rfl⟩ := hx
      exact kV_flat k'
    have sx : ∀ z : Str, scal x (.str z) = true := fun z => by
      obtain ⟨k', rfl⟩ := hx
      cases k' <;> rfl
    refine ⟨fx, rfl, ite2 (fun c2 => ?_) fun c2 => same_new ha _⟩
    have ax := three.mp c2
    obtain ⟨z, rfl, _⟩ := arV_str (show 0 < arV x by omega)
    have az : arS z = 2 := ax
    obtain ⟨n, e1, e2, ta, tb, eu⟩ := hus.parts e0 az
    have sc : ∀ i j : Int, scal (V.int i) (V.int j) = true := fun _ _ => rfl
    have scz : ∀ w' : Str, scal (V.str z) (V.str w') = true := fun _ => rfl
    have ht1 := same_new ha (.lst [V.str "add", V.str "sub", V.str "mul"]) _ _ ht
    refine ⟨us, 1, rfl, SqT.of ht1, hus.isW, by omega, n, e1, fun H2 s2 => rSlU_ok (s2 _ _ ht1) fun p6 H3 s3 h6 => rSlU_ok (s3 _ _ (s2 _ _ ht1)) fun p7 H4 s4 h7 => ?_⟩
    have S4 : Same H H4 := (same_new ha _).trans ((s2.trans s3).trans s4)
    have h6 := s4 _ _ h6
    have c6 : cutV us (some 1) (some (((1 : Nat) : Int) + (n : Int))) = (us.drop 1).take n := cut_part us 1 n e2
    have c7 : cutV us (some (((1 : Nat) : Int) + (n : Int))) none = us.drop (1 + n) := cut_tail us 1 n e2
    rw [c6] at h6
    rw [c7] at h7
    have lAB : n + (us.length - 1 - n) ≤ 20 := by omega
    generalize us.length - 1 - n = mB at tb lAB
    generalize (us.drop 1).take n = A at *
    generalize us.drop (1 + n) = B at *
    have lA := ta.len
    have lB := tb.len
    have fin : ∀ {us' : List V}, Keeps zs ([.str z] ++ A ++ B) us' → ∀ (p : Addr) (H' : Hp), Same H4 H' → H' p = some (.tup us') → Q (.ref p) H' := fun kp p H' s h => q p _ H' (S4.trans s) h kp.1 fun ρ => (kp.2 ρ).trans (by rw [← eu])
    have zc : z = "add" ∨ z = "sub" ∨ z = "mul" := by
      rcases arS_cases (z := z) (by omega) with r | r | r | r
      · exact .inl r
      · exact .inr (.inl r)
      · exact .inr (.inr r)
      · rw [r, ar_neg] at az; cases az
    have one : (1 : Nat) ≤ sizeLine := by decide
    have m0 : 0 ≤ c % 7 := Int.emod_nonneg _ (by decide)
    have m1 : c % 7 < 7 := Int.emod_lt_of_pos _ (by decide)
    rcases (show c % 7 = 0 ∨ c % 7 = 1 ∨ c % 7 = 2 ∨ c % 7 = 3 ∨ (c % 7 ≠ 0 ∧ c % 7 ≠ 1 ∧ c % 7 ≠ 2 ∧ c % 7 ≠ 3) by omega) with hk | hk | hk | hk | ⟨k0, k1, k2, k3⟩
    · refine ⟨sc _ _, ifY hk ⟨scz _, ite2 (fun ez => ⟨one, fun p hp => ?_⟩) fun _ => ⟨sc _ _, ifN (by omega) ⟨sc _ _, ifN (by omega) ⟨sc _ _, ifN (by omega) S4⟩⟩⟩⟩⟩
      have zn : z ≠ "sub" := fun e => by rw [e, decide_eq_true rfl] at ez; cases ez
      exact rCatU_ok upd_same (same_new hp _ _ _ h7) (by show 1 + _ ≤ _; omega) fun p8 H5 s5 h8 => rCatU_ok h8 (s5 _ _ (same_new hp _ _ _ h6)) (by rw [List.length_append]; show 1 + _ + _ ≤ _; omega) fun p9 H6 s6 h9 => fin (keeps0 (zc.elim .inl fun h => h.elim (fun e => absurd e zn) .inr) ta tb lAB) p9 H6 ((same_new hp _).trans (s5.trans s6)) h9
    · refine ⟨sc _ _, ifN (by omega) ⟨sc _ _, ifY hk ⟨scz _, ite2 (fun ez => ⟨one, fun p hp => ?_⟩) fun _ => ⟨sc _ _, ifN (by omega) ⟨sc _ _, ifN (by omega) S4⟩⟩⟩⟩⟩
      have zn : z = "sub" := V.str.inj ez
      rw [zn] at fin
      exact rCatU_ok upd_same (same_new hp _ _ _ h6) (by show 1 + _ ≤ _; omega) fun p8 H5 s5 h8 => ⟨one, fun p9 hp9 => rCatU_ok (same_new hp9 _ _ _ h8) upd_same (by rw [List.length_append]; show 1 + _ + 1 ≤ _; omega) fun pa H6 s6 ha => rCatU_ok ha (s6 _ _ (same_new hp9 _ _ _ (s5 _ _ (same_new hp _ _ _ h7)))) (by rw [List.length_append, List.length_append]; show 1 + _ + 1 + _ ≤ _; omega) fun pb H7 s7 hb => fin (keeps1 ta tb lAB) pb H7 (((same_new hp _).trans s5).trans ((same_new hp9 _).trans (s6.trans s7))) hb⟩
    · refine ⟨sc _ _, ifN (by omega) ⟨sc _ _, ifN (by omega) ⟨sc _ _, ifY hk ⟨scz _, ite2 (fun ez => ?_) fun _ => ⟨sc _ _, ifN (by omega) S4⟩⟩⟩⟩⟩
      have zn : z = "mul" := V.str.inj ez
      rw [zn] at fin
      have pb := tb.pos
      have hb0 : B[0]? = some B[0] := List.getElem?_eq_getElem pb
      have hbw : isW B[0] := tb.isW _ (List.getElem_mem pb)
      refine rIxT_ok h7 (atI_nat (j := 0) hb0) ⟨?_, ite2 (fun ea => ?_) fun _ => ⟨sc _ _, ifN (by omega) S4⟩⟩
      · obtain ⟨k', e⟩ := hbw
        rw [e]
        cases k' <;> rfl
      · rw [ea] at hb0
        obtain ⟨n2, f1, f2, tb1, tb2, eB⟩ := tb.parts hb0 arAdd
        refine ⟨p7, rfl, B, 1, rfl, SqT.of h7, tb.isW, by omega, n2, f1, fun H5 s5 => ⟨by show (2 : Nat) ≤ sizeLine; decide, fun p hp => ?_⟩⟩
        have c8 : cutV B (some 1) (some (((1 : Nat) : Int) + (n2 : Int))) = (B.drop 1).take n2 := cut_part B 1 n2 f2
        have c9 : cutV B (some (((1 : Nat) : Int) + (n2 : Int))) none = B.drop (1 + n2) := cut_tail B 1 n2 f2
        have l1 := tb1.len
        have l2 := tb2.len
        refine rCatU_ok upd_same (same_new hp _ _ _ (s5 _ _ h6)) (by show 2 + _ ≤ _; omega) fun pa H6 s6 ha => ?_
        have S6 := s5.trans ((same_new hp _).trans s6)
        refine rSlU_ok (S6 _ _ h7) fun pc H7 s7 hc => ?_
        rw [c8] at hc
        refine rCatU_ok (s7 _ _ ha) hc (by rw [List.length_append]; show 2 + _ + _ ≤ _; omega) fun pd H8 s8 hd => ⟨one, fun pe hpe => ?_⟩
        refine rCatU_ok (same_new hpe _ _ _ hd) upd_same (by rw [List.length_append, List.length_append]; show 2 + _ + _ + 1 ≤ _; omega) fun pf H9 s9 hf => ?_
        have S9 := S6.trans (s7.trans (s8.trans ((same_new hpe _).trans s9)))
        refine rCatU_ok hf (S9 _ _ h6) (by rw [List.length_append, List.length_append, List.length_append]; show 2 + _ + _ + 1 + _ ≤ _; omega) fun pg HA sA hg => ?_
        refine rSlU_ok ((S9.trans sA) _ _ h7) fun ph HB sB hh => ?_
        rw [c9] at hh
        refine rCatU_ok (sB _ _ hg) hh (by rw [List.length_append, List.length_append, List.length_append, List.length_append]; show 2 + _ + _ + 1 + _ + _ ≤ _; omega) fun pi HC sC hi => ?_
        have kp := keeps2 ta tb1 tb2 (by omega)
        rw [← eB] at kp
        exact fin kp pi HC ((S9.trans sA).trans (sB.trans sC)) hi
    · refine ⟨sc _ _, ifN (by omega) ⟨sc _ _, ifN (by omega) ⟨sc _ _, ifN (by omega) ⟨sc _ _, ifY hk ⟨scz _, ite2 (fun ez => ⟨one, fun p hp => ?_⟩) fun _ => S4⟩⟩⟩⟩⟩
      have zn : z = "add" := V.str.inj ez
      rw [zn] at fin
      exact rCatU_ok upd_same (same_new hp _ _ _ h6) (by show 1 + _ ≤ _; omega) fun p8 H5 s5 h8 => ⟨one, fun p9 hp9 => rCatU_ok (same_new hp9 _ _ _ h8) upd_same (by rw [List.length_append]; show 1 + _ + 1 ≤ _; omega) fun pa H6 s6 ha => rCatU_ok ha (s6 _ _ (same_new hp9 _ _ _ (s5 _ _ (same_new hp _ _ _ h7)))) (by rw [List.length_append, List.length_append]; show 1 + _ + 1 + _ ≤ _; omega) fun pb H7 s7 hb => fin (keeps3 ta tb lAB) pb H7 (((same_new hp _).trans s5).trans ((same_new hp9 _).trans (s6.trans s7))) hb⟩
    · exact ⟨sc _ _, ifN k0 ⟨sc _ _, ifN k1 ⟨sc _ _, ifN k2 ⟨sc _ _, ifN k3 S4⟩⟩⟩⟩
  · rintro σ' H1 ⟨v5, v6, v7, v8, rfl, s1⟩
    push_cast [and_true]
    have sc : ∀ i j : Int, scal (V.int i) (V.int j) = true := fun _ _ => rfl
    have fin : ∀ {us' : List V}, Keeps zs us us' → ∀ (p : Addr) (H' : Hp), Same H1 H' → H' p = some (.tup us') → Q (.ref p) H' := fun kp p H' s h => q p _ H' (s1.trans s) h kp.1 kp.2
    have ht1 := s1 _ _ ht
    have one : (1 : Nat) ≤ sizeLine := by decide
    have two : (2 : Nat) ≤ sizeLine := by decide
    have three : (3 : Nat) ≤ sizeLine := by decide
    refine ⟨sc _ 4, ite2 (fun _ => ⟨two, fun p hp => ?_⟩) fun _ => ⟨sc _ 5, ite2 (fun _ => ⟨two, fun p hp => ?_⟩) fun _ => ⟨sc _ 6, ite2 (fun _ => ?_) fun _ => fin (Keeps.self hus) t H1 (Same.refl _) ht1⟩⟩⟩
    · exact rCatU_ok upd_same (same_new hp _ _ _ ht1) (by show 2 + _ ≤ _; omega) fun pa H2 s2 ha => fin (keeps4 hus) pa H2 ((same_new hp _).trans s2) ha
    · refine rCatU_ok upd_same (same_new hp _ _ _ ht1) (by show 2 + _ ≤ _; omega) fun pa H2 s2 ha => ⟨two, fun p2 hp2 => ?_⟩
      have S2 := (same_new hp (.tup [V.str "add", V.int 0])).trans s2
      refine rCatU_ok upd_same (same_new hp2 _ _ _ (S2 _ _ ht1)) (by show 2 + _ ≤ _; omega) fun pb H3 s3 hb => ⟨one, fun p3 hp3 => ?_⟩
      have S3 := S2.trans ((same_new hp2 (.tup [V.str "mul", V.int 1])).trans s3)
      refine rCatU_ok upd_same (same_new hp3 _ _ _ (S3 _ _ ht1)) (by show 1 + _ ≤ _; omega) fun pc H4 s4 hc => ⟨one, fun p4 hp4 => ?_⟩
      have S4 := S3.trans ((same_new hp3 (.tup [V.str "sub"])).trans s4)
      refine rCatU_ok (same_new hp4 _ _ _ hc) upd_same (by rw [List.length_append]; show 1 + _ + 1 ≤ _; omega) fun pd H5 s5 hd => ⟨three, fun p5 hp5 => ?_⟩
      have S5 := S4.trans ((same_new hp4 (.tup [V.int 0])).trans s5)
      have sB := (same_new hp2 (.tup [V.str "mul", V.int 1])).trans s3
      have sC := (same_new hp3 (.tup [V.str "sub"])).trans s4
      have sD := (same_new hp4 (.tup [V.int 0])).trans s5
      have sE := same_new hp5 (.lst [V.ref pa, V.ref pb, V.ref pd])
      obtain ⟨v, hv, hm⟩ := atI_in [V.ref pa, V.ref pb, V.ref pd] (c / 7 % 3) (Int.emod_nonneg _ (by decide)) (by show c / 7 % 3 < 3; omega)
      refine rIxL_ok upd_same hv ?_
      simp only [List.mem_cons, List.not_mem_nil, or_false] at hm
      rcases hm with rfl | rfl | rfl
      · exact fin (keeps5a hus) pa _ (S5.trans sE) (sE _ _ (sD _ _ (sC _ _ (sB _ _ ha))))
      · exact fin (keeps5b hus) pb _ (S5.trans sE) (sE _ _ (sD _ _ (sC _ _ hb)))
      · exact fin (keeps5c hus) pd _ (S5.trans sE) (sE _ _ hd)
    · obtain ⟨z0, a0, b0⟩ := strs_at (zs := zs) h4 (k := 0) (by decide) (by decide)
      obtain ⟨z1, a1, b1⟩ := strs_at (zs := zs) h4 (k := 1) (by decide) (by decide)
      have hN1 := s1 _ _ hN
      refine rIxL_ok hN1 a0 ⟨one, fun p hp => ⟨one, fun p1 hp1 => ?_⟩⟩
      have S2 := (same_new hp (.tup [V.str z0])).trans (same_new hp1 (.tup [V.int 5]))
      refine rIxL_ok (S2 _ _ hN1) a1 ⟨two, fun p2 hp2 => ⟨three, fun p3 hp3 => ?_⟩⟩
      have sF := (same_new hp2 (.tup [V.str "neg", V.str z1])).trans (same_new hp3 (.lst [V.ref p, V.ref p1, V.ref p2]))
      have S3 := S2.trans sF
      obtain ⟨v, hv, hm⟩ := atI_in [V.ref p, V.ref p1, V.ref p2] (c / 7 % 3) (Int.emod_nonneg _ (by decide)) (by show c / 7 % 3 < 3; omega)
      refine rIxL_ok upd_same hv ?_
      have go : ∀ (pz : Addr) (s : List V), upd (upd (upd (upd H1 p (.tup [V.str z0])) p1 (.tup [V.int 5])) p2 (.tup [V.str "neg", V.str z1])) p3 (.lst [V.ref p, V.ref p1, V.ref p2]) pz = some (.tup s) → TS zs 2 s → [V.str (Str.ofString "sub"), V.str (Str.ofString "add")].length ≤ sizeLine ∧ ∀ (q' : Addr), upd (upd (upd (upd H1 p (.tup [V.str z0])) p1 (.tup [V.int 5])) p2 (.tup [V.str "neg", V.str z1])) p3 (.lst [V.ref p, V.ref p1, V.ref p2]) q' = none → rCatU (V.ref q') (V.ref t) (upd (upd (upd (upd (upd H1 p (.tup [V.str z0])) p1 (.tup [V.int 5])) p2 (.tup [V.str "neg", V.str z1])) p3 (.lst [V.ref p, V.ref p1, V.ref p2])) q' (HO.tup [V.str (Str.ofString "sub"), V.str (Str.ofString "add")])) fun x_1 H1 => rCatU x_1 (V.ref pz) H1 fun x_2 H1 => rCatU x_2 (V.ref pz) H1 Q := fun pz s hz hs => by
        have ls := hs.len
        refine ⟨two, fun q' hq' => rCatU_ok upd_same (same_new hq' _ _ _ (S3 _ _ ht1)) (by show 2 + _ ≤ _; omega) fun pa H4 s4 ha => ?_⟩
        have hz4 := s4 _ _ (same_new hq' (.tup [V.str "sub", V.str "add"]) _ _ hz)
        refine rCatU_ok ha hz4 (by rw [List.length_append]; show 2 + _ + _ ≤ _; omega) fun pb H5 s5 hb => rCatU_ok hb (s5 _ _ hz4) (by rw [List.length_append, List.length_append]; show 2 + _ + _ + _ ≤ _; omega) fun pc H6 s6 hc => fin (keeps6 hus hs) pc H6 (S3.trans ((same_new hq' _).trans (s4.trans (s5.trans s6)))) hc
      simp only [List.mem_cons, List.not_mem_nil, or_false] at hm
      rcases hm with rfl | rfl | rfl
      · exact go p _ (sF _ _ (same_new hp1 _ _ _ upd_same)) ((TS.name b0 (hz0 z0 b0)).up (by decide))
      · exact go p1 _ (sF _ _ upd_same) ((TS.num (by decide)).up (by decide))
      · exact go p2 _ (same_new hp3 _ _ _ upd_same) (TS.name b1 (hz0 z1 b1)).neg
abbrev sMade : Stmt := top 30
theorem scMade : FnScope ["deck", "names", "words", "k", "cell", "at", "behind", "longer"] ["deck", "names", "words"] (defScope sMade) := ⟨rfl, rfl, rfl, by decide +kernel, rfl, by decide +kernel, by decide +kernel⟩
theorem hasMade (G : Gs w K mg) (h_law_behind : Has P w K mg base k "_law_behind" ["words", "place"] (spBehind K)) (h_law_next : Has P w K mg base k "_law_next" ["deck"] spNext) (h_law_turned : Has P w K mg base k "_law_turned" ["part", "cell", "names"] spTurned) (D : Def K mg "_law_made" sMade ["deck", "names", "words"]) : Has P w K mg base (k + 1) "_law_made" ["deck", "names", "words"] spMade := by
  refine D.has scMade (fun vs H Q E h => ?_) (fun f cdv A outer s H vs Q E hr h => ?_)
  · obtain ⟨_, _, _, _, _, _, _, _, rfl, _, _, _, _, _, _, _, _⟩ := h
    rfl
  have nd := scMade.nd
  have hu := hu_of hr
  have hu0 := Nat.lt_of_succ_lt hu
  obtain ⟨d, nl, t, b, ns, zs, n, ws, rfl, hD, hN, h4, hz0, hn, ht, hws, q⟩ := h
  have m_len := G.m_len
  have m_range := G.m_range
  refine ⟨_, (@pss_cons _ _ _ _ _ (@ps_for _ _ _ _ _ _ _ _ PassesOwn.never rfl (@pi_range1 _ _ _ _ _ _ rfl m_range (@pa_cons _ _ _ _ _ (@pe_op _ _ _ _ _ _ _ _ (@op_add _) (@pe_int _ _ _ _) (@pe_op _ _ _ _ _ _ _ _ (@op_mod _) (@pe_has _ _ _ _ _ _ _ _ _ _ h_law_next hr (@pa_cons _ _ _ _ _ (@pvD _ 0 _ _ (by rfl) (by first | exact Or.inl rfl | exact Or.inr (Or.inl rfl) | exact Or.inr (Or.inr rfl)) (by decide) (by decide)) (@pa_nil _) (by rfl)) (by rfl) (by decide +kernel) (by rfl) (by rfl)) (@pe_int _ _ _ _))) (@pa_nil _) (by rfl)) (by rfl)) (@pg_name _ _ 3 _ nd rfl (by first | exact Or.inl rfl | exact Or.inr rfl) (by first | exact .inl rfl | exact .inr rfl | assumption)) (@pss_cons _ _ _ _ _ (@ps_set _ _ 4 _ _ _ _ nd rfl (by first | exact Or.inl rfl | exact Or.inr rfl) (@pe_has _ _ _ _ _ _ _ _ _ _ h_law_next hr (@pa_cons _ _ _ _ _ (@pvD _ 0 _ _ (by rfl) (by first | exact Or.inl rfl | exact Or.inr (Or.inl rfl) | exact Or.inr (Or.inr rfl)) (by decide) (by decide)) (@pa_nil _) (by rfl)) (by rfl) (by decide +kernel) (by rfl) (by rfl)) (by rfl) (by first | exact .inl rfl | exact .inr rfl | assumption)) (@pss_cons _ _ _ _ _ (@ps_set _ _ 5 _ _ _ _ nd rfl (by first | exact Or.inl rfl | exact Or.inr rfl) (@pe_op _ _ _ _ _ _ _ _ (@op_mod _) (@pvD _ 4 _ _ (by rfl) (by first | exact Or.inl rfl | exact Or.inr (Or.inl rfl) | exact Or.inr (Or.inr rfl)) (by decide) (by decide)) (@pe_callB _ _ _ _ _ _ _ _ _ (@call_len_seq _) rfl m_len b_len (@pa_cons _ _ _ _ _ (@pvD _ 2 _ _ (by rfl) (by first | exact Or.inl rfl | exact Or.inr (Or.inl rfl) | exact Or.inr (Or.inr rfl)) (by decide) (by decide)) (@pa_nil _) (by rfl)) (by decide) (by decide) (by rfl) (by rfl))) (by rfl) (by first | exact .inl rfl | exact .inr rfl | assumption)) (@pss_cons _ _ _ _ _ (@ps_set _ _ 6 _ _ _ _ nd rfl (by first | exact Or.inl rfl | exact Or.inr rfl) (@pe_has _ _ _ _ _ _ _ _ _ _ h_law_behind hr (@pa_cons _ _ _ _ _ (@pvD _ 2 _ _ (by rfl) (by first | exact Or.inl rfl | exact Or.inr (Or.inl rfl) | exact Or.inr (Or.inr rfl)) (by decide) (by decide)) (@pa_cons _ _ _ _ _ (@pvD _ 5 _ _ (by rfl) (by first | exact Or.inl rfl | exact Or.inr (Or.inl rfl) | exact Or.inr (Or.inr rfl)) (by decide) (by decide)) (@pa_nil _) (by rfl)) (by rfl)) (by rfl) (by decide +kernel) (by rfl) (by rfl)) (by rfl) (by first | exact .inl rfl | exact .inr rfl | assumption)) (@pss_cons _ _ _ _ _ (@ps_set _ _ 7 _ _ _ _ nd rfl (by first | exact Or.inl rfl | exact Or.inr rfl) (@pe_op _ _ _ _ _ _ _ _ (@op_catU _) (@pe_op _ _ _ _ _ _ _ _ (@op_catU _) (@pe_slice _ _ _ _ _ _ _ _ _ _ (@sl_tupU _) (@pvD _ 2 _ _ (by rfl) (by first | exact Or.inl rfl | exact Or.inr (Or.inl rfl) | exact Or.inr (Or.inr rfl)) (by decide) (by decide)) (@po_none _) (@po_some _ _ _ (@pvD _ 5 _ _ (by rfl) (by first | exact Or.inl rfl | exact Or.inr (Or.inl rfl) | exact Or.inr (Or.inr rfl)) (by decide) (by decide)))) (@pe_has _ _ _ _ _ _ _ _ _ _ h_law_turned hr (@pa_cons _ _ _ _ _ (@pe_slice _ _ _ _ _ _ _ _ _ _ (@sl_tupU _) (@pvD _ 2 _ _ (by rfl) (by first | exact Or.inl rfl | exact Or.inr (Or.inl rfl) | exact Or.inr (Or.inr rfl)) (by decide) (by decide)) (@po_some _ _ _ (@pvD _ 5 _ _ (by rfl) (by first | exact Or.inl rfl | exact Or.inr (Or.inl rfl) | exact Or.inr (Or.inr rfl)) (by decide) (by decide))) (@po_some _ _ _ (@pvD _ 6 _ _ (by rfl) (by first | exact Or.inl rfl | exact Or.inr (Or.inl rfl) | exact Or.inr (Or.inr rfl)) (by decide) (by decide)))) (@pa_cons _ _ _ _ _ (@pe_op _ _ _ _ _ _ _ _ (@op_fdiv _) (@pvD _ 4 _ _ (by rfl) (by first | exact Or.inl rfl | exact Or.inr (Or.inl rfl) | exact Or.inr (Or.inr rfl)) (by decide) (by decide)) (@pe_callB _ _ _ _ _ _ _ _ _ (@call_len_seq _) rfl m_len b_len (@pa_cons _ _ _ _ _ (@pvD _ 2 _ _ (by rfl) (by first | exact Or.inl rfl | exact Or.inr (Or.inl rfl) | exact Or.inr (Or.inr rfl)) (by decide) (by decide)) (@pa_nil _) (by rfl)) (by decide) (by decide) (by rfl) (by rfl))) (@pa_cons _ _ _ _ _ (@pvD _ 1 _ _ (by rfl) (by first | exact Or.inl rfl | exact Or.inr (Or.inl rfl) | exact Or.inr (Or.inr rfl)) (by decide) (by decide)) (@pa_nil _) (by rfl)) (by rfl)) (by rfl)) (by rfl) (by decide +kernel) (by rfl) (by rfl))) (@pe_slice _ _ _ _ _ _ _ _ _ _ (@sl_tupU _) (@pvD _ 2 _ _ (by rfl) (by first | exact Or.inl rfl | exact Or.inr (Or.inl rfl) | exact Or.inr (Or.inr rfl)) (by decide) (by decide)) (@po_some _ _ _ (@pvD _ 6 _ _ (by rfl) (by first | exact Or.inl rfl | exact Or.inr (Or.inl rfl) | exact Or.inr (Or.inr rfl)) (by decide) (by decide))) (@po_none _))) (by rfl) (by first | exact .inl rfl | exact .inr rfl | assumption)) (@pss_one _ _ _ (@ps_if _ _ _ _ _ _ _ _ (@pt_cmpR _ _ _ _ _ _ _ _ (@op_lt _) (@pe_callB _ _ _ _ _ _ _ _ _ (@call_len_seq _) rfl m_len b_len (@pa_cons _ _ _ _ _ (@pvD _ 7 _ _ (by rfl) (by first | exact Or.inl rfl | exact Or.inr (Or.inl rfl) | exact Or.inr (Or.inr rfl)) (by decide) (by decide)) (@pa_nil _) (by rfl)) (by decide) (by decide) (by rfl) (by rfl)) (@pe_int _ _ _ _) (@nomark _ _ (by decide) (by decide))) (@pss_one _ _ _ (@ps_set _ _ 2 _ _ _ _ nd rfl (by first | exact Or.inl rfl | exact Or.inr rfl) (@pvD _ 7 _ _ (by rfl) (by first | exact Or.inl rfl | exact Or.inr (Or.inl rfl) | exact Or.inr (Or.inr rfl)) (by decide) (by decide)) (by rfl) (by first | exact .inl rfl | exact .inr rfl | assumption))) (@pss_nil _))))))) (by intro _; rfl)) (@pss_one _ _ _ (@ps_ret _ _ _ _ (@pvD _ 2 _ _ (by rfl) (by first | exact Or.inl rfl | exact Or.inr (Or.inl rfl) | exact Or.inr (Or.inr rfl)) (by decide) (by decide))))), ?_⟩
  rw [show start ["deck", "names", "words", "k", "cell", "at", "behind", "longer"] [.ref d, .ref nl, .ref t] = [some (.ref d), some (.ref nl), some (.ref t), none, none, none, none, none] from rfl]
  clear hu hu0 nd hr
  push_cast [spNext]
  have sz := sizeLine_eq
  have nnd : nl ≠ d := ne_of hN hD.1 (by intro e; match zs, h4, e with | [_, _, _, _], _, e => cases e)
  have ntd : t ≠ d := ne_of ht hD.1 (by intro e; cases e)
  refine ⟨b, ns, n, hD, by omega, fun c H1 s1 d1 => ⟨by omega, by omega, ?_⟩⟩
  refine forW_range (lo := 0) (fun i σ H' => ∃ (v3 v4 v5 v6 v7 : Option V) (tt : Addr) (ws' : List V), σ = [some (.ref d), some (.ref nl), some (.ref tt), v3, v4, v5, v6, v7] ∧ SameB d H H' ∧ H' d = some (.lst [.ref b, .int ((n + 1 + i : Nat) : Int)]) ∧ H' tt = some (.tup ws') ∧ TS zs 12 ws' ∧ ∀ ρ, worthN ρ ws' = worthN ρ ws) ⟨none, none, none, none, none, t, ws, rfl, s1, d1, s1 _ _ ntd ht, hws, fun _ => rfl⟩ ?_ ?_
  · rintro i σ H' hi ⟨v3, v4, v5, v6, v7, tt, ws', rfl, s2, d2, ht2, hw2, hρ⟩
    have hi3 : i < 3 := by omega
    push_cast [spNext]
    refine ⟨b, ns, n + 1 + i, hD.next s2 d2, by omega, fun c2 H2 s3 d3 => ?_⟩
    have pos := hw2.pos
    have len := hw2.len
    have m0 : 0 ≤ c2 % (ws'.length : Int) := Int.emod_nonneg _ (by omega)
    have m1 : c2 % (ws'.length : Int) < (ws'.length : Int) := Int.emod_lt_of_pos _ (by omega)
    obtain ⟨p, ep⟩ : ∃ p : Nat, c2 % (ws'.length : Int) = (p : Int) := ⟨(c2 % (ws'.length : Int)).toNat, by omega⟩
    have hp : p < ws'.length := by omega
    obtain ⟨m, n2, a1, a2, a3, a4, a5⟩ := part_at hw2.one hp
    have ntt : tt ≠ d := ne_of ht2 d2 (by intro e; cases e)
    have ht3 := s3 _ _ ntt ht2
    refine ⟨ws', .inr (SqT.of ht3), by omega, ?_⟩
    rw [ep]
    refine ⟨tt, ws', p, n2, rfl, SqT.of ht3, hw2.isW, by omega, a2, fun H3 s4 => ?_⟩
    have ht4 := s4 _ _ ht3
    refine rSlU_ok ht4 fun pa H4 s5 ha => ⟨_, rfl, rSlU_ok (s5 _ _ ht4) fun pb H5 s6 hb => ⟨ws', .inr (SqT.of ((s5.trans s6) _ _ ht4)), by omega, by omega, ?_⟩⟩
    rw [cut_head ws' p (by omega)] at ha
    rw [cut_part ws' p n2 a5] at hb
    have tp : Pc.TS zs 12 ((ws'.drop p).take n2) := ⟨fun v hv => hw2.word v (List.mem_of_mem_drop (List.mem_of_mem_take hv)), part_term a2, by rw [List.length_take, List.length_drop]; omega⟩
    have S5 := s4.trans (s5.trans s6)
    refine ⟨pb, nl, _, _, zs, rfl, hb, tp, S5 _ _ (s3 _ _ nnd (s2 _ _ nnd hN)), h4, hz0, fun t' us' H6 s7 ht' hus' hk => ?_⟩
    have lus := hus'.len
    have lt1 : (ws'.take p).length = p := by rw [List.length_take]; omega
    have ld1 : (ws'.drop (p + n2)).length ≤ 12 := by rw [List.length_drop]; omega
    refine rCatU_ok ((s6.trans s7) _ _ ha) ht' (by omega) fun pc H7 s8 hc => ⟨_, rfl, rSlU_ok (s8 _ _ (s7 _ _ ((s5.trans s6) _ _ ht4))) fun pd H8 s9 hd => ?_⟩
    rw [cut_tail ws' p n2 a5] at hd
    refine rCatU_ok (s9 _ _ hc) hd (by rw [List.length_append]; omega) fun pe H9 sA he => ?_
    have S9 := (S5.trans s7).trans ((s8.trans s9).trans sA)
    have B9 : SameB d H H9 := (s2.trans s3).trans (SameB.of S9)
    have d9 : H9 d = some (.lst [.ref b, .int ((n + 1 + (i + 1) : Nat) : Int)]) := S9 _ _ d3
    refine ⟨pe, rfl, _, .inr (SqT.of he), ite2 (fun c13 => ?_) fun _ => ?_⟩
    · obtain ⟨k1, k2⟩ := Keeps.put hw2 hp a2 ⟨hus', hk⟩ (by omega)
      exact ⟨_, _, _, _, _, pe, rfl, rfl, rfl, rfl, rfl, rfl, B9, d9, _, he, k1, fun ρ => (k2 ρ).trans (hρ ρ)⟩
    · exact ⟨B9, d9, ws', S9 _ _ ht3, hw2, hρ⟩
  · rintro σ H' ⟨v3, v4, v5, v6, v7, tt, ws', rfl, s2, d2, ht2, hw2, hρ⟩
    push_cast [and_true]
    exact q tt _ H' ws' s2 d2 (by omega) ht2 hw2 hρ
abbrev sChanged : Stmt := top 31
theorem scChanged : FnScope ["deck", "names", "words", "cell", "at", "word"] ["deck", "names", "words"] (defScope sChanged) := ⟨rfl, rfl, rfl, by decide +kernel, rfl, by decide +kernel, by decide +kernel⟩
theorem hasChanged (G : Gs w K mg) (h_law_next : Has P w K mg base k "_law_next" ["deck"] spNext) (D : Def K mg "_law_changed" sChanged ["deck", "names", "words"]) : Has P w K mg base (k + 1) "_law_changed" ["deck", "names", "words"] spChanged := by
  refine D.has scChanged (fun vs H Q E h => ?_) (fun f cdv A outer s H vs Q E hr h => ?_)
  · obtain ⟨_, _, _, _, _, _, _, _, rfl, _, _, _, _, _, _, _, _⟩ := h
    rfl
  have nd := scChanged.nd
  have hu := hu_of hr
  have hu0 := Nat.lt_of_succ_lt hu
  obtain ⟨d, nl, t, b, ns, zs, n, ws, rfl, hD, hN, h4, hz0, hn, ht, hws, q⟩ := h
  have m_int := G.m_int
  have m_isinstance := G.m_isinstance
  have m_len := G.m_len
  refine ⟨_, (@pss_cons _ _ _ _ _ (@ps_set _ _ 3 _ _ _ _ nd rfl (by first | exact Or.inl rfl | exact Or.inr rfl) (@pe_has _ _ _ _ _ _ _ _ _ _ h_law_next hr (@pa_cons _ _ _ _ _ (@pvD _ 0 _ _ (by rfl) (by first | exact Or.inl rfl | exact Or.inr (Or.inl rfl) | exact Or.inr (Or.inr rfl)) (by decide) (by decide)) (@pa_nil _) (by rfl)) (by rfl) (by decide +kernel) (by rfl) (by rfl)) (by rfl) (by first | exact .inl rfl | exact .inr rfl | assumption)) (@pss_cons _ _ _ _ _ (@ps_set _ _ 4 _ _ _ _ nd rfl (by first | exact Or.inl rfl | exact Or.inr rfl) (@pe_op _ _ _ _ _ _ _ _ (@op_mod _) (@pvD _ 3 _ _ (by rfl) (by first | exact Or.inl rfl | exact Or.inr (Or.inl rfl) | exact Or.inr (Or.inr rfl)) (by decide) (by decide)) (@pe_callB _ _ _ _ _ _ _ _ _ (@call_len_seq _) rfl m_len b_len (@pa_cons _ _ _ _ _ (@pvD _ 2 _ _ (by rfl) (by first | exact Or.inl rfl | exact Or.inr (Or.inl rfl) | exact Or.inr (Or.inr rfl)) (by decide) (by decide)) (@pa_nil _) (by rfl)) (by decide) (by decide) (by rfl) (by rfl))) (by rfl) (by first | exact .inl rfl | exact .inr rfl | assumption)) (@pss_cons _ _ _ _ _ (@ps_set _ _ 5 _ _ _ _ nd rfl (by first | exact Or.inl rfl | exact Or.inr rfl) (@pe_ix _ _ _ _ _ _ _ (@ix_tup _) (@pvD _ 2 _ _ (by rfl) (by first | exact Or.inl rfl | exact Or.inr (Or.inl rfl) | exact Or.inr (Or.inr rfl)) (by decide) (by decide)) (@pvD _ 4 _ _ (by rfl) (by first | exact Or.inl rfl | exact Or.inr (Or.inl rfl) | exact Or.inr (Or.inr rfl)) (by decide) (by decide)) (fun _ _ => rfl)) (by rfl) (by first | exact .inl rfl | exact .inr rfl | assumption)) (@pss_mid _ _ _ _ _ (@ps_if _ _ _ _ _ _ _ _ (@pt_val _ _ _ (@pe_callB _ _ _ _ _ _ _ _ _ (@call_isinst _) rfl m_isinstance b_isinstance (@pa_cons _ _ _ _ _ (@pvD _ 5 _ _ (by rfl) (by first | exact Or.inl rfl | exact Or.inr (Or.inl rfl) | exact Or.inr (Or.inr rfl)) (by decide) (by decide)) (@pa_cons _ _ _ _ _ (@pe_gty _ _ _ _ m_int b_int (by rfl) (by decide +kernel) (by decide +kernel)) (@pa_nil _) (by rfl)) (by rfl)) (by decide) (by decide) (by rfl) (by rfl)) (by intro _; rfl)) (@pss_one _ _ _ (@ps_set _ _ 5 _ _ _ _ nd rfl (by first | exact Or.inl rfl | exact Or.inr rfl) (@pe_op _ _ _ _ _ _ _ _ (@op_add _) (@pe_op _ _ _ _ _ _ _ _ (@op_add _) (@pvD _ 5 _ _ (by rfl) (by first | exact Or.inl rfl | exact Or.inr (Or.inl rfl) | exact Or.inr (Or.inr rfl)) (by decide) (by decide)) (@pe_int _ _ _ _)) (@pe_op _ _ _ _ _ _ _ _ (@op_mod _) (@pe_op _ _ _ _ _ _ _ _ (@op_fdiv _) (@pvD _ 3 _ _ (by rfl) (by first | exact Or.inl rfl | exact Or.inr (Or.inl rfl) | exact Or.inr (Or.inr rfl)) (by decide) (by decide)) (@pe_int _ _ _ _)) (@pe_int _ _ _ _))) (by rfl) (by first | exact .inl rfl | exact .inr rfl | assumption))) (@pss_one _ _ _ (@ps_if _ _ _ _ _ _ _ _ (@pt_cmpR _ _ _ _ _ _ _ _ (@op_in_seq _) (@pvD _ 5 _ _ (by rfl) (by first | exact Or.inl rfl | exact Or.inr (Or.inl rfl) | exact Or.inr (Or.inr rfl)) (by decide) (by decide)) (@pe_lst _ _ _ _ (@pa_const _ _ _ (@CsOk.str _ _ _ _ _ (@CsOk.str _ _ _ _ _ (@CsOk.str _ _ _ _ _ (@CsOk.nil)))))) (by with_unfolding_all rfl)) (@pss_one _ _ _ (@ps_set _ _ 5 _ _ _ _ nd rfl (by first | exact Or.inl rfl | exact Or.inr rfl) (@pe_ix _ _ _ _ _ _ _ (@ix_list _) (@pe_lst _ _ _ _ (@pa_const _ _ _ (@CsOk.str _ _ _ _ _ (@CsOk.str _ _ _ _ _ (@CsOk.str _ _ _ _ _ (@CsOk.nil)))))) (@pe_op _ _ _ _ _ _ _ _ (@op_mod _) (@pe_op _ _ _ _ _ _ _ _ (@op_fdiv _) (@pvD _ 3 _ _ (by rfl) (by first | exact Or.inl rfl | exact Or.inr (Or.inl rfl) | exact Or.inr (Or.inr rfl)) (by decide) (by decide)) (@pe_int _ _ _ _)) (@pe_int _ _ _ _)) (fun _ _ => rfl)) (by rfl) (by first | exact .inl rfl | exact .inr rfl | assumption))) (@pss_one _ _ _ (@ps_if _ _ _ _ _ _ _ _ (@pt_cmpR _ _ _ _ _ _ _ _ (@op_ne _) (@pvD _ 5 _ _ (by rfl) (by first | exact Or.inl rfl | exact Or.inr (Or.inl rfl) | exact Or.inr (Or.inr rfl)) (by decide) (by decide)) (@pe_str _ _ _ _) (@nomark _ _ (by decide) (by decide))) (@pss_one _ _ _ (@ps_set _ _ 5 _ _ _ _ nd rfl (by first | exact Or.inl rfl | exact Or.inr rfl) (@pe_ix _ _ _ _ _ _ _ (@ix_list _) (@pe_op _ _ _ _ _ _ _ _ (@op_cat _) (@pvD _ 1 _ _ (by rfl) (by first | exact Or.inl rfl | exact Or.inr (Or.inl rfl) | exact Or.inr (Or.inr rfl)) (by decide) (by decide)) (@pe_lst _ _ _ _ (@pa_cons _ _ _ _ _ (@pe_int _ _ _ _) (@pa_cons _ _ _ _ _ (@pe_int _ _ _ _) (@pa_nil _) (by rfl)) (by rfl)))) (@pe_op _ _ _ _ _ _ _ _ (@op_mod _) (@pe_op _ _ _ _ _ _ _ _ (@op_fdiv _) (@pvD _ 3 _ _ (by rfl) (by first | exact Or.inl rfl | exact Or.inr (Or.inl rfl) | exact Or.inr (Or.inr rfl)) (by decide) (by decide)) (@pe_int _ _ _ _)) (@pe_int _ _ _ _)) (fun _ _ => rfl)) (by rfl) (by first | exact .inl rfl | exact .inr rfl | assumption))) (@pss_nil _)))))) (@pss_one _ _ _ (@ps_ret _ _ _ _ (@pe_op _ _ _ _ _ _ _ _ (@op_catU _) (@pe_op _ _ _ _ _ _ _ _ (@op_catU _) (@pe_slice _ _ _ _ _ _ _ _ _ _ (@sl_tupU _) (@pvD _ 2 _ _ (by rfl) (by first | exact Or.inl rfl | exact Or.inr (Or.inl rfl) | exact Or.inr (Or.inr rfl)) (by decide) (by decide)) (@po_none _) (@po_some _ _ _ (@pvD _ 4 _ _ (by rfl) (by first | exact Or.inl rfl | exact Or.inr (Or.inl rfl) | exact Or.inr (Or.inr rfl)) (by decide) (by decide)))) (@pe_tup _ _ _ _ _ (@pa_cons _ _ _ _ _ (@pvD _ 5 _ _ (by rfl) (by first | exact Or.inl rfl | exact Or.inr (Or.inl rfl) | exact Or.inr (Or.inr rfl)) (by decide) (by decide)) (@pa_nil _) (by rfl)))) (@pe_slice _ _ _ _ _ _ _ _ _ _ (@sl_tupU _) (@pvD _ 2 _ _ (by rfl) (by first | exact Or.inl rfl | exact Or.inr (Or.inl rfl) | exact Or.inr (Or.inr rfl)) (by decide) (by decide)) (@po_some _ _ _ (@pe_op _ _ _ _ _ _ _ _ (@op_add _) (@pvD _ 4 _ _ (by rfl) (by first | exact Or.inl rfl | exact Or.inr (Or.inl rfl) | exact Or.inr (Or.inr rfl)) (by decide) (by decide)) (@pe_int _ _ _ _))) (@po_none _))))))))), ?_⟩
  rw [show start ["deck", "names", "words", "cell", "at", "word"] [.ref d, .ref nl, .ref t] = [some (.ref d), some (.ref nl), some (.ref t), none, none, none] from rfl]
  clear hu hu0 nd hr
  push_cast [spNext]
  have sz := sizeLine_eq
  have nnd : nl ≠ d := ne_of hN hD.1 (by intro e; match zs, h4, e with | [_, _, _, _], _, e => cases e)
  have ntd : t ≠ d := ne_of ht hD.1 (by intro e; cases e)
  have pos := hws.pos
  have len := hws.len
  refine ⟨b, ns, n, hD, by omega, fun c H1 s1 d1 => ?_⟩
  have ht1 := s1 _ _ ntd ht
  have hN1 := s1 _ _ nnd hN
  have m0 : 0 ≤ c % (ws.length : Int) := Int.emod_nonneg _ (by omega)
  have m1 : c % (ws.length : Int) < (ws.length : Int) := Int.emod_lt_of_pos _ (by omega)
  obtain ⟨p, ep⟩ : ∃ p : Nat, c % (ws.length : Int) = (p : Int) := ⟨(c % (ws.length : Int)).toNat, by omega⟩
  have hp : p < ws.length := by omega
  have hx := hws.word _ (List.getElem_mem hp)
  refine ⟨ws, .inr (SqT.of ht1), by omega, ?_⟩
  rw [ep]
  refine rIxT_ok ht1 (atI_nat (List.getElem?_eq_getElem hp)) ?_
  refine tMid_of (fun σ' H2 => ∃ x' : V, σ' = [some (.ref d), some (.ref nl), some (.ref t), some (.int c), some (.int (p : Int)), some x'] ∧ Same H1 H2 ∧ arV x' = arV ws[p] ∧ wordF (fun z => z ∈ zs) x') ?_ ?_
  · generalize ws[p] = x at hx ⊢
    push_cast [and_true]
    cases x with
    | int i =>
      refine ⟨_, .int i, true, rfl, iteT ?_⟩
      push_cast [and_true]
      refine ⟨Same.refl _, rfl, ?_⟩
      have hx : i.natAbs ≤ 100 := hx
      have m2 : 0 ≤ c / 12 % 3 := Int.emod_nonneg _ (by decide)
      have m3 : c / 12 % 3 < 3 := Int.emod_lt_of_pos _ (by decide)
      show (i + 1 + c / 12 % 3).natAbs < 2 ^ 200
      exact Nat.lt_of_le_of_lt (show (i + 1 + c / 12 % 3).natAbs ≤ 110 by omega) (by decide +kernel)
    | str z =>
      refine ⟨_, .str z, false, rfl, iteF ?_⟩
      push_cast [rIn]
      have three := three_in (isW.str z)
      refine ⟨by show (3 : Nat) ≤ sizeLine; decide, fun p hp => ⟨_, .inl (SqL.of upd_same), rfl, rfl, ite2 (fun c2 => ⟨by show (3 : Nat) ≤ sizeLine; decide, fun p1 hp1 => ?_⟩) fun c2 => ⟨rfl, ite2 (fun c3 => ⟨by show (2 : Nat) ≤ sizeLine; decide, fun p1 hp1 => ?_⟩) fun c3 => ⟨same_new hp _, wS.wordF (v := .str z) hx⟩⟩⟩⟩
      · have az := three.mp c2
        obtain ⟨v, hv, hm⟩ := atI_in [V.str "add", V.str "sub", V.str "mul"] (c / 12 % 3) (Int.emod_nonneg _ (by decide)) (by show c / 12 % 3 < 3; omega)
        refine rIxL_ok upd_same hv ⟨(same_new hp _).trans (same_new hp1 _), ?_⟩
        simp only [List.mem_cons, List.not_mem_nil, or_false] at hm
        rcases hm with rfl | rfl | rfl
        · exact ⟨arAdd.trans az.symm, .inl (by rw [arAdd]; decide)⟩
        · exact ⟨arSub.trans az.symm, .inl (by rw [arSub]; decide)⟩
        · exact ⟨arMul.trans az.symm, .inl (by rw [arMul]; decide)⟩
      · have az : arS z = 0 := by
          rcases Nat.eq_zero_or_pos (arS z) with k' | k'
          · exact k'
          · rcases arS_cases k' with r | r | r | r
            · exact absurd (three.mpr (by rw [r]; exact arAdd)) c2
            · exact absurd (three.mpr (by rw [r]; exact arSub)) c2
            · exact absurd (three.mpr (by rw [r]; exact arMul)) c2
            · rw [decide_eq_true (show z = Str.ofString "neg" from r)] at c3
              cases c3
        have lz : (zs.map V.str).length = 4 := by rw [List.length_map, h4]
        refine rCat_ok (same_new hp1 _ _ _ (same_new hp _ _ _ hN1)) upd_same (by rw [lz]; show 4 + 2 ≤ _; omega) fun p2 hp2 => ?_
        obtain ⟨v, hv, hm⟩ := atI_in (zs.map V.str ++ [V.int 0, V.int 1]) (c / 12 % 6) (Int.emod_nonneg _ (by decide)) (by rw [List.length_append, lz]; show c / 12 % 6 < 6; omega)
        refine rIxL_ok upd_same hv ⟨((same_new hp _).trans (same_new hp1 _)).trans (same_new hp2 _), ?_⟩
        rcases List.mem_append.mp hm with k' | k'
        · obtain ⟨y, hy, rfl⟩ := List.mem_map.mp k'
          exact ⟨(hz0 y hy).trans az.symm, .inr hy⟩
        · simp only [List.mem_cons, List.not_mem_nil, or_false] at k'
          rcases k' with rfl | rfl
          · exact ⟨az.symm, by show (0 : Nat) < 2 ^ 200; decide⟩
          · exact ⟨az.symm, by show (1 : Nat) < 2 ^ 200; decide⟩
    | _ => exact hx.elim
  · rintro σ' H2 ⟨x', rfl, s2, ax, wx⟩
    push_cast [and_true]
    have ht2 := s2 _ _ ht1
    have lt1 : (ws.take p).length = p := by rw [List.length_take]; omega
    have ld1 : (ws.drop (p + 1)).length = ws.length - (p + 1) := List.length_drop
    have c9 : cutV ws (some ((p : Int) + 1)) none = ws.drop (p + 1) := cut_tail ws p 1 (by omega)
    refine rSlU_ok ht2 fun pa H3 s3 ha => ⟨by show (1 : Nat) ≤ sizeLine; decide, fun pb hpb => ?_⟩
    rw [cut_head ws p (by omega)] at ha
    refine rCatU_ok (same_new hpb _ _ _ ha) upd_same (by show _ + 1 ≤ _; omega) fun pc H4 s4 hc => rSlU_ok (s4 _ _ (same_new hpb _ _ _ (s3 _ _ ht2))) fun pd H5 s5 hd => ?_
    rw [c9] at hd
    refine rCatU_ok (s5 _ _ hc) hd (by rw [List.length_append]; show _ + 1 + _ ≤ _; omega) fun pe H6 s6 he => ?_
    have S6 : Same H1 H6 := s2.trans (s3.trans ((same_new hpb _).trans (s4.trans (s5.trans s6))))
    have ew : ws = ws.take p ++ [ws[p]] ++ ws.drop (p + 1) := by rw [List.append_assoc, List.singleton_append, ← List.drop_eq_getElem_cons hp, List.take_append_drop]
    have em : (ws.take p ++ [x'] ++ ws.drop (p + 1)).map arV = ws.map arV := by
      conv => rhs; rw [ew]
      rw [List.map_append, List.map_append, List.map_append, List.map_append, List.map_cons, List.map_nil, ax]
      rfl
    refine q pe H6 _ (s1.trans (SameB.of S6)) (S6 _ _ d1) he ⟨fun v hv => ?_, ?_, ?_⟩
    · rcases List.mem_append.mp hv with k' | k'
      · rcases List.mem_append.mp k' with k' | k'
        · exact (hws.word v (List.mem_of_mem_take k')).wordF
        · rw [List.mem_singleton.mp k']; exact wx
      · exact (hws.word v (List.mem_of_mem_drop k')).wordF
    · show pend 1 ((ws.take p ++ [x'] ++ ws.drop (p + 1)).map arV) = some 0
      rw [em]
      exact hws.one
    · rw [List.length_append, List.length_append, lt1, ld1]
      show p + 1 + _ ≤ 12
      omega
abbrev sValues : Stmt := top 32
theorem scValues : FnScope ["deck", "names", "values", "name", "cell"] ["deck", "names"] (defScope sValues) := ⟨rfl, rfl, rfl, by decide +kernel, rfl, by decide +kernel, by decide +kernel⟩
theorem hasValues (G : Gs w K mg) (h_law_next : Has P w K mg base k "_law_next" ["deck"] spNext) (D : Def K mg "_law_values" sValues ["deck", "names"]) : Has P w K mg base (k + 1) "_law_values" ["deck", "names"] spValues := by
  refine D.has scValues (fun vs H Q E h => ?_) (fun f cdv A outer s H vs Q E hr h => ?_)
  · obtain ⟨_, _, _, _, _, _, rfl, _, _, _, _, _⟩ := h
    rfl
  have nd := scValues.nd
  have hu := hu_of hr
  have hu0 := Nat.lt_of_succ_lt hu
  obtain ⟨d, nl, b, ns, zs, n, rfl, hD, hN, h4, hn, q⟩ := h
  refine ⟨_, (@pss_cons _ _ _ _ _ (@ps_set _ _ 2 _ _ _ _ nd rfl (by first | exact Or.inl rfl | exact Or.inr rfl) (@pe_dnewK _ _) (by rfl) (by first | exact .inl rfl | exact .inr rfl | assumption)) (@pss_cons _ _ _ _ _ (@ps_for _ _ _ _ _ _ _ _ PassesOwn.never rfl (@pi_list _ _ _ _ (@pvD _ 1 _ _ (by rfl) (by first | exact Or.inl rfl | exact Or.inr (Or.inl rfl) | exact Or.inr (Or.inr rfl)) (by decide) (by decide))) (@pg_name _ _ 3 _ nd rfl (by first | exact Or.inl rfl | exact Or.inr rfl) (by first | exact .inl rfl | exact .inr rfl | assumption)) (@pss_cons _ _ _ _ _ (@ps_set _ _ 4 _ _ _ _ nd rfl (by first | exact Or.inl rfl | exact Or.inr rfl) (@pe_has _ _ _ _ _ _ _ _ _ _ h_law_next hr (@pa_cons _ _ _ _ _ (@pvD _ 0 _ _ (by rfl) (by first | exact Or.inl rfl | exact Or.inr (Or.inl rfl) | exact Or.inr (Or.inr rfl)) (by decide) (by decide)) (@pa_nil _) (by rfl)) (by rfl) (by decide +kernel) (by rfl) (by rfl)) (by rfl) (by first | exact .inl rfl | exact .inr rfl | assumption)) (@pss_one _ _ _ (@ps_dput _ _ _ _ _ _ _ _ _ hu (@pvD _ 2 _ _ (by rfl) (by first | exact Or.inl rfl | exact Or.inr (Or.inl rfl) | exact Or.inr (Or.inr rfl)) (by decide) (by decide)) (@pvD _ 3 _ _ (by rfl) (by first | exact Or.inl rfl | exact Or.inr (Or.inl rfl) | exact Or.inr (Or.inr rfl)) (by decide) (by decide)) (@pe_ix _ _ _ _ _ _ _ (@ix_list _) (@pe_lst _ _ _ _ (@pa_cons _ _ _ _ _ (@pe_op _ _ _ _ _ _ _ _ (@op_sub _) (@pe_op _ _ _ _ _ _ _ _ (@op_mod _) (@pe_op _ _ _ _ _ _ _ _ (@op_fdiv _) (@pvD _ 4 _ _ (by rfl) (by first | exact Or.inl rfl | exact Or.inr (Or.inl rfl) | exact Or.inr (Or.inr rfl)) (by decide) (by decide)) (@pe_int _ _ _ _)) (@pe_int _ _ _ _)) (@pe_int _ _ _ _)) (@pa_cons _ _ _ _ _ (@pe_op _ _ _ _ _ _ _ _ (@op_mod _) (@pe_op _ _ _ _ _ _ _ _ (@op_fdiv _) (@pvD _ 4 _ _ (by rfl) (by first | exact Or.inl rfl | exact Or.inr (Or.inl rfl) | exact Or.inr (Or.inr rfl)) (by decide) (by decide)) (@pe_int _ _ _ _)) (@pe_op _ _ _ _ _ _ _ _ (@op_pow _) (@pe_int _ _ _ _) (@pe_int _ _ _ _))) (@pa_cons _ _ _ _ _ (@pe_un _ _ _ _ _ _ (@un_neg _) (@pe_op _ _ _ _ _ _ _ _ (@op_mod _) (@pe_op _ _ _ _ _ _ _ _ (@op_fdiv _) (@pvD _ 4 _ _ (by rfl) (by first | exact Or.inl rfl | exact Or.inr (Or.inl rfl) | exact Or.inr (Or.inr rfl)) (by decide) (by decide)) (@pe_int _ _ _ _)) (@pe_op _ _ _ _ _ _ _ _ (@op_pow _) (@pe_int _ _ _ _) (@pe_int _ _ _ _)))) (@pa_nil _) (by rfl)) (by rfl)) (by rfl))) (@pe_op _ _ _ _ _ _ _ _ (@op_mod _) (@pvD _ 4 _ _ (by rfl) (by first | exact Or.inl rfl | exact Or.inr (Or.inl rfl) | exact Or.inr (Or.inr rfl)) (by decide) (by decide)) (@pe_int _ _ _ _)) (fun _ _ => rfl)) rfl))) (by intro _; rfl)) (@pss_one _ _ _ (@ps_ret _ _ _ _ (@pvD _ 2 _ _ (by rfl) (by first | exact Or.inl rfl | exact Or.inr (Or.inl rfl) | exact Or.inr (Or.inr rfl)) (by decide) (by decide)))))), ?_⟩
  rw [show start ["deck", "names", "values", "name", "cell"] [.ref d, .ref nl] = [some (.ref d), some (.ref nl), none, none, none] from rfl]
  clear hu hu0 nd hr
  push_cast [spNext]
  have sz := sizeLine_eq
  have e30 : (10 : Int) ^ Int.toNat 30 = 1000000000000000000000000000000 := by decide +kernel
  have e100 : (2 : Nat) ^ 100 = 1267650600228229401496703205376 := by decide +kernel
  intro vd hvd
  have nnd : nl ≠ d := ne_of hN hD.1 (by intro e; match zs, h4, e with | [_, _, _, _], _, e => cases e)
  have nvd : vd ≠ d := (ne_of_none hD.1 hvd).symm
  refine ⟨⟨_, SqL.of (same_new hvd _ _ _ hN)⟩, forW_list (xs := zs.map V.str) (fun i σ H1 => ∃ (kvs : List (Key × V)) (v3 v4 : Option V), σ = [some (.ref d), some (.ref nl), some (.ref vd), v3, v4] ∧ SameB d H H1 ∧ H1 d = some (.lst [.ref b, .int ((n + i : Nat) : Int)]) ∧ H1 vd = some (.dK kvs) ∧ VOk zs i kvs ∧ kvs.length ≤ i) ⟨[], none, none, rfl, (SameB.refl _ _).upd hvd _, same_new hvd _ _ _ hD.1, upd_same, ⟨fun _ h => (nomatch h), fun _ h => (nomatch h)⟩, Nat.le_refl _⟩ (fun i σ H1 _ h => ?_) ?_ ?_⟩
  · obtain ⟨_, _, _, _, s8, _⟩ := h
    exact SqL.of (s8 _ _ nnd hN)
  · rintro i x σ H1 hxx ⟨kvs, v3, v4, rfl, s8, d8, hv8, hok, hkl⟩
    rw [List.getElem?_map] at hxx
    obtain ⟨z, hz, rfl⟩ := Option.map_eq_some_iff.mp hxx
    have hi : i < 4 := by
      have := (List.getElem?_eq_some_iff.mp hz).1
      omega
    push_cast [spNext]
    refine ⟨b, ns, n + i, hD.next s8 d8, by omega, fun c H2 s9 d9 => ?_⟩
    rw [e30]
    refine ⟨⟨by decide, by decide, by decide⟩, by decide, ⟨by decide, by decide, by decide⟩, by decide, by show (3 : Nat) ≤ sizeLine; decide, fun p hp => ?_⟩
    obtain ⟨v, hv, hm⟩ := atI_in [V.int (c / 3 % 5 - 2), V.int (c / 3 % 1000000000000000000000000000000), V.int (-(c / 3 % 1000000000000000000000000000000))] (c % 3) (Int.emod_nonneg _ (by decide)) (by show c % 3 < 3; omega)
    refine rIxL_ok upd_same hv ?_
    have go : ∀ m : Int, m.natAbs < 2 ^ 100 → ∃ x, DPut (upd H2 p (.lst [V.int (c / 3 % 5 - 2), V.int (c / 3 % 1000000000000000000000000000000), V.int (-(c / 3 % 1000000000000000000000000000000))])) vd (V.str z) (.int m) x ∧ SameB d H x ∧ x d = some (HO.lst [V.ref b, V.int ((n + (i + 1) : Nat) : Int)]) ∧ ∃ x_1, x vd = some (HO.dK x_1) ∧ VOk zs (i + 1) x_1 ∧ x_1.length ≤ i + 1 := fun m hm => by
      have hv9 := same_new hp (.lst [V.int (c / 3 % 5 - 2), V.int (c / 3 % 1000000000000000000000000000000), V.int (-(c / 3 % 1000000000000000000000000000000))]) _ _ (s9 _ _ nvd hv8)
      refine ⟨_, DPut.k (k := Sum.inr z) hv9 (by omega), ((s8.trans s9).trans (SameB.of (same_new hp _))).upd hvd _, by rw [upd_ne nvd.symm]; exact same_new hp _ _ _ d9, _, upd_same, hok.put hz hm, ?_⟩
      have := length_putK kvs (Sum.inr z) (V.int m)
      omega
    rw [e100] at go
    simp only [List.mem_cons, List.not_mem_nil, or_false] at hm
    rcases hm with rfl | rfl | rfl
    · exact go _ (by omega)
    · exact go _ (by omega)
    · exact go _ (by omega)
  · rintro σ H1 ⟨kvs, v3, v4, rfl, s8, d8, hv8, hok, hkl⟩
    rw [List.length_map, h4] at hok hkl d8
    push_cast [and_true]
    obtain ⟨ρ, hV, hs⟩ := hok.valsN (by omega) hv8
    exact q vd ρ H1 s8 d8 hV hs
abbrev sFull : Stmt := top 34
theorem scFull : FnScope ["found", "names", "values", "name"] ["found", "names"] (defScope sFull) := ⟨rfl, rfl, rfl, by decide +kernel, rfl, by decide +kernel, by decide +kernel⟩
theorem hasFull (G : Gs w K mg) (D : Def K mg "_law_full" sFull ["found", "names"]) : Has P w K mg base (k + 1) "_law_full" ["found", "names"] spFull := by
  refine D.has scFull (fun vs H Q E h => ?_) (fun f cdv A outer s H vs Q E hr h => ?_)
  · obtain ⟨_, _, _, _, _, rfl, _, _, _, _, _, _, _, _⟩ := h
    rfl
  have nd := scFull.nd
  have hu := hu_of hr
  have hu0 := Nat.lt_of_succ_lt hu
  obtain ⟨fd, nl, ms, us, zs, rfl, hf, hl, hnd, hl20, h16, hN, h4, q⟩ := h
  have m_dict := G.m_dict
  have m_zip := G.m_zip
  refine ⟨_, (@pss_cons _ _ _ _ _ (@ps_set _ _ 2 _ _ _ _ nd rfl (by first | exact Or.inl rfl | exact Or.inr rfl) (@pe_dictzip _ _ _ _ _ _ _ _ rfl rfl m_dict rfl m_zip (@pa_cons _ _ _ _ _ (@pvD _ 1 _ _ (by rfl) (by first | exact Or.inl rfl | exact Or.inr (Or.inl rfl) | exact Or.inr (Or.inr rfl)) (by decide) (by decide)) (@pa_cons _ _ _ _ _ (@pe_lst _ _ _ _ (@pa_const _ _ _ (@CsOk.int _ _ _ _ _ (@CsOk.int _ _ _ _ _ (@CsOk.int _ _ _ _ _ (@CsOk.int _ _ _ _ _ (@CsOk.nil))))))) (@pa_nil _) (by rfl)) (by rfl)) (by rfl) (by rfl) (by rfl)) (by rfl) (by first | exact .inl rfl | exact .inr rfl | assumption)) (@pss_cons _ _ _ _ _ (@ps_thawK _ _ _ (@ps_for _ _ _ _ _ _ _ _ PassesOwn.never rfl (@pi_dict _ _ _ _ (@pvD _ 0 _ _ (by rfl) (by first | exact Or.inl rfl | exact Or.inr (Or.inl rfl) | exact Or.inr (Or.inr rfl)) (by decide) (by decide))) (@pg_name _ _ 3 _ nd rfl (by first | exact Or.inl rfl | exact Or.inr rfl) (by first | exact .inl rfl | exact .inr rfl | assumption)) (@pss_one _ _ _ (@ps_dput _ _ _ _ _ _ _ _ _ hu (@pvD _ 2 _ _ (by rfl) (by first | exact Or.inl rfl | exact Or.inr (Or.inl rfl) | exact Or.inr (Or.inr rfl)) (by decide) (by decide)) (@pvD _ 3 _ _ (by rfl) (by first | exact Or.inl rfl | exact Or.inr (Or.inl rfl) | exact Or.inr (Or.inr rfl)) (by decide) (by decide)) (@pe_dget _ _ _ _ _ _ hu (@pvD _ 0 _ _ (by rfl) (by first | exact Or.inl rfl | exact Or.inr (Or.inl rfl) | exact Or.inr (Or.inr rfl)) (by decide) (by decide)) (@pvD _ 3 _ _ (by rfl) (by first | exact Or.inl rfl | exact Or.inr (Or.inl rfl) | exact Or.inr (Or.inr rfl)) (by decide) (by decide)) (fun _ _ => rfl)) rfl)) (by intro _; rfl))) (@pss_one _ _ _ (@ps_ret _ _ _ _ (@pvD _ 2 _ _ (by rfl) (by first | exact Or.inl rfl | exact Or.inr (Or.inl rfl) | exact Or.inr (Or.inr rfl)) (by decide) (by decide)))))), ?_⟩
  rw [show start ["found", "names", "values", "name"] [.ref fd, .ref nl] = [some (.ref fd), some (.ref nl), none, none] from rfl]
  clear hu hu0 nd hr
  push_cast [and_true]
  have sz := sizeLine_eq
  push_cast [tDZ, tThawK, iDict]
  refine ⟨by show (4 : Nat) ≤ sizeLine; decide, fun p hp => ⟨zs.map Sum.inr, by rw [kV_strs]; exact SqL.of (same_new hp _ _ _ hN), _, SqL.of upd_same, by rw [List.length_map, h4]; rfl, by rw [List.length_map]; omega, fun d hd => ?_⟩⟩
  have S2 := (same_new hp (.lst [V.int 7, V.int 11, V.int 13, V.int 17])).trans (same_new hd (.dK (mergeV ((zs.map Sum.inr).zip [V.int 7, V.int 11, V.int 13, V.int 17]) [])))
  have hf2 := S2 _ _ hf
  have ndf : d ≠ fd := (ne_of_none (same_new hp _ _ _ hf) hd).symm
  have ok0 : VOk zs 4 (mergeV ((zs.map Sum.inr).zip [V.int 7, V.int 11, V.int 13, V.int 17]) []) ∧ (mergeV ((zs.map Sum.inr).zip [V.int 7, V.int 11, V.int 13, V.int 17]) []).length ≤ 4 := by
    have ll := mergeV_len ((zs.map Sum.inr).zip [V.int 7, V.int 11, V.int 13, V.int 17]) []
    rw [List.length_zip, List.length_map, h4] at ll
    refine ⟨?_, ll⟩
    match zs, h4 with
    | [a, b, c, e], _ => exact ((((show VOk [a, b, c, e] 0 [] from ⟨fun _ h => (nomatch h), fun _ h => (nomatch h)⟩).put (z := a) rfl (m := 7) (by decide)).put (z := b) rfl (m := 11) (by decide)).put (z := c) rfl (m := 13) (by decide)).put (z := e) rfl (m := 17) (by decide)
  have ndF : (((ms.zip us).map fun p => ((Sum.inr p.1 : Key), V.int (p.2 : Int))).map (·.1)).Nodup := by
    rw [List.map_map]
    have : (ms.zip us).map ((fun q : Key × V => q.1) ∘ fun p => ((Sum.inr p.1 : Key), V.int (p.2 : Int))) = ((ms.zip us).map Prod.fst).map Sum.inr := by rw [List.map_map]; rfl
    rw [this, List.map_fst_zip (by omega)]
    exact List.pairwise_map.mpr (hnd.imp fun h e => h (Sum.inr.inj e))
  have lF : ((ms.zip us).map fun p => ((Sum.inr p.1 : Key), V.int (p.2 : Int))).length = ms.length := by rw [List.length_map, List.length_zip]; omega
  refine ⟨fd, _, hf2, _, hf2, fun o => ?_⟩
  refine forW_dict (fun i σ H' => ∃ (v3 : Option V) (kvs : List (Key × V)), σ = [some (.ref fd), some (.ref nl), some (.ref d), v3] ∧ (∀ b u, b ≠ fd → H b = some u → H' b = some u) ∧ H' fd = some (.frz o (.dK ((ms.zip us).map fun p => (Sum.inr p.1, V.int (p.2 : Int))))) ∧ H' d = some (.dK kvs) ∧ VOk zs 4 kvs ∧ (∀ pr ∈ (ms.zip us).take i, valV kvs (Sum.inr pr.1) = some (.int (pr.2 : Int))) ∧ kvs.length ≤ 4 + i) ⟨none, _, rfl, fun b u hb e => by rw [upd_ne hb]; exact S2 _ _ e, upd_same, by rw [upd_ne ndf]; exact upd_same, ok0.1, (fun pr h => by rw [List.take_zero] at h; cases h), ok0.2⟩ (fun i σ H' _ h => ?_) ?_ ?_
  · obtain ⟨_, _, _, _, h, _⟩ := h
    exact h
  · rintro i k' v σ H' hkv ⟨v3, kvs, rfl, s1, hf3, hd3, hok, hag, hkl⟩
    rw [List.getElem?_map] at hkv
    obtain ⟨pr, hpr, e⟩ := Option.map_eq_some_iff.mp hkv
    cases e
    have hi : i < (ms.zip us).length := (List.getElem?_eq_some_iff.mp hpr).1
    have hi2 : i < 20 := by rw [List.length_zip] at hi; omega
    have hum : pr.2 ≤ 16 := h16 _ (List.of_mem_zip (List.mem_of_getElem? hpr)).2
    push_cast [and_true]
    have g0 : DGet H' fd (kV (Sum.inr pr.1)) (some (.int (pr.2 : Int))) := .inl ⟨_, Sum.inr pr.1, .inr ⟨o, hf3⟩, rfl, (valV_at ndF (List.mem_map.mpr ⟨pr, List.mem_of_getElem? hpr, rfl⟩)).symm⟩
    have ltk : (ms.zip us).take (i + 1) = (ms.zip us).take i ++ [pr] := by rw [List.take_add_one, hpr]; rfl
    have hb : ((pr.2 : Int)).natAbs < 2 ^ 100 := Nat.lt_of_le_of_lt hum (by decide +kernel)
    refine ⟨_, g0, _, DPut.k (k := Sum.inr pr.1) hd3 (by omega), fun b u hb e => ?_, by rw [upd_ne ndf.symm]; exact hf3, _, upd_same, ⟨fun q' hq => ?_, fun y hy => ?_⟩, fun q' hq => ?_, ?_⟩
    · rw [upd_ne (ne_of_none e ((same_new hp _).free hd))]
      exact s1 b u hb e
    · rcases mem_put hq with k1 | k1
      · exact hok.1 q' k1
      · rw [k1]; exact ⟨_, rfl, hb⟩
    · rw [valV_put]
      split
      · exact ⟨_, rfl⟩
      · exact hok.2 y hy
    · rw [valV_put]
      split
      · rename_i e
        rw [ltk] at hq
        rcases List.mem_append.mp hq with k1 | k1
        · have n1 : ms.Nodup := hnd
          have e2 : q'.1 = pr.1 := Sum.inr.inj e
          have := hag q' k1
          have u1 : valV ((ms.zip us).map fun p => ((Sum.inr p.1 : Key), V.int (p.2 : Int))) (Sum.inr q'.1) = some (.int (q'.2 : Int)) := valV_at ndF (List.mem_map.mpr ⟨q', List.mem_of_mem_take k1, rfl⟩)
          have u2 : valV ((ms.zip us).map fun p => ((Sum.inr p.1 : Key), V.int (p.2 : Int))) (Sum.inr pr.1) = some (.int (pr.2 : Int)) := valV_at ndF (List.mem_map.mpr ⟨pr, List.mem_of_getElem? hpr, rfl⟩)
          rw [e2, u2] at u1
          exact u1
        · rw [List.mem_singleton.mp k1]
      · rename_i e
        rw [ltk] at hq
        rcases List.mem_append.mp hq with k1 | k1
        · exact hag q' k1
        · exact absurd (by rw [List.mem_singleton.mp k1]) e
    · have := length_putK kvs (Sum.inr pr.1) (V.int (pr.2 : Int))
      omega
  · rintro σ H' ⟨v3, kvs, rfl, s1, hf3, hd3, hok, hag, hkl⟩
    have hd4 : upd H' fd (.dK ((ms.zip us).map fun p => (Sum.inr p.1, V.int (p.2 : Int)))) d = some (.dK kvs) := by rw [upd_ne ndf]; exact hd3
    obtain ⟨ρ, hV, hs⟩ := hok.valsN (by omega) hd4
    refine ⟨o, hf3, ?_⟩
    push_cast [and_true]
    refine q d ρ _ (fun b u e => ?_) hV hs fun pr hpr => ?_
    · by_cases eb : b = fd
      · subst eb
        rw [hf] at e
        rw [upd_same]
        exact e
      · rw [upd_ne eb]
        exact s1 b u eb e
    · obtain ⟨kv2, h1, h2⟩ := hV
      rw [hd4] at h1
      cases h1
      have h3 := h2 pr.1
      rw [hag pr (by rw [lF]; rw [List.take_of_length_le (by rw [List.length_zip]; omega)]; exact hpr)] at h3
      cases e : ρ pr.1 with
      | none => rw [e] at h3; cases h3
      | some m => rw [e] at h3; cases h3; rfl
abbrev sTold : Stmt := top 33
theorem scTold : FnScope ["deck", "names", "one", "other", "alike", "first", "second", "found", "k", "values"] ["deck", "names", "one", "other", "alike"] (defScope sTold) := ⟨rfl, rfl, rfl, by decide +kernel, rfl, by decide +kernel, by decide +kernel⟩
theorem hasTold (G : Gs w K mg) (h_law_full : Has P w K mg base k "_law_full" ["found", "names"] spFull) (h_law_values : Has P w K mg base k "_law_values" ["deck", "names"] spValues) (h_form_of : Has P w K mg base k "form_of" ["words"] (spFormOf K)) (h_parting : Has P w K mg base k "parting" ["one", "other"] spPart) (h_worth : Has P w K mg base k "worth" ["words", "values"] (spWorth K)) (D : Def K mg "_law_told" sTold ["deck", "names", "one", "other", "alike"]) : Has P w K mg base (k + 1) "_law_told" ["deck", "names", "one", "other", "alike"] spTold := by
  refine D.has scTold (fun vs H Q E h => ?_) (fun f cdv A outer s H vs Q E hr h => ?_)
  · obtain ⟨_, _, _, _, _, _, _, _, _, _, _, rfl, _, _, _, _, _, _, _, _, _, _, _, _⟩ := h
    rfl
  have nd := scTold.nd
  have hu := hu_of hr
  have hu0 := Nat.lt_of_succ_lt hu
  have hu8 := hu8_of hr
  obtain ⟨d, nl, t, u, b, ns, zs, n, xs, ys, al, rfl, hD, hN, h4, hz0, hn, ht, hu', hx, hy, hxy, hal, q⟩ := h
  have m_range := G.m_range
  refine ⟨_, (@pss_cons _ _ _ _ _ (@ps_set _ _ 5 _ _ _ _ nd rfl (by first | exact Or.inl rfl | exact Or.inr rfl) (@pe_has _ _ _ _ _ _ _ _ _ _ h_form_of hr (@pa_cons _ _ _ _ _ (@pvD _ 2 _ _ (by rfl) (by first | exact Or.inl rfl | exact Or.inr (Or.inl rfl) | exact Or.inr (Or.inr rfl)) (by decide) (by decide)) (@pa_nil _) (by rfl)) (by rfl) (by decide +kernel) (by rfl) (by rfl)) (by rfl) (by first | exact .inl rfl | exact .inr rfl | assumption)) (@pss_cons _ _ _ _ _ (@ps_set _ _ 6 _ _ _ _ nd rfl (by first | exact Or.inl rfl | exact Or.inr rfl) (@pe_has _ _ _ _ _ _ _ _ _ _ h_form_of hr (@pa_cons _ _ _ _ _ (@pvD _ 3 _ _ (by rfl) (by first | exact Or.inl rfl | exact Or.inr (Or.inl rfl) | exact Or.inr (Or.inr rfl)) (by decide) (by decide)) (@pa_nil _) (by rfl)) (by rfl) (by decide +kernel) (by rfl) (by rfl)) (by rfl) (by first | exact .inl rfl | exact .inr rfl | assumption)) (@pss_cons _ _ _ _ _ (@ps_set _ _ 7 _ _ _ _ nd rfl (by first | exact Or.inl rfl | exact Or.inr rfl) (@pe_has _ _ _ _ _ _ _ _ _ _ h_parting hr (@pa_cons _ _ _ _ _ (@pvD _ 5 _ _ (by rfl) (by first | exact Or.inl rfl | exact Or.inr (Or.inl rfl) | exact Or.inr (Or.inr rfl)) (by decide) (by decide)) (@pa_cons _ _ _ _ _ (@pvD _ 6 _ _ (by rfl) (by first | exact Or.inl rfl | exact Or.inr (Or.inl rfl) | exact Or.inr (Or.inr rfl)) (by decide) (by decide)) (@pa_nil _) (by rfl)) (by rfl)) (by rfl) (by decide +kernel) (by rfl) (by rfl)) (by rfl) (by first | exact .inl rfl | exact .inr rfl | assumption)) (@pss_cons _ _ _ _ _ (@ps_if _ _ _ _ _ _ _ _ (@PW.pt _ _ _ (@pw_or _ _ _ _ _ _ _ (@pt_cmpR _ _ _ _ _ _ _ _ (@op_ne _) (@pe_cmp _ _ _ _ _ _ (@pc_isN _ _ _ _ _ (@pvD _ 7 _ _ (by rfl) (by first | exact Or.inl rfl | exact Or.inr (Or.inl rfl) | exact Or.inr (Or.inr rfl)) (by decide) (by decide))) (by first | exact nobehind _ (by decide) (by decide) | rfl)) (@pe_cmpR _ _ _ _ _ _ _ _ (@op_eqG _ hu8) (@pvD _ 5 _ _ (by rfl) (by first | exact Or.inl rfl | exact Or.inr (Or.inl rfl) | exact Or.inr (Or.inr rfl)) (by decide) (by decide)) (@pvD _ 6 _ _ (by rfl) (by first | exact Or.inl rfl | exact Or.inr (Or.inl rfl) | exact Or.inr (Or.inr rfl)) (by decide) (by decide)) (@nomark _ _ (by decide) (by decide))) (@nomark _ _ (by decide) (by decide))) (@pw_or1 _ _ _ _ (@PW.pt _ _ _ (@pw_and _ _ _ _ _ _ _ (@pt_val _ _ _ (@pvD _ 4 _ _ (by rfl) (by first | exact Or.inl rfl | exact Or.inr (Or.inl rfl) | exact Or.inr (Or.inr rfl)) (by decide) (by decide)) (by intro _; rfl)) (@pw_and1 _ _ _ _ (@pt_cmp _ _ _ _ _ _ (@pc_notN _ _ _ _ _ (@pvD _ 7 _ _ (by rfl) (by first | exact Or.inl rfl | exact Or.inr (Or.inl rfl) | exact Or.inr (Or.inr rfl)) (by decide) (by decide))) (by first | exact nobehind _ (by decide) (by decide) | rfl)))))))) (@pss_one _ _ _ (@ps_ret _ _ _ _ (@pe_bl _ _ _ _))) (@pss_nil _)) (@pss_cons _ _ _ _ _ (@ps_if _ _ _ _ _ _ _ _ (@pt_cmp _ _ _ _ _ _ (@pc_notN _ _ _ _ _ (@pvD _ 7 _ _ (by rfl) (by first | exact Or.inl rfl | exact Or.inr (Or.inl rfl) | exact Or.inr (Or.inr rfl)) (by decide) (by decide))) (by first | exact nobehind _ (by decide) (by decide) | rfl)) (@pss_one _ _ _ (@ps_ret _ _ _ _ (@pe_cmpR _ _ _ _ _ _ _ _ (@op_ne _) (@pe_has _ _ _ _ _ _ _ _ _ _ h_worth hr (@pa_cons _ _ _ _ _ (@pvD _ 2 _ _ (by rfl) (by first | exact Or.inl rfl | exact Or.inr (Or.inl rfl) | exact Or.inr (Or.inr rfl)) (by decide) (by decide)) (@pa_cons _ _ _ _ _ (@pe_has _ _ _ _ _ _ _ _ _ _ h_law_full hr (@pa_cons _ _ _ _ _ (@pvD _ 7 _ _ (by rfl) (by first | exact Or.inl rfl | exact Or.inr (Or.inl rfl) | exact Or.inr (Or.inr rfl)) (by decide) (by decide)) (@pa_cons _ _ _ _ _ (@pvD _ 1 _ _ (by rfl) (by first | exact Or.inl rfl | exact Or.inr (Or.inl rfl) | exact Or.inr (Or.inr rfl)) (by decide) (by decide)) (@pa_nil _) (by rfl)) (by rfl)) (by rfl) (by decide +kernel) (by rfl) (by rfl)) (@pa_nil _) (by rfl)) (by rfl)) (by rfl) (by decide +kernel) (by rfl) (by rfl)) (@pe_has _ _ _ _ _ _ _ _ _ _ h_worth hr (@pa_cons _ _ _ _ _ (@pvD _ 3 _ _ (by rfl) (by first | exact Or.inl rfl | exact Or.inr (Or.inl rfl) | exact Or.inr (Or.inr rfl)) (by decide) (by decide)) (@pa_cons _ _ _ _ _ (@pe_has _ _ _ _ _ _ _ _ _ _ h_law_full hr (@pa_cons _ _ _ _ _ (@pvD _ 7 _ _ (by rfl) (by first | exact Or.inl rfl | exact Or.inr (Or.inl rfl) | exact Or.inr (Or.inr rfl)) (by decide) (by decide)) (@pa_cons _ _ _ _ _ (@pvD _ 1 _ _ (by rfl) (by first | exact Or.inl rfl | exact Or.inr (Or.inl rfl) | exact Or.inr (Or.inr rfl)) (by decide) (by decide)) (@pa_nil _) (by rfl)) (by rfl)) (by rfl) (by decide +kernel) (by rfl) (by rfl)) (@pa_nil _) (by rfl)) (by rfl)) (by rfl) (by decide +kernel) (by rfl) (by rfl)) (@nomark _ _ (by decide) (by decide))))) (@pss_nil _)) (@pss_cons _ _ _ _ _ (@ps_for _ _ _ _ _ _ _ _ PassesOwn.never rfl (@pi_range1 _ _ _ _ _ _ rfl m_range (@pa_cons _ _ _ _ _ (@pe_int _ _ _ _) (@pa_nil _) (by rfl)) (by rfl)) (@pg_name _ _ 8 _ nd rfl (by first | exact Or.inl rfl | exact Or.inr rfl) (by first | exact .inl rfl | exact .inr rfl | assumption)) (@pss_cons _ _ _ _ _ (@ps_set _ _ 9 _ _ _ _ nd rfl (by first | exact Or.inl rfl | exact Or.inr rfl) (@pe_has _ _ _ _ _ _ _ _ _ _ h_law_values hr (@pa_cons _ _ _ _ _ (@pvD _ 0 _ _ (by rfl) (by first | exact Or.inl rfl | exact Or.inr (Or.inl rfl) | exact Or.inr (Or.inr rfl)) (by decide) (by decide)) (@pa_cons _ _ _ _ _ (@pvD _ 1 _ _ (by rfl) (by first | exact Or.inl rfl | exact Or.inr (Or.inl rfl) | exact Or.inr (Or.inr rfl)) (by decide) (by decide)) (@pa_nil _) (by rfl)) (by rfl)) (by rfl) (by decide +kernel) (by rfl) (by rfl)) (by rfl) (by first | exact .inl rfl | exact .inr rfl | assumption)) (@pss_one _ _ _ (@ps_if _ _ _ _ _ _ _ _ (@pt_cmpR _ _ _ _ _ _ _ _ (@op_ne _) (@pe_has _ _ _ _ _ _ _ _ _ _ h_worth hr (@pa_cons _ _ _ _ _ (@pvD _ 2 _ _ (by rfl) (by first | exact Or.inl rfl | exact Or.inr (Or.inl rfl) | exact Or.inr (Or.inr rfl)) (by decide) (by decide)) (@pa_cons _ _ _ _ _ (@pvD _ 9 _ _ (by rfl) (by first | exact Or.inl rfl | exact Or.inr (Or.inl rfl) | exact Or.inr (Or.inr rfl)) (by decide) (by decide)) (@pa_nil _) (by rfl)) (by rfl)) (by rfl) (by decide +kernel) (by rfl) (by rfl)) (@pe_has _ _ _ _ _ _ _ _ _ _ h_worth hr (@pa_cons _ _ _ _ _ (@pvD _ 3 _ _ (by rfl) (by first | exact Or.inl rfl | exact Or.inr (Or.inl rfl) | exact Or.inr (Or.inr rfl)) (by decide) (by decide)) (@pa_cons _ _ _ _ _ (@pvD _ 9 _ _ (by rfl) (by first | exact Or.inl rfl | exact Or.inr (Or.inl rfl) | exact Or.inr (Or.inr rfl)) (by decide) (by decide)) (@pa_nil _) (by rfl)) (by rfl)) (by rfl) (by decide +kernel) (by rfl) (by rfl)) (@nomark _ _ (by decide) (by decide))) (@pss_one _ _ _ (@ps_ret _ _ _ _ (@pe_bl _ _ _ _))) (@pss_nil _)))) (by intro _; rfl)) (@pss_one _ _ _ (@ps_ret _ _ _ _ (@pe_bl _ _ _ _))))))))), ?_⟩
  rw [show start ["deck", "names", "one", "other", "alike", "first", "second", "found", "k", "values"] [.ref d, .ref nl, .ref t, .ref u, .bl al] = [some (.ref d), some (.ref nl), some (.ref t), some (.ref u), some (.bl al), none, none, none, none, none] from rfl]
  clear hu hu0 nd hr
  push_cast [and_true]
  have sz := sizeLine_eq
  have rx := hx.rows (by decide)
  have ry := hy.rows (by decide)
  have fl : (formW xs).length + (formW ys).length < 64 := by
    have p5 : 2 ^ ((12 - 1) / 2) = 32 := by decide
    have p2 : 2 ^ ((6 - 1) / 2) = 4 := by decide
    rcases hxy with h | h
    · have := h.rows (by decide)
      omega
    · have := h.rows (by decide)
      omega
  have nnd : nl ≠ d := ne_of hN hD.1 (by intro e; match zs, h4, e with | [_, _, _, _], _, e => cases e)
  have ntd : t ≠ d := ne_of ht hD.1 (by intro e; cases e)
  have nud : u ≠ d := ne_of hu' hD.1 (by intro e; cases e)
  refine mkFormOf (SqT.of ht) hx.word hx.one hx.len fun b1 H1 s1 h1 => mkFormOf (SqT.of (s1 _ _ hu')) hy.word hy.one hy.len fun b2 H2 s2 h2 => mkPart (zs := zs) (h1.keep (TK.of s2)) h2 hx.fsm hy.fsm fl (by omega) ?_ ?_
  · intro eq H3 s3
    push_cast [tIsN, tNotN, rEqG]
    have e1 : decide (formW xs = formW ys) = true := decide_eq_true eq
    have S3 := s1.trans (s2.trans s3)
    refine ⟨formW xs, h1.keep (TK.of (s2.trans s3)), formW ys, h2.keep (TK.of s3), rfl, ?_⟩
    rw [e1, if_neg (by decide)]
    have go : ∀ {A B C : Prop}, C → (if al = true then (if (!decide True) = true then A else if (!decide True) = true then B else C) else if (!decide True) = true then B else C) := fun {A B C} c => by
      rw [if_neg (show ¬ (!decide True) = true by decide), if_neg (show ¬ (!decide True) = true by decide)]
      split <;> exact c
    refine go ?_
    refine forW_range (lo := 0) (fun k σ H' => ∃ (v8 v9 : Option V), σ = [some (.ref d), some (.ref nl), some (.ref t), some (.ref u), some (.bl al), some (.ref b1), some (.ref b2), some .non, v8, v9] ∧ SameB d H H' ∧ H' d = some (.lst [.ref b, .int ((n + 4 * k : Nat) : Int)])) ⟨none, none, rfl, SameB.of S3, S3 _ _ hD.1⟩ ?_ ?_
    · rintro k σ H' hk ⟨v8, v9, rfl, s4, d4⟩
      have hk3 : k < 3 := hk
      push_cast [spValues, spWorth]
      refine ⟨b, ns, zs, n + 4 * k, hD.next s4 d4, s4 _ _ nnd hN, h4, by omega, fun a ρ H4 s5 d5 hV hs => ?_⟩
      have B4 := s4.trans s5
      have lx := hx.len
      have ly := hy.len
      refine ⟨xs, SqT.of (B4 _ _ ntd ht), ρ, hV, hx.vals hs, hx.one, by omega, fun H5 s6 => ⟨ys, SqT.of (s6 _ _ (B4 _ _ nud hu')), ρ, hV.same s6, hy.vals hs, hy.one, by omega, fun H6 s7 => ⟨rfl, ?_⟩⟩⟩
      have ew : worthN ρ xs = worthN ρ ys := by rw [← hx.ev, ← hy.ev, eq]
      rw [decide_eq_true ew, if_neg (by decide)]
      exact ⟨B4.trans (SameB.of (s6.trans s7)), by rw [show n + 4 * (k + 1) = n + 4 * k + 4 by omega]; exact (s6.trans s7) _ _ d5⟩
    · rintro σ H' ⟨v8, v9, rfl, s4, d4⟩
      push_cast [and_true]
      exact q _ H' s4 d4 (by show n + 4 * 3 ≤ n + 12; omega)
  · intro ne fd ms us H3 s3 hfn hf3 hml hsrt hnd hmem hub hρ
    push_cast [tIsN, tNotN, rEqG]
    have e1 : decide (formW xs = formW ys) = false := decide_eq_false ne
    have S3 := s1.trans (s2.trans s3)
    refine ⟨formW xs, h1.keep (TK.of (s2.trans s3)), formW ys, h2.keep (TK.of s3), rfl, ?_⟩
    rw [e1, if_neg (by decide)]
    by_cases ha : al = true
    · exact absurd (form_same hx.fsm hy.fsm fl fun ρ => by rw [hx.ev, hy.ev]; exact hal ha ρ) ne
    rw [if_neg ha, if_pos (by decide)]
    have fx := hx.fsm
    have fy := hy.fsm
    have rS : ∀ p ∈ formW xs ++ formW ys, p.1.length ≤ 16 ∧ ∀ z ∈ p.1, z ∈ zs := fun p hp => by
      rcases List.mem_append.mp hp with k' | k'
      · exact ⟨(fx.row p k').1, (fx.row p k').2.2.2⟩
      · exact ⟨(fy.row p k').1, (fy.row p k').2.2.2⟩
    have hm16 : mostF (formW xs ++ formW ys) ≤ 16 := mostF_le _ 0 (Nat.zero_le _) fun p hp => (rS p hp).1
    have nlen : ms.length ≤ zs.length := nd_len hnd fun z hz' => by
      obtain ⟨p, hp, h⟩ := (hmem z).mp hz'
      exact (rS p hp).2 z h
    have hu16 : ∀ w ∈ us, w ≤ 16 := fun w hw => Nat.le_trans (hub w hw) hm16
    have zp : ∀ z ∈ ms, ∃ w, (z, w) ∈ ms.zip us := fun z hz' => by
      obtain ⟨i, hi, ei⟩ := List.mem_iff_getElem.mp hz'
      exact ⟨us[i]'(by omega), List.mem_of_getElem? (i := i) (by rw [List.getElem?_zip_eq_some]; exact ⟨by rw [List.getElem?_eq_getElem hi, ei], List.getElem?_eq_getElem _⟩)⟩
    have lx := hx.len
    have ly := hy.len
    refine mkFull (ms := ms) (us := us) hf3 hml hnd (by omega) hu16 (S3 _ _ hN) h4 fun a ρ H4 s4 hV hs hag => mkWorth (SqT.of ((S3.trans s4) _ _ ht)) hV (hx.vals hs) hx.one (by omega) fun H5 s5 => ?_
    refine mkFull (ms := ms) (us := us) ((s4.trans s5) _ _ hf3) hml hnd (by omega) hu16 ((S3.trans (s4.trans s5)) _ _ hN) h4 fun a2 ρ2 H6 s6 hV2 hs2 hag2 => mkWorth (SqT.of ((S3.trans ((s4.trans s5).trans s6)) _ _ hu')) hV2 (hy.vals hs2) hy.one (by omega) fun H7 s7 => ⟨rfl, ?_⟩
    have ew : worthN ρ xs ≠ worthN ρ2 ys := by
      rw [← hx.ev, ← hy.ev]
      have e2 : evF ρ2 (formW ys) = evF ρ (formW ys) := ev_agree fun p hp z hz' => by
        obtain ⟨w, hw⟩ := zp z ((hmem z).mpr ⟨p, List.mem_append_right _ hp, hz'⟩)
        rw [hag2 _ hw, hag _ hw]
      rw [e2]
      exact hρ ρ hag
    rw [decide_eq_false (show ¬ V.int (worthN ρ xs) = V.int (worthN ρ2 ys) from fun e => ew (V.int.inj e))]
    have S7 := S3.trans ((s4.trans s5).trans (s6.trans s7))
    exact q n H7 (SameB.of S7) (S7 _ _ hD.1) (by omega)
abbrev sLaw : Stmt := top 35
theorem scLaw : FnScope ["script", "deck", "names", "k", "one", "other"] ["script"] (defScope sLaw) := ⟨rfl, rfl, rfl, by decide +kernel, rfl, by decide +kernel, by decide +kernel⟩
theorem hasLaw {f : Addr} {fd : FuncData} (G : Gs w K mg) (h_law_changed : Has P w K mg base k "_law_changed" ["deck", "names", "words"] spChanged) (h_law_made : Has P w K mg base k "_law_made" ["deck", "names", "words"] spMade) (h_law_names : Has P w K mg base k "_law_names" ["cell"] spNames4) (h_law_next : Has P w K mg base k "_law_next" ["deck"] spNext) (h_law_term : Has P w K mg base k "_law_term" ["deck", "names", "most"] spTerm) (h_law_told : Has P w K mg base k "_law_told" ["deck", "names", "one", "other", "alike"] spTold) (F : Fun K "law" "law" sLaw f fd) : FnOk P w K mg base CX0 (k + 1) f fd ["script"] (spLaw K) := by
  refine F.ok scLaw (fun vs H Q E h => ?_) (fun cdv A outer s H vs Q E hr h => ?_)
  · obtain ⟨_, _, rfl, _, _, _⟩ := h
    rfl
  have nd := scLaw.nd
  have hu := hu_of hr
  have hu0 := Nat.lt_of_succ_lt hu
  obtain ⟨a, ns, rfl, hL, hl0, q⟩ := h
  have m_list := G.m_list
  have m_range := G.m_range
  refine ⟨_, (@pss_cons _ _ _ _ _ (@ps_set _ _ 1 _ _ _ _ nd rfl (by first | exact Or.inl rfl | exact Or.inr rfl) (@pe_lst _ _ _ _ (@pa_cons _ _ _ _ _ (@pe_callTy _ _ _ _ _ _ _ _ _ (@call_list_of _) rfl m_list b_list (@pa_cons _ _ _ _ _ (@pe_slice _ _ _ _ _ _ _ _ _ _ (@sl_list _) (@pvD _ 0 _ _ (by rfl) (by first | exact Or.inl rfl | exact Or.inr (Or.inl rfl) | exact Or.inr (Or.inr rfl)) (by decide) (by decide)) (@po_none _) (@po_some _ _ _ (@pe_int _ _ _ _))) (@pa_nil _) (by rfl)) (by decide) (by decide) (by rfl) (by rfl)) (@pa_cons _ _ _ _ _ (@pe_int _ _ _ _) (@pa_nil _) (by rfl)) (by rfl))) (by rfl) (by first | exact .inl rfl | exact .inr rfl | assumption)) (@pss_cons _ _ _ _ _ (@ps_set _ _ 2 _ _ _ _ nd rfl (by first | exact Or.inl rfl | exact Or.inr rfl) (@pe_has _ _ _ _ _ _ _ _ _ _ h_law_names hr (@pa_cons _ _ _ _ _ (@pe_has _ _ _ _ _ _ _ _ _ _ h_law_next hr (@pa_cons _ _ _ _ _ (@pvD _ 1 _ _ (by rfl) (by first | exact Or.inl rfl | exact Or.inr (Or.inl rfl) | exact Or.inr (Or.inr rfl)) (by decide) (by decide)) (@pa_nil _) (by rfl)) (by rfl) (by decide +kernel) (by rfl) (by rfl)) (@pa_nil _) (by rfl)) (by rfl) (by decide +kernel) (by rfl) (by rfl)) (by rfl) (by first | exact .inl rfl | exact .inr rfl | assumption)) (@pss_cons _ _ _ _ _ (@ps_for _ _ _ _ _ _ _ _ PassesOwn.never rfl (@pi_range1 _ _ _ _ _ _ rfl m_range (@pa_cons _ _ _ _ _ (@pe_int _ _ _ _) (@pa_nil _) (by rfl)) (by rfl)) (@pg_name _ _ 3 _ nd rfl (by first | exact Or.inl rfl | exact Or.inr rfl) (by first | exact .inl rfl | exact .inr rfl | assumption)) (@pss_cons _ _ _ _ _ (@ps_set _ _ 4 _ _ _ _ nd rfl (by first | exact Or.inl rfl | exact Or.inr rfl) (@pe_has _ _ _ _ _ _ _ _ _ _ h_law_term hr (@pa_cons _ _ _ _ _ (@pvD _ 1 _ _ (by rfl) (by first | exact Or.inl rfl | exact Or.inr (Or.inl rfl) | exact Or.inr (Or.inr rfl)) (by decide) (by decide)) (@pa_cons _ _ _ _ _ (@pvD _ 2 _ _ (by rfl) (by first | exact Or.inl rfl | exact Or.inr (Or.inl rfl) | exact Or.inr (Or.inr rfl)) (by decide) (by decide)) (@pa_cons _ _ _ _ _ (@pe_ix _ _ _ _ _ _ _ (@ix_list _) (@pe_lst _ _ _ _ (@pa_const _ _ _ (@CsOk.int _ _ _ _ _ (@CsOk.int _ _ _ _ _ (@CsOk.int _ _ _ _ _ (@CsOk.int _ _ _ _ _ (@CsOk.nil))))))) (@pvD _ 3 _ _ (by rfl) (by first | exact Or.inl rfl | exact Or.inr (Or.inl rfl) | exact Or.inr (Or.inr rfl)) (by decide) (by decide)) (fun _ _ => rfl)) (@pa_nil _) (by rfl)) (by rfl)) (by rfl)) (by rfl) (by decide +kernel) (by rfl) (by rfl)) (by rfl) (by first | exact .inl rfl | exact .inr rfl | assumption)) (@pss_cons _ _ _ _ _ (@ps_set _ _ 5 _ _ _ _ nd rfl (by first | exact Or.inl rfl | exact Or.inr rfl) (@pe_has _ _ _ _ _ _ _ _ _ _ h_law_made hr (@pa_cons _ _ _ _ _ (@pvD _ 1 _ _ (by rfl) (by first | exact Or.inl rfl | exact Or.inr (Or.inl rfl) | exact Or.inr (Or.inr rfl)) (by decide) (by decide)) (@pa_cons _ _ _ _ _ (@pvD _ 2 _ _ (by rfl) (by first | exact Or.inl rfl | exact Or.inr (Or.inl rfl) | exact Or.inr (Or.inr rfl)) (by decide) (by decide)) (@pa_cons _ _ _ _ _ (@pvD _ 4 _ _ (by rfl) (by first | exact Or.inl rfl | exact Or.inr (Or.inl rfl) | exact Or.inr (Or.inr rfl)) (by decide) (by decide)) (@pa_nil _) (by rfl)) (by rfl)) (by rfl)) (by rfl) (by decide +kernel) (by rfl) (by rfl)) (by rfl) (by first | exact .inl rfl | exact .inr rfl | assumption)) (@pss_cons _ _ _ _ _ (@ps_if _ _ _ _ _ _ _ _ (@PW.pt _ _ _ (@pw_or _ _ _ _ _ _ _ (@pt_not _ _ _ _ (@pt_val _ _ _ (@pe_has _ _ _ _ _ _ _ _ _ _ h_law_told hr (@pa_cons _ _ _ _ _ (@pvD _ 1 _ _ (by rfl) (by first | exact Or.inl rfl | exact Or.inr (Or.inl rfl) | exact Or.inr (Or.inr rfl)) (by decide) (by decide)) (@pa_cons _ _ _ _ _ (@pvD _ 2 _ _ (by rfl) (by first | exact Or.inl rfl | exact Or.inr (Or.inl rfl) | exact Or.inr (Or.inr rfl)) (by decide) (by decide)) (@pa_cons _ _ _ _ _ (@pvD _ 4 _ _ (by rfl) (by first | exact Or.inl rfl | exact Or.inr (Or.inl rfl) | exact Or.inr (Or.inr rfl)) (by decide) (by decide)) (@pa_cons _ _ _ _ _ (@pvD _ 5 _ _ (by rfl) (by first | exact Or.inl rfl | exact Or.inr (Or.inl rfl) | exact Or.inr (Or.inr rfl)) (by decide) (by decide)) (@pa_cons _ _ _ _ _ (@pe_bl _ _ _ _) (@pa_nil _) (by rfl)) (by rfl)) (by rfl)) (by rfl)) (by rfl)) (by rfl) (by decide +kernel) (by rfl) (by rfl)) (by intro _; rfl))) (@pw_or1 _ _ _ _ (@pt_not _ _ _ _ (@pt_val _ _ _ (@pe_has _ _ _ _ _ _ _ _ _ _ h_law_told hr (@pa_cons _ _ _ _ _ (@pvD _ 1 _ _ (by rfl) (by first | exact Or.inl rfl | exact Or.inr (Or.inl rfl) | exact Or.inr (Or.inr rfl)) (by decide) (by decide)) (@pa_cons _ _ _ _ _ (@pvD _ 2 _ _ (by rfl) (by first | exact Or.inl rfl | exact Or.inr (Or.inl rfl) | exact Or.inr (Or.inr rfl)) (by decide) (by decide)) (@pa_cons _ _ _ _ _ (@pvD _ 5 _ _ (by rfl) (by first | exact Or.inl rfl | exact Or.inr (Or.inl rfl) | exact Or.inr (Or.inr rfl)) (by decide) (by decide)) (@pa_cons _ _ _ _ _ (@pvD _ 4 _ _ (by rfl) (by first | exact Or.inl rfl | exact Or.inr (Or.inl rfl) | exact Or.inr (Or.inr rfl)) (by decide) (by decide)) (@pa_cons _ _ _ _ _ (@pe_bl _ _ _ _) (@pa_nil _) (by rfl)) (by rfl)) (by rfl)) (by rfl)) (by rfl)) (by rfl) (by decide +kernel) (by rfl) (by rfl)) (by intro _; rfl)))))) (@pss_one _ _ _ (@ps_ret _ _ _ _ (@pe_bl _ _ _ _))) (@pss_nil _)) (@pss_cons _ _ _ _ _ (@ps_if _ _ _ _ _ _ _ _ (@pt_not _ _ _ _ (@pt_val _ _ _ (@pe_has _ _ _ _ _ _ _ _ _ _ h_law_told hr (@pa_cons _ _ _ _ _ (@pvD _ 1 _ _ (by rfl) (by first | exact Or.inl rfl | exact Or.inr (Or.inl rfl) | exact Or.inr (Or.inr rfl)) (by decide) (by decide)) (@pa_cons _ _ _ _ _ (@pvD _ 2 _ _ (by rfl) (by first | exact Or.inl rfl | exact Or.inr (Or.inl rfl) | exact Or.inr (Or.inr rfl)) (by decide) (by decide)) (@pa_cons _ _ _ _ _ (@pvD _ 4 _ _ (by rfl) (by first | exact Or.inl rfl | exact Or.inr (Or.inl rfl) | exact Or.inr (Or.inr rfl)) (by decide) (by decide)) (@pa_cons _ _ _ _ _ (@pe_has _ _ _ _ _ _ _ _ _ _ h_law_changed hr (@pa_cons _ _ _ _ _ (@pvD _ 1 _ _ (by rfl) (by first | exact Or.inl rfl | exact Or.inr (Or.inl rfl) | exact Or.inr (Or.inr rfl)) (by decide) (by decide)) (@pa_cons _ _ _ _ _ (@pvD _ 2 _ _ (by rfl) (by first | exact Or.inl rfl | exact Or.inr (Or.inl rfl) | exact Or.inr (Or.inr rfl)) (by decide) (by decide)) (@pa_cons _ _ _ _ _ (@pvD _ 5 _ _ (by rfl) (by first | exact Or.inl rfl | exact Or.inr (Or.inl rfl) | exact Or.inr (Or.inr rfl)) (by decide) (by decide)) (@pa_nil _) (by rfl)) (by rfl)) (by rfl)) (by rfl) (by decide +kernel) (by rfl) (by rfl)) (@pa_cons _ _ _ _ _ (@pe_bl _ _ _ _) (@pa_nil _) (by rfl)) (by rfl)) (by rfl)) (by rfl)) (by rfl)) (by rfl) (by decide +kernel) (by rfl) (by rfl)) (by intro _; rfl))) (@pss_one _ _ _ (@ps_ret _ _ _ _ (@pe_bl _ _ _ _))) (@pss_nil _)) (@pss_one _ _ _ (@ps_if _ _ _ _ _ _ _ _ (@pt_not _ _ _ _ (@pt_val _ _ _ (@pe_has _ _ _ _ _ _ _ _ _ _ h_law_told hr (@pa_cons _ _ _ _ _ (@pvD _ 1 _ _ (by rfl) (by first | exact Or.inl rfl | exact Or.inr (Or.inl rfl) | exact Or.inr (Or.inr rfl)) (by decide) (by decide)) (@pa_cons _ _ _ _ _ (@pvD _ 2 _ _ (by rfl) (by first | exact Or.inl rfl | exact Or.inr (Or.inl rfl) | exact Or.inr (Or.inr rfl)) (by decide) (by decide)) (@pa_cons _ _ _ _ _ (@pvD _ 4 _ _ (by rfl) (by first | exact Or.inl rfl | exact Or.inr (Or.inl rfl) | exact Or.inr (Or.inr rfl)) (by decide) (by decide)) (@pa_cons _ _ _ _ _ (@pe_has _ _ _ _ _ _ _ _ _ _ h_law_term hr (@pa_cons _ _ _ _ _ (@pvD _ 1 _ _ (by rfl) (by first | exact Or.inl rfl | exact Or.inr (Or.inl rfl) | exact Or.inr (Or.inr rfl)) (by decide) (by decide)) (@pa_cons _ _ _ _ _ (@pvD _ 2 _ _ (by rfl) (by first | exact Or.inl rfl | exact Or.inr (Or.inl rfl) | exact Or.inr (Or.inr rfl)) (by decide) (by decide)) (@pa_cons _ _ _ _ _ (@pe_int _ _ _ _) (@pa_nil _) (by rfl)) (by rfl)) (by rfl)) (by rfl) (by decide +kernel) (by rfl) (by rfl)) (@pa_cons _ _ _ _ _ (@pe_bl _ _ _ _) (@pa_nil _) (by rfl)) (by rfl)) (by rfl)) (by rfl)) (by rfl)) (by rfl) (by decide +kernel) (by rfl) (by rfl)) (by intro _; rfl))) (@pss_one _ _ _ (@ps_ret _ _ _ _ (@pe_bl _ _ _ _))) (@pss_nil _))))))) (by intro _; rfl)) (@pss_one _ _ _ (@ps_ret _ _ _ _ (@pe_bl _ _ _ _)))))), ?_⟩
  rw [show start ["script", "deck", "names", "k", "one", "other"] [.ref a] = [some (.ref a), none, none, none, none, none] from rfl]
  clear hu hu0 nd hr
  push_cast [spChanged, spMade, spNames4, spNext, spTerm, spTold]
  have sz := sizeLine_eq
  obtain ⟨ms, em, hms⟩ := cut_ints ns none (some 60)
  refine ⟨_, hL, fun p hp => ⟨_, .inl (SqL.of upd_same), fun l0 hl0' => ⟨by show (2 : Nat) ≤ sizeLine; decide, fun d hd => ?_⟩⟩⟩
  rw [em] at hd hl0' ⊢
  have hDk : Deck (upd (upd (upd H p (.lst (ms.map V.int))) l0 (.lst (ms.map V.int))) d (.lst [.ref l0, .int 0])) d l0 ms 0 := ⟨upd_same, same_new hd _ _ _ upd_same⟩
  refine ⟨l0, ms, 0, hDk, by omega, fun c H1 s1 d1 nl H2 zs h4 hzs s2 hnl => ?_⟩
  have D1 : Deck H1 d l0 ms (0 + 1) := hDk.next s1 d1
  have D2 := D1.same s2
  have nnd : nl ≠ d := ne_of hnl D2.1 (by intro e; match zs, h4, e with | [_, _, _, _], _, e => cases e)
  have hz0 : ∀ z ∈ zs, arS z = 0 := fun z hz => (hzs z hz).1
  refine forW_range (lo := 0) (fun k σ H' => ∃ (v3 v4 v5 : Option V) (n : Nat), σ = [some (.ref a), some (.ref d), some (.ref nl), v3, v4, v5] ∧ SameB d H2 H' ∧ H' d = some (.lst [.ref l0, .int (n : Int)]) ∧ n ≤ 1 + 200 * k) ⟨none, none, none, 1, rfl, SameB.refl _ _, D2.1, by omega⟩ ?_ ?_
  · rintro k σ H' hk ⟨v3, v4, v5, n, rfl, s3, d3, ln⟩
    have hk4 : k < 4 := hk
    push_cast [and_true]
    obtain ⟨v, hv, hm⟩ := atI_in [V.int 6, V.int 3, V.int 5, V.int 6] (0 + (k : Int)) (by omega) (by show 0 + (k : Int) < 4; omega)
    obtain ⟨m, ev, m1, m6⟩ : ∃ m : Nat, v = .int (m : Int) ∧ 1 ≤ m ∧ m ≤ 6 := by
      simp only [List.mem_cons, List.not_mem_nil, or_false] at hm
      rcases hm with rfl | rfl | rfl | rfl
      · exact ⟨6, rfl, by decide, by decide⟩
      · exact ⟨3, rfl, by decide, by decide⟩
      · exact ⟨5, rfl, by decide, by decide⟩
      · exact ⟨6, rfl, by decide, by decide⟩
    subst ev
    refine ⟨by show (4 : Nat) ≤ sizeLine; decide, fun pl hpl => rIxL_ok upd_same hv ?_⟩
    refine mkTerm (d := d) (nl := nl) (b := l0) (ns := ms) (zs := zs) (m := m) (n := n) ((D2.next s3 d3).same (same_new hpl _)) (same_new hpl _ _ _ (s3 _ _ nnd hnl)) (h4) (hz0) (m1) (by omega) (by omega) fun t n1 H3 xs s4 d4 l4 htn ht3 hx => ?_
    have B3 : SameB d H2 H3 := (s3.trans (SameB.of (same_new hpl _))).trans s4
    have ntd : t ≠ d := ne_of ht3 d4 (by intro e; cases e)
    refine mkMade (d := d) (nl := nl) (t := t) (b := l0) (ns := ms) (zs := zs) (n := n1) (ws := xs) (D2.next B3 d4) (B3 _ _ nnd hnl) (h4) (hz0) (by omega) (ht3) (hx.up (by omega)) fun u n2 H4 ys s5 d5 l5 hu4 hy hρ => ?_
    have B4 := B3.trans s5
    have ht4 := s5 _ _ ntd ht3
    have nud : u ≠ d := ne_of hu4 d5 (by intro e; cases e)
    have x12 := K15.TS.tok (hx.up (show m ≤ 12 by omega))
    have x6 := K15.TS.tok (hx.up m6)
    have y12 := K15.TS.tok hy
    refine mkTold (d := d) (nl := nl) (t := t) (u := u) (b := l0) (ns := ms) (zs := zs) (n := n2) (xs := xs) (ys := ys) (al := true) (D2.next B4 d5) (B4 _ _ nnd hnl) (h4) (hz0) (by omega) (ht4) (hu4) (x12) (y12) (.inl x6) ((fun _ ρ => (hρ ρ).symm)) fun n3 H5 s6 d6 l6 => ⟨true, rfl, ifN (by decide) ?_⟩
    have B5 := B4.trans s6
    have ht5 := s6 _ _ ntd ht4
    have hu5 := s6 _ _ nud hu4
    refine mkTold (d := d) (nl := nl) (t := u) (u := t) (b := l0) (ns := ms) (zs := zs) (n := n3) (xs := ys) (ys := xs) (al := true) (D2.next B5 d6) (B5 _ _ nnd hnl) (h4) (hz0) (by omega) (hu5) (ht5) (y12) (x12) (.inr x6) ((fun _ ρ => hρ ρ)) fun n4 H6 s7 d7 l7 => ⟨true, rfl, ifN (by decide) ?_⟩
    have B6 := B5.trans s7
    have ht6 := s7 _ _ ntd ht5
    have hu6 := s7 _ _ nud hu5
    refine mkChanged (d := d) (nl := nl) (t := u) (b := l0) (ns := ms) (zs := zs) (n := n4) (ws := ys) (D2.next B6 d7) (B6 _ _ nnd hnl) (h4) (hz0) (by omega) (hu6) (hy) fun w' H7 us s8 d8 hw hus => ?_
    have B7 := B6.trans s8
    have ht7 := s8 _ _ ntd ht6
    refine mkTold (d := d) (nl := nl) (t := t) (u := w') (b := l0) (ns := ms) (zs := zs) (n := n4 + 1) (xs := xs) (ys := us) (al := false) (D2.next B7 d8) (B7 _ _ nnd hnl) (h4) (hz0) (by omega) (ht7) (hw) (x12) (hus) (.inl x6) ((fun h => by cases h)) fun n5 H8 s9 d9 l9 => ⟨true, rfl, ifN (by decide) ?_⟩
    have B8 := B7.trans s9
    have ht8 := s9 _ _ ntd ht7
    refine mkTerm (d := d) (nl := nl) (b := l0) (ns := ms) (zs := zs) (m := 5) (n := n5) (D2.next B8 d9) (B8 _ _ nnd hnl) (h4) (hz0) (by decide) (by decide) (by omega) fun r n6 H9 rs sA dA lA hrn hr9 hr => ?_
    have B9 := B8.trans sA
    have ht9 := sA _ _ ntd ht8
    refine mkTold (d := d) (nl := nl) (t := t) (u := r) (b := l0) (ns := ms) (zs := zs) (n := n6) (xs := xs) (ys := rs) (al := false) (D2.next B9 dA) (B9 _ _ nnd hnl) (h4) (hz0) (by omega) (ht9) (hr9) (x12) (K15.TS.tok (hr.up (by decide))) (.inl x6) ((fun h => by cases h)) fun n7 HA sB dB lB => ⟨true, rfl, ifN (by decide) ?_⟩
    exact ⟨B9.trans sB, n7, dB, by omega⟩
  · rintro σ H' ⟨v3, v4, v5, n, rfl, s3, d3, ln⟩
    push_cast [and_true]
    exact q _
end
end K15
namespace K15
open PySem PySem.Spec L2 PyProof.Rows Pc Fm
theorem all_mk {l : PySem.W.OpenLaw} {w : World} {K : PySem.W.Frag} {h : Heap} {mg : Str → Option Value} {fa : Addr} (X : K.In h) (G : h.Ns mainGlobals mg) (hfa : mg "law" = some (.ref fa))
    {f0 f1 f2 f3 f4 f5 f6 f7 f8 f9 f10 f11 f12 f13 f14 f15 f16 f17 f18 f19 f20 f21 f22 f23 f24 f25 f26 f27 f28 g0 : Addr} {od0 an0 od1 an1 od2 an2 od3 an3 od4 an4 od5 an5 od6 an6 od7 an7 od8 an8 od9 an9 od10 an10 od11 an11 od12 an12 od13 an13 od14 an14 od15 an15 od16 an16 od17 an17 od18 an18 od19 an19 od20 an20 od21 an21 od22 an22 od23 an23 od24 an24 od25 an25 od26 an26 od27 an27 od28 an28 : Option Addr} {sl0 sl1 sl2 sl3 sl4 sl5 sl6 sl7 sl8 sl9 sl10 sl11 sl12 sl13 sl14 sl15 sl16 sl17 sl18 sl19 sl20 sl21 sl22 sl23 sl24 sl25 sl26 sl27 sl28 : Array (Option Value)} {oc0 kV0 dc0 pm0 cd0 ct0 oc1 kV1 dc1 pm1 cd1 ct1 oc2 kV2 dc2 pm2 cd2 ct2 oc3 kV3 dc3 pm3 cd3 ct3 oc4 kV4 dc4 pm4 cd4 ct4 oc5 kV5 dc5 pm5 cd5 ct5 oc6 kV6 dc6 pm6 cd6 ct6 oc7 kV7 dc7 pm7 cd7 ct7 oc8 kV8 dc8 pm8 cd8 ct8 oc9 kV9 dc9 pm9 cd9 ct9 oc10 kV10 dc10 pm10 cd10 ct10 oc11 kV11 dc11 pm11 cd11 ct11 oc12 kV12 dc12 pm12 cd12 ct12 oc13 kV13 dc13 pm13 cd13 ct13 oc14 kV14 dc14 pm14 cd14 ct14 oc15 kV15 dc15 pm15 cd15 ct15 oc16 kV16 dc16 pm16 cd16 ct16 oc17 kV17 dc17 pm17 cd17 ct17 oc18 kV18 dc18 pm18 cd18 ct18 oc19 kV19 dc19 pm19 cd19 ct19 oc20 kV20 dc20 pm20 cd20 ct20 oc21 kV21 dc21 pm21 cd21 ct21 oc22 kV22 dc22 pm22 cd22 ct22 oc23 kV23 dc23 pm23 cd23 ct23 oc24 kV24 dc24 pm24 cd24 ct24 oc25 kV25 dc25 pm25 cd25 ct25 oc26 kV26 dc26 pm26 cd26 ct26 oc27 kV27 dc27 pm27 cd27 ct27 oc28 kV28 dc28 pm28 cd28 ct28 : Value} {dt0x0 dt0x1 dt0x2 dt0x3 du0x0 du0x1 du0x2 du0x3 dp0 : Nat} {dh0x0 dh0x1 dh0x2 dh0x3 : Int}
    (a0 : PySem.W.nsIn K mainGlobals "how_many_below" = some (some (.ref f0)))
    (l0 : K.lookup f0 = some ⟨oc0, od0, .func (PySem.W.fnOf "how_many_below" "how_many_below" (defArgs sHow) (defBody sHow) (defScope sHow) .none kV0 dc0 pm0 an0 cd0 ct0), sl0⟩)
    (c0 : PySem.W.codeIn K cd0 "how_many_below" = true)
    (k0 : PySem.W.keepIn K (.ref f0) = true)
    (a1 : PySem.W.nsIn K mainGlobals "joined_numbers" = some (some (.ref f1)))
    (l1 : K.lookup f1 = some ⟨oc1, od1, .func (PySem.W.fnOf "joined_numbers" "joined_numbers" (defArgs sJoinN) (defBody sJoinN) (defScope sJoinN) .none kV1 dc1 pm1 an1 cd1 ct1), sl1⟩)
    (c1 : PySem.W.codeIn K cd1 "joined_numbers" = true)
    (k1 : PySem.W.keepIn K (.ref f1) = true)
    (a2 : PySem.W.nsIn K mainGlobals "gathered" = some (some (.ref f2)))
    (l2 : K.lookup f2 = some ⟨oc2, od2, .func (PySem.W.fnOf "gathered" "gathered" (defArgs sGath) (defBody sGath) (defScope sGath) .none kV2 dc2 pm2 an2 cd2 ct2), sl2⟩)
    (c2 : PySem.W.codeIn K cd2 "gathered" = true)
    (k2 : PySem.W.keepIn K (.ref f2) = true)
    (a3 : PySem.W.nsIn K mainGlobals "plus" = some (some (.ref f3)))
    (l3 : K.lookup f3 = some ⟨oc3, od3, .func (PySem.W.fnOf "plus" "plus" (defArgs sPlus) (defBody sPlus) (defScope sPlus) .none kV3 dc3 pm3 an3 cd3 ct3), sl3⟩)
    (c3 : PySem.W.codeIn K cd3 "plus" = true)
    (k3 : PySem.W.keepIn K (.ref f3) = true)
    (a4 : PySem.W.nsIn K mainGlobals "minus" = some (some (.ref f4)))
    (l4 : K.lookup f4 = some ⟨oc4, od4, .func (PySem.W.fnOf "minus" "minus" (defArgs sMinus) (defBody sMinus) (defScope sMinus) .none kV4 dc4 pm4 an4 cd4 ct4), sl4⟩)
    (c4 : PySem.W.codeIn K cd4 "minus" = true)
    (k4 : PySem.W.keepIn K (.ref f4) = true)
    (a5 : PySem.W.nsIn K mainGlobals "times" = some (some (.ref f5)))
    (l5 : K.lookup f5 = some ⟨oc5, od5, .func (PySem.W.fnOf "times" "times" (defArgs sTimes) (defBody sTimes) (defScope sTimes) .none kV5 dc5 pm5 an5 cd5 ct5), sl5⟩)
    (c5 : PySem.W.codeIn K cd5 "times" = true)
    (k5 : PySem.W.keepIn K (.ref f5) = true)
    (a6 : PySem.W.nsIn K mainGlobals "leaf_form" = some (some (.ref f6)))
    (l6 : K.lookup f6 = some ⟨oc6, od6, .func (PySem.W.fnOf "leaf_form" "leaf_form" (defArgs sLeaf) (defBody sLeaf) (defScope sLeaf) .none kV6 dc6 pm6 an6 cd6 ct6), sl6⟩)
    (c6 : PySem.W.codeIn K cd6 "leaf_form" = true)
    (k6 : PySem.W.keepIn K (.ref f6) = true)
    (a7 : PySem.W.nsIn K mainGlobals "joined_forms" = some (some (.ref f7)))
    (l7 : K.lookup f7 = some ⟨oc7, od7, .func (PySem.W.fnOf "joined_forms" "joined_forms" (defArgs sJoinF) (defBody sJoinF) (defScope sJoinF) .none kV7 dc7 pm7 an7 cd7 ct7), sl7⟩)
    (c7 : PySem.W.codeIn K cd7 "joined_forms" = true)
    (k7 : PySem.W.keepIn K (.ref f7) = true)
    (a8 : PySem.W.nsIn K mainGlobals "folded" = some (some (.ref f8)))
    (l8 : K.lookup f8 = some ⟨oc8, od8, .func (PySem.W.fnOf "folded" "folded" (defArgs sFold) (defBody sFold) (defScope sFold) .none kV8 dc8 pm8 an8 cd8 ct8), sl8⟩)
    (c8 : PySem.W.codeIn K cd8 "folded" = true)
    (k8 : PySem.W.keepIn K (.ref f8) = true)
    (a9 : PySem.W.nsIn K mainGlobals "value_of" = some (some (.ref f9)))
    (l9 : K.lookup f9 = some ⟨oc9, od9, .func (PySem.W.fnOf "value_of" "value_of" (defArgs sValOf) (defBody sValOf) (defScope sValOf) .none kV9 dc9 pm9 an9 cd9 ct9), sl9⟩)
    (c9 : PySem.W.codeIn K cd9 "value_of" = true)
    (k9 : PySem.W.keepIn K (.ref f9) = true)
    (a10 : PySem.W.nsIn K mainGlobals "with_value" = some (some (.ref f10)))
    (l10 : K.lookup f10 = some ⟨oc10, od10, .func (PySem.W.fnOf "with_value" "with_value" (defArgs sWithN) (defBody sWithN) (defScope sWithN) .none kV10 dc10 pm10 an10 cd10 ct10), sl10⟩)
    (c10 : PySem.W.codeIn K cd10 "with_value" = true)
    (k10 : PySem.W.keepIn K (.ref f10) = true)
    (a11 : PySem.W.nsIn K mainGlobals "worth" = some (some (.ref f11)))
    (l11 : K.lookup f11 = some ⟨oc11, od11, .func (PySem.W.fnOf "worth" "worth" (defArgs sWorth) (defBody sWorth) (defScope sWorth) .none kV11 dc11 pm11 an11 cd11 ct11), sl11⟩)
    (c11 : PySem.W.codeIn K cd11 "worth" = true)
    (k11 : PySem.W.keepIn K (.ref f11) = true)
    (a12 : PySem.W.nsIn K mainGlobals "form_of" = some (some (.ref f12)))
    (l12 : K.lookup f12 = some ⟨oc12, od12, .func (PySem.W.fnOf "form_of" "form_of" (defArgs sFormOf) (defBody sFormOf) (defScope sFormOf) .none kV12 dc12 pm12 an12 cd12 ct12), sl12⟩)
    (c12 : PySem.W.codeIn K cd12 "form_of" = true)
    (k12 : PySem.W.keepIn K (.ref f12) = true)
    (a13 : PySem.W.nsIn K mainGlobals "name_replaced" = some (some (.ref f13)))
    (l13 : K.lookup f13 = some ⟨oc13, od13, .func (PySem.W.fnOf "name_replaced" "name_replaced" (defArgs sRepl) (defBody sRepl) (defScope sRepl) .none kV13 dc13 pm13 an13 cd13 ct13), sl13⟩)
    (c13 : PySem.W.codeIn K cd13 "name_replaced" = true)
    (k13 : PySem.W.keepIn K (.ref f13) = true)
    (a14 : PySem.W.nsIn K mainGlobals "keeping_value" = some (some (.ref f14)))
    (l14 : K.lookup f14 = some ⟨oc14, od14, .func (PySem.W.fnOf "keeping_value" "keeping_value" (defArgs sKeepV) (defBody sKeepV) (defScope sKeepV) .none kV14 dc14 pm14 an14 cd14 ct14), sl14⟩)
    (c14 : PySem.W.codeIn K cd14 "keeping_value" = true)
    (k14 : PySem.W.keepIn K (.ref f14) = true)
    (a15 : PySem.W.nsIn K mainGlobals "names_in" = some (some (.ref f15)))
    (l15 : K.lookup f15 = some ⟨oc15, od15, .func (PySem.W.fnOf "names_in" "names_in" (defArgs sNamesIn) (defBody sNamesIn) (defScope sNamesIn) .none kV15 dc15 pm15 an15 cd15 ct15), sl15⟩)
    (c15 : PySem.W.codeIn K cd15 "names_in" = true)
    (k15 : PySem.W.keepIn K (.ref f15) = true)
    (a16 : PySem.W.nsIn K mainGlobals "most_times" = some (some (.ref f16)))
    (l16 : K.lookup f16 = some ⟨oc16, od16, .func (PySem.W.fnOf "most_times" "most_times" (defArgs sMost) (defBody sMost) (defScope sMost) .none kV16 dc16 pm16 an16 cd16 ct16), sl16⟩)
    (c16 : PySem.W.codeIn K cd16 "most_times" = true)
    (k16 : PySem.W.keepIn K (.ref f16) = true)
    (a17 : PySem.W.nsIn K mainGlobals "parting" = some (some (.ref f17)))
    (l17 : K.lookup f17 = some ⟨oc17, od17, .func (PySem.W.fnOf "parting" "parting" (defArgs sPart) (defBody sPart) (defScope sPart) .none kV17 dc17 pm17 an17 cd17 ct17), sl17⟩)
    (c17 : PySem.W.codeIn K cd17 "parting" = true)
    (k17 : PySem.W.keepIn K (.ref f17) = true)
    (a18 : PySem.W.nsIn K mainGlobals "_law_next" = some (some (.ref f18)))
    (l18 : K.lookup f18 = some ⟨oc18, od18, .func (PySem.W.fnOf "_law_next" "_law_next" (defArgs sNext) (defBody sNext) (defScope sNext) .none kV18 dc18 pm18 an18 cd18 ct18), sl18⟩)
    (c18 : PySem.W.codeIn K cd18 "_law_next" = true)
    (k18 : PySem.W.keepIn K (.ref f18) = true)
    (a19 : PySem.W.nsIn K mainGlobals "_law_names" = some (some (.ref f19)))
    (l19 : K.lookup f19 = some ⟨oc19, od19, .func (PySem.W.fnOf "_law_names" "_law_names" (defArgs sNames) (defBody sNames) (defScope sNames) .none kV19 dc19 pm19 an19 cd19 ct19), sl19⟩)
    (c19 : PySem.W.codeIn K cd19 "_law_names" = true)
    (k19 : PySem.W.keepIn K (.ref f19) = true)
    (a20 : PySem.W.nsIn K mainGlobals "_law_term" = some (some (.ref f20)))
    (l20 : K.lookup f20 = some ⟨oc20, od20, .func (PySem.W.fnOf "_law_term" "_law_term" (defArgs sTerm) (defBody sTerm) (defScope sTerm) .none kV20 dc20 pm20 an20 cd20 ct20), sl20⟩)
    (c20 : PySem.W.codeIn K cd20 "_law_term" = true)
    (k20 : PySem.W.keepIn K (.ref f20) = true)
    (a21 : PySem.W.nsIn K mainGlobals "_law_behind" = some (some (.ref f21)))
    (l21 : K.lookup f21 = some ⟨oc21, od21, .func (PySem.W.fnOf "_law_behind" "_law_behind" (defArgs sBeh) (defBody sBeh) (defScope sBeh) .none kV21 dc21 pm21 an21 cd21 ct21), sl21⟩)
    (c21 : PySem.W.codeIn K cd21 "_law_behind" = true)
    (k21 : PySem.W.keepIn K (.ref f21) = true)
    (a22 : PySem.W.nsIn K mainGlobals "_law_turned" = some (some (.ref f22)))
    (l22 : K.lookup f22 = some ⟨oc22, od22, .func (PySem.W.fnOf "_law_turned" "_law_turned" (defArgs sTurned) (defBody sTurned) (defScope sTurned) .none kV22 dc22 pm22 an22 cd22 ct22), sl22⟩)
    (c22 : PySem.W.codeIn K cd22 "_law_turned" = true)
    (k22 : PySem.W.keepIn K (.ref f22) = true)
    (a23 : PySem.W.nsIn K mainGlobals "_law_made" = some (some (.ref f23)))
    (l23 : K.lookup f23 = some ⟨oc23, od23, .func (PySem.W.fnOf "_law_made" "_law_made" (defArgs sMade) (defBody sMade) (defScope sMade) .none kV23 dc23 pm23 an23 cd23 ct23), sl23⟩)
    (c23 : PySem.W.codeIn K cd23 "_law_made" = true)
    (k23 : PySem.W.keepIn K (.ref f23) = true)
    (a24 : PySem.W.nsIn K mainGlobals "_law_changed" = some (some (.ref f24)))
    (l24 : K.lookup f24 = some ⟨oc24, od24, .func (PySem.W.fnOf "_law_changed" "_law_changed" (defArgs sChanged) (defBody sChanged) (defScope sChanged) .none kV24 dc24 pm24 an24 cd24 ct24), sl24⟩)
    (c24 : PySem.W.codeIn K cd24 "_law_changed" = true)
    (k24 : PySem.W.keepIn K (.ref f24) = true)
    (a25 : PySem.W.nsIn K mainGlobals "_law_values" = some (some (.ref f25)))
    (l25 : K.lookup f25 = some ⟨oc25, od25, .func (PySem.W.fnOf "_law_values" "_law_values" (defArgs sValues) (defBody sValues) (defScope sValues) .none kV25 dc25 pm25 an25 cd25 ct25), sl25⟩)
    (c25 : PySem.W.codeIn K cd25 "_law_values" = true)
    (k25 : PySem.W.keepIn K (.ref f25) = true)
    (a26 : PySem.W.nsIn K mainGlobals "_law_full" = some (some (.ref f26)))
    (l26 : K.lookup f26 = some ⟨oc26, od26, .func (PySem.W.fnOf "_law_full" "_law_full" (defArgs sFull) (defBody sFull) (defScope sFull) .none kV26 dc26 pm26 an26 cd26 ct26), sl26⟩)
    (c26 : PySem.W.codeIn K cd26 "_law_full" = true)
    (k26 : PySem.W.keepIn K (.ref f26) = true)
    (a27 : PySem.W.nsIn K mainGlobals "_law_told" = some (some (.ref f27)))
    (l27 : K.lookup f27 = some ⟨oc27, od27, .func (PySem.W.fnOf "_law_told" "_law_told" (defArgs sTold) (defBody sTold) (defScope sTold) .none kV27 dc27 pm27 an27 cd27 ct27), sl27⟩)
    (c27 : PySem.W.codeIn K cd27 "_law_told" = true)
    (k27 : PySem.W.keepIn K (.ref f27) = true)
    (a28 : PySem.W.nsIn K mainGlobals "law" = some (some (.ref f28)))
    (l28 : K.lookup f28 = some ⟨oc28, od28, .func (PySem.W.fnOf "law" "law" (defArgs sLaw) (defBody sLaw) (defScope sLaw) .none kV28 dc28 pm28 an28 cd28 ct28), sl28⟩)
    (c28 : PySem.W.codeIn K cd28 "law" = true)
    (k28 : PySem.W.keepIn K (.ref f28) = true)
    (z0 : PySem.W.nsIn K mainGlobals "dict" = some none)
    (z1 : PySem.W.nsIn K mainGlobals "int" = some none)
    (z2 : PySem.W.nsIn K mainGlobals "isinstance" = some none)
    (z3 : PySem.W.nsIn K mainGlobals "len" = some none)
    (z4 : PySem.W.nsIn K mainGlobals "list" = some none)
    (z5 : PySem.W.nsIn K mainGlobals "max" = some none)
    (z6 : PySem.W.nsIn K mainGlobals "range" = some none)
    (z7 : PySem.W.nsIn K mainGlobals "reversed" = some none)
    (z8 : PySem.W.nsIn K mainGlobals "sorted" = some none)
    (z9 : PySem.W.nsIn K mainGlobals "str" = some none)
    (z10 : PySem.W.nsIn K mainGlobals "sum" = some none)
    (z11 : PySem.W.nsIn K mainGlobals "tuple" = some none)
    (z12 : PySem.W.nsIn K mainGlobals "zip" = some none)
    (y0 : PySem.W.nsIn K mainGlobals "PARTS_BELOW" = some (some (.ref g0)))
    (x0 : K.lookup g0 = some ⟨.type "dict", none, .dict #[⟨dh0x0, .str "add" dt0x0, .int 2 du0x0⟩, ⟨dh0x1, .str "sub" dt0x1, .int 2 du0x1⟩, ⟨dh0x2, .str "mul" dt0x2, .int 2 du0x2⟩, ⟨dh0x3, .str "neg" dt0x3, .int 1 du0x3⟩] dp0, #[]⟩)
    (hh0x0 : dh0x0 = hashStr w "add")
    (hh0x1 : dh0x1 = hashStr w "sub")
    (hh0x2 : dh0x2 = hashStr w "mul")
    (hh0x3 : dh0x3 = hashStr w "neg")
    (ha0 : (g0 == sysModules) = false) :
    ∃ fd : FuncData, (∀ (s : Shared) (v : Value), BindsTo s fd ⟨[v], []⟩ [("script", v)]) ∧ ∀ base : Heap, K.In base → base.Ns mainGlobals mg → FnOk l.prog w K mg base CX0 7 fa fd ["script"] (spLaw K) := by
  have e := hfa.symm.trans (PySem.W.mg_of X G a28)
  cases e
  have G0 : Gs w K mg := ⟨PySem.W.mg_none_of X G z0, PySem.W.mg_none_of X G z1, PySem.W.mg_none_of X G z2, PySem.W.mg_none_of X G z3, PySem.W.mg_none_of X G z4, PySem.W.mg_none_of X G z5, PySem.W.mg_none_of X G z6, PySem.W.mg_none_of X G z7, PySem.W.mg_none_of X G z8, PySem.W.mg_none_of X G z9, PySem.W.mg_none_of X G z10, PySem.W.mg_none_of X G z11, PySem.W.mg_none_of X G z12, ⟨g0, PySem.W.mg_of X G y0, modD_mk [(dh0x0, "add", dt0x0, 2, du0x0), (dh0x1, "sub", dt0x1, 2, du0x1), (dh0x2, "mul", dt0x2, 2, du0x2), (dh0x3, "neg", dt0x3, 1, du0x3)] x0 ha0 (by intro e he; simp only [List.mem_cons, List.not_mem_nil, or_false] at he; rcases he with rfl | rfl | rfl | rfl <;> assumption) (by show List.Nodup ([Sum.inr "add", Sum.inr "sub", Sum.inr "mul", Sum.inr "neg"] : List Key); decide +kernel)⟩⟩
  have F0 := fun_mk (st := sHow) l0 c0 k0
  have D0 : Def K mg "how_many_below" sHow ["word"] := ⟨f0, _, F0, F0.binds (ps := ["word"]) (fun _ _ _ _ _ _ us hl => by refine us1 (P := fun us => bindArgs _ ⟨us, []⟩ = pure (List.zip _ us)) hl ?_; intros; rfl), PySem.W.mg_of X G a0⟩
  have F1 := fun_mk (st := sJoinN) l1 c1 k1
  have D1 : Def K mg "joined_numbers" sJoinN ["word", "parts"] := ⟨f1, _, F1, F1.binds (ps := ["word", "parts"]) (fun _ _ _ _ _ _ us hl => by refine us2 (P := fun us => bindArgs _ ⟨us, []⟩ = pure (List.zip _ us)) hl ?_; intros; rfl), PySem.W.mg_of X G a1⟩
  have F2 := fun_mk (st := sGath) l2 c2 k2
  have D2 : Def K mg "gathered" sGath ["rows"] := ⟨f2, _, F2, F2.binds (ps := ["rows"]) (fun _ _ _ _ _ _ us hl => by refine us1 (P := fun us => bindArgs _ ⟨us, []⟩ = pure (List.zip _ us)) hl ?_; intros; rfl), PySem.W.mg_of X G a2⟩
  have F3 := fun_mk (st := sPlus) l3 c3 k3
  have D3 : Def K mg "plus" sPlus ["one", "other"] := ⟨f3, _, F3, F3.binds (ps := ["one", "other"]) (fun _ _ _ _ _ _ us hl => by refine us2 (P := fun us => bindArgs _ ⟨us, []⟩ = pure (List.zip _ us)) hl ?_; intros; rfl), PySem.W.mg_of X G a3⟩
  have F4 := fun_mk (st := sMinus) l4 c4 k4
  have D4 : Def K mg "minus" sMinus ["one", "other"] := ⟨f4, _, F4, F4.binds (ps := ["one", "other"]) (fun _ _ _ _ _ _ us hl => by refine us2 (P := fun us => bindArgs _ ⟨us, []⟩ = pure (List.zip _ us)) hl ?_; intros; rfl), PySem.W.mg_of X G a4⟩
  have F5 := fun_mk (st := sTimes) l5 c5 k5
  have D5 : Def K mg "times" sTimes ["one", "other"] := ⟨f5, _, F5, F5.binds (ps := ["one", "other"]) (fun _ _ _ _ _ _ us hl => by refine us2 (P := fun us => bindArgs _ ⟨us, []⟩ = pure (List.zip _ us)) hl ?_; intros; rfl), PySem.W.mg_of X G a5⟩
  have F6 := fun_mk (st := sLeaf) l6 c6 k6
  have D6 : Def K mg "leaf_form" sLeaf ["word"] := ⟨f6, _, F6, F6.binds (ps := ["word"]) (fun _ _ _ _ _ _ us hl => by refine us1 (P := fun us => bindArgs _ ⟨us, []⟩ = pure (List.zip _ us)) hl ?_; intros; rfl), PySem.W.mg_of X G a6⟩
  have F7 := fun_mk (st := sJoinF) l7 c7 k7
  have D7 : Def K mg "joined_forms" sJoinF ["word", "parts"] := ⟨f7, _, F7, F7.binds (ps := ["word", "parts"]) (fun _ _ _ _ _ _ us hl => by refine us2 (P := fun us => bindArgs _ ⟨us, []⟩ = pure (List.zip _ us)) hl ?_; intros; rfl), PySem.W.mg_of X G a7⟩
  have F8 := fun_mk (st := sFold) l8 c8 k8
  have D8 : Def K mg "folded" sFold ["words", "joined"] := ⟨f8, _, F8, F8.binds (ps := ["words", "joined"]) (fun _ _ _ _ _ _ us hl => by refine us2 (P := fun us => bindArgs _ ⟨us, []⟩ = pure (List.zip _ us)) hl ?_; intros; rfl), PySem.W.mg_of X G a8⟩
  have F9 := fun_mk (st := sValOf) l9 c9 k9
  have D9 : Def K mg "value_of" sValOf ["name", "values"] := ⟨f9, _, F9, F9.binds (ps := ["name", "values"]) (fun _ _ _ _ _ _ us hl => by refine us2 (P := fun us => bindArgs _ ⟨us, []⟩ = pure (List.zip _ us)) hl ?_; intros; rfl), PySem.W.mg_of X G a9⟩
  have F10 := fun_mk (st := sWithN) l10 c10 k10
  have D10 : Def K mg "with_value" sWithN ["word", "values"] := ⟨f10, _, F10, F10.binds (ps := ["word", "values"]) (fun _ _ _ _ _ _ us hl => by refine us2 (P := fun us => bindArgs _ ⟨us, []⟩ = pure (List.zip _ us)) hl ?_; intros; rfl), PySem.W.mg_of X G a10⟩
  have F11 := fun_mk (st := sWorth) l11 c11 k11
  have D11 : Def K mg "worth" sWorth ["words", "values"] := ⟨f11, _, F11, F11.binds (ps := ["words", "values"]) (fun _ _ _ _ _ _ us hl => by refine us2 (P := fun us => bindArgs _ ⟨us, []⟩ = pure (List.zip _ us)) hl ?_; intros; rfl), PySem.W.mg_of X G a11⟩
  have F12 := fun_mk (st := sFormOf) l12 c12 k12
  have D12 : Def K mg "form_of" sFormOf ["words"] := ⟨f12, _, F12, F12.binds (ps := ["words"]) (fun _ _ _ _ _ _ us hl => by refine us1 (P := fun us => bindArgs _ ⟨us, []⟩ = pure (List.zip _ us)) hl ?_; intros; rfl), PySem.W.mg_of X G a12⟩
  have F13 := fun_mk (st := sRepl) l13 c13 k13
  have D13 : Def K mg "name_replaced" sRepl ["form", "name", "value"] := ⟨f13, _, F13, F13.binds (ps := ["form", "name", "value"]) (fun _ _ _ _ _ _ us hl => by refine us3 (P := fun us => bindArgs _ ⟨us, []⟩ = pure (List.zip _ us)) hl ?_; intros; rfl), PySem.W.mg_of X G a13⟩
  have F14 := fun_mk (st := sKeepV) l14 c14 k14
  have D14 : Def K mg "keeping_value" sKeepV ["form", "name", "most"] := ⟨f14, _, F14, F14.binds (ps := ["form", "name", "most"]) (fun _ _ _ _ _ _ us hl => by refine us3 (P := fun us => bindArgs _ ⟨us, []⟩ = pure (List.zip _ us)) hl ?_; intros; rfl), PySem.W.mg_of X G a14⟩
  have F15 := fun_mk (st := sNamesIn) l15 c15 k15
  have D15 : Def K mg "names_in" sNamesIn ["rows"] := ⟨f15, _, F15, F15.binds (ps := ["rows"]) (fun _ _ _ _ _ _ us hl => by refine us1 (P := fun us => bindArgs _ ⟨us, []⟩ = pure (List.zip _ us)) hl ?_; intros; rfl), PySem.W.mg_of X G a15⟩
  have F16 := fun_mk (st := sMost) l16 c16 k16
  have D16 : Def K mg "most_times" sMost ["rows"] := ⟨f16, _, F16, F16.binds (ps := ["rows"]) (fun _ _ _ _ _ _ us hl => by refine us1 (P := fun us => bindArgs _ ⟨us, []⟩ = pure (List.zip _ us)) hl ?_; intros; rfl), PySem.W.mg_of X G a16⟩
  have F17 := fun_mk (st := sPart) l17 c17 k17
  have D17 : Def K mg "parting" sPart ["one", "other"] := ⟨f17, _, F17, F17.binds (ps := ["one", "other"]) (fun _ _ _ _ _ _ us hl => by refine us2 (P := fun us => bindArgs _ ⟨us, []⟩ = pure (List.zip _ us)) hl ?_; intros; rfl), PySem.W.mg_of X G a17⟩
  have F18 := fun_mk (st := sNext) l18 c18 k18
  have D18 : Def K mg "_law_next" sNext ["deck"] := ⟨f18, _, F18, F18.binds (ps := ["deck"]) (fun _ _ _ _ _ _ us hl => by refine us1 (P := fun us => bindArgs _ ⟨us, []⟩ = pure (List.zip _ us)) hl ?_; intros; rfl), PySem.W.mg_of X G a18⟩
  have F19 := fun_mk (st := sNames) l19 c19 k19
  have D19 : Def K mg "_law_names" sNames ["cell"] := ⟨f19, _, F19, F19.binds (ps := ["cell"]) (fun _ _ _ _ _ _ us hl => by refine us1 (P := fun us => bindArgs _ ⟨us, []⟩ = pure (List.zip _ us)) hl ?_; intros; rfl), PySem.W.mg_of X G a19⟩
  have F20 := fun_mk (st := sTerm) l20 c20 k20
  have D20 : Def K mg "_law_term" sTerm ["deck", "names", "most"] := ⟨f20, _, F20, F20.binds (ps := ["deck", "names", "most"]) (fun _ _ _ _ _ _ us hl => by refine us3 (P := fun us => bindArgs _ ⟨us, []⟩ = pure (List.zip _ us)) hl ?_; intros; rfl), PySem.W.mg_of X G a20⟩
  have F21 := fun_mk (st := sBeh) l21 c21 k21
  have D21 : Def K mg "_law_behind" sBeh ["words", "place"] := ⟨f21, _, F21, F21.binds (ps := ["words", "place"]) (fun _ _ _ _ _ _ us hl => by refine us2 (P := fun us => bindArgs _ ⟨us, []⟩ = pure (List.zip _ us)) hl ?_; intros; rfl), PySem.W.mg_of X G a21⟩
  have F22 := fun_mk (st := sTurned) l22 c22 k22
  have D22 : Def K mg "_law_turned" sTurned ["part", "cell", "names"] := ⟨f22, _, F22, F22.binds (ps := ["part", "cell", "names"]) (fun _ _ _ _ _ _ us hl => by refine us3 (P := fun us => bindArgs _ ⟨us, []⟩ = pure (List.zip _ us)) hl ?_; intros; rfl), PySem.W.mg_of X G a22⟩
  have F23 := fun_mk (st := sMade) l23 c23 k23
  have D23 : Def K mg "_law_made" sMade ["deck", "names", "words"] := ⟨f23, _, F23, F23.binds (ps := ["deck", "names", "words"]) (fun _ _ _ _ _ _ us hl => by refine us3 (P := fun us => bindArgs _ ⟨us, []⟩ = pure (List.zip _ us)) hl ?_; intros; rfl), PySem.W.mg_of X G a23⟩
  have F24 := fun_mk (st := sChanged) l24 c24 k24
  have D24 : Def K mg "_law_changed" sChanged ["deck", "names", "words"] := ⟨f24, _, F24, F24.binds (ps := ["deck", "names", "words"]) (fun _ _ _ _ _ _ us hl => by refine us3 (P := fun us => bindArgs _ ⟨us, []⟩ = pure (List.zip _ us)) hl ?_; intros; rfl), PySem.W.mg_of X G a24⟩
  have F25 := fun_mk (st := sValues) l25 c25 k25
  have D25 : Def K mg "_law_values" sValues ["deck", "names"] := ⟨f25, _, F25, F25.binds (ps := ["deck", "names"]) (fun _ _ _ _ _ _ us hl => by refine us2 (P := fun us => bindArgs _ ⟨us, []⟩ = pure (List.zip _ us)) hl ?_; intros; rfl), PySem.W.mg_of X G a25⟩
  have F26 := fun_mk (st := sFull) l26 c26 k26
  have D26 : Def K mg "_law_full" sFull ["found", "names"] := ⟨f26, _, F26, F26.binds (ps := ["found", "names"]) (fun _ _ _ _ _ _ us hl => by refine us2 (P := fun us => bindArgs _ ⟨us, []⟩ = pure (List.zip _ us)) hl ?_; intros; rfl), PySem.W.mg_of X G a26⟩
  have F27 := fun_mk (st := sTold) l27 c27 k27
  have D27 : Def K mg "_law_told" sTold ["deck", "names", "one", "other", "alike"] := ⟨f27, _, F27, F27.binds (ps := ["deck", "names", "one", "other", "alike"]) (fun _ _ _ _ _ _ us hl => by refine us5 (P := fun us => bindArgs _ ⟨us, []⟩ = pure (List.zip _ us)) hl ?_; intros; rfl), PySem.W.mg_of X G a27⟩
  have F28 := fun_mk (st := sLaw) l28 c28 k28
  refine ⟨PySem.W.fnOf "law" "law" (defArgs sLaw) (defBody sLaw) (defScope sLaw) .none kV28 dc28 pm28 an28 cd28 ct28, fun s v => .of_eq rfl, fun base _ _ => ?_⟩
  have H0 : Has l.prog w K mg base 1 "how_many_below" ["word"] spHowF := hasHow (k := 0) G0   D0
  have H1 : Has l.prog w K mg base 1 "joined_numbers" ["word", "parts"] spJoinN := hasJoinN (k := 0) G0   D1
  have H2 : Has l.prog w K mg base 1 "gathered" ["rows"] spGath := hasGath (k := 0) G0   D2
  have H3 : Has l.prog w K mg base 2 "plus" ["one", "other"] spPlus := hasPlus (k := 1) G0 (H2.up (by decide))  D3
  have H4 : Has l.prog w K mg base 2 "minus" ["one", "other"] spMinus := hasMinus (k := 1) G0 (H2.up (by decide))  D4
  have H5 : Has l.prog w K mg base 2 "times" ["one", "other"] spTimes := hasTimes (k := 1) G0 (H2.up (by decide))  D5
  have H6 : Has l.prog w K mg base 2 "leaf_form" ["word"] spLeaf := hasLeaf (k := 1) G0 (H2.up (by decide)) (H0.up (by decide))  D6
  have H7 : Has l.prog w K mg base 3 "joined_forms" ["word", "parts"] spJoinF := hasJoinF (k := 2) G0 (H4.up (by decide)) (H3.up (by decide)) (H5.up (by decide))  D7
  have H8 : Has l.prog w K mg base 4 "folded" ["words", "joined"] (spFold l.prog w K mg base) := hasFold (k := 3) G0 (H0.up (by decide)) (by decide) D8
  have H9 : Has l.prog w K mg base 1 "value_of" ["name", "values"] spValOf := hasValOf (k := 0) G0   D9
  have H10 : Has l.prog w K mg base 2 "with_value" ["word", "values"] spWithN := hasWithN (k := 1) G0 (H9.up (by decide))  D10
  have H11 : Has l.prog w K mg base 5 "worth" ["words", "values"] (spWorth K) := hasWorth (k := 4) G0 (H8.up (by decide)) (H1.up (by decide)) (H10.up (by decide)) H1 D11
  have H12 : Has l.prog w K mg base 5 "form_of" ["words"] (spFormOf K) := hasFormOf (k := 4) G0 (H8.up (by decide)) (H7.up (by decide)) (H6.up (by decide)) H7 D12
  have H13 : Has l.prog w K mg base 2 "name_replaced" ["form", "name", "value"] spRepl := hasRepl (k := 1) G0 (H2.up (by decide))  D13
  have H14 : Has l.prog w K mg base 3 "keeping_value" ["form", "name", "most"] spKeepV := hasKeepV (k := 2) G0 (H13.up (by decide))  D14
  have H15 : Has l.prog w K mg base 1 "names_in" ["rows"] spNamesIn := hasNamesIn (k := 0) G0   D15
  have H16 : Has l.prog w K mg base 1 "most_times" ["rows"] spMost := hasMost (k := 0) G0   D16
  have H17 : Has l.prog w K mg base 4 "parting" ["one", "other"] spPart := hasPart (k := 3) G0 (H14.up (by decide)) (H4.up (by decide)) (H16.up (by decide)) (H13.up (by decide)) (H15.up (by decide))  D17
  have H18 : Has l.prog w K mg base 1 "_law_next" ["deck"] spNext := hasNext (k := 0) G0   D18
  have H19 : Has l.prog w K mg base 1 "_law_names" ["cell"] spNames4 := hasNames (k := 0) G0   D19
  have H20 : Has l.prog w K mg base 2 "_law_term" ["deck", "names", "most"] spTerm := hasTerm (k := 1) G0 (H18.up (by decide))  D20
  have H21 : Has l.prog w K mg base 1 "_law_behind" ["words", "place"] (spBehind K) := hasBeh (k := 0) G0   D21
  have H22 : Has l.prog w K mg base 2 "_law_turned" ["part", "cell", "names"] spTurned := hasTurned (k := 1) G0 (H21.up (by decide))  D22
  have H23 : Has l.prog w K mg base 3 "_law_made" ["deck", "names", "words"] spMade := hasMade (k := 2) G0 (H21.up (by decide)) (H18.up (by decide)) (H22.up (by decide))  D23
  have H24 : Has l.prog w K mg base 2 "_law_changed" ["deck", "names", "words"] spChanged := hasChanged (k := 1) G0 (H18.up (by decide))  D24
  have H25 : Has l.prog w K mg base 2 "_law_values" ["deck", "names"] spValues := hasValues (k := 1) G0 (H18.up (by decide))  D25
  have H26 : Has l.prog w K mg base 1 "_law_full" ["found", "names"] spFull := hasFull (k := 0) G0   D26
  have H27 : Has l.prog w K mg base 6 "_law_told" ["deck", "names", "one", "other", "alike"] spTold := hasTold (k := 5) G0 (H26.up (by decide)) (H25.up (by decide)) (H12.up (by decide)) (H17.up (by decide)) (H11.up (by decide))  D27
  exact hasLaw (k := 6) G0 (H24.up (by decide)) (H23.up (by decide)) (H19.up (by decide)) (H18.up (by decide)) (H20.up (by decide)) (H27.up (by decide))  F28
theorem walk {l : PySem.W.OpenLaw} {q : Program} {loose : List Str} {XP : (Str → Option Value) → Heap → Prop} {YP : World → Heap → Prop} {d : DefRec} {K : Params → PySem.W.Frag} (hn : l.most = some 63) (hdf : d.params.defaults = [])
    (hY : ∀ (w : World) (h : Heap), YP w h → (K w.params).In h)
    (F : ∀ (w : World) (mg : Str → Option Value) (fa : Addr) (h : Heap), (K w.params).In h → h.Ns mainGlobals mg → mg d.name = some (.ref fa) →
      ∃ fd : FuncData, (∀ (s : Shared) (u : Value), BindsTo s fd ⟨[u], []⟩ [("script", u)]) ∧ ∀ base : Heap, (K w.params).In base → base.Ns mainGlobals mg → FnOk l.prog w (K w.params) mg base CX0 7 fa fd ["script"] (spLaw (K w.params))) :
    PySem.W.WalkO q loose XP YP l.row.toRowW d [] (fun f vs => PySem.call f vs) :=
  L2.walk_of (n := 63) (k := 7) (x := "script") (CX := fun _ => CX0) (sp := fun w => spLaw (K w.params)) hn (by decide) hdf ⟨rfl, by decide, by decide⟩ hY F (fun _ _ a ns hl _ hS => ⟨a, ns, rfl, hS, hl, fun _ => rfl⟩) fun _ _ _ _ _ z => z
end K15
open PySem PySem.W PyProof.Rows
set_option maxRecDepth 100000 in
set_option maxHeartbeats 0 in
theorem PySem.Challenge.cw_pricecover_k15_whole_alike_or_parted_holds : PySem.Challenge.rw_pricecover_k15_whole_alike_or_parted.Holds := by
  w_on; o_law; k_head; (case hw => w_witness2)
  k_fill
  refine K15.walk (l := PySem.Challenge.rw_pricecover_k15_whole_alike_or_parted) rfl rfl (fun w h Y => PySem.W.kIn_of Y) ?F
  case F =>
    intro w mg fa h KX G hmg
    refine' K15.all_mk KX G hmg ?a0 ?l0 ?c0 ?k0 ?a1 ?l1 ?c1 ?k1 ?a2 ?l2 ?c2 ?k2 ?a3 ?l3 ?c3 ?k3 ?a4 ?l4 ?c4 ?k4 ?a5 ?l5 ?c5 ?k5 ?a6 ?l6 ?c6 ?k6 ?a7 ?l7 ?c7 ?k7 ?a8 ?l8 ?c8 ?k8 ?a9 ?l9 ?c9 ?k9 ?a10 ?l10 ?c10 ?k10 ?a11 ?l11 ?c11 ?k11 ?a12 ?l12 ?c12 ?k12 ?a13 ?l13 ?c13 ?k13 ?a14 ?l14 ?c14 ?k14 ?a15 ?l15 ?c15 ?k15 ?a16 ?l16 ?c16 ?k16 ?a17 ?l17 ?c17 ?k17 ?a18 ?l18 ?c18 ?k18 ?a19 ?l19 ?c19 ?k19 ?a20 ?l20 ?c20 ?k20 ?a21 ?l21 ?c21 ?k21 ?a22 ?l22 ?c22 ?k22 ?a23 ?l23 ?c23 ?k23 ?a24 ?l24 ?c24 ?k24 ?a25 ?l25 ?c25 ?k25 ?a26 ?l26 ?c26 ?k26 ?a27 ?l27 ?c27 ?k27 ?a28 ?l28 ?c28 ?k28 ?z0 ?z1 ?z2 ?z3 ?z4 ?z5 ?z6 ?z7 ?z8 ?z9 ?z10 ?z11 ?z12 ?y0 ?x0 ?hh0x0 ?hh0x1 ?hh0x2 ?hh0x3 ?ha0
    (case a0 => k_is)
    (case l0 => k_is)
    (case c0 => k_is)
    (case k0 => k_is)
    (case a1 => k_is)
    (case l1 => k_is)
    (case c1 => k_is)
    (case k1 => k_is)
    (case a2 => k_is)
    (case l2 => k_is)
    (case c2 => k_is)
    (case k2 => k_is)
    (case a3 => k_is)
    (case l3 => k_is)
    (case c3 => k_is)
    (case k3 => k_is)
    (case a4 => k_is)
    (case l4 => k_is)
    (case c4 => k_is)
    (case k4 => k_is)
    (case a5 => k_is)
    (case l5 => k_is)
    (case c5 => k_is)
    (case k5 => k_is)
    (case a6 => k_is)
    (case l6 => k_is)
    (case c6 => k_is)
    (case k6 => k_is)
    (case a7 => k_is)
    (case l7 => k_is)
    (case c7 => k_is)
    (case k7 => k_is)
    (case a8 => k_is)
    (case l8 => k_is)
    (case c8 => k_is)
    (case k8 => k_is)
    (case a9 => k_is)
    (case l9 => k_is)
    (case c9 => k_is)
    (case k9 => k_is)
    (case a10 => k_is)
    (case l10 => k_is)
    (case c10 => k_is)
    (case k10 => k_is)
    (case a11 => k_is)
    (case l11 => k_is)
    (case c11 => k_is)
    (case k11 => k_is)
    (case a12 => k_is)
    (case l12 => k_is)
    (case c12 => k_is)
    (case k12 => k_is)
    (case a13 => k_is)
    (case l13 => k_is)
    (case c13 => k_is)
    (case k13 => k_is)
    (case a14 => k_is)
    (case l14 => k_is)
    (case c14 => k_is)
    (case k14 => k_is)
    (case a15 => k_is)
    (case l15 => k_is)
    (case c15 => k_is)
    (case k15 => k_is)
    (case a16 => k_is)
    (case l16 => k_is)
    (case c16 => k_is)
    (case k16 => k_is)
    (case a17 => k_is)
    (case l17 => k_is)
    (case c17 => k_is)
    (case k17 => k_is)
    (case a18 => k_is)
    (case l18 => k_is)
    (case c18 => k_is)
    (case k18 => k_is)
    (case a19 => k_is)
    (case l19 => k_is)
    (case c19 => k_is)
    (case k19 => k_is)
    (case a20 => k_is)
    (case l20 => k_is)
    (case c20 => k_is)
    (case k20 => k_is)
    (case a21 => k_is)
    (case l21 => k_is)
    (case c21 => k_is)
    (case k21 => k_is)
    (case a22 => k_is)
    (case l22 => k_is)
    (case c22 => k_is)
    (case k22 => k_is)
    (case a23 => k_is)
    (case l23 => k_is)
    (case c23 => k_is)
    (case k23 => k_is)
    (case a24 => k_is)
    (case l24 => k_is)
    (case c24 => k_is)
    (case k24 => k_is)
    (case a25 => k_is)
    (case l25 => k_is)
    (case c25 => k_is)
    (case k25 => k_is)
    (case a26 => k_is)
    (case l26 => k_is)
    (case c26 => k_is)
    (case k26 => k_is)
    (case a27 => k_is)
    (case l27 => k_is)
    (case c27 => k_is)
    (case k27 => k_is)
    (case a28 => k_is)
    (case l28 => k_is)
    (case c28 => k_is)
    (case k28 => k_is)
    (case z0 => k_is)
    (case z1 => k_is)
    (case z2 => k_is)
    (case z3 => k_is)
    (case z4 => k_is)
    (case z5 => k_is)
    (case z6 => k_is)
    (case z7 => k_is)
    (case z8 => k_is)
    (case z9 => k_is)
    (case z10 => k_is)
    (case z11 => k_is)
    (case z12 => k_is)
    (case y0 => k_is)
    (case x0 => k_is)
    (case hh0x0 => first | rfl | k_is)
    (case hh0x1 => first | rfl | k_is)
    (case hh0x2 => first | rfl | k_is)
    (case hh0x3 => first | rfl | k_is)
    (case ha0 => first | rfl | decide | k_is)
#print axioms PySem.Challenge.cw_pricecover_k15_whole_alike_or_parted_holds
