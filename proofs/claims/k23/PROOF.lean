import PyProof.Rows.All
import Wide.All
import OpenK.AllK
import Wide.FinOn
import Lean
import PyProof.EqAt
import PyProof.EqKinds
import PyProof.TupleCall
import KE.KSortTup
import PyProof.EnumMake
import PyProof.EnumStmt
import PyProof.ListRange
import KE.KDictList
import PyProof.DictItems
import PyProof.DictIter
import PyProof.Rows.TupDisplay
import KE.KRevIter
import PyProof.ZipIter
import PyProof.DictUpdate
import PyProof.TupleIter
import PyProof.AttrMiss
import PyProof.ListNew
import PyProof.FactsAll.dict_1
import KE.KDictOf
import PyProof.Rows.ZipGen
import PyProof.AttrMissHeap
import PyProof.Rows.SetFrom
import PyProof.MeetsSeq
import PyProof.Rows.SeqCalls
import PyProof.Rows.TupIter
import PySem.Challenge.RW_pricecover_k23_whole_terms_run
set_option Elab.async false
set_option linter.all false
set_option maxRecDepth 100000
set_option maxHeartbeats 4000000
namespace L2
open PySem PySem.Spec PyProof.Rows
abbrev Key := Sum Int Str
def keyIs : Key → Value → Bool
  | .inl k, v => Value.isInt k v
  | .inr x, v => Value.isStrOf x v
def keyH (w : World) : Key → Int
  | .inl k => hashInt k
  | .inr x => hashStr w x
theorem keyIs_shape : ∀ {k : Key} {v : Value}, keyIs k v = true → (∃ i t, k = Sum.inl i ∧ v = Value.int i t) ∨ (∃ x t, k = Sum.inr x ∧ v = Value.str x t)
  | .inl i, v, h => by
    obtain ⟨t, e⟩ := Value.isInt_shape (k := i) (v := v) h
    exact .inl ⟨i, t, rfl, e⟩
  | .inr x, v, h => by
    obtain ⟨t, e⟩ := Value.isStrOf_shape (x := x) (v := v) h
    exact .inr ⟨x, t, rfl, e⟩
theorem keyIs_int (i : Int) (t : Tok) : keyIs (.inl i) (.int i t) = true := by simp [keyIs, Value.isInt]
theorem keyIs_str (x : Str) (t : Tok) : keyIs (.inr x) (.str x t) = true := by simp [keyIs, Value.isStrOf]
theorem key_ll (a b : Int) : decide ((Sum.inl a : Key) = Sum.inl b) = (a == b) := by
  by_cases e : a = b
  · subst e; simp
  · have h : ¬ (Sum.inl a : Key) = Sum.inl b := fun q => e (Sum.inl.inj q)
    rw [decide_eq_false h]
    exact (beq_eq_false_iff_ne.mpr e).symm
theorem key_rr (a b : Str) : decide ((Sum.inr a : Key) = Sum.inr b) = decide (a = b) := by
  by_cases e : a = b
  · subst e; simp
  · have h : ¬ (Sum.inr a : Key) = Sum.inr b := fun q => e (Sum.inr.inj q)
    rw [decide_eq_false h, decide_eq_false e]
theorem key_lr (a : Int) (b : Str) : decide ((Sum.inl a : Key) = Sum.inr b) = false := decide_eq_false (fun q => nomatch q)
theorem key_rl (a : Str) (b : Int) : decide ((Sum.inr a : Key) = Sum.inl b) = false := decide_eq_false (fun q => nomatch q)
def mixKind (prog : Program) (w : World) : PySem.KeyKind prog w Key where
  is := keyIs
  hash := keyH w
  inj := fun v a b ha hb => by
    rcases keyIs_shape ha with ⟨i, t, rfl, rfl⟩ | ⟨x, t, rfl, rfl⟩
    · rcases keyIs_shape hb with ⟨j, u, rfl, e⟩ | ⟨y, u, rfl, e⟩
      · injection e with e1 _; rw [e1]
      · exact nomatch e
    · rcases keyIs_shape hb with ⟨j, u, rfl, e⟩ | ⟨y, u, rfl, e⟩
      · exact nomatch e
      · injection e with e1 _; rw [e1]
  byValue := fun k v h => by
    rcases keyIs_shape h with ⟨i, t, rfl, rfl⟩ | ⟨x, t, rfl, rfl⟩ <;> rfl
  pyHash := fun hv h => by
    rcases keyIs_shape hv with ⟨i, t, rfl, rfl⟩ | ⟨x, t, rfl, rfl⟩
    · exact wpAny_pyHash_int h
    · exact wpAny_pyHash_str h
  eqBool := fun hu hv h => by
    rcases keyIs_shape hu with ⟨i, t, rfl, rfl⟩ | ⟨x, t, rfl, rfl⟩
    · rcases keyIs_shape hv with ⟨j, u, rfl, rfl⟩ | ⟨y, u, rfl, rfl⟩
      · rw [key_ll] at h; exact wpAny_eqBool_int h
      · rw [key_lr] at h; exact SeqAt.EqAt.int_str i t y u _ _ _ _ h
    · rcases keyIs_shape hv with ⟨j, u, rfl, rfl⟩ | ⟨y, u, rfl, rfl⟩
      · rw [key_rl] at h; exact SeqAt.EqAt.str_int x t j u _ _ _ _ h
      · rw [key_rr] at h; exact wpAny_eqBool_str h
  «strs» := fun k x t v h => by
    rcases keyIs_shape h with ⟨i, u, rfl, e⟩ | ⟨y, u, rfl, e⟩
    · exact nomatch e
    · injection e with e1 _
      subst e1
      cases v <;> rfl
theorem mixKind_int (prog : Program) (w : World) (i : Int) (t : Tok) : (mixKind prog w).is (.inl i) (.int i t) = true := keyIs_int i t
theorem mixKind_str (prog : Program) (w : World) (x : Str) (t : Tok) : (mixKind prog w).is (.inr x) (.str x t) = true := keyIs_str x t
end L2
namespace L2
open PySem PySem.Spec PyProof.Rows
inductive V where
  | non | bl (b : Bool) | int (i : Int) | str (x : Str) | byt (b : Array UInt8) | flt (b : UInt64) | ref (a : Addr) | ty (n : String)
  deriving DecidableEq
def RelV : V → Value → Prop
  | .non, u => u = Value.none
  | .bl b, u => u = Value.bool b
  | .int i, u => ∃ t, u = Value.int i t
  | .str x, u => ∃ t, u = Value.str x t
  | .byt b, u => ∃ t, u = Value.bytes b t
  | .flt b, u => ∃ t, u = Value.float b t
  | .ref a, u => u = Value.ref a
  | .ty n, u => u = Value.type n
abbrev Vals : List V → List Value → Prop := Paired RelV
theorem Vals.length {xs : List V} {us : List Value} (r : Vals xs us) : xs.length = us.length := Paired.length r
theorem Vals.get : ∀ {xs : List V} {us : List Value} {i : Nat} {x : V}, Vals xs us → xs[i]? = some x → ∃ u, us[i]? = some u ∧ RelV x u
  | _, _, _, _, .nil, e => by simp at e
  | _, _, 0, _, .cons r _, e => by simp at e; subst e; exact ⟨_, rfl, r⟩
  | _, _, i + 1, x, .cons _ t, e => by
    obtain ⟨u, h1, h2⟩ := Vals.get (i := i) (x := x) t (by simpa using e)
    exact ⟨u, by simpa using h1, h2⟩
theorem Vals.set {x : V} {u : Value} (r : RelV x u) : ∀ {xs : List V} {us : List Value} (i : Nat), Vals xs us → Vals (xs.set i x) (us.set i u)
  | _, _, _, .nil => .nil
  | _, _, 0, .cons _ t => .cons r t
  | _, _, i + 1, .cons q t => .cons q (Vals.set r i t)
theorem Vals.append : ∀ {xs ys : List V} {us ws : List Value}, Vals xs us → Vals ys ws → Vals (xs ++ ys) (us ++ ws)
  | _, _, _, _, .nil, s => s
  | _, _, _, _, .cons r t, s => .cons r (Vals.append t s)
theorem Vals.take : ∀ {xs : List V} {us : List Value} (n : Nat), Vals xs us → Vals (xs.take n) (us.take n)
  | _, _, 0, _ => .nil
  | _, _, _ + 1, .nil => .nil
  | _, _, n + 1, .cons r t => .cons r (Vals.take n t)
theorem Vals.drop : ∀ {xs : List V} {us : List Value} (n : Nat), Vals xs us → Vals (xs.drop n) (us.drop n)
  | _, _, 0, r => r
  | _, _, _ + 1, .nil => .nil
  | _, _, n + 1, .cons _ t => Vals.drop n t
def RelO : Option V → Option Value → Prop
  | some v, some u => RelV v u
  | none, none => True
  | _, _ => False
def KV {κ : Type} : List (κ × V) → List (κ × Value) → Prop := Paired fun (p : κ × V) (q : κ × Value) => p.1 = q.1 ∧ RelV p.2 q.2
def kV : Key → V
  | .inl i => .int i
  | .inr x => .str x
inductive HO where
    | lst (xs : List V)
    | tup (xs : List V)
    | dK (kvs : List (Key × V)) | dT (kvs : List (List Key × V))
    | set (S : Int → Bool) (n : Nat)
    | ins (C dx : Addr) (fs : List (Str × V))
    | own (x : Addr)
    | xd (fs : List (Str × V))
    | met (f x : Addr)
    | rng (lo hi : Int)
    | frz (o : Obj) (u : HO)
    | tbl (ps : Array Value)
    | ext (φ : Heap → Prop)
abbrev Hp := Addr → Option HO
def upd (H : Hp) (a : Addr) (o : HO) : Hp := fun b => if b = a then some o else H b
theorem upd_same {H : Hp} {a : Addr} {o : HO} : upd H a o a = some o := by unfold upd; rw [if_pos rfl]
theorem upd_ne {H : Hp} {a b : Addr} {o : HO} (h : b ≠ a) : upd H a o b = H b := by unfold upd; rw [if_neg h]
theorem upd_upd {H : Hp} {a : Addr} {o u : HO} : upd (upd H a o) a u = upd H a u := by
  funext b; unfold upd; split <;> rfl
theorem ne_of {H : Hp} {a b : Addr} {o u : HO} (h : H a = some o) (h' : H b = some u) (d : o ≠ u) : a ≠ b := by
  intro e; subst e; rw [h] at h'; exact d (Option.some.inj h')
theorem ne_of_none {H : Hp} {a b : Addr} {o : HO} (h : H a = some o) (h' : H b = none) : a ≠ b := by
  intro e; subst e; rw [h] at h'; cases h'
section
variable (P : Program) (w : World)
def IsTupD (h : Heap) (a : Addr) (its : Array Value) : Prop := ∃ o, h.get? a = some o ∧ o.cls = .type "tuple" ∧ ∃ n, o.data = .seq its n ∧ o.dict = none
theorem IsTupD.tup {h : Heap} {a : Addr} {its : Array Value} (x : IsTupD h a its) : IsTup h a its := let ⟨o, h1, h2, n, h3, _⟩ := x; ⟨o, h1, h2, n, h3⟩
def ObjOk (H : Hp) (h : Heap) (a : Addr) : HO → Prop
  | .lst xs => xs.length ≤ sizeLine ∧ ∃ (its : List Value) (n : Nat), Vals xs its ∧ h.get? a = some { cls := .type "list", data := .seq its.toArray n }
  | .tup xs => xs.length ≤ sizeLine ∧ ∃ its : List Value, Vals xs its ∧ IsTupD h a its.toArray
  | .dK kvs => kvs.length ≤ sizeLine ∧ (a == sysModules) = false ∧ ∃ vs, KV kvs vs ∧ h.DictOf (mixKind P w) a vs
  | .dT kvs => kvs.length ≤ sizeLine ∧ (a == sysModules) = false ∧ ∃ xs : List (List Key × Addr × Value),
      Paired (fun (p : List Key × V) (q : List Key × Addr × Value) => p.1 = q.1 ∧ H q.2.1 = some (.tup (p.1.map kV)) ∧ RelV p.2 q.2.2) kvs xs ∧
      ∃ o es ep, h.get? a = some o ∧ o.ExactDict ∧ o.data = .dict es ep ∧ es.toList = xs.map (entryOfKey (tupleKind (mixKind P w))) ∧ (xs.map (·.1)).Nodup
  | .set S n => h.SetOf (intKind P w) a S n
  | .ins C dx fs => H dx = some (.own a) ∧ fs.length ≤ 1000 ∧ dx ≠ a ∧ h.get? a = some (PySem.W.instObj C dx) ∧
      ∃ mA, h.Ns1 dx mA ∧ (∀ f, RelO (fs.lookup f) (mA f)) ∧ PySem.Within mA (fs.map (·.1))
  | .own _ => ∃ o, h.get? a = some o
  | .xd fs => ∃ mA, h.Ns1 a mA ∧ ∀ f, RelO (fs.lookup f) (mA f)
  | .rng lo hi => ∃ t u v, h.get? a = some { cls := .type "range", data := .fields #[.int lo t, .int hi u, .int 1 v] }
  | .frz o u => h.get? a = some o ∧ ObjOk H h a u
  | .tbl ps => h.get? a = some { cls := .none, data := .fields ps }
  | .met f x => h.get? a = some (PySem.W.methodObj (.ref f) (.ref x))
  | .ext φ => φ h ∧ (∃ o, h.get? a = some o) ∧ ∀ h1 h2 : Heap, φ h1 → (∀ o, h1.get? a = some o → h2.get? a = some o) → φ h2
def HOk (H : Hp) (h : Heap) : Prop := ∀ a o, H a = some o → ObjOk P w H h a o
end
section
variable {P : Program} {w : World} {H H' : Hp} {h h' : Heap} {a : Addr} {o : HO}
theorem ObjOk.lt (x : ObjOk P w H h a o) : a < h.objs.size := by
  cases o with
  | lst xs => obtain ⟨_, _, _, _, e⟩ := x; exact Heap.lt_size e
  | tup xs => obtain ⟨_, _, _, p⟩ := x; exact p.tup.lt
  | dK kvs => obtain ⟨_, _, _, _, o, _, _, e, _⟩ := x; exact Heap.lt_size e
  | dT kvs => obtain ⟨_, _, _, _, o, _, _, e, _⟩ := x; exact Heap.lt_size e
  | set S n => obtain ⟨o, _, _, _, e, _⟩ := x; exact Heap.lt_size e
  | ins C dx fs => obtain ⟨_, _, _, e, _⟩ := x; exact Heap.lt_size e
  | own y => obtain ⟨_, e⟩ := x; exact Heap.lt_size e
  | xd fs => obtain ⟨_, ⟨_, _, _, e, _⟩, _⟩ := x; exact Heap.lt_size e
  | rng lo hi => obtain ⟨_, _, _, e⟩ := x; exact Heap.lt_size e
  | frz ob u => obtain ⟨e, _⟩ := x; exact Heap.lt_size e
  | tbl ps => exact Heap.lt_size (show h.get? a = some _ from x)
  | met f y => exact Heap.lt_size (show h.get? a = some _ from x)
  | ext φ => obtain ⟨_, ⟨_, e⟩, _⟩ := x; exact Heap.lt_size e
theorem Paired.mapP {α β : Type} {F G : α → β → Prop} : ∀ {l₁ : List α} {l₂ : List β}, Paired F l₁ l₂ → (∀ a b, F a b → G a b) → Paired G l₁ l₂
  | _, _, .nil, _ => .nil
  | _, _, .cons r t, f => .cons (f _ _ r) (Paired.mapP t f)
theorem ObjOk.stay (x : ObjOk P w H h a o) (k : ∀ b u, (b = a ∨ H b = some (.own a)) → h.get? b = some u → h'.get? b = some u)
    (ho : ∀ b, H b = some (.own a) → H' b = some (.own a)) (ht : ∀ b xs, H b = some (.tup xs) → H' b = some (.tup xs)) : ObjOk P w H' h' a o := by
  induction o with
  | lst xs => obtain ⟨z, its, n, r, e⟩ := x; exact ⟨z, its, n, r, k _ _ (.inl rfl) e⟩
  | tup xs => obtain ⟨z, its, r, ob, e, c⟩ := x; exact ⟨z, its, r, ob, k _ _ (.inl rfl) e, c⟩
  | dK kvs => obtain ⟨z, y, vs, r, ob, es, ep, e, c⟩ := x; exact ⟨z, y, vs, r, ob, es, ep, k _ _ (.inl rfl) e, c⟩
  | dT kvs =>
    obtain ⟨z, y, xs, r, ob, es, ep, e, c⟩ := x
    exact ⟨z, y, xs, Paired.mapP r fun p q z => ⟨z.1, ht _ _ z.2.1, z.2.2⟩, ob, es, ep, k _ _ (.inl rfl) e, c⟩
  | set S n => obtain ⟨ob, es, ep, t, e, c⟩ := x; exact ⟨ob, es, ep, t, k _ _ (.inl rfl) e, c⟩
  | ins C dx fs =>
    obtain ⟨d, z, ne, e, mA, ⟨od, es, ep, e2, c⟩, r⟩ := x
    exact ⟨ho _ d, z, ne, k _ _ (.inl rfl) e, mA, ⟨od, es, ep, k _ _ (.inr d) e2, c⟩, r⟩
  | own y => obtain ⟨ob, e⟩ := x; exact ⟨ob, k _ _ (.inl rfl) e⟩
  | xd fs => obtain ⟨mA, ⟨od, es, ep, e, c⟩, r⟩ := x; exact ⟨mA, ⟨od, es, ep, k _ _ (.inl rfl) e, c⟩, r⟩
  | rng lo hi => obtain ⟨t, u, v, e⟩ := x; exact ⟨t, u, v, k _ _ (.inl rfl) e⟩
  | frz ob u ih => obtain ⟨e, q⟩ := x; exact ⟨k _ _ (.inl rfl) e, ih q⟩
  | tbl ps =>
    have e : h.get? a = some { cls := .none, data := .fields ps } := x
    show h'.get? a = some { cls := .none, data := .fields ps }
    exact k a _ (.inl rfl) e
  | met f y =>
    have e : h.get? a = some (PySem.W.methodObj (.ref f) (.ref y)) := x
    show h'.get? a = some (PySem.W.methodObj (.ref f) (.ref y))
    exact k a _ (.inl rfl) e
  | ext φ => obtain ⟨p, ⟨o, e⟩, st⟩ := x; exact ⟨st _ _ p fun o q => k _ _ (.inl rfl) q, ⟨o, k _ _ (.inl rfl) e⟩, st⟩
theorem HOk.lt (x : HOk P w H h) (e : H a = some o) : a < h.objs.size := (x a o e).lt
theorem tup_rd {xs : List V} (x : HOk P w H h) (e : H a = some (.tup xs)) : xs.length ≤ sizeLine ∧ ∃ its : List Value, Vals xs its ∧ IsTup h a its.toArray :=
  let ⟨z, its, r, p⟩ := x a _ e
  ⟨z, its, r, p.tup⟩
theorem HOk.fresh (x : HOk P w H h) (e : h.objs.size ≤ a) : H a = none := by
  cases q : H a with
  | none => rfl
  | some u => exact absurd (Nat.lt_of_lt_of_le (x.lt q) e) (Nat.lt_irrefl _)
theorem HOk.kept (x : HOk P w H h) (k : ∀ b u, h.get? b = some u → h'.get? b = some u) : HOk P w H h' := fun a o e =>
  (x a o e).stay (fun b u _ q => k b u q) (fun _ q => q) fun _ _ q => q
theorem HOk.laid (x : HOk P w H h) (k : ∀ b u, h.get? b = some u → h'.get? b = some u) (hp : h.objs.size ≤ a) (new : ObjOk P w (upd H a o) h' a o) : HOk P w (upd H a o) h' := fun b u e => by
  have hn := x.fresh hp
  by_cases hb : b = a
  · subst hb; rw [upd_same] at e; cases e; exact new
  · rw [upd_ne hb] at e
    exact (x b u e).stay (fun c v _ q => k c v q) (fun c q => by rw [upd_ne (ne_of_none q hn)]; exact q) fun c xs q => by rw [upd_ne (ne_of_none q hn)]; exact q
end
def Rd (H : Hp) (a : Addr) (u : HO) : Prop := H a = some u ∨ ∃ o, H a = some (.frz o u)
theorem Rd.of {H : Hp} {a : Addr} {u : HO} (h : H a = some u) : Rd H a u := .inl h
theorem Rd.ok {P : Program} {w : World} {H : Hp} {h : Heap} {a : Addr} {u : HO} (r : Rd H a u) (x : HOk P w H h) : ObjOk P w H h a u := by
  rcases r with r | ⟨o, r⟩
  · exact x a u r
  · obtain ⟨_, q⟩ := x a _ r
    exact q
def Mut : Option HO → Prop
  | some (.lst _) => True
  | some (.dK _) => True
  | some (.dT _) => True
  | some (.set _ _) => True
  | some (.ins _ _ _) => True
  | some (.ext _) => True
  | _ => False
section
variable {P : Program} {w : World} {H : Hp} {h h' : Heap} {x e : Addr} {o' : HO}
theorem HOk.write (ok : HOk P w H h) (mu : Mut (H x)) (he : e = x ∨ H e = some (.own x)) (k : ∀ b u, b ≠ e → h.get? b = some u → h'.get? b = some u) (heo : ∃ u, h'.get? e = some u)
    (new : ObjOk P w (upd H x o') h' x o') : HOk P w (upd H x o') h' := fun b u q => by
  have nown : ∀ c y, H c = some (.own y) → c ≠ x := fun c y r z => by subst z; rw [r] at mu; exact mu
  have ntup : ∀ c xs, H c = some (.tup xs) → c ≠ x := fun c xs r z => by subst z; rw [r] at mu; exact mu
  by_cases hb : b = x
  · subst hb; rw [upd_same] at q; cases q; exact new
  · rw [upd_ne hb] at q
    by_cases hbe : b = e
    · have q' : H b = some (.own x) := by
        rcases he with z | z
        · exact absurd (hbe.trans z) hb
        · rw [hbe]; exact z
      rw [q] at q'; cases q'
      obtain ⟨v, hv⟩ := heo
      exact ⟨v, by rw [hbe]; exact hv⟩
    · refine (ok b u q).stay (fun c v hc r => k c v ?_ r) (fun c r => by rw [upd_ne (nown c b r)]; exact r) fun c xs r => by rw [upd_ne (ntup c xs r)]; exact r
      rcases hc with rfl | hc
      · exact hbe
      · rintro rfl
        rcases he with z | z
        · exact nown c b hc z
        · rw [hc] at z; cases z; exact hb rfl
end
structure Un (fs ex : List Addr) (H H' : Hp) (h h' : Heap) : Prop where
  keep : ∀ b o, h.get? b = some o → H b = none → b ∉ fs → b ∉ ex → h'.get? b = some o
  slot : ∀ b o, h.get? b = some o → H b = none → b ∈ fs → b ∉ ex → ∃ sl, h'.get? b = some { o with slots := sl }
  free : ∀ b o, h.get? b = some o → H b = none → b ∉ ex → H' b = none
  there : ∀ b o, h.get? b = some o → b ∉ ex → ∃ o', h'.get? b = some o'
  tups : ∀ b xs, H b = some (.tup xs) → H' b = some (.tup xs)
  frzs : ∀ b o u, H b = some (.frz o u) → H' b = some (.frz o u)
  tbls : ∀ b ps, H b = some (.tbl ps) → ∃ more, H' b = some (.tbl (ps ++ more))
section
variable {fs fs' ex ex' : List Addr} {H H1 H2 : Hp} {h h1 h2 h' : Heap} {a x e : Addr} {o : HO}
theorem Un.any (u : Un fs ex H H1 h h1) {b : Addr} {ob : Obj} (q : h.get? b = some ob) (n : H b = none) (hx : b ∉ ex) : ∃ sl, h1.get? b = some { ob with slots := sl } := by
  by_cases hb : b ∈ fs
  · exact u.slot b ob q n hb hx
  · exact ⟨ob.slots, u.keep b ob q n hb hx⟩
theorem Un.trans (a : Un fs ex H H1 h h1) (b : Un fs ex H1 H2 h1 h2) : Un fs ex H H2 h h2 where
  keep := fun c ob q n hc hx => b.keep c ob (a.keep c ob q n hc hx) (a.free c ob q n hx) hc hx
  slot := fun c ob q n hc hx => by
    obtain ⟨sl, e1⟩ := a.slot c ob q n hc hx
    obtain ⟨sl', e2⟩ := b.slot c _ e1 (a.free c ob q n hx) hc hx
    exact ⟨sl', e2⟩
  free := fun c ob q n hx => by
    obtain ⟨o', e1⟩ := a.there c ob q hx
    exact b.free c o' e1 (a.free c ob q n hx) hx
  there := fun c ob q hx => by
    obtain ⟨o', e1⟩ := a.there c ob q hx
    exact b.there c o' e1 hx
  tups := fun c xs q => b.tups c xs (a.tups c xs q)
  frzs := fun c ob xs q => b.frzs c ob xs (a.frzs c ob xs q)
  tbls := fun c ps q => by
    obtain ⟨m1, e1⟩ := a.tbls c ps q
    obtain ⟨m2, e2⟩ := b.tbls c _ e1
    exact ⟨m1 ++ m2, by rw [e2, Array.append_assoc]⟩
theorem Un.kept (k : ∀ b u, h.get? b = some u → h'.get? b = some u) : Un fs ex H H h h' :=
  ⟨fun b ob q _ _ _ => k b ob q, fun b ob q _ _ _ => ⟨ob.slots, k b ob q⟩, fun _ _ _ n _ => n, fun b ob q _ => ⟨ob, k b ob q⟩, fun _ _ q => q, fun _ _ _ q => q, fun _ ps q => ⟨#[], by rw [q]; simp⟩⟩
theorem Un.refl : Un fs ex H H h h := Un.kept fun _ _ q => q
theorem Un.laid (k : ∀ b u, h.get? b = some u → h'.get? b = some u) (hp : h.objs.size ≤ a) (hn : H a = none) : Un fs ex H (upd H a o) h h' where
  keep := fun b u q _ _ _ => k b u q
  slot := fun b u q _ _ _ => ⟨u.slots, k b u q⟩
  free := fun b u q n _ => by rw [upd_ne (Nat.ne_of_lt (Nat.lt_of_lt_of_le (Heap.lt_size q) hp))]; exact n
  there := fun b u q _ => ⟨u, k b u q⟩
  tups := fun b xs q => by rw [upd_ne (ne_of_none q hn)]; exact q
  frzs := fun b u xs q => by rw [upd_ne (ne_of_none q hn)]; exact q
  tbls := fun b ps q => ⟨#[], by rw [upd_ne (ne_of_none q hn), q]; simp⟩
theorem Un.write (mu : Mut (H x)) (he : e = x ∨ H e = some (.own x)) (k : ∀ b u, b ≠ e → h.get? b = some u → h'.get? b = some u) (heo : ∃ u, h'.get? e = some u) : Un fs ex H (upd H x o) h h' := by
  have hx : ∀ b, H b = none → b ≠ x := fun b n z => by subst z; rw [n] at mu; exact mu
  have hb : ∀ b, H b = none → b ≠ e := fun b n z => by
    subst z
    rcases he with r | r
    · exact hx b n r
    · rw [n] at r; cases r
  have hm : ∀ b u, H b = some u → ¬ Mut (some u) → b ≠ x := fun b u q nm z => by subst z; rw [q] at mu; exact nm mu
  refine ⟨fun b u q n _ _ => k b u (hb b n) q, fun b u q n _ _ => ⟨u.slots, k b u (hb b n) q⟩, fun b u q n _ => by rw [upd_ne (hx b n)]; exact n, fun b u q _ => ?_,
    fun b xs q => by rw [upd_ne (hm b _ q fun z => z)]; exact q, fun b u xs q => by rw [upd_ne (hm b _ q fun z => z)]; exact q, fun b ps q => ⟨#[], by rw [upd_ne (hm b _ q fun z => z), q]; simp⟩⟩
  by_cases hbe : b = e
  · subst hbe; exact heo
  · exact ⟨u, k b u hbe q⟩
theorem Un.mono (u : Un fs ex H H1 h h1) (hs : ∀ b ∈ fs, b ∈ fs') (hx : ∀ b ∈ ex, b ∈ ex') : Un fs' ex' H H1 h h1 :=
  ⟨fun b ob q n hb he => u.keep b ob q n (fun z => hb (hs b z)) fun z => he (hx b z), fun _ _ q n _ he => u.any q n fun z => he (hx _ z), fun b ob q n he => u.free b ob q n fun z => he (hx b z), fun b ob q he => u.there b ob q fun z => he (hx b z), u.tups, u.frzs, u.tbls⟩
end
def trk (h : Heap) (H : Hp) : List Addr := (List.range h.objs.size).filter fun a => (H a).isSome
def hidT (h : Heap) (H : Hp) : Heap := PySem.W.hideAll h (trk h H)
theorem hidT_size (h : Heap) (H : Hp) : (hidT h H).objs.size = h.objs.size := PySem.W.hideAll_size _ _
theorem hidT_get {h : Heap} {H : Hp} {b : Addr} {o : Obj} (e : h.get? b = some o) (n : H b = none) : (hidT h H).get? b = some o :=
  PySem.W.hideAll_get _ e fun hm => by
    have q : (H b).isSome = true := (List.mem_filter.mp hm).2
    rw [n] at q; simp at q
theorem of_hidT {h : Heap} {H : Hp} {b : Addr} {o : Obj} (e : (hidT h H).get? b = some o) : h.get? b = some o ∧ H b = none := by
  have e' : h.get? b = some o := PySem.W.of_hideAll (trk h H) e
  refine ⟨e', ?_⟩
  cases q : H b with
  | none => rfl
  | some x =>
    have hm : b ∈ trk h H := List.mem_filter.mpr ⟨List.mem_range.mpr (Heap.lt_size e'), by simp [q]⟩
    have z : (hidT h H).get? b = none := PySem.W.hideAll_none (trk h H) hm
    rw [z] at e; cases e
def allNews (g h : Heap) (L : Addr) : List (Addr × Obj) := (List.range h.objs.size).filterMap fun a => if a = L ∨ (g.get? a).isSome = true then none else (h.get? a).map fun o => (a, o)
def rest (g h : Heap) (L d : Addr) : List (Addr × Obj) := (allNews g h L).filter fun p => decide (p.1 ≠ d)
end L2
namespace L2
open PySem PySem.Spec PyProof.Rows
structure Mod (K : PySem.W.Frag) (mg : Str → Option Value) (base : Heap) : Prop where
  kin : K.In base
  glob : base.Ns mainGlobals mg
  blt : ∃ mb, base.Ns builtinsNs mb ∧ ∀ x : Str, x ≠ "__name__" → mb x = bootBuiltins x
  nolimit : base.NoLimit
structure Cx where
  prog : Program
  w : World
  K : PySem.W.Frag
  mg : Str → Option Value
  base : Heap
  A : Around
  N : List Str
  s₀ : Shared
  H₀ : Hp
  env : Env
  outer : List Env
  stack : List Env
  ex : List Addr
  fn : Str → Bool
  calm : Bool
  pn : List (Addr × Obj)
  xe : Value → Shared → Prop
def frs (l : List Env) : List Addr := l.filterMap (·.frame)
abbrev Cx.fs (X : Cx) : List Addr := frs X.outer
def Vis (sc : Scope) (x : Str) : Prop := sc.names.lookup x = some .local ∨ sc.names.lookup x = some .cell ∨ sc.names.lookup x = some .free
def Loc (sc : Scope) (x : Str) : Prop := sc.names.lookup x = some .local ∨ sc.names.lookup x = some .cell
def Look (env : Env) (h : Heap) (m : Str → Option Value) (x : Str) (u : Value) : Prop :=
  (env.kindOf x = some .local ∧ m x = some u) ∨ ((env.kindOf x = some .cell ∨ env.kindOf x = some .free) ∧ ∃ c, env.cells.lookup x = some c ∧ h.IsCell c (some u))
structure Cx.Ok (X : Cx) : Prop where
  mod : Mod X.K X.mg X.base
  kind : X.env.scope.kind = .function
  glob : X.env.globals = mainGlobals
  blt : X.env.builtins = builtinsNs
  above : X.s₀.heap.objs.size ≤ X.env.locals
  inj : ∀ x y c, X.env.cells.lookup x = some c → X.env.cells.lookup y = some c → x = y
  has : ∀ x, (X.env.kindOf x = some .cell ∨ X.env.kindOf x = some .free) → ∃ c, X.env.cells.lookup x = some c
  cab : ∀ x c, X.fn x = true → X.env.cells.lookup x = some c → X.s₀.heap.objs.size ≤ c
  hd : X.calm = true → X.A.handled = none
  frames : X.A.frames = some X.stack
  stk : X.stack = X.outer ∨ (X.stack = X.env :: X.outer ∧ X.env.frame = some X.env.locals)
  exf : ∀ b ∈ X.ex, b ≠ X.env.locals ∧ ∀ x c, X.env.cells.lookup x = some c → c ≠ b
  bs : ∀ b o, X.base.get? b = some o → X.s₀.heap.get? b = some o ∧ X.H₀ b = none
  bsz : X.base.objs.size ≤ X.s₀.heap.objs.size
  noex : ∀ b o, X.base.get? b = some o → b ∉ X.ex
  exfs : ∀ b ∈ X.ex, b ∉ X.fs
  funs : X.s₀.heap.FunFrames X.base X.outer
  frf : ∀ b ∈ X.fs, X.H₀ b = none
structure Inv (X : Cx) (pins : List (Addr × Obj)) (σ : List (Option V)) (H : Hp) (s : Shared) : Prop where
  ok : X.Ok
  os : s.os = X.s₀.os
  bare : AllBare s.gens
  base : Un X.fs X.ex X.H₀ H X.s₀.heap s.heap
  loc : ∃ m, s.heap.Ns X.env.locals m ∧ ∀ (i : Nat) (x : Str) (v : V), X.N[i]? = some x → σ[i]? = some (some v) → Vis X.env.scope x → ∃ u, RelV v u ∧ Look X.env s.heap m x u
  cell : ∀ x c, X.env.cells.lookup x = some c → ∃ v, s.heap.IsCell c v
  free : H X.env.locals = none
  freeC : ∀ x c, X.env.cells.lookup x = some c → H c = none
  pin : ∀ p ∈ X.pn ++ pins, s.heap.get? p.1 = some p.2 ∧ H p.1 = none ∧ p.1 ≠ X.env.locals ∧ p.1 ∉ X.fs ∧ ∀ v, p.2.data ≠ .cell v
  hok : HOk X.prog X.w H s.heap
  len : σ.length = X.N.length
section
variable {X : Cx} {pins : List (Addr × Obj)} {σ : List (Option V)} {H H' : Hp} {s : Shared} {h' : Heap}
theorem Cx.Ok.nofr (ok : X.Ok) {b : Addr} {o : Obj} (e : X.base.get? b = some o) : b ∉ X.fs := fun hb => by
  have := (ok.funs.mem hb).1
  rw [e] at this; cases this
theorem Inv.bs (I : Inv X pins σ H s) : ∀ b o, X.base.get? b = some o → s.heap.get? b = some o ∧ H b = none := fun b o e =>
  ⟨I.base.keep b o (I.ok.bs b o e).1 (I.ok.bs b o e).2 (I.ok.nofr e) (I.ok.noex b o e), I.base.free b o (I.ok.bs b o e).1 (I.ok.bs b o e).2 (I.ok.noex b o e)⟩
theorem Inv.bk (I : Inv X pins σ H s) : ∀ b o, X.base.get? b = some o → s.heap.get? b = some o := fun b o e => (I.bs b o e).1
theorem Inv.mod (I : Inv X pins σ H s) : Mod X.K X.mg X.base := I.ok.mod
theorem Inv.kIn (I : Inv X pins σ H s) : X.K.In s.heap := I.ok.mod.kin.keeps I.bk
theorem Inv.nolimit (I : Inv X pins σ H s) : s.heap.NoLimit := I.ok.mod.nolimit.keeps I.bk
theorem Inv.fr (I : Inv X pins σ H s) : ∃ m, Fr X.base X.env.locals s.heap m :=
  let ⟨m, hn, _⟩ := I.loc
  ⟨m, hn, I.bk, Nat.le_trans I.ok.bsz I.ok.above⟩
theorem Inv.lt (I : Inv X pins σ H s) : X.env.locals < s.heap.objs.size := let ⟨_, hn, _⟩ := I.loc; hn.lt
theorem Inv.sz (I : Inv X pins σ H s) : X.s₀.heap.objs.size ≤ s.heap.objs.size := Nat.le_trans I.ok.above (Nat.le_of_lt I.lt)
theorem Inv.nofs (I : Inv X pins σ H s) {a : Addr} (h : s.heap.objs.size ≤ a) : a ∉ X.fs := fun hb => by
  obtain ⟨_, o, ho, _⟩ := I.ok.funs.mem hb
  exact absurd (Nat.lt_of_lt_of_le (Heap.lt_size ho) (Nat.le_trans I.sz h)) (Nat.lt_irrefl _)
theorem Inv.cne (I : Inv X pins σ H s) : ∀ x c, X.env.cells.lookup x = some c → c ≠ X.env.locals := fun x c e z => by
  obtain ⟨v, o, ho, hd⟩ := I.cell x c e
  obtain ⟨m, ⟨o', es, ep, ho', hd', _⟩, _⟩ := I.loc
  rw [z, ho'] at ho; cases ho; rw [hd'] at hd; cases hd
theorem Inv.funs (I : Inv X pins σ H s) : s.heap.FunFrames X.base X.outer := by
  have all : ∀ (l : List Env), (∀ b ∈ frs l, b ∈ X.fs) → X.s₀.heap.FunFrames X.base l → s.heap.FunFrames X.base l := by
    intro l
    induction l with
    | nil => intro _ _; trivial
    | cons env r ih =>
      intro hs hl
      obtain ⟨hk, ⟨L, o, hf, hn, ho, hd⟩, hr⟩ := hl
      have hL : L ∈ X.fs := hs L (by unfold frs; rw [List.filterMap_cons, hf]; exact List.mem_cons_self)
      obtain ⟨sl, e⟩ := I.base.slot L o ho (I.ok.frf L hL) hL fun z => I.ok.exfs L z hL
      exact ⟨hk, ⟨L, _, hf, hn, e, hd⟩, ih (fun b hb => hs b (by unfold frs; rw [List.filterMap_cons, hf]; exact List.mem_cons_of_mem _ hb)) hr⟩
  exact all X.outer (fun _ hb => hb) I.ok.funs
theorem Inv.stack (I : Inv X pins σ H s) : s.heap.FunFrames X.base X.stack := by
  rcases I.ok.stk with e | ⟨e, hf⟩
  · rw [e]; exact I.funs
  · rw [e]
    obtain ⟨m, hn, _⟩ := I.loc
    refine .cons (by rw [I.ok.kind]; decide) hf hn ?_ I.funs
    exact Heap.get?_none_of_le (Nat.le_trans I.ok.bsz I.ok.above)
theorem Inv.stkSub (I : Inv X pins σ H s) : ∀ b ∈ frs X.stack, b ∈ X.env.locals :: X.fs := fun b hb => by
  rcases I.ok.stk with e | ⟨e, hf⟩
  · rw [e] at hb; exact List.mem_cons_of_mem _ hb
  · rw [e] at hb
    unfold frs at hb
    rw [List.filterMap_cons, hf] at hb
    exact hb
theorem Inv.stkFree (I : Inv X pins σ H s) : ∀ b ∈ frs X.stack, H b = none := fun b hb => by
  rcases List.mem_cons.mp (I.stkSub b hb) with e | hb
  · rw [e]; exact I.free
  · obtain ⟨_, o, ho, _⟩ := I.ok.funs.mem hb
    exact I.base.free b o ho (I.ok.frf b hb) fun z => I.ok.exfs b z hb
theorem Inv.step {g' : Array GenState} {t' : Nat} {d' : Drawn} {ch : List Addr} (I : Inv X pins σ H s)
    (hch : ∀ b ∈ ch, (b ∈ X.ex ∨ X.s₀.heap.objs.size ≤ b) ∧ b ≠ X.env.locals ∧ (∀ x c, X.env.cells.lookup x = some c → c ≠ b) ∧ ∀ p ∈ X.pn ++ pins, p.1 ≠ b)
    (keep : ∀ b o, b ≠ X.env.locals → b ∉ X.fs → b ∉ ch → s.heap.get? b = some o → H b = none → h'.get? b = some o)
    (slot : ∀ b o, b ≠ X.env.locals → b ∈ X.fs → b ∉ ch → s.heap.get? b = some o → H b = none → ∃ sl, h'.get? b = some { o with slots := sl }) (free : ∀ b o, b ∉ ch → s.heap.get? b = some o → H b = none → H' b = none)
    (there : ∀ b o, b ∉ ch → s.heap.get? b = some o → ∃ o', h'.get? b = some o')
    (tups : ∀ b xs, H b = some (.tup xs) → H' b = some (.tup xs)) (frzs : ∀ b o u, H b = some (.frz o u) → H' b = some (.frz o u)) (tbls : ∀ b ps, H b = some (.tbl ps) → ∃ more, H' b = some (.tbl (ps ++ more)))
    (ns : ∀ m, s.heap.Ns X.env.locals m → h'.Ns X.env.locals m) (hok : HOk X.prog X.w H' h') (hg : AllBare g') :
    Inv X pins σ H' { s with heap := h', gens := g', drawn := d', toks := t' } := by
  have neL : ∀ b o, X.s₀.heap.get? b = some o → b ≠ X.env.locals := fun b o e => Nat.ne_of_lt (Nat.lt_of_lt_of_le (Heap.lt_size e) I.ok.above)
  have neC : ∀ b o, X.s₀.heap.get? b = some o → b ∉ X.ex → b ∉ ch := fun b o e hx hb => by
    rcases (hch b hb).1 with z | z
    · exact hx z
    · exact absurd (Nat.lt_of_lt_of_le (Heap.lt_size e) z) (Nat.lt_irrefl _)
  have cellK : ∀ x c, X.env.cells.lookup x = some c → ∀ v, s.heap.IsCell c v → h'.IsCell c v := fun x c e v ⟨o, ho, hd⟩ => by
    have nch : c ∉ ch := fun z => (hch c z).2.2.1 x c e rfl
    by_cases hc : c ∈ X.fs
    · obtain ⟨sl, q⟩ := slot c o (I.cne x c e) hc nch ho (I.freeC x c e)
      exact ⟨_, q, hd⟩
    · exact ⟨o, keep c o (I.cne x c e) hc nch ho (I.freeC x c e), hd⟩
  refine ⟨I.ok, I.os, hg, ⟨fun b o e n hb hx => ?_, fun b o e n hb hx => ?_, fun b o e n hx => ?_, fun b o e hx => ?_, fun b xs e => tups b xs (I.base.tups b xs e), fun b o xs e => frzs b o xs (I.base.frzs b o xs e), fun b ps e => ?_⟩, ?_, fun x c e => ?_, ?_, fun x c e => ?_, fun p hp => ?_, hok, I.len⟩
  · exact keep b o (neL b o e) hb (neC b o e hx) (I.base.keep b o e n hb hx) (I.base.free b o e n hx)
  · obtain ⟨sl, e1⟩ := I.base.slot b o e n hb hx
    obtain ⟨sl', e2⟩ := slot b _ (neL b o e) hb (neC b o e hx) e1 (I.base.free b o e n hx)
    exact ⟨sl', e2⟩
  · obtain ⟨o', e1⟩ := I.base.there b o e hx
    exact free b o' (neC b o e hx) e1 (I.base.free b o e n hx)
  · obtain ⟨o', e1⟩ := I.base.there b o e hx
    exact there b o' (neC b o e hx) e1
  · obtain ⟨m1, e1⟩ := I.base.tbls b ps e
    obtain ⟨m2, e2⟩ := tbls b _ e1
    exact ⟨m1 ++ m2, by rw [e2, Array.append_assoc]⟩
  · obtain ⟨m, hn, hl⟩ := I.loc
    refine ⟨m, ns m hn, fun i x v e1 e2 e3 => ?_⟩
    obtain ⟨u, r, l⟩ := hl i x v e1 e2 e3
    refine ⟨u, r, ?_⟩
    rcases l with l | ⟨k, c, e, z⟩
    · exact .inl l
    · exact .inr ⟨k, c, e, cellK x c e _ z⟩
  · obtain ⟨v, z⟩ := I.cell x c e
    exact ⟨v, cellK x c e v z⟩
  · obtain ⟨m, ⟨o, _, _, ho, _⟩, _⟩ := I.loc
    exact free _ o (fun z => (hch _ z).2.1 rfl) ho I.free
  · obtain ⟨v, o, ho, hd⟩ := I.cell x c e
    exact free c o (fun z => (hch c z).2.2.1 x c e rfl) ho (I.freeC x c e)
  · obtain ⟨e, n, ne, nf, d⟩ := I.pin p hp
    have nch : p.1 ∉ ch := fun z => (hch p.1 z).2.2.2 p hp rfl
    exact ⟨keep p.1 p.2 ne nf nch e n, free p.1 p.2 nch e n, ne, nf, d⟩
theorem Inv.un {t' : Nat} (I : Inv X pins σ H s) (u : Un X.fs [] H H' s.heap h') (hok : HOk X.prog X.w H' h') : Inv X pins σ H' { s with heap := h', toks := t' } := by
  obtain ⟨m, ⟨o, es, ep, ho, r⟩, _⟩ := id I.loc
  obtain ⟨sl, hL⟩ := u.any ho I.free (by simp)
  exact I.step (g' := s.gens) (d' := s.drawn) (ch := []) (fun _ z => nomatch z) (fun b o _ hb _ e n => u.keep b o e n hb (by simp)) (fun b o _ hb _ e n => u.slot b o e n hb (by simp)) (fun b o _ e n => u.free b o e n (by simp)) (fun b o _ e => u.there b o e (by simp)) u.tups u.frzs u.tbls (fun m' hm => by
    obtain ⟨o', es', ep', ho', r'⟩ := hm
    rw [ho] at ho'; cases ho'
    exact ⟨_, es', ep', hL, r'⟩) hok I.bare
theorem Inv.call {g' : Array GenState} {t' : Nat} {d' : Drawn} {ch : List Addr} (I : Inv X pins σ H s) (u : Un (frs X.stack) ch H H' s.heap h') (hok : HOk X.prog X.w H' h') (hg : AllBare g')
    (hch : ∀ b ∈ ch, (b ∈ X.ex ∨ X.s₀.heap.objs.size ≤ b) ∧ b ≠ X.env.locals ∧ (∀ x c, X.env.cells.lookup x = some c → c ≠ b) ∧ ∀ p ∈ X.pn ++ pins, p.1 ≠ b) :
    Inv X pins σ H' { s with heap := h', gens := g', drawn := d', toks := t' } := by
  obtain ⟨m, ⟨o, es, ep, ho, r⟩, _⟩ := id I.loc
  obtain ⟨sl, hL⟩ := u.any ho I.free fun z => (hch _ z).2.1 rfl
  exact I.step (ch := ch) hch (fun b o hL hb hc e n => u.keep b o e n (fun z => (List.mem_cons.mp (I.stkSub b z)).elim hL hb) hc) (fun b o _ _ hc e n => u.any e n hc) (fun b o hc e n => u.free b o e n hc) (fun b o hc e => u.there b o e hc) u.tups u.frzs u.tbls (fun m' hm => by
    obtain ⟨o', es', ep', ho', r'⟩ := hm
    rw [ho] at ho'; cases ho'
    exact ⟨_, es', ep', hL, r'⟩) hok hg
theorem Inv.turned {t' : Nat} {it : Addr} (I : Inv X pins σ H s) (k : ∀ b o, b ≠ it → s.heap.get? b = some o → h'.get? b = some o) (hn : H it = none) (hL : it ≠ X.env.locals)
    (h1 : it ∈ X.ex ∨ X.s₀.heap.objs.size ≤ it) (h2 : ∀ x c, X.env.cells.lookup x = some c → c ≠ it) (h3 : ∀ p ∈ X.pn ++ pins, p.1 ≠ it) : Inv X pins σ H { s with heap := h', toks := t' } := by
  have nit : ∀ b u, H b = some u → b ≠ it := fun b u e z => by rw [z, hn] at e; cases e
  refine I.step (g' := s.gens) (d' := s.drawn) (ch := [it]) (fun b hb => ?_) (fun b o _ _ hc e _ => k b o (fun z => hc (by simp [z])) e) (fun b o _ _ hc e _ => ⟨o.slots, k b o (fun z => hc (by simp [z])) e⟩) (fun _ _ _ _ n => n)
    (fun b o hc e => ⟨o, k b o (fun z => hc (by simp [z])) e⟩) (fun _ _ e => e) (fun _ _ _ e => e) (fun b ps e => ⟨#[], by rw [e]; simp⟩) (fun m hm => ?_) (fun b u e => ?_) I.bare
  · have e : b = it := by simpa using hb
    subst e
    exact ⟨h1, hL, h2, h3⟩
  · obtain ⟨o, es, ep, ho, r⟩ := hm
    exact ⟨o, es, ep, k _ o (Ne.symm hL) ho, r⟩
  · refine (I.hok b u e).stay (fun c v hc q => k c v ?_ q) (fun _ q => q) fun _ _ q => q
    rcases hc with z | z
    · rw [z]; exact nit b u e
    · exact nit c _ z
theorem Inv.tok (I : Inv X pins σ H s) (t : Nat) : Inv X pins σ H { s with toks := t } := I.un (h' := s.heap) (t' := t) Un.refl I.hok
theorem Inv.kept {t' : Nat} (I : Inv X pins σ H s) (k : ∀ b u, s.heap.get? b = some u → h'.get? b = some u) : Inv X pins σ H { s with heap := h', toks := t' } := I.un (Un.kept k) (I.hok.kept k)
theorem Inv.laid {a : Addr} {o : HO} {t' : Nat} (I : Inv X pins σ H s) (k : ∀ b u, s.heap.get? b = some u → h'.get? b = some u) (hp : s.heap.objs.size ≤ a) (new : ObjOk X.prog X.w (upd H a o) h' a o) :
    Inv X pins σ (upd H a o) { s with heap := h', toks := t' } := I.un (Un.laid k hp (I.hok.fresh hp)) (I.hok.laid k hp new)
theorem Inv.write {x e : Addr} {o : HO} {t' : Nat} (I : Inv X pins σ H s) (mu : Mut (H x)) (he : e = x ∨ H e = some (.own x)) (k : ∀ b u, b ≠ e → s.heap.get? b = some u → h'.get? b = some u) (heo : ∃ u, h'.get? e = some u)
    (new : ObjOk X.prog X.w (upd H x o) h' x o) : Inv X pins σ (upd H x o) { s with heap := h', toks := t' } := I.un (Un.write mu he k heo) (I.hok.write mu he k heo new)
theorem Inv.pins_of {pins' : List (Addr × Obj)} (I : Inv X pins σ H s) (h : ∀ p ∈ pins', s.heap.get? p.1 = some p.2 ∧ H p.1 = none ∧ p.1 ≠ X.env.locals ∧ p.1 ∉ X.fs ∧ ∀ v, p.2.data ≠ .cell v) : Inv X pins' σ H s :=
  ⟨I.ok, I.os, I.bare, I.base, I.loc, I.cell, I.free, I.freeC, fun p hp => (List.mem_append.mp hp).elim (fun z => I.pin p (List.mem_append_left _ z)) (h p), I.hok, I.len⟩
theorem nodup_ix {N : List Str} (hN : N.Nodup) {i j : Nat} {x : Str} (a : N[i]? = some x) (b : N[j]? = some x) : i = j := by
  obtain ⟨h1, e1⟩ := List.getElem?_eq_some_iff.mp a
  obtain ⟨h2, e2⟩ := List.getElem?_eq_some_iff.mp b
  exact (List.getElem_inj hN).mp (e1.trans e2.symm)
theorem store_ok2 {M : Model} {A : Around} {E : Value → Shared → Prop} {i : Nat} {x : Str} {v : V} {u : Value} {Q : Unit → Shared → Prop} (I : Inv X pins σ H s) (hN : X.N.Nodup) (hi : X.N[i]? = some x) (hx : Loc X.env.scope x) (r : RelV v u)
    (h : ∀ s', Inv X pins (σ.set i (some v)) H s' → (∃ a, Heap.SameBut a s.heap s'.heap ∧ (a = X.env.locals ∨ X.env.cells.lookup x = some a)) → Q () s') (hf : X.fn x = true ∨ X.env.scope.names.lookup x = some .local := by first | exact .inl rfl | exact .inr rfl | assumption) : wpAny M A (storeName X.env x u) Q E s := by
  obtain ⟨m, hn, hl⟩ := id I.loc
  have hcls : (X.env.scope.kind == .class || (X.env.scope.kind == .module && X.env.locals != X.env.globals)) = false := by rw [I.ok.kind]; rfl
  have hiσ : i < σ.length := by rw [I.len]; exact (List.getElem?_eq_some_iff.mp hi).1
  have cne := I.cne
  have tracked : ∀ {a : Addr} {h' : Heap}, (∃ o, s.heap.get? a = some o ∧ H a = none) → Heap.SameBut a s.heap h' → HOk X.prog X.w H h' := fun {a h'} ha hs b ob e => by
    obtain ⟨_, _, hfree⟩ := ha
    refine (I.hok b ob e).stay (fun c w' hc q => (hs.2 c ?_).trans q) (fun _ q => q) fun _ _ q => q
    rintro rfl
    rcases hc with rfl | hc
    · rw [hfree] at e; cases e
    · rw [hfree] at hc; cases hc
  rcases hx with hk | hk
  · refine wpAny_storeName_local hk hn (fun h' hn' hs => ?_) hcls
    obtain ⟨oL, _, _, hoL, _⟩ := id hn
    refine h _ ⟨I.ok, I.os, I.bare, ⟨fun b o e n hb hx => ?_, fun b o e n hb hx => ?_, I.base.free, fun b o e hx => ?_, I.base.tups, I.base.frzs, I.base.tbls⟩, ⟨_, hn', fun j y v' e1 e2 e3 => ?_⟩, fun y c e => ?_, I.free, I.freeC, fun p hp => ?_, tracked ⟨oL, hoL, I.free⟩ hs, by simpa using I.len⟩ ⟨_, hs, .inl rfl⟩
    · exact (hs.2 b (Nat.ne_of_lt (Nat.lt_of_lt_of_le (Heap.lt_size e) I.ok.above))).trans (I.base.keep b o e n hb hx)
    · obtain ⟨sl, e1⟩ := I.base.slot b o e n hb hx
      exact ⟨sl, (hs.2 b (Nat.ne_of_lt (Nat.lt_of_lt_of_le (Heap.lt_size e) I.ok.above))).trans e1⟩
    · obtain ⟨o', e1⟩ := I.base.there b o e hx
      exact ⟨o', (hs.2 b (Nat.ne_of_lt (Nat.lt_of_lt_of_le (Heap.lt_size e) I.ok.above))).trans e1⟩
    · by_cases hj : j = i
      · subst hj
        rw [hi] at e1; cases e1
        rw [List.getElem?_set_self hiσ] at e2
        cases e2
        exact ⟨u, r, .inl ⟨hk, by simp⟩⟩
      · rw [List.getElem?_set_ne (Ne.symm hj)] at e2
        obtain ⟨u', r', q⟩ := hl j y v' e1 e2 e3
        refine ⟨u', r', ?_⟩
        rcases q with ⟨k, e⟩ | ⟨k, c, e, z⟩
        · refine .inl ⟨k, ?_⟩
          have : y ≠ x := fun e => hj (nodup_ix hN e1 (e ▸ hi))
          simp [this, e]
        · exact .inr ⟨k, c, e, z.sameBut hs (cne y c e)⟩
    · obtain ⟨w', z⟩ := I.cell y c e
      exact ⟨w', z.sameBut hs (cne y c e)⟩
    · obtain ⟨e, n, ne, nf, d⟩ := I.pin p hp
      exact ⟨(hs.2 p.1 ne).trans e, n, ne, nf, d⟩
  · have hfn : X.fn x = true := by
      rcases hf with z | z
      · exact z
      · rw [z] at hk; cases hk
    obtain ⟨c, hc⟩ := I.ok.has x (.inl hk)
    obtain ⟨w', z⟩ := I.cell x c hc
    refine wpAny_storeName_cell I.ok.kind hk hc z (fun h' hc' hs => ?_)
    obtain ⟨oc, hoc, hocd⟩ := id z
    refine h { s with heap := h' } ⟨I.ok, I.os, I.bare, ⟨fun b o e n hb hx => ?_, fun b o e n hb hx => ?_, I.base.free, fun b o e hx => ?_, I.base.tups, I.base.frzs, I.base.tbls⟩, ⟨m, hn.sameBut hs (Ne.symm (cne x c hc)), fun j y v' e1 e2 e3 => ?_⟩, fun y c' e => ?_, I.free, I.freeC, fun p hp => ?_, tracked ⟨oc, hoc, I.freeC x c hc⟩ hs, by simpa using I.len⟩ ⟨c, hs, .inr hc⟩
    · exact (hs.2 b (Nat.ne_of_lt (Nat.lt_of_lt_of_le (Heap.lt_size e) (I.ok.cab x c hfn hc)))).trans (I.base.keep b o e n hb hx)
    · obtain ⟨sl, e1⟩ := I.base.slot b o e n hb hx
      exact ⟨sl, (hs.2 b (Nat.ne_of_lt (Nat.lt_of_lt_of_le (Heap.lt_size e) (I.ok.cab x c hfn hc)))).trans e1⟩
    · obtain ⟨o', e1⟩ := I.base.there b o e hx
      exact ⟨o', (hs.2 b (Nat.ne_of_lt (Nat.lt_of_lt_of_le (Heap.lt_size e) (I.ok.cab x c hfn hc)))).trans e1⟩
    · by_cases hj : j = i
      · subst hj
        rw [hi] at e1; cases e1
        rw [List.getElem?_set_self hiσ] at e2
        cases e2
        exact ⟨u, r, .inr ⟨.inl hk, c, hc, hc'⟩⟩
      · rw [List.getElem?_set_ne (Ne.symm hj)] at e2
        obtain ⟨u', r', q⟩ := hl j y v' e1 e2 e3
        refine ⟨u', r', ?_⟩
        rcases q with q | ⟨k, c', e, z'⟩
        · exact .inl q
        · refine .inr ⟨k, c', e, z'.sameBut hs ?_⟩
          rintro rfl
          exact hj (nodup_ix hN e1 (I.ok.inj _ _ _ e hc ▸ hi))
    · by_cases hcc : c' = c
      · subst hcc; exact ⟨_, hc'⟩
      · obtain ⟨w2, z2⟩ := I.cell y c' e
        exact ⟨w2, z2.sameBut hs hcc⟩
    · obtain ⟨e, n, ne, nf, d⟩ := I.pin p hp
      refine ⟨(hs.2 p.1 ?_).trans e, n, ne, nf, d⟩
      intro q
      rw [q, hoc] at e
      have q' : oc = p.2 := Option.some.inj e
      exact d w' (by rw [← q']; exact hocd)
theorem store_ok {M : Model} {A : Around} {E : Value → Shared → Prop} {i : Nat} {x : Str} {v : V} {u : Value} {Q : Unit → Shared → Prop} (I : Inv X pins σ H s) (hN : X.N.Nodup) (hi : X.N[i]? = some x) (hx : Loc X.env.scope x) (r : RelV v u)
    (h : ∀ s', Inv X pins (σ.set i (some v)) H s' → Q () s') (hf : X.fn x = true ∨ X.env.scope.names.lookup x = some .local := by first | exact .inl rfl | exact .inr rfl | assumption) : wpAny M A (storeName X.env x u) Q E s :=
  store_ok2 I hN hi hx r (fun s' I' _ => h s' I') hf
theorem Inv.call' {s' : Shared} {ch : List Addr} (I : Inv X pins σ H s) (ho : s'.os = s.os) (u : Un (frs X.stack) ch H H' s.heap s'.heap) (hok : HOk X.prog X.w H' s'.heap) (hg : AllBare s'.gens)
    (hch : ∀ b ∈ ch, (b ∈ X.ex ∨ X.s₀.heap.objs.size ≤ b) ∧ b ≠ X.env.locals ∧ (∀ x c, X.env.cells.lookup x = some c → c ≠ b) ∧ ∀ p ∈ X.pn ++ pins, p.1 ≠ b) : Inv X pins σ H' s' := by
  obtain ⟨h', g', d', t', o'⟩ := s'
  have e : o' = s.os := ho
  subst e
  exact I.call (g' := g') (t' := t') (d' := d') u hok hg hch
end
abbrev XK := Value → Option Addr → Hp → Prop
abbrev St := List (Option V)
abbrev VK := V → Hp → Prop
abbrev TE := St → Hp → VK → Prop
abbrev TT := St → Hp → (Bool → Hp → Prop) → Prop
abbrev TA := St → Hp → (List V → Hp → Prop) → Prop
structure Ends where
  nx : St → Hp → Prop
  rt : VK
  bk : St → Hp → Prop := fun _ _ => False
  ct : St → Hp → Prop := fun _ _ => False
abbrev TS := Ends → St → Hp → Prop
def EP (X : Cx) (pins : List (Addr × Obj)) (σ : St) (Q : VK) (u : Value) (s' : Shared) : Prop := ∃ v H', Inv X pins σ H' s' ∧ RelV v u ∧ Q v H'
def TP (X : Cx) (pins : List (Addr × Obj)) (σ : St) (Q : Bool → Hp → Prop) (b : Bool) (s' : Shared) : Prop := ∃ H', Inv X pins σ H' s' ∧ Q b H'
def AP (X : Cx) (pins : List (Addr × Obj)) (σ : St) (Q : List V → Hp → Prop) (us : List Value) (s' : Shared) : Prop := ∃ vs H', Inv X pins σ H' s' ∧ Vals vs us ∧ Q vs H'
def SP (X : Cx) (pins : List (Addr × Obj)) (D : Ends) (f : Flow) (s' : Shared) : Prop :=
  match f with
  | .next => ∃ σ' H', Inv X pins σ' H' s' ∧ D.nx σ' H'
  | .brk => ∃ σ' H', Inv X pins σ' H' s' ∧ D.bk σ' H'
  | .cont => ∃ σ' H', Inv X pins σ' H' s' ∧ D.ct σ' H'
  | .ret u => ∃ v σ' H', Inv X pins σ' H' s' ∧ RelV v u ∧ D.rt v H'
def PE (X : Cx) (e : Expr) (t : TE) : Prop :=
  ∀ (pins : List (Addr × Obj)) (s : Shared) (σ : St) (H : Hp) (Q : VK), Inv X pins σ H s → t σ H Q → wpAny (model X.prog X.w) X.A (eval e X.env) (EP X pins σ Q) X.xe s
def PT (X : Cx) (e : Expr) (t : TT) : Prop :=
  ∀ (pins : List (Addr × Obj)) (s : Shared) (σ : St) (H : Hp) (Q : Bool → Hp → Prop), Inv X pins σ H s → t σ H Q → wpAny (model X.prog X.w) X.A (isTrue e X.env (eval e X.env)) (TP X pins σ Q) X.xe s
def PW (X : Cx) (e : Expr) (t : TT) : Prop :=
  ∀ (whole : Sem Value) (pins : List (Addr × Obj)) (s : Shared) (σ : St) (H : Hp) (Q : Bool → Hp → Prop), Inv X pins σ H s → t σ H Q → wpAny (model X.prog X.w) X.A (isTrue e X.env whole) (TP X pins σ Q) X.xe s
theorem PW.pt {X : Cx} {e : Expr} {t : TT} (h : PW X e t) : PT X e t := h _
def PA (X : Cx) (es : List Expr) (t : TA) : Prop :=
  ∀ (pos : Pos) (pins : List (Addr × Obj)) (s : Shared) (σ : St) (H : Hp) (Q : List V → Hp → Prop), Inv X pins σ H s → t σ H Q → wpAny (model X.prog X.w) X.A (spliced (backTo pos (starEach es X.env))) (AP X pins σ Q) X.xe s
def PS (X : Cx) (st : Stmt) (t : TS) : Prop :=
  ∀ (pins : List (Addr × Obj)) (s : Shared) (σ : St) (H : Hp) (D : Ends), Inv X pins σ H s → t D σ H → wpAny (model X.prog X.w) X.A (exec st X.env) (SP X pins D) X.xe s
def PSs (X : Cx) (st : List Stmt) (t : TS) : Prop :=
  ∀ (pins : List (Addr × Obj)) (s : Shared) (σ : St) (H : Hp) (D : Ends), Inv X pins σ H s → t D σ H → wpAny (model X.prog X.w) X.A (execs st X.env) (SP X pins D) X.xe s
theorem thn {α : Type} {t : Sem α} {Q Q' : α → Shared → Prop} {M : Model} {A : Around} {E : Value → Shared → Prop} {s : Shared} (h : wpAny M A t Q E s) (hQ : ∀ a s, Q a s → Q' a s) : wpAny M A t Q' E s := wpAny_mono h hQ fun _ _ x => x
end L2
namespace L2
open PySem PySem.Spec PyProof.Rows
section
variable {X : Cx}
theorem bin {a b : Expr} {ta tb : TE} (ha : PE X a ta) (hb : PE X b tb) {pins : List (Addr × Obj)} {s : Shared} {σ : St} {H : Hp} {R : V → V → Hp → Prop} (I : Inv X pins σ H s) (h : ta σ H fun x H1 => tb σ H1 fun y H2 => R x y H2)
    {α : Type} {Q : α → Shared → Prop} {f : Value → Value → Sem α}
    (hf : ∀ v u s2 x y H2, Inv X pins σ H2 s2 → RelV x v → RelV y u → R x y H2 → wpAny (model X.prog X.w) X.A (f v u) Q X.xe s2) :
    wpAny (model X.prog X.w) X.A (eval a X.env) (fun v s₁ => wpAny (model X.prog X.w) X.A (eval b X.env) (fun u s₂ => wpAny (model X.prog X.w) X.A (f v u) Q X.xe s₂) X.xe s₁) X.xe s := by
  refine thn (ha pins s σ H _ I h) fun v s1 ⟨x, H1, I1, r1, q1⟩ => ?_
  refine thn (hb pins s1 σ H1 _ I1 q1) fun u s2 ⟨y, H2, I2, r2, q2⟩ => ?_
  exact hf v u s2 x y H2 I2 r1 r2 q2
def tVar (i : Nat) : TE := fun σ H Q => ∃ v, σ[i]? = some (some v) ∧ Q v H
def tC (v : V) : TE := fun _ H Q => Q v H
theorem pe_var {i : Nat} {x : Str} {pos : Pos} (hN : X.N[i]? = some x) (hv : Vis X.env.scope x) (hd : (x == ("__debug__" : Str)) = false := by decide) (hcd : (x == ("__classdict__" : Str)) = false := by decide) : PE X (.Name x pos) (tVar i) := by
  intro pins s σ H Q I h
  obtain ⟨v, e, h⟩ := h
  obtain ⟨m, hn, hl⟩ := I.loc
  obtain ⟨u, r, l⟩ := hl i x v hN e hv
  have fin : EP X pins σ Q u s := ⟨v, H, I, r, h⟩
  rcases l with ⟨hk, hm⟩ | ⟨hk, c, hc, hcell⟩
  · exact wpAny_Name (wpAny_loadName_local I.ok.kind hk hn hm fin) hd
  · rcases hk with hk | hk
    · exact wpAny_Name (wpAny_loadName_cell I.ok.kind hk hc hcell fin) hd
    · exact wpAny_Name (wpAny_loadName_free I.ok.kind hk hc hcell fin hcd) hd
theorem pe_int {i j pos} : PE X (.Constant (.int i) j pos) (tC (.int i)) := fun _ _ _ H _ I h => wpAny_Constant_int ⟨.int i, H, I.tok _, ⟨_, rfl⟩, h⟩
theorem pe_bl {b j pos} : PE X (.Constant (.bool b) j pos) (tC (.bl b)) := fun _ _ _ H _ I h => Constant_bool ⟨.bl b, H, I, rfl, h⟩
theorem pe_str {x j pos} : PE X (.Constant (.str x) j pos) (tC (.str x)) := fun _ _ _ H _ I h => Calls.Constant_str ⟨.str x, H, I.tok _, ⟨_, rfl⟩, h⟩
def Gl (X : Cx) (x : Str) : Prop := X.env.kindOf x = some .globalImplicit
theorem ld_glob {E : Value → Shared → Prop} {pins : List (Addr × Obj)} {s : Shared} {σ : St} {H : Hp} {x : Str} {u : Value} {pos : Pos} {Q : Value → Shared → Prop} (I : Inv X pins σ H s) (hg : Gl X x) (hm : X.mg x = some u) (h : Q u s)
    (hd : (x == ("__debug__" : Str)) = false := by decide) : wpAny (model X.prog X.w) X.A (eval (.Name x pos) X.env) Q E s :=
  Calls.Name_function_global I.ok.kind hg (Calls.loadGlobal_global (by rw [I.ok.glob]; exact I.mod.glob.keeps I.bk) hm h) hd
theorem ld_blt {E : Value → Shared → Prop} {pins : List (Addr × Obj)} {s : Shared} {σ : St} {H : Hp} {x : Str} {u : Value} {pos : Pos} {Q : Value → Shared → Prop} (I : Inv X pins σ H s) (hg : Gl X x) (hm : X.mg x = none) (hv : bootBuiltins x = some u) (h : Q u s)
    (hn : x ≠ "__name__" := by decide) (hd : (x == ("__debug__" : Str)) = false := by decide) : wpAny (model X.prog X.w) X.A (eval (.Name x pos) X.env) Q E s := by
  obtain ⟨mb, h1, h2⟩ := I.mod.blt
  exact Calls.Name_function_global I.ok.kind hg (Calls.loadGlobal_builtin (by rw [I.ok.glob]; exact I.mod.glob.keeps I.bk) hm (by rw [I.ok.blt]; exact h1.keeps I.bk) ((h2 x hn).trans hv) h) hd
theorem pe_glob {x : Str} {v : V} {u : Value} {pos : Pos} (hg : Gl X x) (hm : X.mg x = some u) (r : RelV v u) (hd : (x == ("__debug__" : Str)) = false := by decide) : PE X (.Name x pos) (tC v) :=
  fun _ _ _ H _ I h => ld_glob I hg hm ⟨v, H, I, r, h⟩ hd
theorem pe_bltn {x : Str} {v : V} {u : Value} {pos : Pos} (hg : Gl X x) (hm : X.mg x = none) (hv : bootBuiltins x = some u) (r : RelV v u) (hn : x ≠ "__name__" := by decide) (hd : (x == ("__debug__" : Str)) = false := by decide) : PE X (.Name x pos) (tC v) :=
  fun _ _ _ H _ I h => ld_blt I hg hm hv ⟨v, H, I, r, h⟩ hn hd
variable {a b : Expr} {ta tb : TE} {pos : Pos}
def PC (X : Cx) (op : CmpOp) (a b : Expr) (t : TE) : Prop :=
  ∀ (pins : List (Addr × Obj)) (s : Shared) (σ : St) (H : Hp) (Q : VK), Inv X pins σ H s → t σ H Q →
    wpAny (model X.prog X.w) X.A (eval a X.env) (fun v s₁ => wpAny (model X.prog X.w) X.A (eval b X.env) (fun u s₂ => wpAny (model X.prog X.w) X.A (compareOp op v u) (EP X pins σ Q) X.xe s₂) X.xe s₁) X.xe s
theorem nobehind (b : Expr) {op : CmpOp} (h : op ≠ .In) (h2 : op ≠ .NotIn) : behindInMarks op b = false := by
  have e1 : (op == CmpOp.In) = false := by cases op <;> first | rfl | exact absurd rfl h
  have e2 : (op == CmpOp.NotIn) = false := by cases op <;> first | rfl | exact absurd rfl h2
  cases b <;> simp [behindInMarks, e1, e2]
def tB (t : TE) : TT := fun σ H Q => t σ H fun x H1 => ∃ c, x = .bl c ∧ Q c H1
theorem pt_cmp {op : CmpOp} {t : TE} (h : PC X op a b t) (h1 : behindInMarks op b = false := by first | exact nobehind _ (by decide) (by decide) | rfl) : PT X (.Compare a [op] [b] pos) (tB t) := by
  intro pins s σ H Q I hw
  refine wpAny_isTrue_Compare1 (thn (h pins s σ H _ I hw) fun v s1 h1 => thn h1 fun u s2 h2 => thn h2 fun c s3 ⟨x, H1, I1, r1, q1⟩ => ?_) h1
  obtain ⟨d, rfl, q⟩ := q1
  cases r1
  exact wpAny_truthy_bool ⟨H1, I1, q⟩
theorem pt_val {e : Expr} {t : TE} (h : PE X e t) (he : ∀ whole, isTrue e X.env whole = (do let v ← whole; standAt e.pos; holding [v] (truthy v)) := by intro _; rfl) : PT X e (tB t) := by
  intro pins s σ H Q I hw
  refine isTrue_plain (thn (h pins s σ H _ I hw) fun v s1 ⟨x, H1, I1, r1, q1⟩ => ?_) (he _)
  obtain ⟨d, rfl, q⟩ := q1
  cases r1
  exact wpAny_truthy_bool ⟨H1, I1, q⟩
variable {tA tB' : TT} {rest : List Expr}
def tAnd (t u : TT) : TT := fun σ H Q => t σ H fun c H1 => if c = true then u σ H1 Q else Q false H1
def tOr (t u : TT) : TT := fun σ H Q => t σ H fun c H1 => if c = true then Q true H1 else u σ H1 Q
def tNot (t : TT) : TT := fun σ H Q => t σ H fun c H1 => Q (!c) H1
theorem pw_and1 (ha : PT X a tA) : PW X (.BoolOp .And [a] pos) tA := by
  intro wh pins s σ H Q I h
  refine isTrue_and (thn (ha pins s σ H Q I h) fun c s1 e => ?_)
  cases c with
  | true => exact isTrue_and_nil e
  | false => exact e
theorem pw_or1 (ha : PT X a tA) : PW X (.BoolOp .Or [a] pos) tA := by
  intro wh pins s σ H Q I h
  refine isTrue_or (thn (ha pins s σ H Q I h) fun c s1 e => ?_)
  cases c with
  | false => exact isTrue_or_nil e
  | true => exact e
theorem pw_and (ha : PT X a tA) (hb : PW X (.BoolOp .And (b :: rest) pos) tB') : PW X (.BoolOp .And (a :: b :: rest) pos) (tAnd tA tB') := by
  intro wh pins s σ H Q I h
  refine isTrue_and (thn (ha pins s σ H _ I h) fun c s1 ⟨H1, I1, q1⟩ => ?_)
  cases c with
  | true => exact hb wh pins s1 σ H1 Q I1 q1
  | false => exact ⟨H1, I1, q1⟩
theorem pw_or (ha : PT X a tA) (hb : PW X (.BoolOp .Or (b :: rest) pos) tB') : PW X (.BoolOp .Or (a :: b :: rest) pos) (tOr tA tB') := by
  intro wh pins s σ H Q I h
  refine isTrue_or (thn (ha pins s σ H _ I h) fun c s1 ⟨H1, I1, q1⟩ => ?_)
  cases c with
  | true => exact ⟨H1, I1, q1⟩
  | false => exact hb wh pins s1 σ H1 Q I1 q1
theorem pt_not (ha : PT X a tA) : PT X (.UnaryOp .Not a pos) (tNot tA) := by
  intro pins s σ H Q I h
  exact isTrue_not (ha pins s σ H (fun c H1 => Q (!c) H1) I h)
def tAndV (ta tb : TE) : TE := fun σ H Q => ta σ H fun x H1 => ∃ c, x = .bl c ∧ if c = true then tb σ H1 Q else Q (.bl false) H1
def tOrV (ta tb : TE) : TE := fun σ H Q => ta σ H fun x H1 => ∃ c, x = .bl c ∧ if c = true then Q (.bl true) H1 else tb σ H1 Q
def tNotV (ta : TE) : TE := fun σ H Q => ta σ H fun x H1 => ∃ c, x = .bl c ∧ Q (.bl (!c)) H1
theorem pe_one {op} {t : TE} (h : PE X a t) : PE X (.BoolOp op [a] pos) t := fun pins s σ H Q I hw => BoolOp_one (h pins s σ H Q I hw)
theorem pe_or (ha : PE X a ta) (hb : PE X (.BoolOp .Or (b :: rest) pos) tb) : PE X (.BoolOp .Or (a :: b :: rest) pos) (tOrV ta tb) := by
  intro pins s σ H Q I h
  refine BoolOp_or (thn (ha pins s σ H _ I h) fun v s1 ⟨x, H1, I1, r1, q1⟩ => ?_)
  obtain ⟨c, rfl, q1⟩ := q1
  cases r1
  refine wpAny_truthy_bool ?_
  cases c with
  | false => exact hb pins s1 σ H1 Q I1 q1
  | true => exact ⟨.bl true, H1, I1, rfl, q1⟩
def tIf (t : TT) (ta tb : TE) : TE := fun σ H Q => t σ H fun c H1 => if c = true then ta σ H1 Q else tb σ H1 Q
theorem pe_ifExp {c : Expr} (hc : PT X c tA) (ha : PE X a ta) (hb : PE X b tb) : PE X (.IfExp c a b pos) (tIf tA ta tb) := by
  intro pins s σ H Q I h
  refine wpAny_IfExp (thn (hc pins s σ H _ I h) fun d s1 ⟨H1, I1, q1⟩ => ?_)
  cases d with
  | true => exact ha pins s1 σ H1 Q I1 q1
  | false => exact hb pins s1 σ H1 Q I1 q1
end
end L2
namespace L2
open PySem PySem.Spec PyProof.Rows
def SqL (K : PySem.W.Frag) (H : Hp) (a : Addr) (xs : List V) : Prop :=
  Rd H a (.lst xs) ∨
    ∃ (o : Obj) (its : Array Value) (n : Nat), K.lookup a = some o ∧ o.cls = .type "list" ∧ o.dict = none ∧ o.data = .seq its n ∧ its.size ≤ sizeLine ∧ Vals xs its.toList
def SqT (K : PySem.W.Frag) (H : Hp) (a : Addr) (xs : List V) : Prop :=
  Rd H a (.tup xs) ∨
    ∃ (o : Obj) (its : Array Value) (n : Nat), K.lookup a = some o ∧ o.cls = .type "tuple" ∧ o.data = .seq its n ∧ its.size ≤ sizeLine ∧ Vals xs its.toList
def absV : Value → Option V
  | .none => some .non
  | .bool b => some (.bl b)
  | .int i _ => some (.int i)
  | .str x _ => some (.str x)
  | .bytes b _ => some (.byt b)
  | .float b _ => some (.flt b)
  | .ref a => some (.ref a)
  | .type n => some (.ty n)
  | _ => none
theorem RelV.abs {x : V} {u : Value} (r : RelV x u) : absV u = some x := by
  cases x with
  | non => cases r; rfl
  | bl _ => cases r; rfl
  | int _ => obtain ⟨t, rfl⟩ := r; rfl
  | str _ => obtain ⟨t, rfl⟩ := r; rfl
  | byt _ => obtain ⟨t, rfl⟩ := r; rfl
  | flt _ => obtain ⟨t, rfl⟩ := r; rfl
  | ref _ => cases r; rfl
  | ty _ => cases r; rfl
theorem RelV.inj {x y : V} {u : Value} (r : RelV x u) (q : RelV y u) : x = y := Option.some.inj (r.abs.symm.trans q.abs)
theorem Vals.inj : ∀ {xs ys : List V} {us : List Value}, Vals xs us → Vals ys us → xs = ys
  | _, _, _, .nil, .nil => rfl
  | _, _, _, .cons r t, .cons r' t' => by rw [r.inj r', Vals.inj t t']
section
variable {X : Cx} {pins : List (Addr × Obj)} {σ : St} {H : Hp} {s : Shared} {a : Addr} {xs ys : List V}
theorem SqL.of {K : PySem.W.Frag} (h : H a = some (.lst xs)) : SqL K H a xs := .inl (.inl h)
theorem SqT.of {K : PySem.W.Frag} (h : H a = some (.tup xs)) : SqT K H a xs := .inl (.inl h)
theorem Inv.list (I : Inv X pins σ H s) (h : SqL X.K H a xs) : ∃ its : List Value, Vals xs its ∧ PlainL s.heap a its.toArray ∧ xs.length ≤ sizeLine := by
  rcases h with h | ⟨o, its, n, hk, hc, hd, hs, hz, r⟩
  · obtain ⟨z, its, n, r, e⟩ := h.ok I.hok
    exact ⟨its, r, ⟨_, n, e, rfl, rfl, rfl⟩, z⟩
  · refine ⟨its.toList, r, ⟨o, n, I.kIn a o hk, hc, hd, by simpa using hs⟩, ?_⟩
    have e := r.length
    simp only [Array.length_toList] at e
    omega
theorem Inv.tuple (I : Inv X pins σ H s) (h : SqT X.K H a xs) : ∃ its : List Value, Vals xs its ∧ IsTup s.heap a its.toArray ∧ xs.length ≤ sizeLine := by
  rcases h with h | ⟨o, its, n, hk, hc, hs, hz, r⟩
  · obtain ⟨z, its, r, p⟩ := h.ok I.hok
    exact ⟨its, r, p.tup, z⟩
  · refine ⟨its.toList, r, ⟨o, I.kIn a o hk, hc, n, by simpa using hs⟩, ?_⟩
    have e := r.length
    simp only [Array.length_toList] at e
    omega
theorem Inv.list_inj (I : Inv X pins σ H s) (h : SqL X.K H a xs) (h' : SqL X.K H a ys) : xs = ys := by
  obtain ⟨its, r, ⟨o, n, e, _, _, d⟩, _⟩ := I.list h
  obtain ⟨its', r', ⟨o', n', e', _, _, d'⟩, _⟩ := I.list h'
  rw [e] at e'; cases e'
  rw [d] at d'
  injection d' with d1 _
  have : its = its' := by simpa using congrArg Array.toList d1
  subst this
  exact r.inj r'
theorem Inv.tuple_inj (I : Inv X pins σ H s) (h : SqT X.K H a xs) (h' : SqT X.K H a ys) : xs = ys := by
  obtain ⟨its, r, ⟨o, e, _, n, d⟩, _⟩ := I.tuple h
  obtain ⟨its', r', ⟨o', e', _, n', d'⟩, _⟩ := I.tuple h'
  rw [e] at e'; cases e'
  rw [d] at d'
  injection d' with d1 _
  have : its = its' := by simpa using congrArg Array.toList d1
  subst this
  exact r.inj r'
end
abbrev Cx.wish (X : Cx) (E : Value → Shared → Prop) : Cx := { X with xe := E }
abbrev Cx.nox (X : Cx) : Cx := X.wish fun _ _ => False
theorem Cx.Ok.wish {X : Cx} (ok : X.Ok) (E : Value → Shared → Prop) : (X.wish E).Ok :=
  ⟨ok.mod, ok.kind, ok.glob, ok.blt, ok.above, ok.inj, ok.has, ok.cab, ok.hd, ok.frames, ok.stk, ok.exf, ok.bs, ok.bsz, ok.noex, ok.exfs, ok.funs, ok.frf⟩
theorem Cx.Ok.unwish {X : Cx} {E : Value → Shared → Prop} (ok : (X.wish E).Ok) : X.Ok :=
  ⟨ok.mod, ok.kind, ok.glob, ok.blt, ok.above, ok.inj, ok.has, ok.cab, ok.hd, ok.frames, ok.stk, ok.exf, ok.bs, ok.bsz, ok.noex, ok.exfs, ok.funs, ok.frf⟩
section
variable {X : Cx} {pins : List (Addr × Obj)} {σ : St} {H : Hp} {s : Shared} {E : Value → Shared → Prop}
theorem Inv.wish (I : Inv X pins σ H s) (E : Value → Shared → Prop) : Inv (X.wish E) pins σ H s := ⟨I.ok.wish E, I.os, I.bare, I.base, I.loc, I.cell, I.free, I.freeC, I.pin, I.hok, I.len⟩
theorem Inv.unwish (I : Inv (X.wish E) pins σ H s) : Inv X pins σ H s := ⟨I.ok.unwish, I.os, I.bare, I.base, I.loc, I.cell, I.free, I.freeC, I.pin, I.hok, I.len⟩
theorem SP.unwish {D : Ends} {f : Flow} {s' : Shared} (h : SP (X.wish E) pins D f s') : SP X pins D f s' := by
  cases f with
  | next => obtain ⟨σ', H', I, q⟩ := h; exact ⟨σ', H', I.unwish, q⟩
  | brk => obtain ⟨σ', H', I, q⟩ := h; exact ⟨σ', H', I.unwish, q⟩
  | cont => obtain ⟨σ', H', I, q⟩ := h; exact ⟨σ', H', I.unwish, q⟩
  | ret u => obtain ⟨v, σ', H', I, r, q⟩ := h; exact ⟨v, σ', H', I.unwish, r, q⟩
theorem PE.nox {e : Expr} {t : TE} (h : PE X.nox e t) : PE X e t := fun pins s σ H Q I hw =>
  wpAny_mono (h pins s σ H Q (I.wish _) hw) (fun _ _ ⟨v, H', I', r, q⟩ => ⟨v, H', I'.unwish, r, q⟩) fun _ _ z => False.elim z
theorem PT.nox {e : Expr} {t : TT} (h : PT X.nox e t) : PT X e t := fun pins s σ H Q I hw =>
  wpAny_mono (h pins s σ H Q (I.wish _) hw) (fun _ _ ⟨H', I', q⟩ => ⟨H', I'.unwish, q⟩) fun _ _ z => False.elim z
theorem PSs.nox {st : List Stmt} {t : TS} (h : PSs X.nox st t) : PSs X st t := fun pins s σ H D I hw =>
  wpAny_mono (h pins s σ H D (I.wish _) hw) (fun _ _ q => q.unwish) fun _ _ z => False.elim z
end
section
variable {X : Cx} {st : Stmt} {rest : List Stmt} {t u : TS} {e : Expr} {te : TE} {pos : Pos}
def tNext : TS := fun D σ H => D.nx σ H
def tSeq (t u : TS) : TS := fun D σ H => t { D with nx := u D } σ H
theorem pss_nil : PSs X [] tNext := fun _ _ σ H _ I h => wpAny_execs_nil ⟨σ, H, I, h⟩
theorem pss_cons (h1 : PS X st t) (h2 : PSs X rest u) : PSs X (st :: rest) (tSeq t u) := by
  intro pins s σ H D I h
  refine wpAny_execs_cons (thn (h1 pins s σ H { D with nx := u D } I h) fun f s1 q => ?_)
  cases f with
  | next =>
    obtain ⟨σ', H', I', q⟩ := q
    exact h2 pins s1 σ' H' D I' q
  | ret v => exact q
  | brk => exact q
  | cont => exact q
theorem pss_one (h1 : PS X st t) : PSs X [st] t := by
  intro pins s σ H D I h
  refine wpAny_execs_cons (thn (h1 pins s σ H D I h) fun f s1 q => ?_)
  cases f with
  | next => exact wpAny_execs_nil q
  | ret v => exact q
  | brk => exact q
  | cont => exact q
theorem Inv.quiet {pins : List (Addr × Obj)} {σ : St} {H : Hp} {s : Shared} (I : Inv X pins σ H s) : interactive X.env = false := by simp [interactive, I.ok.kind]
def tDrop (te : TE) : TS := fun D σ H => te σ H fun _ H1 => D.nx σ H1
theorem ps_expr (he : PE X e te) (hs : swapsWith e none pos.line X.env = pure false := by rfl) : PS X (.Expr e pos) (tDrop te) := by
  intro pins s σ H D I h
  exact wpAny_Expr_any (thn (he pins s σ H _ I h) fun v s1 ⟨x, H1, I1, r1, q1⟩ => ⟨σ, H1, I1, q1⟩) I.quiet hs
def tRet (te : TE) : TS := fun D σ H => te σ H D.rt
theorem ps_ret (he : PE X e te) : PS X (.Return (some e) pos) (tRet te) := by
  intro pins s σ H D I h
  exact wpAny_Return_some (thn (he pins s σ H _ I h) fun v s1 ⟨x, H1, I1, r1, q1⟩ => ⟨x, σ, H1, I1, r1, q1⟩)
def tRetN : TS := fun D _ H => D.rt .non H
def tIfS (c : TT) (t u : TS) : TS := fun D σ H => c σ H fun b H1 => if b = true then t D σ H1 else u D σ H1
theorem ps_if {c : Expr} {a b : List Stmt} {tc : TT} (hc : PT X c tc) (ha : PSs X a t) (hb : PSs X b u) : PS X (.If c a b pos) (tIfS tc t u) := by
  intro pins s σ H D I h
  refine wpAny_If (thn (hc pins s σ H _ I h) fun d s1 ⟨H1, I1, q1⟩ => ?_)
  cases d with
  | true => exact ha pins s1 σ H1 D I1 q1
  | false => exact hb pins s1 σ H1 D I1 q1
def tNever : TS := fun _ _ _ => False
theorem ps_never : PS X st tNever := fun _ _ _ _ _ _ h => h.elim
end
abbrev TG := V → St → Hp → (St → Hp → Prop) → Prop
abbrev TGs := List V → St → Hp → (St → Hp → Prop) → Prop
def PG (X : Cx) (target : Expr) (t : TG) : Prop :=
  ∀ (pins : List (Addr × Obj)) (s : Shared) (σ : St) (H : Hp) (v : V) (u : Value) (Q : St → Hp → Prop), Inv X pins σ H s → RelV v u → t v σ H Q →
    wpAny (model X.prog X.w) X.A (assign target X.env u) (fun _ s' => ∃ σ' H', Inv X pins σ' H' s' ∧ Q σ' H') X.xe s
def PGs (X : Cx) (ts : List Expr) (t : TGs) : Prop :=
  ∀ (pins : List (Addr × Obj)) (s : Shared) (σ : St) (H : Hp) (vs : List V) (us : List Value) (Q : St → Hp → Prop), Inv X pins σ H s → Vals vs us → t vs σ H Q →
    wpAny (model X.prog X.w) X.A (assignInOrder ((assignEach ts X.env).map (·.2)) us) (fun _ s' => ∃ σ' H', Inv X pins σ' H' s' ∧ Q σ' H') X.xe s
abbrev TSet := V → V → V → Hp → (Hp → Prop) → Prop
def PSet (X : Cx) (t : TSet) : Prop :=
  ∀ (pins : List (Addr × Obj)) (s : Shared) (σ : St) (H : Hp) (o i v : V) (ov iv u : Value) (Q : Hp → Prop), Inv X pins σ H s → RelV o ov → RelV i iv → RelV v u → t o i v H Q →
    wpAny (model X.prog X.w) X.A (setItem ov iv u) (fun _ s' => ∃ H', Inv X pins σ H' s' ∧ Q H') X.xe s
section
variable {X : Cx} {pos : Pos}
def gName (i : Nat) : TG := fun v σ H Q => Q (σ.set i (some v)) H
theorem pg_name {i : Nat} {x : Str} (hN : X.N.Nodup) (hi : X.N[i]? = some x) (hx : Loc X.env.scope x) (hf : X.fn x = true ∨ X.env.scope.names.lookup x = some .local := by first | exact .inl rfl | exact .inr rfl | assumption) : PG X (.Name x pos) (gName i) := by
  intro pins s σ H v u Q I r h
  exact wpAny_assign_Name (store_ok I hN hi hx r (fun s' I' => ⟨_, H, I', h⟩) hf)
def gNil : TGs := fun vs σ H Q => vs = [] ∧ Q σ H
def gCons (t : TG) (u : TGs) : TGs := fun vs σ H Q => ∃ v r, vs = v :: r ∧ t v σ H fun σ' H' => u r σ' H' Q
theorem pgs_nil : PGs X [] gNil := by
  intro pins s σ H vs us Q I r h
  obtain ⟨e, h⟩ := h
  subst e
  cases r
  exact assignInOrder_nil ⟨σ, H, I, h⟩
theorem pgs_cons {e : Expr} {es : List Expr} {t : TG} {u : TGs} (h1 : PG X e t) (h2 : PGs X es u)
    (hs : (assignEach (e :: es) X.env).map (·.2) = assign e X.env :: (assignEach es X.env).map (·.2) := by rfl) : PGs X (e :: es) (gCons t u) := by
  intro pins s σ H vs us Q I r h
  obtain ⟨v, vr, e1, h⟩ := h
  subst e1
  cases r with
  | cons r rr =>
    rw [hs]
    refine assignInOrder_cons (thn (h1 pins s σ H _ _ _ I r h) fun _ s1 ⟨σ1, H1, I1, q1⟩ => ?_)
    exact h2 pins s1 σ1 H1 _ _ Q I1 rr q1
def gSub (to ti : TE) (t : TSet) : TG := fun v σ H Q => to σ H fun o H1 => ti σ H1 fun i H2 => t o i v H2 fun H3 => Q σ H3
theorem pg_sub {o i : Expr} {to ti : TE} {t : TSet} (ho : PE X o to) (hi : PE X i ti) (hs : PSet X t)
    (ha : ∀ v, assign (.Subscript o i pos) X.env v = (do
      let ov ← holding [v] (eval o X.env)
      let iv ← holding [v, ov] (eval i X.env)
      standAt pos
      holding [v, ov, iv] (setItem ov iv v)
      release [v, ov, iv] []) := by intro _; rfl) : PG X (.Subscript o i pos) (gSub to ti t) := by
  intro pins s σ H v u Q I r h
  rw [ha]
  refine wpAny_bind (wpAny_holding (thn (ho pins s σ H _ I h) fun ov s1 ⟨x, H1, I1, r1, q1⟩ => ?_))
  refine wpAny_bind (wpAny_holding (thn (hi pins s1 σ H1 _ I1 q1) fun iv s2 ⟨y, H2, I2, r2, q2⟩ => ?_))
  refine wpAny_bind (wpAny_standAt (wpAny_bind (wpAny_holding (thn (hs pins s2 σ H2 x y v ov iv u _ I2 r1 r2 r q2) fun _ s3 ⟨H3, I3, q3⟩ => ?_))))
  exact wpAny_release ⟨σ, H3, I3, q3⟩
def tAsg (te : TE) (g : TG) : TS := fun D σ H => te σ H fun x H1 => g x σ H1 D.nx
theorem ps_asg {tg e : Expr} {te : TE} {g : TG} (he : PE X e te) (hg : PG X tg g) (hs : swapsWithSole [tg] e pos.line X.env = pure false := by rfl) (hw : swappedStores [tg] e X.env = pure none := by rfl)
    (h1 : (assignEach [tg] X.env).map (·.2) = [assign tg X.env] := by rfl) : PS X (.Assign [tg] e pos) (tAsg te g) := by
  intro pins s σ H D I h
  refine wpAny_Assign_stores (thn (he pins s σ H _ I h) fun v s1 ⟨x, H1, I1, r1, q1⟩ => ?_) hs hw
  rw [h1]
  exact thn (hg pins s1 σ H1 x v _ I1 r1 q1) fun _ s2 q => q
theorem ps_set {i : Nat} {x : Str} {e : Expr} {te : TE} {pos' : Pos} (hN : X.N.Nodup) (hi : X.N[i]? = some x) (hx : Loc X.env.scope x) (he : PE X e te) (hs : swapsWith e (some (.Name x pos')) pos.line X.env = pure false := by rfl) (hf : X.fn x = true ∨ X.env.scope.names.lookup x = some .local := by first | exact .inl rfl | exact .inr rfl | assumption) :
    PS X (.Assign [.Name x pos'] e pos) (tAsg te (gName i)) := by
  intro pins s σ H D I h
  refine wpAny_Assign_Name (thn (he pins s σ H _ I h) fun v s1 ⟨y, H1, I1, r1, q1⟩ => ?_) hs
  exact store_ok I1 hN hi hx r1 (fun s2 I2 => ⟨_, H1, I2, q1⟩) hf
end
section
variable {X : Cx} {pos : Pos}
def tWhile (c : TT) (tb : TS) : TS := fun D σ H => ∃ W : Nat → St → Hp → Prop, (∃ m, W m σ H) ∧ ∀ m σ H, W m σ H →
  c σ H fun b H1 => if b = true then ∃ N : St → Hp → Prop, (∀ σ' H', N σ' H' → ∃ m', m' < m ∧ W m' σ' H') ∧ tb { D with nx := N, ct := N, bk := D.nx } σ H1 else D.nx σ H1
theorem ps_while {c : Expr} {body : List Stmt} {tc : TT} {tb : TS} (hp : PassesOwn (model X.prog X.w) X.A X.env X.xe) (hc : PT X c tc) (hb : PSs X body tb) : PS X (.While c body [] pos) (tWhile tc tb) := by
  intro pins s σ H D I h
  obtain ⟨W, ⟨m0, w0⟩, turn⟩ := h
  refine wpAny_While (codeAny_whileLoop (fun n s' => ∃ σ' H', Inv X pins σ' H' s' ∧ W n σ' H') ?_ m0 ⟨σ, H, I, w0⟩)
  rintro n s1 ⟨σ1, H1, I1, w1⟩
  refine wpAny_passesOwn hp (thn (hc pins s1 σ1 H1 _ I1 (turn n σ1 H1 w1)) fun b s2 ⟨H2, I2, q2⟩ => ?_)
  cases b with
  | true =>
    obtain ⟨N, hN, q2⟩ := q2
    rw [if_pos rfl]
    refine wpAny_passesOwn hp (thn (hb pins s2 σ1 H2 _ I2 q2) fun f s3 q3 => ?_)
    cases f with
    | next =>
      obtain ⟨σ3, H3, I3, n3⟩ := q3
      obtain ⟨m', hm, w3⟩ := hN σ3 H3 n3
      exact ⟨m', hm, σ3, H3, I3, w3⟩
    | cont =>
      obtain ⟨σ3, H3, I3, n3⟩ := q3
      obtain ⟨m', hm, w3⟩ := hN σ3 H3 n3
      exact ⟨m', hm, σ3, H3, I3, w3⟩
    | brk => exact q3
    | ret v => exact q3
  | false =>
    rw [if_neg Bool.false_ne_true]
    exact wpAny_execs_nil ⟨σ1, H2, I2, q2⟩
end
structure It where
  go : Nat → Hp → Prop
  yld : Nat → Hp → V → Hp → Prop
  stop : Nat → Hp → Prop
def FpOk (X : Cx) (pins : List (Addr × Obj)) (H : Hp) (b : Addr) : Prop :=
  H b = none ∧ b ≠ X.env.locals ∧ b ∉ X.fs ∧ (b ∈ X.ex ∨ X.s₀.heap.objs.size ≤ b) ∧ (∀ x c, X.env.cells.lookup x = some c → c ≠ b) ∧ ∀ p ∈ X.pn ++ pins, p.1 ≠ b
theorem Inv.fpOk {X : Cx} {pins : List (Addr × Obj)} {σ : St} {H H' : Hp} {s : Shared} {b : Addr} (I : Inv X pins σ H s) (hb : s.heap.objs.size ≤ b) (hn : H' b = none) : FpOk X pins H' b := by
  refine ⟨hn, Nat.ne_of_gt (Nat.lt_of_lt_of_le I.lt hb), I.nofs hb, .inr (Nat.le_trans I.sz hb), fun x c e z => ?_, fun p hp z => ?_⟩
  · obtain ⟨v, q⟩ := I.cell x c e
    exact absurd (Nat.lt_of_lt_of_le q.lt (by rw [z]; exact hb)) (Nat.lt_irrefl _)
  · exact absurd (Nat.lt_of_lt_of_le (Heap.lt_size (I.pin p hp).1) (by rw [z]; exact hb)) (Nat.lt_irrefl _)
structure Turn (P : Program) (w : World) (K : PySem.W.Frag) (tg : Expr) (J : It) (fp : List Addr) (it : Addr) (tn : Nat → Heap → Prop) : Prop where
  mem : it ∈ fp
  obj : ∀ i h, tn i h → ∀ b ∈ fp, ∃ o, h.get? b = some o ∧ ∀ v, o.data ≠ .cell v
  keep : ∀ i h h', tn i h → (∀ b ∈ fp, ∀ o, h.get? b = some o → h'.get? b = some o) → tn i h'
  item : ∀ (X : Cx), X.prog = P → X.w = w → X.K = K → X.calm = true → ∀ (i : Nat) (pins : List (Addr × Obj)) (s : Shared) (σ : St) (H : Hp) (E : Value → Shared → Prop), Inv X pins σ H s → (∀ b ∈ fp, FpOk X pins H b) → tn i s.heap → J.go i H →
    wpAny (model P w) X.A (pyNext (.ref it)) (fun r s1 => ∃ u, r = some u ∧
      wpAny (model P w) X.A (letOwnedTupleGo tg (.ref it) u) (fun _ s2 => ∃ x H', Inv X pins σ H' s2 ∧ RelV x u ∧ J.yld i H x H' ∧ tn (i + 1) s2.heap ∧ ∀ b ∈ fp, H' b = none) E s1) E s
  done : ∀ (X : Cx), X.prog = P → X.w = w → X.K = K → X.calm = true → ∀ (i : Nat) (pins : List (Addr × Obj)) (s : Shared) (σ : St) (H : Hp) (E : Value → Shared → Prop), Inv X pins σ H s → (∀ b ∈ fp, FpOk X pins H b) → tn i s.heap → J.stop i H →
    wpAny (model P w) X.A (pyNext (.ref it)) (fun r s1 => r = none ∧ Inv X pins σ H s1) E s
  self : ∀ (A : Around) (i : Nat) (s : Shared) (Q : Value → Shared → Prop) (E : Value → Shared → Prop), tn i s.heap → Q (.ref it) s → wpAny (model P w) A (pyIter (.ref it)) Q E s
abbrev TI := St → Hp → (It → Hp → Prop) → Prop
def PIE (X : Cx) (pins : List (Addr × Obj)) (σ : St) (tg : Expr) (R : It → Hp → Prop) (itv : Value) (s2 : Shared) : Prop :=
  ∃ (it : Addr) (fp : List Addr) (tn : Nat → Heap → Prop) (J : It) (H' : Hp), itv = .ref it ∧ Inv X pins σ H' s2 ∧ Turn X.prog X.w X.K tg J fp it tn ∧ tn 0 s2.heap ∧ (∀ b ∈ fp, FpOk X pins H' b) ∧ R J H'
def PI (X : Cx) (tg iter : Expr) (wi : TI) : Prop :=
  ∀ (pins : List (Addr × Obj)) (s : Shared) (σ : St) (H : Hp) (R : It → Hp → Prop), Inv X pins σ H s → wi σ H R →
    wpAny (model X.prog X.w) X.A (eval iter X.env) (fun v s1 => wpAny (model X.prog X.w) X.A (pyIter v) (PIE X pins σ tg R) X.xe s1) X.xe s
theorem go_of {M : Model} {A : Around} {E : Value → Shared → Prop} {s : Shared} {tg : Expr} {it : Addr} {u : Value} {o : Obj} {n : String} {vs : Array Value} {Q : Unit → Shared → Prop} (ho : s.heap.get? it = some o) (hc : o.cls = .type n) (hd : o.data = .fields vs)
    (hn : ["enumerate", "zip", "dict_itemiterator", "dict_reverseitemiterator", "odict_iterator", "itertools.zip_longest", "itertools.pairwise"].contains n = false) (hQ : Q () s) : wpAny M A (letOwnedTupleGo tg (.ref it) u) Q E s := by
  unfold letOwnedTupleGo
  cases tg <;> first
    | exact wpAny_pure hQ
    | (cases u <;> first
        | exact wpAny_pure hQ
        | (refine wpAny_bind (wpAny_load ho ?_)
           rw [hc, hd]
           show wpAny M A (if (["enumerate", "zip", "dict_itemiterator", "dict_reverseitemiterator", "odict_iterator", "itertools.zip_longest", "itertools.pairwise"].contains n && vs[0]? == some (rawInt _)) = true then _ else _) Q E s
           rw [if_neg (by intro h; rw [hn, Bool.false_and] at h; cases h)]
           exact wpAny_pure hQ))
def Itl (K : PySem.W.Frag) (a : Addr) : It :=
  ⟨fun i H => ∃ xs x, SqL K H a xs ∧ xs[i]? = some x, fun i H x H' => H' = H ∧ ∀ xs, SqL K H a xs → xs[i]? = some x, fun i H => ∃ xs, SqL K H a xs ∧ xs.length ≤ i⟩
def Itt (K : PySem.W.Frag) (a : Addr) : It :=
  ⟨fun i H => ∃ xs x, SqT K H a xs ∧ xs[i]? = some x, fun i H x H' => H' = H ∧ ∀ xs, SqT K H a xs → xs[i]? = some x, fun i H => ∃ xs, SqT K H a xs ∧ xs.length ≤ i⟩
def Itr (lo : Int) (n : Nat) : It := ⟨fun i _ => i < n, fun i H x H' => H' = H ∧ x = .int (lo + i), fun i _ => n ≤ i⟩
theorem turn_list {P : Program} {w : World} {K : PySem.W.Frag} {tg : Expr} (a it : Addr) : Turn P w K tg (Itl K a) [it] it (fun i h => h.IsListIter it a i) where
  mem := by simp
  obj := fun i h st b hb => by
    have e : b = it := by simpa using hb
    subst e
    obtain ⟨o, e, c, d⟩ := st
    exact ⟨o, e, fun v z => by rw [d] at z; cases z⟩
  keep := fun i h h' st k => st.at fun o e => k it (by simp) o e
  item := by
    intro X hP hw hK hc i pins s σ H E I hf st hg
    subst hP hw hK
    obtain ⟨xs, x, hq, hx⟩ := hg
    obtain ⟨its, rv, p, hz⟩ := I.list hq
    obtain ⟨u, hu, ru⟩ := rv.get hx
    obtain ⟨f0, f1, f2, f3, f4, f5⟩ := hf it (by simp)
    refine wpAny_pyNext_list_item st p.isList (x := u) (by simpa using hu) fun h' st' sb => ?_
    have I1 : Inv X pins σ H { s with heap := h' } := I.turned (t' := s.toks) (fun b o hb e => (sb.2 b hb).trans e) f0 f1 f3 f4 f5
    obtain ⟨o, e, c, d⟩ := id st'
    exact ⟨u, rfl, go_of (s := { s with heap := h' }) e c d (by decide) ⟨x, H, I1, ru, ⟨rfl, fun ys hy => by rw [I.list_inj hy hq]; exact hx⟩, st', fun b hb => (hf b hb).1⟩⟩
  done := by
    intro X hP hw hK hc i pins s σ H E I hf st hg
    subst hP hw hK
    obtain ⟨xs, hq, hx⟩ := hg
    obtain ⟨its, rv, p, hz⟩ := I.list hq
    obtain ⟨f0, f1, f2, f3, f4, f5⟩ := hf it (by simp)
    have hl := rv.length
    exact wpAny_pyNext_list_end (I.ok.hd hc) st p.isList (by simp; omega) fun h' eb => ⟨rfl, I.turned (t' := s.toks) (fun b o hb e => eb b o hb e) f0 f1 f3 f4 f5⟩
  self := fun _ _ _ _ _ st h => wpAny_pyIter_listiter st h
theorem turn_tuple {P : Program} {w : World} {K : PySem.W.Frag} {tg : Expr} (a it : Addr) : Turn P w K tg (Itt K a) [it] it (fun i h => h.IsTupleIter it a i) where
  mem := by simp
  obj := fun i h st b hb => by
    have e : b = it := by simpa using hb
    subst e
    obtain ⟨o, e, c, d⟩ := st
    exact ⟨o, e, fun v z => by rw [d] at z; cases z⟩
  keep := fun i h h' st k => st.at fun o e => k it (by simp) o e
  item := by
    intro X hP hw hK hc i pins s σ H E I hf st hg
    subst hP hw hK
    obtain ⟨xs, x, hq, hx⟩ := hg
    obtain ⟨its, rv, p, hz⟩ := I.tuple hq
    obtain ⟨u, hu, ru⟩ := rv.get hx
    obtain ⟨f0, f1, f2, f3, f4, f5⟩ := hf it (by simp)
    refine wpAny_pyNext_tuple_item st (show s.heap.IsTuple a its.toArray from p) (x := u) (by simpa using hu) fun h' st' sb => ?_
    have I1 : Inv X pins σ H { s with heap := h' } := I.turned (t' := s.toks) (fun b o hb e => (sb.2 b hb).trans e) f0 f1 f3 f4 f5
    obtain ⟨o, e, c, d⟩ := id st'
    exact ⟨u, rfl, go_of (s := { s with heap := h' }) e c d (by decide) ⟨x, H, I1, ru, ⟨rfl, fun ys hy => by rw [I.tuple_inj hy hq]; exact hx⟩, st', fun b hb => (hf b hb).1⟩⟩
  done := by
    intro X hP hw hK hc i pins s σ H E I hf st hg
    subst hP hw hK
    obtain ⟨xs, hq, hx⟩ := hg
    obtain ⟨its, rv, p, hz⟩ := I.tuple hq
    obtain ⟨f0, f1, f2, f3, f4, f5⟩ := hf it (by simp)
    have hl := rv.length
    exact wpAny_pyNext_tuple_end (I.ok.hd hc) st (show s.heap.IsTuple a its.toArray from p) (by simp; omega) fun h' eb => ⟨rfl, I.turned (t' := s.toks) (fun b o hb e => eb b o hb e) f0 f1 f3 f4 f5⟩
  self := fun _ _ _ _ _ st h => wpAny_pyIter_tupleiter st h
theorem turn_range {P : Program} {w : World} {K : PySem.W.Frag} {tg : Expr} (it : Addr) (lo : Int) (n : Nat) : Turn P w K tg (Itr lo n) [it] it (fun i h => IsRangeIter h it (lo + (i : Nat) * 1) ((n : Int) - (i : Nat)) 1) where
  mem := by simp
  obj := fun i h st b hb => by
    have e : b = it := by simpa using hb
    subst e
    exact ⟨_, st, fun v z => by
      have z' : Data.fields _ = Data.cell v := z
      cases z'⟩
  keep := fun i h h' st k => k it (by simp) _ st
  item := by
    intro X hP hw hK hc i pins s σ H E I hf st hg
    subst hP hw hK
    obtain ⟨f0, f1, f2, f3, f4, f5⟩ := hf it (by simp)
    have W := Walks.range (prog := X.prog) (w := X.w) (I.ok.hd hc) it lo 1 n
    refine W.item i s _ _ hg st fun v h' tk hv st' kk => ?_
    obtain ⟨t, rfl⟩ := hv
    have I1 : Inv X pins σ H { s with heap := h', toks := tk } := I.turned (fun b o hb e => kk b o (by simpa using hb) e) f0 f1 f3 f4 f5
    refine ⟨_, rfl, go_of (s := { s with heap := h', toks := tk }) (n := "range_iterator") st' rfl rfl (by decide) ⟨.int (lo + i), H, I1, ⟨t, ?_⟩, ⟨rfl, rfl⟩, st', fun b hb => (hf b hb).1⟩⟩
    rw [Int.mul_one]
  done := by
    intro X hP hw hK hc i pins s σ H E I hf st hg
    subst hP hw hK
    obtain ⟨f0, f1, f2, f3, f4, f5⟩ := hf it (by simp)
    exact wpAny_pyNext_range_end (I.ok.hd hc) st (by have : n ≤ i := hg; omega) fun h' eb => ⟨rfl, I.turned (t' := s.toks) (fun b o hb e => eb b o hb e) f0 f1 f3 f4 f5⟩
  self := fun _ _ _ _ _ st h => wpAny_pyIter_rangeiter st h
end L2
namespace L2
open PySem PySem.Spec PyProof.Rows
section
variable {X : Cx} {tg : Expr}
def iList (K : PySem.W.Frag) (tl : TE) : TI := fun σ H R => tl σ H fun x H1 => ∃ a, x = .ref a ∧ (∃ xs, SqL K H1 a xs) ∧ R (Itl K a) H1
def iTup (K : PySem.W.Frag) (tl : TE) : TI := fun σ H R => tl σ H fun x H1 => ∃ a, x = .ref a ∧ (∃ xs, SqT K H1 a xs) ∧ R (Itt K a) H1
theorem pi_list {l : Expr} {tl : TE} (hl : PE X l tl) : PI X tg l (iList X.K tl) := by
  intro pins s σ H R I h
  refine thn (hl pins s σ H _ I h) fun v s1 ⟨x, H1, I1, r1, q1⟩ => ?_
  obtain ⟨a, e, ⟨xs, hq⟩, q⟩ := q1
  subst e
  cases r1
  obtain ⟨its, rv, p, hz⟩ := I1.list hq
  refine wpAny_pyIter_list p.isList ?_
  refine ⟨s1.heap.objs.size, [s1.heap.objs.size], _, _, H1, rfl, I1.kept (t' := s1.toks) fun b o e => Heap.get?_push_of_some _ e, turn_list a _, ⟨_, Heap.get?_push_size _ rfl, rfl, rfl⟩, fun b hb => ?_, q⟩
  have e : b = s1.heap.objs.size := by simpa using hb
  subst e
  exact I1.fpOk (Nat.le_refl _) (I1.hok.fresh (Nat.le_refl _))
theorem pi_tup {l : Expr} {tl : TE} (hl : PE X l tl) : PI X tg l (iTup X.K tl) := by
  intro pins s σ H R I h
  refine thn (hl pins s σ H _ I h) fun v s1 ⟨x, H1, I1, r1, q1⟩ => ?_
  obtain ⟨a, e, ⟨xs, hq⟩, q⟩ := q1
  subst e
  cases r1
  obtain ⟨its, rv, p, hz⟩ := I1.tuple hq
  refine wpAny_pyIter_tuple (show s1.heap.IsTuple a its.toArray from p) ?_
  refine ⟨s1.heap.objs.size, [s1.heap.objs.size], _, _, H1, rfl, I1.kept (t' := s1.toks) fun b o e => Heap.get?_push_of_some _ e, turn_tuple a _, ⟨_, Heap.get?_push_size _ rfl, rfl, rfl⟩, fun b hb => ?_, q⟩
  have e : b = s1.heap.objs.size := by simpa using hb
  subst e
  exact I1.fpOk (Nat.le_refl _) (I1.hok.fresh (Nat.le_refl _))
theorem range_it {pins : List (Addr × Obj)} {σ : St} {H : Hp} {s : Shared} {R : It → Hp → Prop} {E : Value → Shared → Prop} {lo hi : Int} {t u v : Tok} {tk : Nat} (I : Inv X pins σ H s) (h1 : -(2 ^ 62) ≤ lo) (h2 : lo < 2 ^ 62) (h3 : -(2 ^ 62) ≤ hi) (h4 : hi < 2 ^ 62)
    (q : R (Itr lo (hi - lo).toNat) H) : wpAny (model X.prog X.w) X.A (pyIter (.ref s.heap.objs.size)) (PIE X pins σ tg R) E { s with heap := s.heap.push { cls := .type "range", data := .fields #[.int lo t, .int hi u, .int 1 v] }, toks := tk } := by
  refine wpAny_pyIter_range (IsRange.new ..) (small_one h1 h2 h3 h4) ?_
  have I1 : Inv X pins σ H { s with heap := s.heap.push { cls := .type "range", data := .fields #[.int lo t, .int hi u, .int 1 v] }, toks := tk } := I.kept fun b o e => Heap.get?_push_of_some _ e
  refine ⟨(s.heap.push { cls := .type "range", data := .fields #[.int lo t, .int hi u, .int 1 v] }).objs.size, [(s.heap.push { cls := .type "range", data := .fields #[.int lo t, .int hi u, .int 1 v] }).objs.size], _, _, H, rfl,
    I1.kept (t' := tk) fun b o e => Heap.get?_push_of_some _ e, turn_range _ lo (hi - lo).toNat, ?_, fun b hb => ?_, q⟩
  · have e1 : lo + ((0 : Nat) : Int) * 1 = lo := by simp
    have e2 : (((hi - lo).toNat : Nat) : Int) - ((0 : Nat) : Int) = Builtin.Range.rangeSize lo hi 1 := by rw [rangeSize_one]; split <;> omega
    show IsRangeIter _ _ (lo + ((0 : Nat) : Int) * 1) ((((hi - lo).toNat : Nat) : Int) - ((0 : Nat) : Int)) 1
    rw [e1, e2]
    exact Heap.get?_push_size _ rfl
  · have e : b = (s.heap.push { cls := .type "range", data := .fields #[.int lo t, .int hi u, .int 1 v] }).objs.size := by simpa using hb
    subst e
    exact I1.fpOk (Nat.le_refl _) (I1.hok.fresh (Nat.le_refl _))
def iRng1 (ta : TA) : TI := fun σ H R => ta σ H fun vs H1 => ∃ j : Int, vs = [.int j] ∧ -(2 ^ 62) ≤ j ∧ j < 2 ^ 62 ∧ R (Itr 0 j.toNat) H1
def iRng2 (ta : TA) : TI := fun σ H R => ta σ H fun vs H1 => ∃ i j : Int, vs = [.int i, .int j] ∧ (-(2 ^ 62) ≤ i ∧ i < 2 ^ 62 ∧ -(2 ^ 62) ≤ j ∧ j < 2 ^ 62) ∧ R (Itr i (j - i).toNat) H1
theorem pi_range1 {a : Expr} {ta : TA} {p pos : Pos} (hg : Gl X "range") (hm : X.mg "range" = none) (ha : PA X [a] ta) (hs : starEach [a] X.env = [(false, eval a X.env)] := by rfl) : PI X tg (.Call (.Name "range" p) [a] [] pos) (iRng1 ta) := by
  intro pins s σ H R I h
  refine Call_ (ld_blt I hg hm boot_range (PyProof.Rows.callWith_type1 (thn (ha pos pins s σ H _ I h) fun us s1 ⟨vs, H1, I1, r1, q1⟩ => ?_) hs rfl))
  obtain ⟨j, e, q1, q2, q⟩ := q1
  subst e
  cases r1 with
  | cons r rr =>
    cases rr
    obtain ⟨t, rfl⟩ := r
    exact call_range_1 (range_it I1 (by omega) (by omega) q1 q2 (by simpa using q))
def tFor (wi : TI) (g : TG) (tb : TS) : TS := fun D σ H => wi σ H fun J H1 => ∃ W : Nat → Nat → St → Hp → Prop, (∃ m, W 0 m σ H1) ∧ ∀ i m σ H, W i m σ H →
  (J.stop i H ∧ D.nx σ H) ∨ (J.go i H ∧ ∃ N : St → Hp → Prop, (∀ σ' H', N σ' H' → ∃ m', m' < m ∧ W (i + 1) m' σ' H') ∧ ∀ x H', J.yld i H x H' → g x σ H' fun σ2 H2 => tb { D with nx := N, ct := N, bk := D.nx } σ2 H2)
def pinsAt (fp : List Addr) (h : Heap) : List (Addr × Obj) := fp.filterMap fun b => (h.get? b).map fun o => (b, o)
theorem mem_pinsAt {fp : List Addr} {h : Heap} {b : Addr} {o : Obj} (hb : b ∈ fp) (e : h.get? b = some o) : (b, o) ∈ pinsAt fp h := List.mem_filterMap.mpr ⟨b, hb, by rw [e]; rfl⟩
theorem of_pinsAt {fp : List Addr} {h : Heap} {p : Addr × Obj} (hp : p ∈ pinsAt fp h) : p.1 ∈ fp ∧ h.get? p.1 = some p.2 := by
  obtain ⟨b, hb, e⟩ := List.mem_filterMap.mp hp
  cases q : h.get? b with
  | none => rw [q] at e; cases e
  | some o =>
    rw [q] at e
    have e' : (b, o) = p := Option.some.inj e
    subst e'
    exact ⟨hb, q⟩
theorem Inv.pinned {pins : List (Addr × Obj)} {σ : St} {H : Hp} {s : Shared} {fp : List Addr} (I : Inv X pins σ H s) (hf : ∀ b ∈ fp, FpOk X pins H b) (ho : ∀ b ∈ fp, ∃ o, s.heap.get? b = some o ∧ ∀ v, o.data ≠ .cell v) : Inv X (pins ++ pinsAt fp s.heap) σ H s :=
  I.pins_of fun p hp => (List.mem_append.mp hp).elim (fun z => I.pin p (List.mem_append_right _ z)) fun z => by
    obtain ⟨hb, e⟩ := of_pinsAt z
    obtain ⟨f0, f1, f2, _⟩ := hf p.1 hb
    obtain ⟨o, e', d⟩ := ho p.1 hb
    rw [e] at e'; cases e'
    exact ⟨e, f0, f1, f2, d⟩
theorem Inv.unpinned {pins pl : List (Addr × Obj)} {σ : St} {H : Hp} {s : Shared} (I : Inv X (pins ++ pl) σ H s) : Inv X pins σ H s := I.pins_of fun p hp => I.pin p (List.mem_append_right _ (List.mem_append_left _ hp))
theorem ps_for {iter : Expr} {body : List Stmt} {wi : TI} {g : TG} {tb : TS} {pos : Pos} (hp : PassesOwn (model X.prog X.w) X.A X.env X.xe) (hc : X.calm = true) (hi : PI X tg iter wi) (hg : PG X tg g) (hb : PSs X body tb)
    (hs : ∀ x, foldedSetIterable iter X.env x = pure x := by intro _; rfl) : PS X (.For tg iter body [] pos) (tFor wi g tb) := by
  intro pins s σ H D I h
  refine wpAny_For (thn (hi pins s σ H _ I h) fun v s1 h1 => thn h1 fun itv s2 h2 => ?_) hs
  obtain ⟨it, fp, tn, J, H2, e, I2, T, st2, f2, W, ⟨m0, w0⟩, turn⟩ := h2
  subst e
  have stat : ∀ {H' : Hp}, (∀ b ∈ fp, H' b = none) → ∀ b ∈ fp, FpOk X pins H' b := fun hn b hb => ⟨hn b hb, (f2 b hb).2⟩
  refine codeAny_forLoop_any (fun n s' => ∃ i σ' H', Inv X pins σ' H' s' ∧ tn i s'.heap ∧ (∀ b ∈ fp, H' b = none) ∧ W i n σ' H') ?_ m0 ⟨0, σ, H2, I2, st2, fun b hb => (f2 b hb).1, w0⟩
  rintro n s3 ⟨i, σ3, H3, I3, st3, fr3, w3⟩
  rcases turn i n σ3 H3 w3 with ⟨stop, qn⟩ | ⟨go, N, hN, step⟩
  · refine wpAny_passesOwn hp (thn (T.done X rfl rfl rfl hc i pins s3 σ3 H3 X.xe I3 (stat fr3) st3 stop) fun r s4 ⟨hr, I4⟩ => ?_)
    subst hr
    exact wpAny_execs_nil ⟨σ3, H3, I4, qn⟩
  · refine wpAny_passesOwn hp (thn (T.item X rfl rfl rfl hc i pins s3 σ3 H3 X.xe I3 (stat fr3) st3 go) fun r s4 ⟨u, hr, h4⟩ => ?_)
    subst hr
    refine wpAny_passesOwn hp (thn h4 fun _ s5 ⟨x, H5, I5, r5, y5, st5, fr5⟩ => ?_)
    have I5' := I5.pinned (stat fr5) (T.obj _ _ st5)
    refine wpAny_passesOwn hp (thn (hg _ s5 σ3 H5 x u _ I5' r5 (step x H5 y5)) fun _ s6 ⟨σ6, H6, I6, q6⟩ => ?_)
    refine wpAny_passesOwn hp (thn (hb _ s6 σ6 H6 _ I6 q6) fun f s7 q7 => ?_)
    have again : ∀ {σ7 : St} {H7 : Hp}, Inv X (pins ++ pinsAt fp s5.heap) σ7 H7 s7 → N σ7 H7 → ∃ m, m < n ∧ ∃ i σ' H', Inv X pins σ' H' s7 ∧ tn i s7.heap ∧ (∀ b ∈ fp, H' b = none) ∧ W i m σ' H' := fun {σ7 H7} I7 n7 => by
      obtain ⟨m', hm, w7⟩ := hN σ7 H7 n7
      refine ⟨m', hm, i + 1, σ7, H7, I7.unpinned, T.keep _ _ _ st5 fun b hb o e => (I7.pin (b, o) (List.mem_append_right _ (List.mem_append_right _ (mem_pinsAt hb e)))).1, fun b hb => ?_, w7⟩
      obtain ⟨o, e, d⟩ := T.obj _ _ st5 b hb
      exact (I7.pin (b, o) (List.mem_append_right _ (List.mem_append_right _ (mem_pinsAt hb e)))).2.1
    cases f with
    | next => obtain ⟨σ7, H7, I7, n7⟩ := q7; exact again I7 n7
    | cont => obtain ⟨σ7, H7, I7, n7⟩ := q7; exact again I7 n7
    | brk => obtain ⟨σ7, H7, I7, q7⟩ := q7; exact ⟨σ7, H7, I7.unpinned, q7⟩
    | ret v => obtain ⟨x7, σ7, H7, I7, r7, q7⟩ := q7; exact ⟨x7, σ7, H7, I7.unpinned, r7, q7⟩
end
theorem for_list {K : PySem.W.Frag} {a : Addr} {xs : List V} {g : TG} {tb : TS} {D : Ends} {σ : St} {H : Hp} (Pv : Nat → St → Hp → Prop) (h0 : Pv 0 σ H) (hl : ∀ i σ H, i ≤ xs.length → Pv i σ H → SqL K H a xs)
    (hs : ∀ i x σ H, xs[i]? = some x → Pv i σ H → g x σ H fun σ2 H2 => tb { D with nx := Pv (i + 1), ct := Pv (i + 1), bk := D.nx } σ2 H2) (hd : ∀ σ H, Pv xs.length σ H → D.nx σ H) :
    ∃ W : Nat → Nat → St → Hp → Prop, (∃ m, W 0 m σ H) ∧ ∀ i m σ H, W i m σ H →
      ((Itl K a).stop i H ∧ D.nx σ H) ∨ ((Itl K a).go i H ∧ ∃ N : St → Hp → Prop, (∀ σ' H', N σ' H' → ∃ m', m' < m ∧ W (i + 1) m' σ' H') ∧ ∀ x H', (Itl K a).yld i H x H' → g x σ H' fun σ2 H2 => tb { D with nx := N, ct := N, bk := D.nx } σ2 H2) := by
  refine ⟨fun i m σ H => m = xs.length - i ∧ i ≤ xs.length ∧ Pv i σ H, ⟨xs.length, by simp, Nat.zero_le _, h0⟩, ?_⟩
  rintro i m σ H ⟨rfl, hi, p⟩
  have q := hl i σ H hi p
  by_cases hlt : i < xs.length
  · refine .inr ⟨⟨xs, xs[i], q, by simp [hlt]⟩, Pv (i + 1), fun σ' H' p' => ⟨xs.length - (i + 1), by omega, rfl, hlt, p'⟩, fun x H' y => ?_⟩
    obtain ⟨e, y⟩ := y
    subst e
    exact hs i x σ _ (y xs q) p
  · have e : i = xs.length := by omega
    subst e
    exact .inl ⟨⟨xs, q, Nat.le_refl _⟩, hd σ H p⟩
theorem for_range {lo : Int} {n : Nat} {g : TG} {tb : TS} {D : Ends} {σ : St} {H : Hp} (Pv : Nat → St → Hp → Prop) (h0 : Pv 0 σ H)
    (hs : ∀ i σ H, i < n → Pv i σ H → g (.int (lo + i)) σ H fun σ2 H2 => tb { D with nx := Pv (i + 1), ct := Pv (i + 1), bk := D.nx } σ2 H2) (hd : ∀ σ H, Pv n σ H → D.nx σ H) :
    ∃ W : Nat → Nat → St → Hp → Prop, (∃ m, W 0 m σ H) ∧ ∀ i m σ H, W i m σ H →
      ((Itr lo n).stop i H ∧ D.nx σ H) ∨ ((Itr lo n).go i H ∧ ∃ N : St → Hp → Prop, (∀ σ' H', N σ' H' → ∃ m', m' < m ∧ W (i + 1) m' σ' H') ∧ ∀ x H', (Itr lo n).yld i H x H' → g x σ H' fun σ2 H2 => tb { D with nx := N, ct := N, bk := D.nx } σ2 H2) := by
  refine ⟨fun i m σ H => m = n - i ∧ i ≤ n ∧ Pv i σ H, ⟨n, by simp, Nat.zero_le _, h0⟩, ?_⟩
  rintro i m σ H ⟨rfl, hi, p⟩
  by_cases hlt : i < n
  · refine .inr ⟨hlt, Pv (i + 1), fun σ' H' p' => ⟨n - (i + 1), by omega, rfl, hlt, p'⟩, fun x H' y => ?_⟩
    obtain ⟨e, y⟩ := y
    subst e y
    exact hs i σ _ hlt p
  · have e : i = n := by omega
    subst e
    exact .inl ⟨Nat.le_refl _, hd σ H p⟩
theorem while_by {c : TT} {tb : TS} {D : Ends} {σ : St} {H : Hp} (Pv : St → Hp → Prop) (μ : St → Hp → Nat) (h0 : Pv σ H)
    (hs : ∀ σ H, Pv σ H → c σ H fun b H1 => if b = true then tb { D with nx := fun σ' H' => Pv σ' H' ∧ μ σ' H' < μ σ H, ct := fun σ' H' => Pv σ' H' ∧ μ σ' H' < μ σ H, bk := D.nx } σ H1 else D.nx σ H1)
    (mono : ∀ σ H Q Q', (∀ b H1, Q b H1 → Q' b H1) → c σ H Q → c σ H Q') : tWhile c tb D σ H := by
  refine ⟨fun m σ H => m = μ σ H ∧ Pv σ H, ⟨_, rfl, h0⟩, ?_⟩
  rintro m σ H ⟨rfl, p⟩
  refine mono σ H _ _ (fun b H1 q => ?_) (hs σ H p)
  cases b with
  | true => exact ⟨_, fun σ' H' ⟨p', l⟩ => ⟨_, l, rfl, p'⟩, q⟩
  | false => exact q
end L2
namespace L2
open PySem PySem.Spec PyProof.Rows
abbrev R2 := V → V → Hp → VK → Prop
def OpR (X : Cx) (f : Value → Value → Sem Value) (r : R2) : Prop :=
  ∀ (pins : List (Addr × Obj)) (s : Shared) (σ : St) (H : Hp) (x y : V) (v u : Value) (Q : VK), Inv X pins σ H s → RelV x v → RelV y u → r x y H Q →
    wpAny (model X.prog X.w) X.A (f v u) (EP X pins σ Q) X.xe s
def UnR (X : Cx) (f : Value → Sem Value) (r : V → Hp → VK → Prop) : Prop :=
  ∀ (pins : List (Addr × Obj)) (s : Shared) (σ : St) (H : Hp) (x : V) (v : Value) (Q : VK), Inv X pins σ H s → RelV x v → r x H Q →
    wpAny (model X.prog X.w) X.A (f v) (EP X pins σ Q) X.xe s
def CallR (X : Cx) (f : Value) (r : List V → Hp → VK → Prop) : Prop :=
  ∀ (pins : List (Addr × Obj)) (s : Shared) (σ : St) (H : Hp) (xs : List V) (us : List Value) (Q : VK), Inv X pins σ H s → Vals xs us → r xs H Q →
    wpAny (model X.prog X.w) X.A (call f us) (EP X pins σ Q) X.xe s
def tOp (r : R2) (ta tb : TE) : TE := fun σ H Q => ta σ H fun x H1 => tb σ H1 fun y H2 => r x y H2 Q
def tUn (r : V → Hp → VK → Prop) (ta : TE) : TE := fun σ H Q => ta σ H fun x H1 => r x H1 Q
def rI (C : Int → Int → Prop) (g : Int → Int → V) : R2 := fun x y H Q => ∃ i j, x = .int i ∧ y = .int j ∧ C i j ∧ Q (g i j) H
def rI0 (g : Int → Int → V) : R2 := fun x y H Q => ∃ i j, x = .int i ∧ y = .int j ∧ Q (g i j) H
def rU (g : Int → V) : V → Hp → VK → Prop := fun x H Q => ∃ i, x = .int i ∧ Q (g i) H
section
variable {X : Cx} {a b c : Expr} {ta tb tc : TE} {pos : Pos}
theorem binT (ha : PE X a ta) (hb : PE X b tb) {pins : List (Addr × Obj)} {s : Shared} {σ : St} {H : Hp} {R : V → V → Hp → Prop} (I : Inv X pins σ H s)
    (h : ta σ H fun x H1 => tb σ H1 fun y H2 => R x y H2) {Q : Value → Shared → Prop} {f : Value → Value → Sem Value}
    (hf : ∀ v u s2 x y H2, Inv X pins σ H2 s2 → RelV x v → RelV y u → R x y H2 → wpAny (model X.prog X.w) X.A (f v u) Q X.xe s2) :
    wpAny (model X.prog X.w) X.A (eval a X.env) (fun v s₁ => wpAny (model X.prog X.w) X.A (eval b X.env) (fun u s₂ => wpAny (model X.prog X.w) X.A (f v u) Q X.xe s₂) X.xe s₁) X.xe s := by
  refine thn (ha pins s σ H _ I h) fun v s1 ⟨x, H1, I1, r1, q1⟩ => ?_
  refine thn (hb pins s1 σ H1 _ I1 q1) fun u s2 ⟨y, H2, I2, r2, q2⟩ => ?_
  exact hf v u s2 x y H2 I2 r1 r2 q2
theorem pe_op {op : Operator} {r : R2} (ho : OpR X (binaryOp op) r) (ha : PE X a ta) (hb : PE X b tb) : PE X (.BinOp a op b pos) (tOp r ta tb) := by
  intro pins s σ H Q I h
  exact wpAny_BinOp (binT ha hb I h fun v u s2 x y H2 I2 rx ry q => ho pins s2 σ H2 x y v u Q I2 rx ry q)
theorem pe_un {op : UnaryOp} {r : V → Hp → VK → Prop} (ho : UnR X (unaryOp op) r) (ha : PE X a ta) : PE X (.UnaryOp op a pos) (tUn r ta) := by
  intro pins s σ H Q I h
  exact UnaryOp_ (thn (ha pins s σ H _ I h) fun v s1 ⟨x, H1, I1, r1, q1⟩ => ho pins s1 σ H1 x v Q I1 r1 q1)
theorem opI {f : Value → Value → Sem Value} {C : Int → Int → Prop} {g : Int → Int → Int}
    (rule : ∀ (i j : Int) (t u : Tok) (s : Shared) (Q : Value → Shared → Prop) (E : Value → Shared → Prop), C i j → Q (.int (g i j) s.toks) { s with toks := s.toks + 1 } → wpAny (model X.prog X.w) X.A (f (.int i t) (.int j u)) Q E s) :
    OpR X f (rI C fun i j => .int (g i j)) := by
  intro pins s σ H x y v u Q I rx ry h
  obtain ⟨i, j, rfl, rfl, hc, q⟩ := h
  obtain ⟨t, rfl⟩ := rx
  obtain ⟨t', rfl⟩ := ry
  exact rule i j t t' s _ _ hc ⟨.int (g i j), H, I.tok _, ⟨_, rfl⟩, q⟩
theorem opI0 {f : Value → Value → Sem Value} {g : Int → Int → Int}
    (rule : ∀ (i j : Int) (t u : Tok) (s : Shared) (Q : Value → Shared → Prop) (E : Value → Shared → Prop), Q (.int (g i j) s.toks) { s with toks := s.toks + 1 } → wpAny (model X.prog X.w) X.A (f (.int i t) (.int j u)) Q E s) :
    OpR X f (rI0 fun i j => .int (g i j)) := by
  intro pins s σ H x y v u Q I rx ry h
  obtain ⟨i, j, rfl, rfl, q⟩ := h
  obtain ⟨t, rfl⟩ := rx
  obtain ⟨t', rfl⟩ := ry
  exact rule i j t t' s _ _ ⟨.int (g i j), H, I.tok _, ⟨_, rfl⟩, q⟩
theorem opB0 {f : Value → Value → Sem Value} {g : Int → Int → Bool}
    (rule : ∀ (i j : Int) (t u : Tok) (s : Shared) (Q : Value → Shared → Prop) (E : Value → Shared → Prop), Q (.bool (g i j)) s → wpAny (model X.prog X.w) X.A (f (.int i t) (.int j u)) Q E s) :
    OpR X f (rI0 fun i j => .bl (g i j)) := by
  intro pins s σ H x y v u Q I rx ry h
  obtain ⟨i, j, rfl, rfl, q⟩ := h
  obtain ⟨t, rfl⟩ := rx
  obtain ⟨t', rfl⟩ := ry
  exact rule i j t t' s _ _ ⟨.bl (g i j), H, I, rfl, q⟩
def CDiv (i j : Int) : Prop := 0 < j ∧ j < 1073741824
def CPow (i j : Int) : Prop := 0 ≤ j ∧ j ≤ 1000000 ∧ i.natAbs < 2 ^ 64
def CMul (i j : Int) : Prop := (-(2 ^ 64) < i ∧ i < 2 ^ 64) ∨ (-(2 ^ 64) < j ∧ j < 2 ^ 64)
theorem CMul.ok {i j : Int} (h : CMul i j) : IntMulOk i j := by
  rcases h with ⟨h1, h2⟩ | ⟨h1, h2⟩
  · exact .of_left (intBits_le_64 h1 h2)
  · exact .of_right (intBits_le_64 h1 h2)
theorem op_add : OpR X (binaryOp .Add) (rI0 fun i j => .int (i + j)) := opI0 fun _ _ _ _ _ _ _ q => add_int q
theorem op_sub : OpR X (binaryOp .Sub) (rI0 fun i j => .int (i - j)) := opI0 fun _ _ _ _ _ _ _ q => sub_int q
theorem op_mul : OpR X (binaryOp .Mult) (rI CMul fun i j => .int (i * j)) := opI fun _ _ _ _ _ _ _ hc q => mul_int q hc.ok
theorem op_fdiv : OpR X (binaryOp .FloorDiv) (rI CDiv fun i j => .int (i / j)) := opI fun i j _ _ _ _ _ hc q => by
  have h1 : (0 : Int) < j := hc.1
  have h2 : j < 1073741824 := hc.2
  exact floordiv_int (by omega) (by rw [Int.fdiv_eq_ediv_of_nonneg i (by omega)]; exact q) (.inl (PyProof.noPylong_small (by omega)))
theorem op_mod : OpR X (binaryOp .Mod) (rI (fun _ j => 0 < j) fun i j => .int (i % j)) := opI fun i j _ _ _ _ _ hc q => by
  have h1 : (0 : Int) < j := hc
  exact mod_int' (by omega) (by rw [Int.fmod_eq_emod_of_nonneg i (by omega)]; exact q)
theorem op_pow : OpR X (binaryOp .Pow) (rI CPow fun i j => .int (i ^ j.toNat)) := opI fun _ _ _ _ _ _ _ hc q => pow_int_small hc.1 hc.2.1 hc.2.2 q
theorem unI {f : Value → Sem Value} {g : Int → Int}
    (rule : ∀ (i : Int) (t : Tok) (s : Shared) (Q : Value → Shared → Prop) (E : Value → Shared → Prop), Q (.int (g i) s.toks) { s with toks := s.toks + 1 } → wpAny (model X.prog X.w) X.A (f (.int i t)) Q E s) :
    UnR X f (rU fun i => .int (g i)) := by
  intro pins s σ H x v Q I rx h
  obtain ⟨i, rfl, q⟩ := h
  obtain ⟨t, rfl⟩ := rx
  exact rule i t s _ _ ⟨.int (g i), H, I.tok _, ⟨_, rfl⟩, q⟩
theorem un_neg : UnR X (unaryOp .USub) (rU fun i => .int (-i)) := unI fun _ _ _ _ _ q => neg_int q
end
def scal : V → V → Bool
  | .non, .non => true | .non, .int _ => true | .int _, .non => true | .non, .bl _ => true | .bl _, .non => true | .non, .str _ => true | .str _, .non => true
  | .int _, .int _ => true | .bl _, .bl _ => true | .str _, .str _ => true | .byt _, .byt _ => true
  | .int _, .str _ => true | .str _, .int _ => true | .bl _, .str _ => true | .str _, .bl _ => true
  | _, _ => false
def rEq : R2 := fun x y H Q => scal x y = true ∧ Q (.bl (decide (x = y))) H
def rNe : R2 := fun x y H Q => scal x y = true ∧ Q (.bl (!decide (x = y))) H
theorem dec_int {i j : Int} : decide (V.int i = V.int j) = (i == j) := by
  rw [Bool.eq_iff_iff]
  simp
theorem dec_bl {i j : Bool} : decide (V.bl i = V.bl j) = (i == j) := by
  rw [Bool.eq_iff_iff]
  simp
theorem dec_str {i j : Str} : decide (V.str i = V.str j) = (i == j) := by
  rw [Bool.eq_iff_iff]
  simp
theorem dec_byt {i j : Array UInt8} : decide (V.byt i = V.byt j) = (i.toList == j.toList) := by
  rw [Bool.eq_iff_iff]
  cases i
  cases j
  simp
section
variable {X : Cx} {a b c : Expr} {ta tb tc : TE} {pos : Pos}
theorem fin_bl {pins : List (Addr × Obj)} {σ : St} {H : Hp} {s : Shared} {Q : VK} {k k' : Bool} (I : Inv X pins σ H s) (q : Q (.bl k) H) (e : k = k') : EP X pins σ Q (.bool k') s := by
  subst e
  exact ⟨.bl k, H, I, rfl, q⟩
theorem op_eq : OpR X (compareOp .Eq) rEq := by
  intro pins s σ H x y v u Q I rx ry h
  obtain ⟨hs, q⟩ := h
  cases x with
  | non =>
    cases rx
    cases y with
    | non => cases ry; exact PySem.EqNone.eq_none_none (fin_bl I q (by simp))
    | bl j => cases ry; exact PySem.EqNone.eq_none_bool (fin_bl I q (by simp))
    | int j => obtain ⟨t', rfl⟩ := ry; exact PySem.EqNone.eq_none_int (fin_bl I q (by simp))
    | str j => obtain ⟨t', rfl⟩ := ry; exact PySem.EqNone.eq_none_str (fin_bl I q (by simp))
    | _ => exact absurd (show false = true from hs) Bool.false_ne_true
  | bl i =>
    cases rx
    cases y with
    | non => cases ry; exact PySem.EqNone.eq_bool_none (fin_bl I q (by simp))
    | bl j => cases ry; exact eq_bool (fin_bl I q dec_bl)
    | str j => obtain ⟨t', rfl⟩ := ry; exact PySem.EqMixed.eq_bool_str (fin_bl I q (by simp))
    | _ => exact absurd (show false = true from hs) Bool.false_ne_true
  | int i =>
    obtain ⟨t, rfl⟩ := rx
    cases y with
    | non => cases ry; exact PySem.EqNone.eq_int_none (fin_bl I q (by simp))
    | int j => obtain ⟨t', rfl⟩ := ry; exact eq_int (fin_bl I q dec_int)
    | str j => obtain ⟨t', rfl⟩ := ry; exact PySem.EqMixed.eq_int_str (fin_bl I q (by simp))
    | _ => exact absurd (show false = true from hs) Bool.false_ne_true
  | str i =>
    obtain ⟨t, rfl⟩ := rx
    cases y with
    | non => cases ry; exact PySem.EqNone.eq_str_none (fin_bl I q (by simp))
    | bl j => cases ry; exact PySem.EqMixed.eq_str_bool (fin_bl I q (by simp))
    | int j => obtain ⟨t', rfl⟩ := ry; exact PySem.EqMixed.eq_str_int (fin_bl I q (by simp))
    | str j => obtain ⟨t', rfl⟩ := ry; exact eq_str (fin_bl I q dec_str)
    | _ => exact absurd (show false = true from hs) Bool.false_ne_true
  | byt i =>
    obtain ⟨t, rfl⟩ := rx
    cases y with
    | byt j => obtain ⟨t', rfl⟩ := ry; exact PySem.W.eq_bytes (fin_bl I q dec_byt)
    | _ => exact absurd (show false = true from hs) Bool.false_ne_true
  | _ => cases y <;> exact absurd (show false = true from hs) Bool.false_ne_true
theorem op_ne : OpR X (compareOp .NotEq) rNe := by
  intro pins s σ H x y v u Q I rx ry h
  obtain ⟨hs, q⟩ := h
  cases x with
  | non =>
    cases rx
    cases y with
    | non => cases ry; exact PySem.EqNone.ne_none_none (fin_bl I q (by simp))
    | bl j => cases ry; exact PySem.EqNone.ne_none_bool (fin_bl I q (by simp))
    | int j => obtain ⟨t', rfl⟩ := ry; exact PySem.EqNone.ne_none_int (fin_bl I q (by simp))
    | str j => obtain ⟨t', rfl⟩ := ry; exact PySem.EqNone.ne_none_str (fin_bl I q (by simp))
    | _ => exact absurd (show false = true from hs) Bool.false_ne_true
  | bl i =>
    cases rx
    cases y with
    | non => cases ry; exact PySem.EqNone.ne_bool_none (fin_bl I q (by simp))
    | bl j => cases ry; exact ne_bool (fin_bl I q (congrArg not dec_bl))
    | str j => obtain ⟨t', rfl⟩ := ry; exact PySem.EqMixed.ne_bool_str (fin_bl I q (by simp))
    | _ => exact absurd (show false = true from hs) Bool.false_ne_true
  | int i =>
    obtain ⟨t, rfl⟩ := rx
    cases y with
    | non => cases ry; exact PySem.EqNone.ne_int_none (fin_bl I q (by simp))
    | int j => obtain ⟨t', rfl⟩ := ry; exact ne_int (fin_bl I q (congrArg not dec_int))
    | str j => obtain ⟨t', rfl⟩ := ry; exact PySem.EqMixed.ne_int_str (fin_bl I q (by simp))
    | _ => exact absurd (show false = true from hs) Bool.false_ne_true
  | str i =>
    obtain ⟨t, rfl⟩ := rx
    cases y with
    | non => cases ry; exact PySem.EqNone.ne_str_none (fin_bl I q (by simp))
    | bl j => cases ry; exact PySem.EqMixed.ne_str_bool (fin_bl I q (by simp))
    | int j => obtain ⟨t', rfl⟩ := ry; exact PySem.EqMixed.ne_str_int (fin_bl I q (by simp))
    | str j => obtain ⟨t', rfl⟩ := ry; exact ne_str (fin_bl I q (congrArg not dec_str))
    | _ => exact absurd (show false = true from hs) Bool.false_ne_true
  | byt i =>
    obtain ⟨t, rfl⟩ := rx
    cases y with
    | byt j => obtain ⟨t', rfl⟩ := ry; exact PySem.W.ne_bytes (fin_bl I q (congrArg not dec_byt))
    | _ => exact absurd (show false = true from hs) Bool.false_ne_true
  | _ => cases y <;> exact absurd (show false = true from hs) Bool.false_ne_true
theorem op_lt : OpR X (compareOp .Lt) (rI0 fun i j => .bl (decide (i < j))) := opB0 fun _ _ _ _ _ _ _ q => lt_int q
theorem op_gt : OpR X (compareOp .Gt) (rI0 fun i j => .bl (decide (j < i))) := opB0 fun _ _ _ _ _ _ _ q => gt_int q
theorem OpR.or {f : Value → Value → Sem Value} {r r' : R2} (h : OpR X f r) (h' : OpR X f r') : OpR X f (fun x y H Q => r x y H Q ∨ r' x y H Q) := by
  intro pins s σ H x y v u Q I rx ry q
  rcases q with q | q
  · exact h pins s σ H x y v u Q I rx ry q
  · exact h' pins s σ H x y v u Q I rx ry q
theorem nomark (b : Expr) {op : CmpOp} (h : op ≠ .In := by decide) (h2 : op ≠ .NotIn := by decide) : behindInMarks op b = false := by
  have e1 : (op == CmpOp.In) = false := by cases op <;> first | rfl | exact absurd rfl h
  have e2 : (op == CmpOp.NotIn) = false := by cases op <;> first | rfl | exact absurd rfl h2
  cases b <;> simp [behindInMarks, e1, e2]
theorem pe_cmpR {op : CmpOp} {r : R2} (ho : OpR X (compareOp op) r) (ha : PE X a ta) (hb : PE X b tb) (hm : behindInMarks op b = false) : PE X (.Compare a [op] [b] pos) (tOp r ta tb) := by
  intro pins s σ H Q I h
  exact wpAny_Compare1 (binT ha hb I h fun v u s2 x y H2 I2 rx ry q => ho pins s2 σ H2 x y v u Q I2 rx ry q) hm
def tTest (t : TE) : TT := fun σ H Q => t σ H fun x H' => ∃ k, x = .bl k ∧ Q k H'
theorem pt_cmpR {op : CmpOp} {r : R2} (ho : OpR X (compareOp op) r) (ha : PE X a ta) (hb : PE X b tb) (hm : behindInMarks op b = false) : PT X (.Compare a [op] [b] pos) (tTest (tOp r ta tb)) := by
  intro pins s σ H Q I h
  refine wpAny_isTrue_Compare1 (thn (ha pins s σ H _ I h) fun v s1 ⟨x, H1, I1, r1, q1⟩ => thn (hb pins s1 σ H1 _ I1 q1) fun u s2 ⟨y, H2, I2, r2, q2⟩ =>
    thn (ho pins s2 σ H2 x y v u _ I2 r1 r2 q2) fun c s3 ⟨z, H3, I3, r3, k, e, q3⟩ => ?_) hm
  subst e
  cases r3
  exact wpAny_truthy_bool ⟨H3, I3, q3⟩
theorem line63 : (sizeLine : Nat) < 2 ^ 63 := by rw [sizeLine_eq]; decide
theorem op_add_str : OpR X (binaryOp .Add) (fun x y H Q => ∃ i j, x = .str i ∧ y = .str j ∧ i.length + j.length ≤ sizeLine ∧ Q (.str (i ++ j)) H) := by
  intro pins s σ H x y v u Q I rx ry h
  obtain ⟨i, j, rfl, rfl, hz, q⟩ := h
  obtain ⟨t, rfl⟩ := rx
  obtain ⟨t', rfl⟩ := ry
  exact add_str (fun t' tk => ⟨.str (i ++ j), H, I.tok _, ⟨_, rfl⟩, q⟩) hz
theorem vals1 {x : V} {us : List Value} (r : Vals [x] us) : ∃ u, us = [u] ∧ RelV x u := by
  cases r with
  | cons r1 r2 => cases r2; exact ⟨_, rfl, r1⟩
theorem vals2 {x y : V} {us : List Value} (r : Vals [x, y] us) : ∃ u w', us = [u, w'] ∧ RelV x u ∧ RelV y w' := by
  cases r with
  | cons r1 r2 =>
    cases r2 with
    | cons r3 r4 => cases r4; exact ⟨_, _, rfl, r1, r3⟩
theorem call_int1 : CallR X (.type "int") (fun xs H Q => (∃ i, xs = [.int i] ∧ Q (.int i) H) ∨ ∃ k, xs = [.bl k] ∧ Q (.int (if k then 1 else 0)) H) := by
  intro pins s σ H xs us Q I r h
  rcases h with ⟨i, rfl, q⟩ | ⟨k, rfl, q⟩
  · obtain ⟨u, rfl, t, rfl⟩ := vals1 r
    exact call_int_int ⟨.int i, H, I, ⟨_, rfl⟩, q⟩
  · obtain ⟨u, rfl, r1⟩ := vals1 r
    cases r1
    exact call_int_bool ⟨.int (if k then 1 else 0), H, I.tok _, ⟨_, rfl⟩, q⟩
end
end L2
namespace L2
open PySem PySem.Spec PyProof.Rows
structure ObjM (h : Heap) (x dx C : Addr) (mA : Str → Option Value) : Prop where
  obj : h.get? x = some (PySem.W.instObj C dx)
  ns : h.Ns1 dx mA
  ne : dx ≠ x
theorem lookIn_ns {h : Heap} {dx : Addr} {mA : Str → Option Value} (n : h.Ns1 dx mA) : ∃ od, h.get? dx = some od ∧ ∀ name, PySem.W.lookIn name od = some (mA name) := by
  obtain ⟨o, es, ep, ho, hd, hk, _, hm⟩ := n
  refine ⟨o, ho, fun name => ?_⟩
  have e := hm name
  unfold nsFind findBy at e
  rw [← Array.find?_toList] at e
  unfold PySem.W.lookIn
  rw [hd]
  dsimp only
  split
  · rename_i y q
    rw [q] at e
    exact congrArg some e
  · rename_i q
    rw [q] at e
    have a : es.toList.any (·.refKey) = false := by
      rw [List.any_eq_false]
      intro y hy
      obtain ⟨z, t, hkey⟩ := hk y (Array.mem_toList_iff.mp hy)
      simp [DictEntry.refKey, hkey]
    have a' : ¬ es.toList.any (·.refKey) = true := by rw [a]; exact Bool.false_ne_true
    rw [if_neg a']
    exact congrArg some e
theorem ObjM.look {h : Heap} {x dx C : Addr} {mA : Str → Option Value} (I : ObjM h x dx C mA) : ∃ od, PySem.W.InstAt h x (PySem.W.instObj C dx) C (some od) ∧ ∀ name, PySem.W.lookIn name od = some (mA name) :=
  let ⟨od, ho, hl⟩ := lookIn_ns I.ns
  ⟨od, ⟨I.obj, rfl, rfl, ho⟩, hl⟩
section
variable {prog : Program} {w : World} {A : Around} {E : Value → Shared → Prop} {s : Shared} {K : PySem.W.Frag} {x dx C f : Addr} {mA : Str → Option Value} {name : Str} {v : Value}
end
theorem RelO.some_of {v : V} {o : Option Value} (r : RelO (some v) o) : ∃ u, o = some u ∧ RelV v u := by
  cases o with
  | none => exact (show False from r).elim
  | some u => exact ⟨u, rfl, r⟩
section
variable {P : Program} {w : World} {H H' : Hp} {h h' : Heap} {a C dx : Addr} {fs fs' : List (Str × V)}
theorem ins_get (hok : HOk P w H h) (e : H a = some (.ins C dx fs)) : ∃ mA, ObjM h a dx C mA ∧ (∀ f, RelO (fs.lookup f) (mA f)) ∧ PySem.Within mA (fs.map (·.1)) ∧ fs.length ≤ 1000 ∧ H dx = some (.own a) := by
  obtain ⟨d, z, ne, ob, mA, n, r, q⟩ := (show ObjOk P w H h a (.ins C dx fs) from hok a _ e)
  exact ⟨mA, ⟨ob, n, ne⟩, r, q, z, d⟩
end
structure Cls (K : PySem.W.Frag) (C : Addr) : Prop where
  pg : PySem.W.plainGet K C Str.empty = true
  hd : PySem.W.hasDictIn K C = true
  po : PySem.W.plainOver K C = true
  sa : PySem.W.findIn K (.ref C) "__setattr__" = some (some (.builtin "object.__setattr__"))
theorem Cls.get {K : PySem.W.Frag} {C : Addr} (c : Cls K C) (f : Str) : PySem.W.plainGet K C f = true := c.pg
section
variable {X : Cx} {pins : List (Addr × Obj)} {σ : St} {H : Hp} {s : Shared} {a C dx : Addr} {fs : List (Str × V)} {f : Str} {v : V} {A : Around} {E : Value → Shared → Prop}
theorem Inv.made (I : Inv X pins σ H s) : Inv X pins σ (upd (upd H s.heap.objs.size (.own (s.heap.objs.size + 1))) (s.heap.objs.size + 1) (.ins C s.heap.objs.size []))
    { s with heap := (s.heap.push PySem.W.emptyDict).push (PySem.W.instObj C s.heap.objs.size) } := by
  have e1 : (s.heap.push PySem.W.emptyDict).get? s.heap.objs.size = some PySem.W.emptyDict := Heap.get?_push_size s.heap rfl
  have e2 : ((s.heap.push PySem.W.emptyDict).push (PySem.W.instObj C s.heap.objs.size)).get? (s.heap.objs.size + 1) = some (PySem.W.instObj C s.heap.objs.size) := by
    have := Heap.get?_push_size (s.heap.push PySem.W.emptyDict) (o := PySem.W.instObj C s.heap.objs.size) rfl
    rwa [Heap.size_push] at this
  have e3 : (s.heap.push PySem.W.emptyDict).Ns s.heap.objs.size (fun _ => none) := ⟨PySem.W.emptyDict, #[], _, e1, rfl, (fun e he => absurd he (by simp)), fun _ => rfl⟩
  have I1 := I.laid (a := s.heap.objs.size) (o := .own (s.heap.objs.size + 1)) (h' := s.heap.push PySem.W.emptyDict) (t' := s.toks) (fun b u q => Heap.get?_push_of_some _ q) (Nat.le_refl _) ⟨_, e1⟩
  refine I1.laid (a := s.heap.objs.size + 1) (o := .ins C s.heap.objs.size []) (t' := s.toks) (fun b u q => Heap.get?_push_of_some _ q) (Nat.le_of_eq (Heap.size_push _ _)) ?_
  have ne : s.heap.objs.size ≠ s.heap.objs.size + 1 := Nat.ne_of_lt (Nat.lt_succ_self _)
  refine ⟨by rw [upd_ne ne, upd_same], Nat.zero_le _, ne, e2, fun _ => none, (Heap.Ns1.of_empty e3).at fun o q => Heap.get?_push_of_some _ q, fun _ => True.intro, fun y hy => absurd rfl hy⟩
end
section
variable {X : Cx} {o e value : Expr} {f : Str} {pos pos' tpos : Pos} {ta tv : TE}
end
section
variable {X : Cx} {pins : List (Addr × Obj)} {σ : St} {H : Hp} {s : Shared} {A : Around} {E : Value → Shared → Prop} {Q : Value → Shared → Prop} {c : Value} {b : Bool}
inductive TyOf (K : PySem.W.Frag) (H : Hp) : V → Value → Prop where
  | non : TyOf K H .non (.type "NoneType")
  | bl (x : Bool) : TyOf K H (.bl x) (.type "bool")
  | int (i : Int) : TyOf K H (.int i) (.type "int")
  | str (x : Str) : TyOf K H (.str x) (.type "str")
  | flt (x : UInt64) : TyOf K H (.flt x) (.type "float")
  | lst {a : Addr} {xs : List V} (e : H a = some (.lst xs)) : TyOf K H (.ref a) (.type "list")
  | frz {a : Addr} {o : Obj} {xs : List V} (e : H a = some (.frz o (.lst xs))) : TyOf K H (.ref a) (.type "list")
  | tup {a : Addr} {xs : List V} (e : H a = some (.tup xs)) : TyOf K H (.ref a) (.type "tuple")
  | dK {a : Addr} {kvs : List (Key × V)} (e : H a = some (.dK kvs)) : TyOf K H (.ref a) (.type "dict")
  | dT {a : Addr} {kvs : List (List Key × V)} (e : H a = some (.dT kvs)) : TyOf K H (.ref a) (.type "dict")
  | ins {a C dx : Addr} {fs : List (Str × V)} (e : H a = some (.ins C dx fs)) (cl : Cls K C) (ha : PySem.W.findIn K (.ref C) "__class__" = some (some (.builtin "object.__class__")))
      (hn : PySem.W.specialIn K (.builtin "object.__class__") "__get__" = some (some (.builtin "getset_descriptor.__get__"))) (htk : PySem.W.takesIn K (.builtin "object.__class__") = some true)
      (hm : PySem.W.mroIn K C (.type "object") = some true) : TyOf K H (.ref a) (.ref C)
theorem isinst_ok {x : V} {u t : Value} (I : Inv X pins σ H s) (rx : RelV x u) (ty : TyOf X.K H x t) (e : PySem.W.kitOne X.K t c = some b) (h : ∀ tk, Q (.bool b) { s with toks := tk }) :
    wpAny (model X.prog X.w) A (call (.builtin "isinstance") [u, c]) Q E s := by
  cases ty with
  | non => cases (show u = Value.none from rx); exact PySem.W.kia_one PySem.W.kitx_none I.kIn True.intro e (fun z => nomatch z) h
  | bl y => cases (show u = Value.bool y from rx); exact PySem.W.kia_one PySem.W.kitx_bool I.kIn True.intro e (fun z => nomatch z) h
  | int i => obtain ⟨t, q⟩ := (show ∃ t, u = Value.int i t from rx); cases q; exact PySem.W.kia_one PySem.W.kitx_int I.kIn True.intro e (fun z => nomatch z) h
  | str y => obtain ⟨t, q⟩ := (show ∃ t, u = Value.str y t from rx); cases q; exact PySem.W.kia_one PySem.W.kitx_str I.kIn True.intro e (fun z => nomatch z) h
  | flt y => obtain ⟨t, q⟩ := (show ∃ t, u = Value.float y t from rx); cases q; exact PySem.W.kia_one PySem.W.kitx_float I.kIn True.intro e (fun z => nomatch z) h
  | @lst a xs ea =>
    cases (show u = Value.ref a from rx)
    obtain ⟨_, _, n, _, h1⟩ := (show ObjOk X.prog X.w H s.heap a (.lst xs) from I.hok a _ ea)
    exact PySem.W.kia_one PySem.W.kitx_list I.kIn ⟨_, h1, rfl⟩ e (fun z => nomatch z) h
  | @frz a ob xs ea =>
    cases (show u = Value.ref a from rx)
    obtain ⟨_, _, _, n, _, h1⟩ := (show ObjOk X.prog X.w H s.heap a (.frz ob (.lst xs)) from I.hok a _ ea)
    exact PySem.W.kia_one PySem.W.kitx_list I.kIn ⟨_, h1, rfl⟩ e (fun z => nomatch z) h
  | @tup a xs ea =>
    cases (show u = Value.ref a from rx)
    obtain ⟨_, _, _, p⟩ := (show ObjOk X.prog X.w H s.heap a (.tup xs) from I.hok a _ ea)
    obtain ⟨o, h1, h2, _⟩ := p
    exact PySem.W.kia_one PySem.W.kitx_tuple I.kIn ⟨o, h1, h2⟩ e (fun z => nomatch z) h
  | @dK a kvs ea =>
    cases (show u = Value.ref a from rx)
    obtain ⟨_, _, vs, _, p⟩ := (show ObjOk X.prog X.w H s.heap a (.dK kvs) from I.hok a _ ea)
    obtain ⟨o, es, ep, h1, h2, _⟩ := p
    exact PySem.W.kia_one PySem.W.kitx_dict I.kIn ⟨o, h1, h2.1⟩ e (fun z => nomatch z) h
  | @dT a kvs ea =>
    cases (show u = Value.ref a from rx)
    obtain ⟨_, _, xs, _, o, es, ep, h1, h2, _⟩ := (show ObjOk X.prog X.w H s.heap a (.dT kvs) from I.hok a _ ea)
    exact PySem.W.kia_one PySem.W.kitx_dict I.kIn ⟨o, h1, h2.1⟩ e (fun z => nomatch z) h
  | @ins a C dx fs ea cl ha hn htk hm =>
    cases (show u = Value.ref a from rx)
    obtain ⟨mA, O, _⟩ := ins_get I.hok ea
    obtain ⟨od, J, _⟩ := O.look
    exact PySem.W.kia_one (PySem.W.kitx_own (cl.get _) cl.hd ha hn htk hm) I.kIn J e (fun z => nomatch z) h
end
end L2
namespace L2
open PySem PySem.Spec PyProof.Rows
structure Room (k : Nat) (A : Around) : Prop where
  hd : A.handled = none
  dp : A.depth + 3 * k + 5 < recursionLimit
  un : A.units + 16 * k + 200 < cLine
theorem Room.mono {j k : Nat} {A : Around} (r : Room k A) (h : j ≤ k) : Room j A := ⟨r.hd, by have := r.dp; omega, by have := r.un; omega⟩
theorem Room.deeper {k : Nat} {A : Around} (r : Room (k + 1) A) (env : Env) : Room k (A.deeper env) :=
  ⟨r.hd, by have := r.dp; show A.depth + 1 + 3 * k + 5 < _; omega, by have := r.un; show A.units + 3 + 16 * k + 200 < _; omega⟩
theorem Room.in1 {k : Nat} {A : Around} (r : Room (k + 1) A) : Room k A.in1 :=
  ⟨r.hd, by have := r.dp; show A.depth + 3 * k + 5 < _; omega, by have := r.un; show A.units + 1 + 16 * k + 200 < _; omega⟩
theorem make_depth {A : Around} {C : Addr} {us : List Value} {kw : List (Str × Value)} : (A.under (.builtin "type.__call__" ⟨.ref C :: us, kw⟩)).depth = A.depth + 1 := by
  first | rfl | simp [Around.under, Code.weight, Code.isCreation, Code.isGuard, Code.isCaller, Code.frames, Code.isFrame, guardIds]
theorem make_units {A : Around} {C : Addr} {us : List Value} {kw : List (Str × Value)} : (A.under (.builtin "type.__call__" ⟨.ref C :: us, kw⟩)).units = A.units + 1 := by
  first | rfl | simp [Around.under, Code.cUnits, Code.frames, Code.isFrame]
theorem Room.make {k : Nat} {A : Around} (r : Room (k + 1) A) (C : Addr) (us : List Value) (kw : List (Str × Value)) : Room k (A.under (.builtin "type.__call__" ⟨.ref C :: us, kw⟩)) :=
  ⟨r.hd, by have := r.dp; rw [make_depth]; omega, by have := r.un; rw [make_units]; omega⟩
theorem Room.depth {k : Nat} {A : Around} (r : Room k A) : A.depth < recursionLimit := by have := r.dp; omega
theorem Room.units {k : Nat} {A : Around} (r : Room k A) : A.units + 64 < cLine := by have := r.un; omega
def tNil : TA := fun _ H Q => Q [] H
def tCons (ta : TE) (tr : TA) : TA := fun σ H Q => ta σ H fun x H1 => tr σ H1 fun xs H2 => Q (x :: xs) H2
section
variable {X : Cx} {e : Expr} {es : List Expr} {te : TE} {t : TA} {pos : Pos}
theorem pa_nil : PA X [] tNil := fun _ _ _ _ H Q I h => Calls.spliced_nil ⟨[], H, I, .nil, h⟩
theorem pa_cons (ha : PE X e te) (hr : PA X es t) (hs : starEach (e :: es) X.env = (false, eval e X.env) :: starEach es X.env := by rfl) : PA X (e :: es) (tCons te t) := by
  intro pos pins s σ H Q I h
  rw [hs]
  show wpAny _ _ (spliced ((false, eval e X.env) :: backTo pos (starEach es X.env))) _ _ s
  refine Calls.spliced_cons (thn (ha pins s σ H _ I h) fun u s1 ⟨x, H1, I1, r1, q1⟩ => ?_)
  exact thn (hr pos pins s1 σ H1 _ I1 q1) fun us s2 ⟨xs, H2, I2, r2, q2⟩ => ⟨x :: xs, H2, I2, .cons r1 r2, q2⟩
def tTup (t : TA) : TE := fun σ H Q => t σ H fun xs H1 => xs.length ≤ sizeLine ∧ ∀ p, H1 p = none → Q (.ref p) (upd H1 p (.tup xs))
def tLst (t : TA) : TE := fun σ H Q => t σ H fun xs H1 => xs.length ≤ sizeLine ∧ ∀ p, H1 p = none → Q (.ref p) (upd H1 p (.lst xs))
theorem pe_tup {x1} (h : PA X es t) : PE X (.Tuple es x1 pos) (tTup t) := by
  intro pins s σ H Q I hq
  refine wpAny_Tuple_spliced (thn (h pos pins s σ H _ I hq) fun us s1 ⟨xs, H1, I1, r, z, q⟩ => ⟨by rw [← r.length]; exact z, ?_⟩)
  have hf : H1 s1.heap.objs.size = none := I1.hok.fresh (Nat.le_refl _)
  refine ⟨.ref s1.heap.objs.size, upd H1 s1.heap.objs.size (.tup xs), I1.laid (t' := s1.toks) (fun b u e => Heap.get?_push_of_some _ e) (Nat.le_refl _) ?_, rfl, q _ hf⟩
  exact ⟨z, us, r, ⟨_, Heap.get?_push_size _ rfl, rfl, _, rfl, rfl⟩⟩
theorem pe_lst (h : PA X es t) : PE X (.List es pos) (tLst t) := by
  intro pins s σ H Q I hq
  refine wpAny_List_spliced (thn (h pos pins s σ H _ I hq) fun us s1 ⟨xs, H1, I1, r, z, q⟩ => ⟨by rw [← r.length]; exact z, ?_⟩)
  have hf : H1 s1.heap.objs.size = none := I1.hok.fresh (Nat.le_refl _)
  refine ⟨.ref s1.heap.objs.size, upd H1 s1.heap.objs.size (.lst xs), I1.laid (t' := s1.toks) (fun b u e => Heap.get?_push_of_some _ e) (Nat.le_refl _) ?_, rfl, q _ hf⟩
  exact ⟨z, us, 0, r, Heap.get?_push_size _ rfl⟩
end
abbrev Sp := List V → Hp → VK → XK → Prop
abbrev CXT := List Env → Hp → Shared → XK → Value → Shared → Prop
structure Env0 (P : Program) (w : World) (K : PySem.W.Frag) (mg : Str → Option Value) (base : Heap) (A : Around) (outer : List Env) (s : Shared) (H : Hp) : Prop where
  frames : A.frames = some outer
  mod : Mod K mg base
  bs : ∀ b o, base.get? b = some o → s.heap.get? b = some o ∧ H b = none
  bsz : base.objs.size ≤ s.heap.objs.size
  funs : s.heap.FunFrames base outer
  frf : ∀ b ∈ frs outer, H b = none
  hok : HOk P w H s.heap
  bare : AllBare s.gens
def CE (outer : List Env) (P : Program) (w : World) (H : Hp) (s : Shared) (Q : VK) (u : Value) (s' : Shared) : Prop :=
  ∃ v H', s'.os = s.os ∧ AllBare s'.gens ∧ Un (frs outer) [] H H' s.heap s'.heap ∧ HOk P w H' s'.heap ∧ RelV v u ∧ Q v H'
def CR (CX : CXT) (outer : List Env) (P : Program) (w : World) (H : Hp) (s : Shared) (Q : VK) (E : XK) (r : Result) (s' : Shared) : Prop :=
  match r with
  | .ok (.ret u) => CE outer P w H s Q u s'
  | .ok _ => False
  | .error e => CX outer H s E e s'
structure FnOk (P : Program) (w : World) (K : PySem.W.Frag) (mg : Str → Option Value) (base : Heap) (CX : CXT) (k : Nat) (f : Addr) (fd : FuncData) (ps : List Str) (sp : Sp) : Prop where
  len : ∀ vs H Q E, sp vs H Q E → vs.length = ps.length
  run : ∀ (A : Around) (outer : List Env) (s : Shared) (H : Hp) (args : Args) (us : List Value) (vs : List V) (Q : VK) (E : XK), Room k A → Env0 P w K mg base A outer s H → BindsTo s fd args (ps.zip us) → Vals vs us → sp vs H Q E →
    codeAny (model P w) A (.call (.ref f) args) (CR CX outer P w H s Q E) s
theorem FnOk.mono {P : Program} {w : World} {K : PySem.W.Frag} {mg : Str → Option Value} {base : Heap} {CX : CXT} {j k : Nat} {f : Addr} {fd : FuncData} {ps : List Str} {sp : Sp} (F : FnOk P w K mg base CX j f fd ps sp) (h : j ≤ k) :
    FnOk P w K mg base CX k f fd ps sp := ⟨F.len, fun A outer s H args us vs Q E hr => F.run A outer s H args us vs Q E (hr.mono h)⟩
theorem Env0.make {P : Program} {w : World} {K : PySem.W.Frag} {mg : Str → Option Value} {base : Heap} {A : Around} {outer : List Env} {s : Shared} {H : Hp} (e : Env0 P w K mg base A outer s H) (C : Addr) (us : List Value) (kw : List (Str × Value)) :
    Env0 P w K mg base (A.under (.builtin "type.__call__" ⟨.ref C :: us, kw⟩)) outer s H := ⟨by first | exact e.frames | (simpa [Around.under, Code.envs, Code.isFrame, pushEnvs] using e.frames), e.mod, e.bs, e.bsz, e.funs, e.frf, e.hok, e.bare⟩
theorem Env0.in1 {P : Program} {w : World} {K : PySem.W.Frag} {mg : Str → Option Value} {base : Heap} {A : Around} {outer : List Env} {s : Shared} {H : Hp} (e : Env0 P w K mg base A outer s H) :
    Env0 P w K mg base A.in1 outer s H := ⟨e.frames, e.mod, e.bs, e.bsz, e.funs, e.frf, e.hok, e.bare⟩
section
variable {X : Cx} {pins : List (Addr × Obj)} {σ : St} {H : Hp} {s s' : Shared}
theorem Inv.env0 (I : Inv X pins σ H s) : Env0 X.prog X.w X.K X.mg X.base X.A X.stack s H :=
  ⟨I.ok.frames, I.ok.mod, I.bs, Nat.le_trans I.ok.bsz I.sz, I.stack, I.stkFree, I.hok, I.bare⟩
theorem Inv.after {Q : VK} {u : Value} (I : Inv X pins σ H s) (h : CE X.stack X.prog X.w H s Q u s') : EP X pins σ Q u s' := by
  obtain ⟨v, H', os, bare, un, hok, r, q⟩ := h
  obtain ⟨hh, g, d, t, os'⟩ := s'
  obtain rfl : os' = s.os := os
  exact ⟨v, H', I.call (h' := hh) (g' := g) (d' := d) (t' := t) (ch := []) un hok bare (fun b z => absurd z (by simp)), r, q⟩
end
def tCall (sp : Sp) (dvs : List V) (E : XK) (t : TA) : TE := fun σ H Q => t σ H fun vs H1 => sp (vs ++ dvs) H1 Q E
def Binds (K : PySem.W.Frag) (fd : FuncData) (ps : List Str) (ds : List Value) : Prop :=
  ∀ (s : Shared) (us : List Value), K.In s.heap → (us ++ ds).length = ps.length → BindsTo s fd ⟨us, []⟩ (ps.zip (us ++ ds))
theorem Binds.all {K : PySem.W.Frag} {fd : FuncData} {ps : List Str} (h : ∀ us : List Value, us.length = ps.length → bindArgs fd ⟨us, []⟩ = pure (ps.zip us)) : Binds K fd ps [] := fun s us _ hl => by
  rw [List.append_nil] at hl ⊢
  exact .of_eq (h us hl)
def Passes (CX : CXT) (X : Cx) (E : XK) : Prop := ∀ (pins : List (Addr × Obj)) (σ : St) (H : Hp) (s : Shared) (e : Value) (s' : Shared), Inv X pins σ H s → CX X.stack H s E e s' → X.xe e s'
section
variable {X : Cx} {CX : CXT} {k : Nat} {f C : Addr} {fd : FuncData} {ps : List Str} {sp : Sp} {dvs : List V} {ds : List Value} {E : XK} {x m : Str} {p pos apos : Pos} {e o : Expr} {es : List Expr} {ta : TE} {t : TA}
theorem run_fn {pins : List (Addr × Obj)} {σ : St} {H : Hp} {s : Shared} {Q : VK} {us : List Value} {vs : List V} (F : FnOk X.prog X.w X.K X.mg X.base CX k f fd ps sp) (hr : Room k X.A) (hb : Binds X.K fd ps ds) (hd : Vals dvs ds) (hx : Passes CX X E)
    (I : Inv X pins σ H s) (r : Vals vs us) (h : sp (vs ++ dvs) H Q E) : wpAny (model X.prog X.w) X.A (call (.ref f) us) (EP X pins σ Q) X.xe s := by
  have r2 : Vals (vs ++ dvs) (us ++ ds) := r.append hd
  have hl : (us ++ ds).length = ps.length := by rw [← r2.length]; exact F.len _ _ _ _ h
  refine wpAny_call (codeAny_mono (F.run X.A X.stack s H ⟨us, []⟩ (us ++ ds) (vs ++ dvs) Q E hr I.env0 (hb s us I.kIn hl) r2 h) fun r s' hq => ?_)
  cases r with
  | error e => exact hx pins σ H s e s' I hq
  | ok fl =>
    cases fl with
    | ret u => exact I.after hq
    | next => exact False.elim hq
    | brk => exact False.elim hq
    | cont => exact False.elim hq
theorem pe_call (F : FnOk X.prog X.w X.K X.mg X.base CX k f fd ps sp) (hr : Room k X.A) (hg : Gl X x) (hm : X.mg x = some (.ref f)) (hk : PySem.W.keepIn X.K (.ref f) = true) (hb : Binds X.K fd ps ds) (hd : Vals dvs ds) (hx : Passes CX X E)
    (ha : PA X (e :: es) t) (hdb : (x == ("__debug__" : Str)) = false := by decide) (he : starEach (e :: es) X.env = (false, eval e X.env) :: starEach es X.env := by rfl) (hpl : (backTo pos (starEach es X.env)).any (·.1) = false := by rfl) :
    PE X (.Call (.Name x p) (e :: es) [] pos) (tCall sp dvs E t) := by
  intro pins s σ H Q I h
  refine wpAny_Call_Name_kw (ld_glob I hg hm ?_ hdb)
  refine PySem.W.callWith_K (h₀ := X.base) I.ok.mod.kin hk (thn (ha pos pins s σ H _ I h) fun us s1 ⟨vs, H1, I1, r, q⟩ => ⟨I1.kIn, ?_⟩) he hpl
  exact run_fn F hr hb hd hx I1 r q
end
section
variable {X : Cx} {CX : CXT} {k : Nat} {f C : Addr} {fd : FuncData} {ps ks : List Str} {sp : Sp} {E : XK} {x m : Str} {p pos apos kpos : Pos} {e o : Expr} {es : List Expr} {kws : List Keyword} {te ta : TE} {t tk : TA} {nm : Option Str}
variable {g : List Value → List Value → List Value} {gV : List V → List V → List V}
end
structure FnScope (N P : List Str) (sc : Scope) : Prop where
  kind : sc.kind = .function
  co : sc.isCoroutine = false
  gen : sc.isGenerator = false
  nd : N.Nodup
  pre : N.take P.length = P
  par : ∀ x ∈ P, sc.names.lookup x = some .local ∨ sc.names.lookup x = some .cell
  nofree : ∀ y ∈ sc.names, y.2 ≠ .free
theorem bindL_out {kindOf : Str → Option NameKind} {x : Str} : ∀ {binds : List (Str × Value)} {m : Str → Option Value}, (∀ v, (x, v) ∉ binds) → bindL kindOf binds m x = m x
  | [], _, _ => rfl
  | (n, v) :: r, m, h => by
    unfold bindL
    rw [bindL_out fun w hw => h w (List.mem_cons_of_mem _ hw)]
    split
    · have : x ≠ n := by rintro rfl; exact h v List.mem_cons_self
      simp [this]
    · rfl
theorem bindC_out {kindOf : Str → Option NameKind} {x : Str} : ∀ {binds : List (Str × Value)} {m : Str → Option Value}, (∀ v, (x, v) ∉ binds) → bindC kindOf binds m x = m x
  | [], _, _ => rfl
  | (n, v) :: r, m, h => by
    unfold bindC
    rw [bindC_out fun w hw => h w (List.mem_cons_of_mem _ hw)]
    split
    · rfl
    · have : x ≠ n := by rintro rfl; exact h v List.mem_cons_self
      simp [this]
theorem bindL_get {kindOf : Str → Option NameKind} {x : Str} {v : Value} : ∀ {P : List Str} {vs : List Value} {i : Nat} {m : Str → Option Value}, P.Nodup → P[i]? = some x → vs[i]? = some v → kindOf x = some .local →
    bindL kindOf (P.zip vs) m x = some v
  | [], _, _, _, _, h, _, _ => by simp at h
  | _ :: _, [], _, _, _, _, h, _ => by simp at h
  | p :: P, w :: vs, 0, m, nd, h1, h2, hk => by
    simp at h1 h2; subst h1; subst h2
    show bindL kindOf ((p, w) :: P.zip vs) m p = _
    unfold bindL
    rw [bindL_out fun v hv => (List.nodup_cons.mp nd).1 (List.of_mem_zip hv).1, if_pos hk]
    simp
  | p :: P, w :: vs, i + 1, m, nd, h1, h2, hk => by
    show bindL kindOf ((p, w) :: P.zip vs) m x = _
    unfold bindL
    exact bindL_get (i := i) (List.nodup_cons.mp nd).2 (by simpa using h1) (by simpa using h2) hk
theorem bindC_get {kindOf : Str → Option NameKind} {x : Str} {v : Value} : ∀ {P : List Str} {vs : List Value} {i : Nat} {m : Str → Option Value}, P.Nodup → P[i]? = some x → vs[i]? = some v → kindOf x ≠ some .local →
    bindC kindOf (P.zip vs) m x = some v
  | [], _, _, _, _, h, _, _ => by simp at h
  | _ :: _, [], _, _, _, _, h, _ => by simp at h
  | p :: P, w :: vs, 0, m, nd, h1, h2, hk => by
    simp at h1 h2; subst h1; subst h2
    show bindC kindOf ((p, w) :: P.zip vs) m p = _
    unfold bindC
    rw [bindC_out fun v hv => (List.nodup_cons.mp nd).1 (List.of_mem_zip hv).1, if_neg hk]
    simp
  | p :: P, w :: vs, i + 1, m, nd, h1, h2, hk => by
    show bindC kindOf ((p, w) :: P.zip vs) m x = _
    unfold bindC
    exact bindC_get (i := i) (List.nodup_cons.mp nd).2 (by simpa using h1) (by simpa using h2) hk
def start (N : List Str) (vs : List V) : St := vs.map some ++ List.replicate (N.length - vs.length) none
def cxOf (CX : CXT) (P : Program) (w : World) (K : PySem.W.Frag) (mg : Str → Option Value) (base : Heap) (N : List Str) (qual : Str) (scope : Scope) (f : Addr) (cd : Value) (A : Around) (outer : List Env) (s : Shared) (H : Hp) (E : XK) : Cx where
  prog := P
  w := w
  K := K
  mg := mg
  base := base
  A := A.deeper (envOfC qual scope s.heap.objs.size f cd)
  N := N
  s₀ := s
  H₀ := H
  env := envOfC qual scope s.heap.objs.size f cd
  outer := outer
  stack := envOfC qual scope s.heap.objs.size f cd :: outer
  ex := []
  calm := true
  fn := fun _ => true
  pn := []
  xe := fun e s' => wpAny (model P w) (A.deeper (envOfC qual scope s.heap.objs.size f cd)) (leaving (envOfC qual scope s.heap.objs.size f cd) e) (fun _ s'' => CX outer H s E e s'') (fun e' s'' => CX outer H s E e' s'') s'
theorem cell_has {sc : Scope} {n : Nat} {x : Str} (h : sc.names.lookup x = some .cell) : ∃ c, (cellsFrom n sc.names []).lookup x = some c := by
  have q := PySem.W.cellsFrom_some sc.names n [] (.inl h)
  exact Option.isSome_iff_exists.mp q
theorem inv_start {CX : CXT} {P : Program} {w : World} {K : PySem.W.Frag} {mg : Str → Option Value} {base : Heap} {N ps : List Str} {qual : Str} {scope : Scope} {f : Addr} {cd : Value} {A : Around} {outer : List Env} {s s1 : Shared} {H : Hp} {E : XK} {us : List Value} {vs : List V}
    (S : FnScope N ps scope) (hd : A.handled = none) (e0 : Env0 P w K mg base A outer s H) (hl : vs.length = ps.length) (r : Vals vs us)
    (x : InCallC s s.heap.objs.size (bindL (envOfC qual scope s.heap.objs.size f cd).kindOf (ps.zip us) fun _ => none) (cellsFrom (s.heap.objs.size + 1) scope.names []) (bindC (envOfC qual scope s.heap.objs.size f cd).kindOf (ps.zip us) fun _ => none) s1) :
    Inv (cxOf CX P w K mg base N qual scope f cd A outer s H E) [] (start N vs) H s1 := by
  have hpl : ps.length ≤ N.length := by have := congrArg List.length S.pre; rw [List.length_take] at this; omega
  obtain ⟨h1, tk, rfl, hk⟩ := x.done
  have noA : ∀ b : Addr, b ∉ (cxOf CX P w K mg base N qual scope f cd A outer s H E).ex := fun b z => absurd (show b ∈ ([] : List Addr) from z) (by simp)
  refine ⟨⟨e0.mod, S.kind, rfl, rfl, Nat.le_refl _, fun y z c h1 h2 => ?_, fun y hy => ?_, fun y c _ h => ?_, fun _ => hd, Around.frames_deeper e0.frames, .inr ⟨rfl, rfl⟩, fun b z => absurd z (noA b), e0.bs, e0.bsz, fun b _ _ => noA b, fun b z => absurd z (noA b), e0.funs, e0.frf⟩,
    rfl, e0.bare, Un.kept hk, ⟨_, x.toInCall.ns, fun i y v h1 h2 h3 => ?_⟩, fun y c h => ⟨_, x.cell y c h⟩, e0.hok.fresh (Nat.le_refl _), fun y c h => ?_, fun p hp => absurd (show p ∈ ([] : List (Addr × Obj)) from hp) (by simp), e0.hok.kept hk, ?_⟩
  · exact name_of_addr x.apart (PySem.mem_of_lookup h1) (PySem.mem_of_lookup h2)
  · have hy : scope.names.lookup y = some .cell ∨ scope.names.lookup y = some .free := hy
    rcases hy with hy | hy
    · exact cell_has hy
    · exact absurd rfl (S.nofree _ (PySem.mem_of_lookup hy))
  · exact Nat.le_of_lt (x.above y c (PySem.mem_of_lookup h))
  · have hi : i < vs.length := by
      unfold start at h2
      by_cases hi : i < vs.length
      · exact hi
      · rw [List.getElem?_append_right (by simpa using hi)] at h2
        rw [List.getElem?_replicate] at h2
        split at h2 <;> cases h2
    have ha : vs[i]? = some v := by
      unfold start at h2
      rw [List.getElem?_append_left (by simpa using hi), List.getElem?_map] at h2
      cases e : vs[i]? with
      | none => rw [e] at h2; cases h2
      | some a => rw [e] at h2; cases h2; rfl
    obtain ⟨u, hu, rv⟩ := r.get ha
    have hp : ps[i]? = some y := by
      rw [← S.pre, List.getElem?_take_of_lt (by omega)]; exact h1
    have ndP : ps.Nodup := by rw [← S.pre]; exact S.nd.sublist (List.take_sublist _ _)
    refine ⟨u, rv, ?_⟩
    rcases S.par y (List.mem_of_getElem? hp) with k | k
    · exact .inl ⟨k, bindL_get ndP hp hu k⟩
    · obtain ⟨c, e⟩ := cell_has (n := s.heap.objs.size + 1) k
      refine .inr ⟨.inl k, c, e, ?_⟩
      have q := x.cell y c e
      rw [bindC_get ndP hp hu (by show scope.names.lookup y ≠ _; rw [k]; decide)] at q
      exact q
  · exact e0.hok.fresh (Nat.le_of_lt (x.above y c (PySem.mem_of_lookup h)))
  · unfold start
    show _ = N.length
    rw [List.length_append, List.length_map, List.length_replicate]
    omega
theorem fn_of {CX : CXT} {P : Program} {w : World} {K : PySem.W.Frag} {mg : Str → Option Value} {base : Heap} {k : Nat} {f : Addr} {name qual : Str} {params : Arguments} {body : List Stmt} {scope : Scope} {dV kV doc pm cdv ct oc : Value} {an od : Option Addr}
    {osl : Array (Option Value)} {N ps : List Str} {sp : Sp} (lk : K.lookup f = some ⟨oc, od, .func (PySem.W.fnOf name qual params body scope dV kV doc pm an cdv ct), osl⟩) (hcd : PySem.W.codeIn K cdv qual = true) (S : FnScope N ps scope)
    (len : ∀ vs H Q E, sp vs H Q E → vs.length = ps.length)
    (hbody : ∀ (A : Around) (outer : List Env) (s : Shared) (H : Hp) (vs : List V) (Q : VK) (E : XK), Room k (A.deeper (envOfC qual scope s.heap.objs.size f cdv)) → sp vs H Q E →
      ∃ t, PSs (cxOf CX P w K mg base N qual scope f cdv A outer s H E) body t ∧ t { nx := fun _ H' => Q .non H', rt := Q } (start N vs) H) :
    FnOk P w K mg base CX (k + 1) f (PySem.W.fnOf name qual params body scope dV kV doc pm an cdv ct) ps sp := by
  refine ⟨len, fun A outer s H args us vs Q E hr e0 hb r hsp => ?_⟩
  have hl := len _ _ _ _ hsp
  have KX : K.In s.heap := e0.mod.kin.keeps fun b o e => (e0.bs b o e).1
  have lim : s.heap.NoLimit := e0.mod.nolimit.keeps fun b o e => (e0.bs b o e).1
  have hkind : ∀ y ∈ ps.zip us, scope.names.lookup y.1 = some .local ∨ (scope.names.lookup y.1 = some .cell ∧ ((cellsFrom (s.heap.objs.size + 1) scope.names []).lookup y.1).isSome = true) := fun ⟨n, v⟩ hy => by
    rcases S.par n (List.of_mem_zip hy).1 with q | q
    · exact .inl q
    · exact .inr ⟨q, PySem.W.cellsFrom_some _ _ _ (.inl q)⟩
  refine codeAny_call_function hr.depth (KX _ _ lk) rfl S.co S.gen rfl (PySem.W.codeRec_of KX hcd) (hb _ _ _ _ ?_)
  refine wpAny_newFunctionEnv_cells S.kind hkind fun env he s1 x => ?_
  subst he
  refine ⟨lim.keeps x.toInCall.keep, codeAny_func ?_⟩
  obtain ⟨t, ht, hq⟩ := hbody A outer s H vs Q E (hr.deeper _) hsp
  have I : Inv (cxOf CX P w K mg base N qual scope f cdv A outer s H E) [] (start N vs) H s1 := inv_start S hr.hd e0 hl r x
  refine wpAny_mono (ht [] s1 (start N vs) H _ I hq) (fun fl s' hs => ?_) fun e s' hs => hs
  have fin : ∀ {σ' : St} {H' : Hp} {v : V} {u : Value}, Inv (cxOf CX P w K mg base N qual scope f cdv A outer s H E) [] σ' H' s' → RelV v u → Q v H' → CE outer P w H s Q u s' :=
    fun {σ' H' v u} J rv q => ⟨v, H', J.os, J.bare, J.base, J.hok, rv, q⟩
  cases fl with
  | ret u =>
    obtain ⟨v, σ', H', J, rv, q⟩ := hs
    exact fin J rv q
  | next =>
    obtain ⟨σ', H', J, q⟩ := hs
    exact fin (v := V.non) (u := Value.none) J rfl q
  | brk =>
    obtain ⟨_, _, _, q⟩ := hs
    exact False.elim q
  | cont =>
    obtain ⟨_, _, _, q⟩ := hs
    exact False.elim q
end L2
namespace L2
open PySem PySem.Spec PyProof.Rows
section
variable {X : Cx} {x : Str} {p pos : Pos} {e : Expr} {es : List Expr} {t : TA} {id T : String} {r : List V → Hp → VK → Prop}
def tCB (r : List V → Hp → VK → Prop) (t : TA) : TE := fun σ H Q => t σ H fun vs H1 => r vs H1 Q
theorem pe_callB (hc : CallR X (.builtin id) r) (hg : Gl X x) (hm : X.mg x = none) (hv : bootBuiltins x = some (.builtin id)) (ha : PA X (e :: es) t) (hn : x ≠ "__name__" := by decide) (hdb : (x == ("__debug__" : Str)) = false := by decide)
    (he : starEach (e :: es) X.env = (false, eval e X.env) :: starEach es X.env := by rfl) (hpl : (backTo pos (starEach es X.env)).any (·.1) = false := by rfl) : PE X (.Call (.Name x p) (e :: es) [] pos) (tCB r t) := by
  intro pins s σ H Q I h
  refine wpAny_Call_Name_kw (ld_blt I hg hm hv ?_ hn hdb)
  exact PyProof.Rows.callWith_builtin1 (thn (ha pos pins s σ H _ I h) fun us s1 ⟨vs, H1, I1, r1, q1⟩ => hc pins s1 σ H1 vs us Q I1 r1 q1) he hpl
theorem pe_callTy (hc : CallR X (.type T) r) (hg : Gl X x) (hm : X.mg x = none) (hv : bootBuiltins x = some (.type T)) (ha : PA X (e :: es) t) (hn : x ≠ "__name__" := by decide) (hdb : (x == ("__debug__" : Str)) = false := by decide)
    (he : starEach (e :: es) X.env = (false, eval e X.env) :: starEach es X.env := by rfl) (hpl : (backTo pos (starEach es X.env)).any (·.1) = false := by rfl) : PE X (.Call (.Name x p) (e :: es) [] pos) (tCB r t) := by
  intro pins s σ H Q I h
  refine wpAny_Call_Name_kw (ld_blt I hg hm hv ?_ hn hdb)
  exact PyProof.Rows.callWith_type1 (thn (ha pos pins s σ H _ I h) fun us s1 ⟨vs, H1, I1, r1, q1⟩ => hc pins s1 σ H1 vs us Q I1 r1 q1) he hpl
end
end L2
namespace HT
open PySem PyProof.Rows
section
open PySem.SeqAt
open PySem.AutoSeq1 (wpAny_loadPart')
open PySem.MeetsSeq PySem.MeetsSeq2 PySem.MeetsSeq3
end
section
variable {prog : Program} {w : World} {A : Around} {E : Value → Shared → Prop} {s : Shared}
theorem cat_tup {t b : Addr} {vs ws : List Value} {Q : Value → Shared → Prop} (ht : IsTup s.heap t vs.toArray) (hb : IsTup s.heap b ws.toArray) (hv : vs ≠ [])
    (h1 : ws = [] → Q (.ref t) s) (h2 : ws ≠ [] → Q (.ref s.heap.objs.size) { s with heap := s.heap.push { cls := .type "tuple", data := .seq (vs ++ ws).toArray } })
    (hsz : vs.length + ws.length ≤ sizeLine) : wpAny (model prog w) A (binaryOp .Add (.ref t) (.ref b)) Q E s := by
  obtain ⟨⟨cls, dd, data, sl⟩, ho, hc, n, hd⟩ := id ht
  obtain ⟨⟨cls2, dd2, data2, sl2⟩, ho2, hc2, n2, hd2⟩ := id hb
  simp only at hc hd hc2 hd2
  subst hc hd hc2 hd2
  have e : vs.toArray ++ ws.toArray = (vs ++ ws).toArray := by simp
  by_cases hw : ws = []
  · exact concat_meets ⟨_, ho, rfl⟩ ⟨_, ho2, rfl⟩ noFill_tuple_add seq_tuple_add PySem.F.slot_tuple_add PySem.F.entry_tuple_add (PySem.F.args_tuple_add_2 _ _)
      (tuple_addW1 t b vs.toArray ws.toArray n n2 dd dd2 sl sl2 (by simpa using hv) (by simp [hw])) ⟨ho, ho2, h1 hw⟩
  · refine concat_meets ⟨_, ho, rfl⟩ ⟨_, ho2, rfl⟩ noFill_tuple_add seq_tuple_add PySem.F.slot_tuple_add PySem.F.entry_tuple_add (PySem.F.args_tuple_add_2 _ _)
      (tuple_addW2 t b vs.toArray ws.toArray n n2 dd dd2 sl sl2 (by simpa using hv) (by simpa using hw) (by rw [List.size_toArray, List.size_toArray]; exact hsz)) ⟨ho, ho2, ?_⟩
    rw [e]
    exact h2 hw
def sIx (n d : Nat) : Option Int → Nat
  | none => d
  | some v => if v < 0 then (v + (n : Int)).toNat else min v.toNat n
theorem sIx_none (n d : Nat) : sIx n d none = d := rfl
theorem sIx_nat (n d k : Nat) : sIx n d (some (k : Int)) = min k n := by
  show (if (k : Int) < 0 then ((k : Int) + (n : Int)).toNat else min (k : Int).toNat n) = min k n
  rw [if_neg (by omega), Int.toNat_natCast]
theorem sIx_le (n d : Nat) (hd : d ≤ n) (o : Option Int) : sIx n d o ≤ n := by
  cases o with
  | none => exact hd
  | some v =>
    show (if v < 0 then (v + (n : Int)).toNat else min v.toNat n) ≤ n
    by_cases hv : v < 0
    · rw [if_pos hv]; omega
    · rw [if_neg hv]; exact Nat.min_le_right _ _
theorem clip_eq (v : Int) (n d : Nat) : (if v < 0 then max (v + (n : Int)) 0 else min v (n : Int)) = ((sIx n d (some v) : Nat) : Int) := by
  show (if v < 0 then max (v + (n : Int)) 0 else min v (n : Int)) = (((if v < 0 then (v + (n : Int)).toNat else min v.toNat n) : Nat) : Int)
  by_cases hv : v < 0
  · simp only [if_pos hv]; omega
  · simp only [if_neg hv]; omega
theorem adjust_gen (lo hi : Option Int) (n : Nat) : Builtin.Slice.sliceAdjust lo hi 1 (n : Int) = (((sIx n 0 lo : Nat) : Int), ((sIx n n hi : Nat) : Int)) := by
  have h1 : ¬ ((1 : Int) < 0) := by omega
  unfold Builtin.Slice.sliceAdjust
  simp only [h1, if_false]
  refine Prod.ext ?_ ?_
  · cases lo with
    | none => rfl
    | some v => exact clip_eq v n 0
  · cases hi with
    | none => rfl
    | some v => exact clip_eq v n n
theorem places_gen (i j : Nat) : Builtin.Slice.slicePlaces (i : Int) (j : Int) 1 = j - i := by
  unfold Builtin.Slice.slicePlaces
  have h1 : (1 : Int) > 0 := by omega
  simp only [h1, if_true, Int.ediv_one]
  split <;> omega
theorem slicePart_ {v : Value} {o : Option Int} {Q : Option Int → Shared → Prop} (p : IsPart v o) (h : Q o s) : wpAny (model prog w) A (Builtin.Slice.slicePartIndex v) Q E s := by
  cases p with
  | none => exact slicePart_none h
  | int i t => exact slicePart_int h
theorem sliceApplied_gen {sl : Addr} {vl vu : Value} {lo hi : Option Int} {n : Nat} {Q : Int × Int × Nat → Shared → Prop} (hs : s.heap.IsSliceOf sl vl vu .none) (pl : IsPart vl lo) (pu : IsPart vu hi)
    (h : Q (((sIx n 0 lo : Nat) : Int), 1, sIx n n hi - sIx n 0 lo) s) : wpAny (model prog w) A (Builtin.Slice.sliceApplied (.ref sl) (pure (n : Int))) Q E s := by
  obtain ⟨os, hos, hcs, hds⟩ := id hs
  unfold Builtin.Slice.sliceApplied Builtin.Slice.sliceFields
  refine wpAny_bind (wpAny_bind (wpAny_field hos hds (x := vl) rfl (wpAny_bind (wpAny_field hos hds (x := vu) rfl (wpAny_bind (wpAny_field hos hds (x := .none) rfl (wpAny_pure ?_)))))))
  refine wpAny_bind (slicePart_none ?_)
  show wpAny _ _ (if ((1 : Int) == 0) = true then _ else _) _ _ s
  rw [if_neg (by decide)]
  refine wpAny_bind (slicePart_ pl (wpAny_bind (slicePart_ pu (wpAny_bind (wpAny_pure ?_)))))
  show wpAny _ _ (match Builtin.Slice.sliceAdjust lo hi 1 (n : Int) with | (lo, hi) => pure (lo, (1 : Int), Builtin.Slice.slicePlaces lo hi 1)) _ _ s
  rw [adjust_gen lo hi n]
  show wpAny _ _ (pure (((sIx n 0 lo : Nat) : Int), (1 : Int), Builtin.Slice.slicePlaces ((sIx n 0 lo : Nat) : Int) ((sIx n n hi : Nat) : Int) 1)) _ _ s
  rw [places_gen]
  exact wpAny_pure h
theorem pick_gen (xs : Array Value) (i k : Nat) : ((List.range k).filterMap fun (m : Nat) => xs[((i : Int) + (m : Int) * 1).toNat]?).toArray = ((xs.toList.drop i).take k).toArray := by
  have e : (fun (m : Nat) => xs[((i : Int) + (m : Int) * 1).toNat]?) = fun m => xs[i + m]? := by
    funext m
    have : ((i : Int) + (m : Int) * 1).toNat = i + m := by omega
    rw [this]
  rw [e]
  have := pick_run xs i k
  rw [List.filterMap_map] at this
  have e2 : ((fun x => xs[x]?) ∘ fun x => i + x) = fun m => xs[i + m]? := rfl
  rw [e2] at this
  rw [this]
theorem getItem_tuple_cut {t sl : Addr} {items : Array Value} {vl vu : Value} {lo hi : Option Int} {Q : Value → Shared → Prop} (ht : IsTup s.heap t items) (hs : s.heap.IsSliceOf sl vl vu .none) (pl : IsPart vl lo) (pu : IsPart vu hi)
    (hw : ¬ (sIx items.size 0 lo = 0 ∧ sIx items.size items.size hi = items.size))
    (h : Q (.ref s.heap.objs.size) { s with heap := s.heap.push { cls := .type "tuple", data := .seq ((items.toList.drop (sIx items.size 0 lo)).take (sIx items.size items.size hi - sIx items.size 0 lo)).toArray } })
    (hsz : items.size ≤ sizeLine) : wpAny (model prog w) A (getItem (.ref t) (.ref sl)) Q E s := by
  have htake : sizeOk (.seq ((items.toList.drop (sIx items.size 0 lo)).take (sIx items.size items.size hi - sIx items.size 0 lo)).toArray) := by
    show ((items.toList.drop (sIx items.size 0 lo)).take (sIx items.size items.size hi - sIx items.size 0 lo)).toArray.size ≤ sizeLine
    rw [List.size_toArray, List.length_take, List.length_drop, Array.length_toList]
    omega
  have hj : sIx items.size items.size hi ≤ items.size := sIx_le _ _ (Nat.le_refl _) hi
  obtain ⟨os, hos, hcs, hds⟩ := id hs
  have hTs : s.TypeIs (.ref sl) "slice" := ⟨os, hos, hcs⟩
  unfold getItem
  try with_reducible refine wpAny_holding ?_
  first | refine wpAny_bind (wpAny_pure ?_) | skip
  refine wpAny_bind (wpAny_sequenceKey ht.typeIs (by decide) ?_)
  refine wpAny_bind (wpAny_callSpecial?_slot (name := Str.ofString "__getitem__") ht.typeIs PyProof.Rows.slot_tuple_getitem
    (wpAny_call_entry PyProof.Rows.slot_tuple_getitem ht.typeIs entry_tuple_getitem ?_ (args_tuple_getitem _ _)))
  show wpAny _ _ (Builtin.Tuple.tupleItemsOf (.ref t) >>= _) _ _ s
  refine wpAny_bind (tupleItemsOf_ ht ?_)
  refine wpAny_bind (wpAny_typeOf hTs ?_)
  rw [if_pos (by decide)]
  refine wpAny_bind (sliceApplied_gen hs pl pu ?_)
  have hno : ¬ ((((sIx items.size 0 lo : Nat) : Int) == 0 && (1 : Int) == 1 && (sIx items.size items.size hi - sIx items.size 0 lo) == items.size) = true) := by
    intro q
    rw [Bool.and_eq_true, Bool.and_eq_true] at q
    have q1 : ((sIx items.size 0 lo : Nat) : Int) = 0 := eq_of_beq q.1.1
    have q2 : sIx items.size items.size hi - sIx items.size 0 lo = items.size := eq_of_beq q.2
    exact hw ⟨by omega, by omega⟩
  show wpAny _ _ (if (((sIx items.size 0 lo : Nat) : Int) == 0 && (1 : Int) == 1 && (sIx items.size items.size hi - sIx items.size 0 lo) == items.size) = true then _ else _) _ _ s
  rw [if_neg hno, pick_gen]
  first
    | exact wpAny_bind (m := Builtin.Tuple.tupleExact _) (wpAny_newObj_type (wpAny_pure ⟨_, rfl, wpAny_pure h⟩) htake)
    | exact wpAny_bind (m := Builtin.Tuple.tupleExact _) (wpAny_newObj_type (wpAny_bind (wpAny_pure (wpAny_pure ⟨_, rfl, wpAny_pure h⟩))) htake)
    | exact wpAny_bind (wpAny_bind (m := Builtin.Tuple.tupleExact _) (wpAny_newObj_type (wpAny_pure (wpAny_pure ⟨_, rfl, wpAny_pure h⟩)) htake))
    | exact wpAny_bind (wpAny_bind (m := Builtin.Tuple.tupleExact _) (wpAny_newObj_type (wpAny_pure ⟨_, rfl, wpAny_pure h⟩) htake))
end
end HT
namespace L2
open PySem PySem.Spec PyProof.Rows
abbrev TO := St → Hp → (Option Int → Hp → Prop) → Prop
def PO (X : Cx) (e : Option Expr) (t : TO) : Prop :=
  ∀ (pins : List (Addr × Obj)) (s : Shared) (σ : St) (H : Hp) (Q : Option Int → Hp → Prop), Inv X pins σ H s → t σ H Q →
    wpAny (model X.prog X.w) X.A (evalPart e X.env) (fun u s' => ∃ o H', Inv X pins σ H' s' ∧ IsPart u o ∧ Q o H') X.xe s
def tNoPart : TO := fun _ H Q => Q none H
def tPart (t : TE) : TO := fun σ H Q => t σ H fun x H1 => ∃ i, x = .int i ∧ Q (some i) H1
theorem intsAre_of {ns : List Int} : ∀ {us : List Value}, Vals (ns.map V.int) us → IntsAre us ns := by
  induction ns with
  | nil => intro us r; rw [List.map_nil] at r; cases r; exact .nil
  | cons n ns ih =>
    intro us r
    rw [List.map_cons] at r
    cases r with
    | cons r1 r2 =>
      obtain ⟨t, e⟩ := r1
      subst e
      exact .cons n t (ih r2)
section
variable {X : Cx} {e : Expr} {te : TE} {lo hi : Option Expr} {tl th : TO} {pos p2 : Pos}
theorem po_none : PO X none tNoPart := by
  intro pins s σ H Q I h
  rw [evalPart_none]
  exact wpAny_pure ⟨none, H, I, .none, h⟩
theorem po_some (h : PE X e te) : PO X (some e) (tPart te) := by
  intro pins s σ H Q I hw
  rw [evalPart_some]
  refine thn (h pins s σ H _ I hw) fun u s1 ⟨x, H1, I1, r1, q1⟩ => ?_
  obtain ⟨i, rfl, q⟩ := q1
  obtain ⟨t, rfl⟩ := r1
  exact ⟨some i, H1, I1, .int i t, q⟩
def SlR (X : Cx) (r : V → Option Int → Option Int → Hp → VK → Prop) : Prop :=
  ∀ (pins : List (Addr × Obj)) (s : Shared) (σ : St) (H : Hp) (x : V) (v vl vu : Value) (lo hi : Option Int) (sl : Addr) (Q : VK), Inv X pins σ H s → RelV x v → s.heap.IsSliceOf sl vl vu .none → IsPart vl lo → IsPart vu hi → r x lo hi H Q →
    ∃ T id, typeLookup (.type T) "__getitem__" = pure (some (.builtin id)) ∧ s.TypeIs v T ∧ wpAny (model X.prog X.w) X.A (getItem v (.ref sl)) (EP X pins σ Q) X.xe s
theorem SlR.or {r r' : V → Option Int → Option Int → Hp → VK → Prop} (h : SlR X r) (h' : SlR X r') : SlR X (fun x lo hi H Q => r x lo hi H Q ∨ r' x lo hi H Q) := by
  intro pins s σ H x v vl vu lo hi sl Q I rx hs pl pu q
  rcases q with q | q
  · exact h pins s σ H x v vl vu lo hi sl Q I rx hs pl pu q
  · exact h' pins s σ H x v vl vu lo hi sl Q I rx hs pl pu q
def tSl (r : V → Option Int → Option Int → Hp → VK → Prop) (te : TE) (tl th : TO) : TE := fun σ H Q => te σ H fun x H1 => tl σ H1 fun l H2 => th σ H2 fun u H3 => r x l u H3 Q
theorem pe_slice {r : V → Option Int → Option Int → Hp → VK → Prop} (hr : SlR X r) (he : PE X e te) (hl : PO X lo tl) (hu : PO X hi th) : PE X (.Subscript e (.Slice lo hi none p2) pos) (tSl r te tl th) := by
  intro pins s σ H Q I h
  refine Subscript_ (thn (he pins s σ H _ I h) fun v s1 ⟨x, H1, I1, r1, q1⟩ => ?_)
  refine wpAny_Slice (thn (hl pins s1 σ H1 _ I1 q1) fun vl s2 ⟨l, H2, I2, pl, q2⟩ => thn (hu pins s2 σ H2 _ I2 q2) fun vu s3 ⟨u, H3, I3, pu, q3⟩ => ?_)
  rw [evalPart_none]
  refine wpAny_pure ?_
  have I4 : Inv X pins σ H3 { s3 with heap := s3.heap.push { cls := .type "slice", data := .fields #[vl, vu, .none] } } := I3.kept (t' := s3.toks) fun b ob q => Heap.get?_push_of_some _ q
  obtain ⟨T, id, hT, ht, hg⟩ := hr pins { s3 with heap := s3.heap.push { cls := .type "slice", data := .fields #[vl, vu, .none] } } σ H3 x v vl vu l u s3.heap.objs.size Q I4 r1 (Heap.IsSliceOf.new ..) pl pu q3
  show wpAny (model X.prog X.w) X.A (subscriptTail e (.Slice lo hi none p2) v (.ref s3.heap.objs.size)) (EP X pins σ Q) X.xe { s3 with heap := s3.heap.push { cls := .type "slice", data := .fields #[vl, vu, .none] } }
  exact tail_any (ops := [.ref s3.heap.objs.size, v]) ht hT hg (by with_unfolding_all rfl)
def cutV (xs : List V) (lo hi : Option Int) : List V := (xs.drop (HT.sIx xs.length 0 lo)).take (HT.sIx xs.length xs.length hi - HT.sIx xs.length 0 lo)
theorem cutV_length (xs : List V) (lo hi : Option Int) : (cutV xs lo hi).length ≤ xs.length := by
  unfold cutV
  rw [List.length_take, List.length_drop]
  omega
def rSlT (K : PySem.W.Frag) : V → Option Int → Option Int → Hp → VK → Prop := fun x lo hi H Q => ∃ a xs, x = .ref a ∧ SqT K H a xs ∧
  ¬ (HT.sIx xs.length 0 lo = 0 ∧ HT.sIx xs.length xs.length hi = xs.length) ∧ ∀ p, H p = none → Q (.ref p) (upd H p (.tup (cutV xs lo hi)))
theorem sl_tup : SlR X (rSlT X.K) := by
  intro pins s σ H x v vl vu lo hi sl Q I rx hs pl pu h
  obtain ⟨a, xs, rfl, hx, hw, q⟩ := h
  cases rx
  obtain ⟨its, r, ht, hz⟩ := I.tuple hx
  have hlen : its.toArray.size = xs.length := by rw [List.size_toArray]; exact r.length.symm
  refine ⟨"tuple", _, PyProof.Rows.slot_tuple_getitem.lookup, ht.typeIs, ?_⟩
  refine HT.getItem_tuple_cut ht hs pl pu (by rw [hlen]; exact hw) ?_ (by rw [hlen]; exact hz)
  rw [hlen]
  refine ⟨.ref s.heap.objs.size, _, I.laid (t' := s.toks) (o := .tup (cutV xs lo hi)) (fun b ob q => Heap.get?_push_of_some _ q) (Nat.le_refl _) ?_, rfl, q _ (I.hok.fresh (Nat.le_refl _))⟩
  exact ⟨Nat.le_trans (cutV_length xs lo hi) hz, _, (r.drop (HT.sIx xs.length 0 lo)).take (HT.sIx xs.length xs.length hi - HT.sIx xs.length 0 lo), ⟨_, Heap.get?_push_size _ rfl, rfl, _, rfl, rfl⟩⟩
def rCatT (K : PySem.W.Frag) : R2 := fun x y H Q => ∃ a b xs ys, x = .ref a ∧ y = .ref b ∧ SqT K H a xs ∧ SqT K H b ys ∧ xs ≠ [] ∧ xs.length + ys.length ≤ sizeLine ∧
  (ys = [] → Q (.ref a) H) ∧ (ys ≠ [] → ∀ p, H p = none → Q (.ref p) (upd H p (.tup (xs ++ ys))))
theorem Vals.nil_iff {xs : List V} {us : List Value} (r : Vals xs us) : us = [] ↔ xs = [] := by
  cases r with
  | nil => simp
  | cons _ _ => simp
theorem op_catT : OpR X (binaryOp .Add) (rCatT X.K) := by
  intro pins s σ H x y v u Q I rx ry h
  obtain ⟨a, b, xs, ys, rfl, rfl, ha, hb, hx, hz, q1, q2⟩ := h
  cases rx
  cases ry
  obtain ⟨its, r1, p1, _⟩ := I.tuple ha
  obtain ⟨its2, r2, p2, _⟩ := I.tuple hb
  refine HT.cat_tup p1 p2 (fun z => hx (r1.nil_iff.mp z)) (fun z => ⟨.ref a, H, I, rfl, q1 (r2.nil_iff.mp z)⟩) (fun z => ?_) (by rw [← r1.length, ← r2.length]; exact hz)
  refine ⟨.ref s.heap.objs.size, _, I.laid (t' := s.toks) (o := .tup (xs ++ ys)) (fun b ob q => Heap.get?_push_of_some _ q) (Nat.le_refl _) ?_, rfl, q2 (fun w => z (r2.nil_iff.mpr w)) _ (I.hok.fresh (Nat.le_refl _))⟩
  exact ⟨by rw [List.length_append]; exact hz, _, r1.append r2, ⟨_, Heap.get?_push_size _ rfl, rfl, _, rfl, rfl⟩⟩
end
end L2
namespace L2
open PySem PySem.Spec PyProof.Rows
def ixN (n : Nat) (i : Int) : Option Nat := if 0 ≤ i then (if i < n then some i.toNat else none) else if -(n : Int) ≤ i then some (i + n).toNat else none
def atI {α : Type} (xs : List α) (i : Int) : Option α := (ixN xs.length i).bind fun j => xs[j]?
theorem ixN_seq {n : Nat} {i : Int} {j : Nat} (h : ixN n i = some j) : seqIndex? i n = some j ∧ j < n ∧ -(n : Int) ≤ i ∧ i < n := by
  unfold ixN at h
  by_cases h0 : 0 ≤ i
  · rw [if_pos h0] at h
    by_cases h1 : i < n
    · rw [if_pos h1] at h
      have e : i.toNat = j := Option.some.inj h
      exact ⟨by rw [seqIndex_of h0 h1, e], by omega, by omega, h1⟩
    · rw [if_neg h1] at h; cases h
  · rw [if_neg h0] at h
    by_cases h1 : -(n : Int) ≤ i
    · rw [if_pos h1] at h
      have e : (i + n).toNat = j := Option.some.inj h
      exact ⟨by rw [seqIndex_neg (by omega) h1, e], by omega, h1, by omega⟩
    · rw [if_neg h1] at h; cases h
theorem atI_get {α : Type} {xs : List α} {i : Int} {v : α} (h : atI xs i = some v) : ∃ j, seqIndex? i xs.length = some j ∧ xs[j]? = some v ∧ j < xs.length ∧ -(xs.length : Int) ≤ i ∧ i < xs.length := by
  unfold atI at h
  cases e : ixN xs.length i with
  | none => rw [e] at h; cases h
  | some j =>
    rw [e] at h
    obtain ⟨h1, h2, h3, h4⟩ := ixN_seq e
    exact ⟨j, h1, h, h2, h3, h4⟩
theorem atI_nat {α : Type} {xs : List α} {j : Nat} {v : α} (h : xs[j]? = some v) : atI xs (j : Int) = some v := by
  have hj : j < xs.length := (List.getElem?_eq_some_iff.mp h).1
  have e : ixN xs.length (j : Int) = some j := by
    unfold ixN
    rw [if_pos (by omega), if_pos (by omega)]; simp
  unfold atI; rw [e]; exact h
theorem atI_last {α : Type} (xs : List α) (v : α) : atI (xs ++ [v]) (-1) = some v := by
  have hl : (xs ++ [v]).length = xs.length + 1 := by simp
  have e : ixN (xs ++ [v]).length (-1) = some xs.length := by
    unfold ixN
    rw [hl, if_neg (by decide), if_pos (by omega)]
    congr 1
    omega
  unfold atI
  rw [e]
  show (xs ++ [v])[xs.length]? = some v
  simp
def PlainIx (b : Expr) : Prop := ∀ o i, subscripted b false o i = operate [o, i] (getItem o i)
def IxR (X : Cx) (r : R2) : Prop :=
  ∀ (value slice : Expr) (pins : List (Addr × Obj)) (s : Shared) (σ : St) (H : Hp) (x y : V) (v u : Value) (Q : VK), Inv X pins σ H s → RelV x v → RelV y u → r x y H Q →
    subscripted slice false v u = operate [v, u] (getItem v u) → wpAny (model X.prog X.w) X.A (subscriptTail value slice v u) (EP X pins σ Q) X.xe s
def MtR (X : Cx) (id : String) (r : V → List V → Hp → VK → Prop) : Prop :=
  ∀ (pins : List (Addr × Obj)) (s : Shared) (σ : St) (H : Hp) (x : V) (xs : List V) (v : Value) (us : List Value) (Q : VK), Inv X pins σ H s → RelV x v → Vals xs us → r x xs H Q →
    wpAny (model X.prog X.w) X.A (call (.builtin id) (v :: us)) (EP X pins σ Q) X.xe s
section
variable {X : Cx} {a b : Expr} {ta tb : TE} {pos : Pos}
theorem IxR.or {r r' : R2} (h : IxR X r) (h' : IxR X r') : IxR X (fun x y H Q => r x y H Q ∨ r' x y H Q) := by
  intro value slice pins s σ H x y v u Q I rx ry q hs
  rcases q with q | q
  · exact h value slice pins s σ H x y v u Q I rx ry q hs
  · exact h' value slice pins s σ H x y v u Q I rx ry q hs
theorem MtR.or {id : String} {r r' : V → List V → Hp → VK → Prop} (h : MtR X id r) (h' : MtR X id r') : MtR X id (fun x xs H Q => r x xs H Q ∨ r' x xs H Q) := by
  intro pins s σ H x xs v us Q I rx rs q
  rcases q with q | q
  · exact h pins s σ H x xs v us Q I rx rs q
  · exact h' pins s σ H x xs v us Q I rx rs q
theorem pe_ix {r : R2} (hr : IxR X r) (ha : PE X a ta) (hb : PE X b tb) (hs : PlainIx b) : PE X (.Subscript a b pos) (tOp r ta tb) := by
  intro pins s σ H Q I h
  exact Subscript_ (binT ha hb I h fun v u s2 x y H2 I2 rx ry q => hr a b pins s2 σ H2 x y v u Q I2 rx ry q (hs _ _))
def rIxL (K : PySem.W.Frag) : R2 := fun x y H Q => ∃ p xs i v, x = .ref p ∧ y = .int i ∧ SqL K H p xs ∧ atI xs i = some v ∧ Q v H
def rIxT (K : PySem.W.Frag) : R2 := fun x y H Q => ∃ p xs i v, x = .ref p ∧ y = .int i ∧ SqT K H p xs ∧ atI xs i = some v ∧ Q v H
def rIxS : R2 := fun x y H Q => ∃ z i c, x = .str z ∧ y = .int i ∧ z.length ≤ sizeLine ∧ atI z.cps.toList i = some c ∧ Q (.str ⟨#[c]⟩) H
theorem ix_list : IxR X (rIxL X.K) := by
  intro value slice pins s σ H x y v u Q I rx ry h hs
  obtain ⟨p, xs, i, z, rfl, rfl, hq, he, q⟩ := h
  cases rx
  obtain ⟨t, rfl⟩ := ry
  obtain ⟨its, r, pl, hz⟩ := I.list hq
  obtain ⟨j, h1, h2, h3, h4, h5⟩ := atI_get he
  obtain ⟨w, ew, rw'⟩ := r.get h2
  have hl := r.length
  have hn := line63
  have fin : EP X pins σ Q w s := ⟨z, H, I, rw', q⟩
  by_cases h0 : 0 ≤ i
  · have hj : i.toNat = j := by
      rw [seqIndex_of h0 h5] at h1
      exact Option.some.inj h1
    exact item_listR pl.isList h0 (by omega) (by rw [hj]; simpa using ew) fin hs
  · have hj : (i + (its.toArray.size : Int)).toNat = j := by
      rw [seqIndex_neg (by omega) h4] at h1
      rw [List.size_toArray, ← hl]
      exact Option.some.inj h1
    exact subscriptTail_builtinR (x := w) pl.isList.typeIs slot_list_getitem.lookup
      (wpAny_getItem_list_neg (Q := fun r s' => r = w ∧ EP X pins σ Q r s') pl.isList (by omega) (by rw [List.size_toArray] <;> omega) (by omega) (by rw [hj]; simpa using ew) ⟨rfl, fin⟩) hs
theorem ix_tup : IxR X (rIxT X.K) := by
  intro value slice pins s σ H x y v u Q I rx ry h hs
  obtain ⟨p, xs, i, z, rfl, rfl, hq, he, q⟩ := h
  cases rx
  obtain ⟨t, rfl⟩ := ry
  obtain ⟨its, r, pl, hz⟩ := I.tuple hq
  obtain ⟨j, h1, h2, h3, h4, h5⟩ := atI_get he
  obtain ⟨w, ew, rw'⟩ := r.get h2
  have hl := r.length
  have hn := line63
  have fin : EP X pins σ Q w s := ⟨z, H, I, rw', q⟩
  exact subscriptTail_builtinR (x := w) pl.typeIs slot_tuple_getitem.lookup
    (getItem_tuple (j := j) (Q := fun r s' => r = w ∧ EP X pins σ Q r s') pl (by omega) (by omega) (by rw [List.size_toArray, ← hl]; exact h1) (by simpa using ew) ⟨rfl, fin⟩) hs
theorem ix_str : IxR X rIxS := by
  intro value slice pins s σ H x y v u Q I rx ry h hs
  obtain ⟨z, i, c, rfl, rfl, hz, he, q⟩ := h
  obtain ⟨t, rfl⟩ := rx
  obtain ⟨t', rfl⟩ := ry
  obtain ⟨j, h1, h2, h3, h4, h5⟩ := atI_get he
  have hl : z.cps.toList.length = z.length := by simp [Str.length]
  rw [hl] at h1 h4 h5
  have hn := line63
  exact tail_any (typeIs_str s z t) slot_str_getitem.lookup (getItem_str (c := c) (by
    have e1 : decide (i < -(2 ^ 63 : Int)) = false := decide_eq_false (by omega)
    have e2 : decide (i ≥ 2 ^ 63) = false := decide_eq_false (by omega)
    rw [e1, e2, Bool.or_false]) (by rw [h1]; simpa using h2) ⟨.str ⟨#[c]⟩, H, I.tok _, ⟨_, rfl⟩, q⟩) hs
theorem mapSeq_set (its : List Value) (n j : Nat) (u : Value) : Obj.mapSeq (·.setIfInBounds j u) { cls := .type "list", data := .seq its.toArray n } = { cls := .type "list", data := .seq (its.set j u).toArray n } := by
  simp [Obj.mapSeq]
theorem Inv.lst {pins : List (Addr × Obj)} {σ : St} {H : Hp} {s : Shared} {p : Addr} {xs : List V} (I : Inv X pins σ H s) (h : H p = some (.lst xs)) :
    ∃ (its : List Value) (n : Nat), Vals xs its ∧ s.heap.get? p = some { cls := .type "list", data := .seq its.toArray n } ∧ xs.length ≤ sizeLine := by
  obtain ⟨z, its, n, r, e⟩ := I.hok p _ h
  exact ⟨its, n, r, e, z⟩
theorem Inv.lstUpd {pins : List (Addr × Obj)} {σ : St} {H : Hp} {s : Shared} {p : Addr} {xs ys : List V} {its its' : List Value} {n n' : Nat} {f : Obj → Obj} (I : Inv X pins σ H s) (h : H p = some (.lst xs))
    (ho : s.heap.get? p = some { cls := .type "list", data := .seq its.toArray n }) (hf : f { cls := .type "list", data := .seq its.toArray n } = { cls := .type "list", data := .seq its'.toArray n' }) (r : Vals ys its') (hz : ys.length ≤ sizeLine) (t : Nat) :
    Inv X pins σ (upd H p (.lst ys)) { s with heap := s.heap.update p f, toks := t } := by
  have e : (s.heap.update p f).get? p = some { cls := .type "list", data := .seq its'.toArray n' } := by
    rw [Heap.get?_update_self f ho (by rw [hf] <;> rfl), hf]
  refine I.write (x := p) (e := p) (by rw [h]; trivial) (.inl rfl) (fun b u hb q => (Heap.get?_update_other _ _ (Ne.symm hb)).trans q) ⟨_, e⟩ ?_
  exact ⟨hz, its', n', r, e⟩
def rSetL : V → V → V → Hp → (Hp → Prop) → Prop := fun o i v H Q => ∃ p xs k j, o = .ref p ∧ i = .int k ∧ H p = some (.lst xs) ∧ ixN xs.length k = some j ∧ Q (upd H p (.lst (xs.set j v)))
theorem set_list : PSet X rSetL := by
  intro pins s σ H o i v ov iv u Q I ro ri rv h
  obtain ⟨p, xs, k, j, rfl, rfl, hp, hj, q⟩ := h
  cases ro
  obtain ⟨t, rfl⟩ := ri
  obtain ⟨its, n, r, ho, hz⟩ := I.lst hp
  obtain ⟨h1, h2, h3, h4⟩ := ixN_seq hj
  have hl := r.length
  have hn := line63
  have I' : Inv X pins σ (upd H p (.lst (xs.set j v))) { s with heap := s.heap.update p (Obj.mapSeq (·.setIfInBounds j u)) } :=
    I.lstUpd hp ho (mapSeq_set its n j u) (r.set rv j) (by rw [List.length_set]; exact hz) s.toks
  by_cases h0 : 0 ≤ k
  · have hk : k.toNat = j := by
      rw [seqIndex_of h0 h4] at h1
      exact Option.some.inj h1
    exact PySem.W.ki_setAt ho h0 (by omega) (by rw [List.size_toArray, ← hl]; exact h4) (by rw [hk]; exact ⟨_, I', q⟩)
  · have hk : (k + (its.toArray.size : Int)).toNat = j := by
      rw [seqIndex_neg (by omega) h3] at h1
      rw [List.size_toArray, ← hl]
      exact Option.some.inj h1
    exact PySem.W.ki_setBack ho (by omega) (by rw [List.size_toArray, ← hl]; exact h3) (by omega) (by rw [hk]; exact ⟨_, I', q⟩)
theorem slice_bounds (lo hi : Option Int) (n : Nat) : (sliceBounds lo hi none n).1 = ((HT.sIx n 0 lo : Nat) : Int) ∧ (sliceBounds lo hi none n).2.1 = ((HT.sIx n n hi : Nat) : Int) ∧ (sliceBounds lo hi none n).2.2 = 1 := by
  refine ⟨?_, ?_, rfl⟩
  · cases lo with
    | none => simp [sliceBounds, HT.sIx]
    | some i =>
      simp only [sliceBounds, HT.sIx, Option.getD_none, show (1 : Int) > 0 by decide, if_true]
      by_cases h : i < 0
      · simp only [h, if_true] <;> omega
      · simp only [h, if_false] <;> omega
  · cases hi with
    | none => simp [sliceBounds, HT.sIx]
    | some i =>
      simp only [sliceBounds, HT.sIx, Option.getD_none, show (1 : Int) > 0 by decide, if_true]
      by_cases h : i < 0
      · simp only [h, if_true] <;> omega
      · simp only [h, if_false] <;> omega
theorem slicePick_cut (its : List Value) (lo hi : Option Int) : slicePick its.toArray lo hi none = ((its.drop (HT.sIx its.length 0 lo)).take (HT.sIx its.length its.length hi - HT.sIx its.length 0 lo)).toArray := by
  obtain ⟨h1, h2, h3⟩ := slice_bounds lo hi its.toArray.size
  unfold slicePick
  rw [h1, h2, h3]
  simp only [sliceRange_one, pick_run, List.size_toArray] <;> rfl
def rSlL (K : PySem.W.Frag) : V → Option Int → Option Int → Hp → VK → Prop := fun x lo hi H Q => ∃ a xs, x = .ref a ∧ SqL K H a xs ∧ ∀ p, H p = none → Q (.ref p) (upd H p (.lst (cutV xs lo hi)))
theorem sl_list : SlR X (rSlL X.K) := by
  intro pins s σ H x v vl vu lo hi sl Q I rx hs pl pu h
  obtain ⟨a, xs, rfl, hx, q⟩ := h
  cases rx
  obtain ⟨its, r, ht, hz⟩ := I.list hx
  have hlen := r.length
  refine ⟨"list", _, slot_list_getitem.lookup, ht.isList.typeIs, ?_⟩
  refine wpAny_getItem_list_slice ht.isList hs pl pu .none (by simp) ?_ (by rw [List.size_toArray] <;> omega)
  rw [slicePick_cut, ← hlen]
  refine ⟨.ref s.heap.objs.size, _, I.laid (t' := s.toks) (o := .lst (cutV xs lo hi)) (fun b ob q => Heap.get?_push_of_some _ q) (Nat.le_refl _) ?_, rfl, q _ (I.hok.fresh (Nat.le_refl _))⟩
  exact ⟨Nat.le_trans (cutV_length xs lo hi) hz, _, 0, (r.drop (HT.sIx xs.length 0 lo)).take (HT.sIx xs.length xs.length hi - HT.sIx xs.length 0 lo), Heap.get?_push_size _ rfl⟩
def flatV : V → Bool
  | .non => true
  | .bl _ => true
  | .int _ => true
  | .str _ => true
  | _ => false
def eqV : V → V → Bool
  | .non, .non => true
  | .bl a, .bl b => a == b
  | .bl a, .int b => (if a then 1 else 0) == b
  | .int a, .bl b => a == (if b then 1 else 0)
  | .int a, .int b => a == b
  | .str a, .str b => a == b
  | _, _ => false
theorem eqAt_V {A : Around} {s : Shared} {y x : V} {u v : Value} (ry : RelV y u) (rx : RelV x v) (fy : flatV y = true) (fx : flatV x = true) : SeqAt.EqAt A s u v (eqV y x) := by
  cases y with
  | non =>
    cases ry
    cases x with
    | non => cases rx; exact SeqAt.EqAt.same _
    | bl b => cases rx; exact SeqAt.EqAt.none_bool b
    | int b => obtain ⟨t, rfl⟩ := rx; exact SeqAt.EqAt.none_int b t
    | str b => obtain ⟨t, rfl⟩ := rx; exact SeqAt.EqAt.none_str b t
    | _ => exact absurd (show false = true from fx) Bool.false_ne_true
  | bl a =>
    cases ry
    cases x with
    | non => cases rx; exact SeqAt.EqAt.bool_none a
    | bl b => cases rx; exact SeqAt.EqAt.bool_bool a b
    | int b => obtain ⟨t, rfl⟩ := rx; exact SeqAt.EqAt.bool_int a b t
    | str b => obtain ⟨t, rfl⟩ := rx; exact SeqAt.EqAt.bool_str a b t
    | _ => exact absurd (show false = true from fx) Bool.false_ne_true
  | int a =>
    obtain ⟨t', rfl⟩ := ry
    cases x with
    | non => cases rx; exact SeqAt.EqAt.int_none a t'
    | bl b => cases rx; exact SeqAt.EqAt.int_bool a t' b
    | int b => obtain ⟨t, rfl⟩ := rx; exact SeqAt.EqAt.int_int a t' b t
    | str b => obtain ⟨t, rfl⟩ := rx; exact SeqAt.EqAt.int_str a t' b t
    | _ => exact absurd (show false = true from fx) Bool.false_ne_true
  | str a =>
    obtain ⟨t', rfl⟩ := ry
    cases x with
    | non => cases rx; exact SeqAt.EqAt.str_none a t'
    | bl b => cases rx; exact SeqAt.EqAt.str_bool a t' b
    | int b => obtain ⟨t, rfl⟩ := rx; exact SeqAt.EqAt.str_int a t' b t
    | str b => obtain ⟨t, rfl⟩ := rx; exact SeqAt.EqAt.str_str a t' b t
    | _ => exact absurd (show false = true from fx) Bool.false_ne_true
  | _ => exact absurd (show false = true from fy) Bool.false_ne_true
def eqU (x : V) (u : Value) : Bool := match u with
  | .none => eqV .non x
  | .bool b => eqV (.bl b) x
  | .int i _ => eqV (.int i) x
  | .str z _ => eqV (.str z) x
  | _ => false
theorem eqU_of {x y : V} {u : Value} (r : RelV y u) (f : flatV y = true) : eqU x u = eqV y x := by
  cases y with
  | non => cases r; rfl
  | bl b => cases r; rfl
  | int i => obtain ⟨t, rfl⟩ := r; rfl
  | str z => obtain ⟨t, rfl⟩ := r; rfl
  | _ => exact absurd (show false = true from f) Bool.false_ne_true
theorem any_eqU {x : V} : ∀ {xs : List V} {us : List Value}, Vals xs us → xs.all flatV = true → us.any (eqU x) = xs.any fun y => eqV y x
  | _, _, .nil, _ => rfl
  | y :: xs, u :: us, .cons r t, f => by
    rw [List.all_cons, Bool.and_eq_true] at f
    rw [List.any_cons, List.any_cons, eqU_of r f.1, any_eqU t f.2]
theorem mem_eqAt {A : Around} {s : Shared} {x : V} {v : Value} (rx : RelV x v) (fx : flatV x = true) : ∀ {xs : List V} {us : List Value}, Vals xs us → xs.all flatV = true → ∀ u ∈ us, SeqAt.EqAt A s u v (eqU x u)
  | _, _, .nil, _ => fun u hu => by cases hu
  | y :: xs, u :: us, .cons r t, f => fun u' hu => by
    rw [List.all_cons, Bool.and_eq_true] at f
    rcases List.mem_cons.mp hu with rfl | hu
    · rw [eqU_of r f.1]; exact eqAt_V r rx f.1 fx
    · exact mem_eqAt rx fx t f.2 u' hu
def inV (x : V) (xs : List V) : Bool := xs.any fun y => eqV y x
def rIn (K : PySem.W.Frag) (neg : Bool) : R2 := fun x y H Q => ∃ p xs, y = .ref p ∧ (SqL K H p xs ∨ SqT K H p xs) ∧ flatV x = true ∧ xs.all flatV = true ∧ Q (.bl (if neg then !inV x xs else inV x xs)) H
theorem op_in_seq : OpR X (compareOp .In) (rIn X.K false) := by
  intro pins s σ H x y v u Q I rx ry h
  obtain ⟨p, xs, rfl, hq, fx, fs, q⟩ := h
  cases ry
  rcases hq with hq | hq
  · obtain ⟨its, r, pl, hz⟩ := I.list hq
    refine SeqAt.in_listAt (eqU x) pl.isList (fun w hw => mem_eqAt rx fx r fs w (by simpa using hw)) ⟨.bl _, H, I, rfl, ?_⟩
    rw [show its.toArray.any (eqU x) = its.any (eqU x) by simp, any_eqU r fs]
    exact q
  · obtain ⟨its, r, pl, hz⟩ := I.tuple hq
    refine SeqAt.in_tupleAt (eqU x) pl (fun w hw => mem_eqAt rx fx r fs w (by simpa using hw)) ⟨.bl _, H, I, rfl, ?_⟩
    rw [show its.toArray.any (eqU x) = its.any (eqU x) by simp, any_eqU r fs]
    exact q
theorem call_len_seq : CallR X (.builtin "len") (fun xs H Q => ∃ p ys, xs = [.ref p] ∧ (SqL X.K H p ys ∨ SqT X.K H p ys) ∧ Q (.int ys.length) H) := by
  intro pins s σ H xs us Q I r h
  obtain ⟨p, ys, rfl, hq, q⟩ := h
  obtain ⟨u, rfl, rx⟩ := vals1 r
  cases rx
  have hn := line63
  rcases hq with hq | hq
  · obtain ⟨its, r', pl, hz⟩ := I.list hq
    have hlen := r'.length
    exact Calls.call_len_list pl.isList (by simp only [List.size_toArray] <;> omega) ⟨.int ys.length, H, I.tok _, ⟨s.toks + 1, by rw [List.size_toArray, hlen]⟩, q⟩
  · obtain ⟨its, r', pl, hz⟩ := I.tuple hq
    have hlen := r'.length
    exact len_tuple pl (by simp only [List.size_toArray] <;> omega) ⟨.int ys.length, H, I.tok _, ⟨s.toks + 1, by rw [List.size_toArray, hlen]⟩, q⟩
theorem CallR.or {f : Value} {r r' : List V → Hp → VK → Prop} (h : CallR X f r) (h' : CallR X f r') : CallR X f (fun xs H Q => r xs H Q ∨ r' xs H Q) := by
  intro pins s σ H xs us Q I rs q
  rcases q with q | q
  · exact h pins s σ H xs us Q I rs q
  · exact h' pins s σ H xs us Q I rs q
theorem call_list_of : CallR X (.type "list") (fun xs H Q => ∃ p ys, xs = [.ref p] ∧ (SqL X.K H p ys ∨ SqT X.K H p ys) ∧ ∀ l, H l = none → Q (.ref l) (upd H l (.lst ys))) := by
  intro pins s σ H xs us Q I r h
  obtain ⟨p, ys, rfl, hq, q⟩ := h
  obtain ⟨u, rfl, rx⟩ := vals1 r
  cases rx
  have fin : ∀ (its : List Value), Vals ys its → ys.length ≤ sizeLine → ∀ (h' : Heap) (c' : Nat), (∀ b o', s.heap.get? b = some o' → h'.get? b = some o') →
      h'.get? s.heap.objs.size = some { cls := .type "list", dict := none, data := .seq its.toArray c', slots := #[] } → EP X pins σ Q (.ref s.heap.objs.size) { s with heap := h' } := fun its r' hz h' c' kp e =>
    ⟨.ref s.heap.objs.size, _, I.laid (t' := s.toks) kp (Nat.le_refl _) (show ObjOk X.prog X.w _ h' _ (.lst ys) from ⟨hz, its, c', r', e⟩), rfl, q _ (I.hok.fresh (Nat.le_refl _))⟩
  rcases hq with hq | hq
  · obtain ⟨its, r', pl, hz⟩ := I.list hq
    have hlen := r'.length
    obtain ⟨o, ho, hc, n, hd⟩ := pl.isList
    exact call_list_seq p (.inl rfl) ho hc hd (fun h' c' kp e => fin its r' hz h' c' kp e) (by simp only [List.size_toArray] <;> omega)
  · obtain ⟨its, r', pl, hz⟩ := I.tuple hq
    have hlen := r'.length
    obtain ⟨o, ho, hc, n, hd⟩ := pl
    exact call_list_seq p (.inr rfl) ho hc hd (fun h' c' kp e => fin its r' hz h' c' kp e) (by simp only [List.size_toArray] <;> omega)
theorem call_tuple_of : CallR X (.type "tuple") (fun xs H Q => ∃ p ys, xs = [.ref p] ∧ ((SqL X.K H p ys ∧ ∀ l, H l = none → Q (.ref l) (upd H l (.tup ys))) ∨ (SqT X.K H p ys ∧ Q (.ref p) H))) := by
  intro pins s σ H xs us Q I r h
  obtain ⟨p, ys, rfl, h⟩ := h
  obtain ⟨u, rfl, rx⟩ := vals1 r
  cases rx
  rcases h with ⟨hq, q⟩ | ⟨hq, q⟩
  · obtain ⟨its, r', pl, hz⟩ := I.list hq
    have hlen := r'.length
    refine call_tuple_list pl.isList (fun h' kp => ?_) (by simp only [List.size_toArray] <;> omega)
    have I1 : Inv X pins σ H { s with heap := h' } := I.kept (t' := s.toks) kp
    have I2 : Inv X pins σ (upd H h'.objs.size (.tup ys)) { s with heap := h'.push { cls := .type "tuple", data := .seq its.toArray } } :=
      I1.laid (t' := s.toks) (fun b o e => Heap.get?_push_of_some _ e) (Nat.le_refl _) (show ObjOk X.prog X.w _ _ _ (.tup ys) from ⟨hz, its, r', ⟨_, Heap.get?_push_size _ rfl, rfl, _, rfl, rfl⟩⟩)
    exact ⟨.ref h'.objs.size, _, I2, rfl, q _ (I1.hok.fresh (Nat.le_refl _))⟩
  · obtain ⟨its, r', pl, hz⟩ := I.tuple hq
    exact call_tuple_same pl ⟨.ref p, H, I, rfl, q⟩
def tyV (K : PySem.W.Frag) (T : String) (x : V) (H : Hp) : Prop := match x with
  | .str _ => T = "str"
  | .int _ => T = "int"
  | .ref p => (T = "list" ∧ ∃ xs, SqL K H p xs) ∨ (T = "tuple" ∧ ((∃ o, K.lookup p = some o ∧ o.cls = .type "tuple" ∧ o.dict = none) ∨ ∃ xs, H p = some (.tup xs))) ∨
      (T = "dict" ∧ ((∃ kvs, H p = some (.dK kvs)) ∨ ∃ kvs, H p = some (.dT kvs))) ∨ (T = "set" ∧ ∃ S n, H p = some (.set S n))
  | _ => False
theorem tyV_is {pins : List (Addr × Obj)} {σ : St} {H : Hp} {s : Shared} {T : String} {x : V} {v : Value} (I : Inv X pins σ H s) (r : RelV x v) (ty : tyV X.K T x H) :
    s.TypeIs v T ∧ ∀ a, v = .ref a → ∃ ob, s.heap.get? a = some ob ∧ ob.dict = none := by
  cases x with
  | str z =>
    obtain ⟨t, rfl⟩ := r
    cases (show T = "str" from ty)
    exact ⟨typeIs_str s z t, fun _ e => nomatch e⟩
  | int i =>
    obtain ⟨t, rfl⟩ := r
    cases (show T = "int" from ty)
    exact ⟨typeIs_int s i t, fun _ e => nomatch e⟩
  | ref p =>
    cases r
    rcases ty with ⟨rfl, xs, hq⟩ | ⟨rfl, ⟨o, hk, hc, hd⟩ | ⟨xs, hx⟩⟩ | ⟨rfl, hk⟩ | ⟨rfl, S, n, hk⟩
    · obtain ⟨its, _, pl, _⟩ := I.list hq
      refine ⟨pl.isList.typeIs, fun a e => ?_⟩
      cases e
      obtain ⟨o, n, e, c, hd, _⟩ := pl
      exact ⟨o, e, hd⟩
    · refine ⟨⟨o, I.kIn p o hk, hc⟩, fun a e => ?_⟩
      cases e
      exact ⟨o, I.kIn _ o hk, hd⟩
    · obtain ⟨_, its, _, o, h1, h2, n, _, h3⟩ := I.hok p _ hx
      refine ⟨⟨o, h1, h2⟩, fun a e => ?_⟩
      cases e
      exact ⟨o, h1, h3⟩
    · have z : ∃ o, s.heap.get? p = some o ∧ o.ExactDict := by
        rcases hk with ⟨kvs, hk⟩ | ⟨kvs, hk⟩
        · obtain ⟨_, _, _, _, o, _, _, e, ex, _⟩ := I.hok p _ hk
          exact ⟨o, e, ex⟩
        · obtain ⟨_, _, _, _, o, _, _, e, ex, _⟩ := I.hok p _ hk
          exact ⟨o, e, ex⟩
      obtain ⟨o, e, ex⟩ := z
      refine ⟨⟨o, e, ex.1⟩, fun a e2 => ?_⟩
      cases e2
      exact ⟨o, e, ex.2.1⟩
    · obtain ⟨o, _, _, _, e, ex, _⟩ := I.hok p _ hk
      refine ⟨⟨o, e, ex.1⟩, fun a e2 => ?_⟩
      cases e2
      exact ⟨o, e, ex.2.1⟩
  | _ => exact False.elim ty
def tBM0 (K : PySem.W.Frag) (T : String) (r : V → List V → Hp → VK → Prop) (to : TE) : TE := fun σ H Q => to σ H fun x H1 => tyV K T x H1 ∧ r x [] H1 Q
def tBM (K : PySem.W.Frag) (T : String) (r : V → List V → Hp → VK → Prop) (to : TE) (t : TA) : TE := fun σ H Q => to σ H fun x H1 => tyV K T x H1 ∧ t σ H1 fun xs H2 => r x xs H2 Q
variable {o e : Expr} {es : List Expr} {to : TE} {t : TA} {name : Str} {apos cpos : Pos} {T id : String} {r : V → List V → Hp → VK → Prop}
theorem pe_bm0 (pa : PlainAttrs T) (slot : Slot T name id) (hty : typeOf (.builtin id) = pure (.type "method_descriptor")) (hm : MtR X id r) (ho : PE X o to)
    (hbase : attributeBase o name X.env (eval o X.env) = eval o X.env := by rfl) (hline : (apos.endLine == cpos.line) = true := by rfl) : PE X (.Call (.Attribute o name apos) [] [] cpos) (tBM0 X.K T r to) := by
  intro pins s σ H Q I h
  refine wpAny_Call_method0_late hbase hline (thn (ho pins s σ H _ I h) fun v s1 ⟨x, H1, I1, r1, ty, q1⟩ => ?_)
  obtain ⟨h1, h2⟩ := tyV_is I1 r1 ty
  exact ⟨T, id, pa, slot, hty, h1, h2, Calls.callWith_builtin rfl (PySem.evalArgs_none (hm pins s1 σ H1 x [] v [] Q I1 r1 .nil q1))⟩
theorem pe_bm (pa : PlainAttrs T) (slot : Slot T name id) (hty : typeOf (.builtin id) = pure (.type "method_descriptor")) (hm : MtR X id r) (ho : PE X o to) (ha : PA X (e :: es) t)
    (hbase : attributeBase o name X.env (eval o X.env) = eval o X.env := by rfl)
    (hfew : ((backTo cpos (starEach (e :: es) X.env)).all (fun x => !x.1) && (backToKw cpos (keywordEach [] X.env)).all (fun x => x.1.isSome)
      && decide ((e :: es).length + ([] : List Keyword).length + (if ([] : List Keyword).isEmpty then 0 else 1) < 30)) = true := by rfl)
    (hline : (apos.endLine == cpos.line) = true := by rfl) (hs : starEach (e :: es) X.env = (false, eval e X.env) :: starEach es X.env := by rfl) (hplain : (backTo cpos (starEach es X.env)).any (·.1) = false := by rfl) :
    PE X (.Call (.Attribute o name apos) (e :: es) [] cpos) (tBM X.K T r to t) := by
  intro pins s σ H Q I h
  refine wpAny_Call_method_late hbase hfew hline rfl (thn (ho pins s σ H _ I h) fun v s1 ⟨x, H1, I1, r1, ty, q1⟩ => ?_)
  obtain ⟨h1, h2⟩ := tyV_is I1 r1 ty
  refine ⟨T, id, pa, slot, hty, h1, h2, ?_⟩
  have hA := ha cpos pins s1 σ H1 _ I1 q1
  rw [hs] at hA ⊢
  refine Calls.callWith_builtin (by show (false || (backTo cpos (starEach es X.env)).any (·.1)) = false; rw [hplain] <;> rfl) (Calls.evalArgs_plain ?_)
  exact thn hA fun us s2 ⟨vs, H2, I2, r2, q2⟩ => hm pins s2 σ H2 x vs v us Q I2 r1 r2 q2
/- xs.append(e), list.index on a module's tuple .. are MtR facts of 06m -/
end
end L2
namespace L2
open PySem PySem.Spec PyProof.Rows
def MtM (X : Cx) (id : String) (r : V → List V → Hp → VK → Prop) : Prop :=
  ∀ (pins : List (Addr × Obj)) (s : Shared) (σ : St) (H : Hp) (x : V) (xs : List V) (v : Value) (us : List Value) (Q : VK), Inv X pins σ H s → RelV x v → Vals xs us → r x xs H Q →
    wpAny (model X.prog X.w) X.A (call (.builtin id) (v :: us)) (EP X pins σ Q) X.xe s
theorem Vals.one : ∀ {x : V} {us : List Value}, Vals [x] us → ∃ u, us = [u] ∧ RelV x u
  | _, _, .cons r .nil => ⟨_, rfl, r⟩
theorem Vals.two : ∀ {x y : V} {us : List Value}, Vals [x, y] us → ∃ u v, us = [u, v] ∧ RelV x u ∧ RelV y v
  | _, _, _, .cons r (.cons q .nil) => ⟨_, _, rfl, r, q⟩
theorem Vals.zero : ∀ {us : List Value}, Vals [] us → us = []
  | _, .nil => rfl
theorem Vals.dropLast {xs : List V} {us : List Value} (h : Vals xs us) : Vals xs.dropLast us.dropLast := by
  induction h with
  | nil => exact .nil
  | cons r t ih =>
    cases t with
    | nil => exact .nil
    | cons q t' => exact .cons r ih
theorem Vals.eraseIdx : ∀ {xs : List V} {us : List Value} (i : Nat), Vals xs us → Vals (xs.eraseIdx i) (us.eraseIdx i)
  | _, _, _, .nil => .nil
  | _, _, 0, .cons _ t => t
  | _, _, i + 1, .cons r t => .cons r (Vals.eraseIdx i t)
theorem Vals.reverse {xs : List V} {us : List Value} (h : Vals xs us) : Vals xs.reverse us.reverse := by
  induction h with
  | nil => exact .nil
  | cons r t ih => rw [List.reverse_cons, List.reverse_cons]; exact Vals.append ih (.cons r .nil)
theorem erase_last {α : Type} (l : List α) : l.eraseIdx (l.length - 1) = l.dropLast := by
  induction l with
  | nil => rfl
  | cons a r ih =>
    cases r with
    | nil => rfl
    | cons b r =>
      have e : (a :: b :: r).length - 1 = ((b :: r).length - 1) + 1 := by
        have h1 : (a :: b :: r).length = r.length + 2 := rfl
        have h2 : (b :: r).length = r.length + 1 := rfl
        omega
      rw [e, List.eraseIdx_cons_succ, ih]
      all_goals rfl
section
variable {X : Cx} {pins : List (Addr × Obj)} {σ : St} {H : Hp} {s : Shared} {l b : Addr} {xs ys zs : List V}
theorem Inv.lset {its its' : List Value} {n : Nat} {f : Array Value → Array Value} {t' : Nat} (I : Inv X pins σ H s) (hH : H l = some (.lst xs))
    (e : s.heap.get? l = some { cls := .type "list", data := .seq its.toArray n }) (hf : f its.toArray = its'.toArray) (hv : Vals ys its') (hz : ys.length ≤ sizeLine) :
    Inv X pins σ (upd H l (.lst ys)) { s with heap := s.heap.update l (Obj.mapSeq f), toks := t' } := by
  have q := PySem.IsL.update e f
  rw [hf] at q
  refine I.write (x := l) (e := l) (by rw [hH]; exact trivial) (.inl rfl) (fun b' u hb hu => (Heap.get?_update_other s.heap (Obj.mapSeq f) (Ne.symm hb)).trans hu) ⟨_, q⟩ ?_
  exact ⟨hz, its', _, hv, q⟩
theorem Inv.lnew {its : List Value} {t' : Nat} (I : Inv X pins σ H s) (hv : Vals ys its) (hz : ys.length ≤ sizeLine) :
    Inv X pins σ (upd H s.heap.objs.size (.lst ys)) { s with heap := s.heap.push { cls := .type "list", data := .seq its.toArray }, toks := t' } :=
  I.laid (fun _ _ q => Heap.get?_push_of_some _ q) (Nat.le_refl _) ⟨hz, its, 0, hv, Heap.get?_push_size _ rfl⟩
theorem Inv.fresh (I : Inv X pins σ H s) : H s.heap.objs.size = none := I.hok.fresh (Nat.le_refl _)
theorem Inv.lstM (I : Inv X pins σ H s) (hH : H l = some (.lst xs)) : xs.length ≤ sizeLine ∧ ∃ (its : List Value) (n : Nat), Vals xs its ∧ xs.length = its.length ∧ s.heap.get? l = some { cls := .type "list", data := .seq its.toArray n } := by
  obtain ⟨z, its, n, r, e⟩ := I.hok l _ hH
  exact ⟨z, its, n, r, r.length, e⟩
end
section
variable {X : Cx}
def rAppend : V → List V → Hp → VK → Prop := fun x vs H Q => ∃ l xs y, x = .ref l ∧ vs = [y] ∧ H l = some (.lst xs) ∧ xs.length < sizeLine ∧ Q .non (upd H l (.lst (xs ++ [y])))
theorem mt_append : MtM X "list.append" rAppend := by
  intro pins s σ H x vs v us Q I rx rv h
  obtain ⟨l, xs, y, rfl, rfl, hH, hz, q⟩ := h
  cases rx
  obtain ⟨u, rfl, ru⟩ := rv.one
  obtain ⟨z, its, n, r, hl, e⟩ := I.lstM hH
  refine call_meets F.slot_list_append ⟨_, e, rfl⟩ F.entry_list_append (F.args_list_append_2 _ _) (PySem.list_append l its.toArray n u (by rw [List.size_toArray]; omega)) ⟨e, ?_⟩
  refine ⟨.non, _, I.lset (its' := its ++ [u]) hH e (by simp) (r.append (.cons ru .nil)) ?_, rfl, q⟩
  rw [List.length_append, List.length_singleton]
  omega
def rPop : V → List V → Hp → VK → Prop := fun x vs H Q => ∃ l xs y, x = .ref l ∧ vs = [] ∧ H l = some (.lst xs) ∧ xs[xs.length - 1]? = some y ∧ Q y (upd H l (.lst xs.dropLast))
theorem mt_pop : MtM X "list.pop" rPop := by
  intro pins s σ H x vs v us Q I rx rv h
  obtain ⟨l, xs, y, rfl, rfl, hH, hy, q⟩ := h
  cases rx
  have hus := rv.zero
  subst hus
  obtain ⟨z, its, n, r, hl, e⟩ := I.lstM hH
  obtain ⟨u, hu, ru⟩ := r.get hy
  have hy' : its.toArray[its.toArray.size - 1]? = some u := by
    show its.toArray[its.length - 1]? = some u
    rw [← Array.getElem?_toList, ← hl]
    exact hu
  refine call_meets F.slot_list_pop ⟨_, e, rfl⟩ F.entry_list_pop (F.args_list_pop_1 _) (MeetsSeq.list_pop_last l its.toArray n u hy' (by rw [List.size_toArray]; omega)) ⟨e, ?_⟩
  refine ⟨y, _, I.lset (its' := its.dropLast) hH e ?_ r.dropLast ?_, ru, q⟩
  · show its.toArray.eraseIdxIfInBounds (its.toArray.size - 1) = its.dropLast.toArray
    rw [List.size_toArray, List.eraseIdxIfInBounds_toArray, erase_last]
  · rw [List.length_dropLast]
    omega
def rCat : R2 := fun x y H Q => ∃ l b xs zs, x = .ref l ∧ y = .ref b ∧ H l = some (.lst xs) ∧ H b = some (.lst zs) ∧ xs.length + zs.length ≤ sizeLine ∧ ∀ p, H p = none → Q (.ref p) (upd H p (.lst (xs ++ zs)))
theorem op_cat : OpR X (binaryOp .Add) rCat := by
  intro pins s σ H x y v u Q I rx ry h
  obtain ⟨l, b, xs, zs, rfl, rfl, hH, hB, hz, q⟩ := h
  cases rx
  cases ry
  obtain ⟨z, its, n, r, hl, e⟩ := I.lstM hH
  obtain ⟨z2, its2, n2, r2, hl2, e2⟩ := I.lstM hB
  refine PySem.P.add_list e e2 ?_ (by rw [List.size_toArray, List.size_toArray]; omega)
  have ea : its.toArray ++ its2.toArray = (its ++ its2).toArray := by simp
  rw [ea]
  exact ⟨.ref _, _, I.lnew (t' := s.toks) (r.append r2) (by rw [List.length_append]; omega), rfl, q _ I.fresh⟩
end
section
variable {prog : Program} {w : World} {A : Around} {E : Value → Shared → Prop} {s : Shared}
set_option maxRecDepth 100000 in
end
section
variable {X : Cx}
end
end L2
namespace Att
open PySem PySem.W PySem.Calls PyProof.Rows
theorem ints_of_wellAll {P : Params} {h : Heap} : ∀ (ns : List Int) (vs : List Value), WellAll P h vs (ns.map WData.int) → IntsAre vs ns := by
  intro ns
  induction ns with
  | nil =>
    intro vs w
    rw [List.map_nil] at w
    cases w
    exact .nil
  | cons n ns ih =>
    intro vs w
    rw [List.map_cons] at w
    cases w with
    | cons a b =>
      cases a
      exact .cons _ _ (ih _ b)
theorem script_of {l : OpenLaw} {n : Nat} (hn : l.most = some n) {P : Params} {h : Heap} {args : List WData} {vals : List Value}
    (hpre : l.row.toRowW.claim.pre args = true) (hwl : WellAll P h vals args) :
    ∃ a vs ns, vals = [Value.ref a] ∧ args = [WData.list (ns.map WData.int)] ∧ h.get? a = some { cls := .type "list", data := .seq vs.toArray } ∧ IntsAre vs ns ∧ ns.length ≤ n := by
  have hsh : WShape.hasAll [] args [.list .int] = true := (pre_splitW hpre).1
  have hc : l.pre.holds [] { args := args } = true := (pre_splitW hpre).2
  obtain ⟨d, r, rfl, h1, h2⟩ := hasAllW_cons hsh
  obtain rfl := hasAllW_nil h2
  obtain ⟨xs, rfl, h3⟩ := hasW_list h1
  obtain ⟨ns, rfl⟩ := items_int h3
  have hlen : ns.length ≤ n := by
    unfold OpenLaw.pre at hc
    have h4 : (WTm.not (.lt (.lit (.int (n : Int))) (.len (.arg 0)))).holds [] { args := [.list (ns.map .int)] } = true := by
      have h4 := (holds_andW hc).1
      rw [hn] at h4
      exact h4
    have h5 := condW_of h4 (w_not (w_lt w_lit (w_len_list (w_arg rfl))))
    rw [List.length_map] at h5
    refine Nat.le_of_not_lt fun q => ?_
    have q' : (n : Int) < ((ns.length : Nat) : Int) := by omega
    first
      | (rw [decide_eq_true q'] at h5; exact absurd h5 (by decide))
      | (simp at h5; omega)
  cases hwl with
  | cons w1 w2 =>
    cases w2
    cases w1 with
    | list ho hall => exact ⟨_, _, ns, rfl, rfl, ho, ints_of_wellAll ns _ hall, hlen⟩
theorem post_true (l : OpenLaw) (args : List WData) : l.row.toRowW.claim.post args (.bool true) args = true :=
  postW_of (r := l.row.toRowW) (X := (true == true))
    (show WShape.has [] (.bool true) .bool = true by first | rfl | decide | simp [WShape.has, WShape.arms, WShape.armsAll])
    (show (WTm.eq .res (.lit (.bool true))).value [] { args := args, res := some (.bool true), after := args } = some (.bool (true == true)) from w_eq_bool (w_res rfl) w_lit) rfl
theorem attach_call {l : OpenLaw} {n : Nat} {q : Program} {loose : List Str} {XP : (Str → Option Value) → Heap → Prop} {YP : World → Heap → Prop} {d : DefRec}
    (hn : l.most = some n) (hdf : d.params.defaults = [])
    (call : ∀ (w : World) (s₀ s₁ : Shared) (mg mb : Str → Option Value) (fa : Addr) (o : Obj) (pm cd doc : Value) (a : Addr) (vs : List Value) (ns : List Int),
      Ground q loose [] XP w s₀ mg mb s₁.heap → YP w s₁.heap →
      s₁.heap.get? fa = some o → o.data = .func (docDef d.name d.params d.body d.scope pm cd doc) → s₁.heap.CodeRec cd d.name → mg d.name = some (.ref fa) →
      s₁.heap.get? a = some { cls := .type "list", data := .seq vs.toArray } → IntsAre vs ns → ns.length ≤ n → s₁.gens = #[] →
      codeAny (model l.prog w) callerA (.call (.ref fa) ⟨[.ref a], []⟩) (fun r s' => r = .ok (.ret (.bool true)) ∧ OldK s₁.heap s'.heap ∧ s'.os = s₁.os ∧ AllBare s'.gens) s₁) :
    WalkO q loose XP YP l.row.toRowW d [] (fun f vs => PySem.call f vs) := by
  intro w s₀ s₁ mg mb G Y fa o pm cd doc dV kV ho hd hcd hD hmg hg args vals as hpre hlay hrd hwl hlo
  obtain rfl : dV = .none := Dflts.none hD hdf
  obtain rfl : kV = .none := Dflts.noKw hD
  obtain ⟨a, vs, ns, rfl, rfl, hobj, hints, hlen⟩ := script_of hn hpre hwl
  refine enter_call (codeAny_mono (call w s₀ s₁ mg mb fa o pm cd doc a vs ns G Y ho (fd_plain hd) hcd hmg hobj hints hlen hg) fun r s' hq => ?_)
  obtain ⟨rfl, h2, h3, h4⟩ := hq
  exact ⟨.inl ⟨.bool true, .bool true, [], rfl, fun _ => rfl, .bool true, post_true l _, fun _ => ⟨List.Pairwise.nil, fun _ hm => (nomatch hm)⟩⟩, h2, h3, h4⟩
section
variable {prog : Program} {w : World} {A : Around} {E : Value → Shared → Prop} {s : Shared} {K : Frag}
def ledger (h : Heap) (L d : Addr) : List (Addr × Obj) := (List.range h.objs.size).filterMap fun a => if a = L ∨ a = d then none else (h.get? a).map fun o => (a, o)
end
end Att
namespace L2
open PySem PySem.Spec PyProof.Rows
theorem vals_ints : ∀ {vs : List Value} {ns : List Int}, IntsAre vs ns → Vals (ns.map V.int) vs
  | _, _, .nil => .nil
  | _, _, .cons n t h => .cons ⟨t, rfl⟩ (vals_ints h)
def Only (H : Hp) : Prop := ∀ b, H b = none ∨ ∃ o xs, H b = some (.frz o (.lst xs))
theorem law_call {P : Program} {w : World} {K : PySem.W.Frag} {mg mb : Str → Option Value} {CX : CXT} {k : Nat} {fa a : Addr} {fd : FuncData} {x : Str} {sp : Sp} {s₁ : Shared} {vs : List Value} {ns : List Int}
    (KX : K.In s₁.heap) (hns : s₁.heap.Ns mainGlobals mg) (hb : s₁.heap.Ns builtinsNs mb) (hbb : ∀ x : Str, x ≠ "__name__" → mb x = bootBuiltins x) (hlim : s₁.heap.NoLimit) (hg : s₁.gens = #[])
    (ha : s₁.heap.get? a = some { cls := .type "list", data := .seq vs.toArray }) (hi : IntsAre vs ns) (hl : ns.length ≤ sizeLine) (hr : Room k callerA)
    (F : ∀ base : Heap, K.In base → base.Ns mainGlobals mg → FnOk P w K mg base CX k fa fd [x] sp) (hbind : ∀ (s : Shared) (u : Value), BindsTo s fd ⟨[u], []⟩ [(x, u)])
    (hsp : ∀ H : Hp, Only H → SqL K H a (ns.map V.int) → sp [.ref a] H (fun v _ => v = .bl true) fun _ _ _ => False)
    (hCX : ∀ H e s', CX [] H s₁ (fun _ _ _ => False) e s' → False) :
    codeAny (model P w) callerA (.call (.ref fa) ⟨[.ref a], []⟩) (fun r s' => r = .ok (.ret (.bool true)) ∧ OldK s₁.heap s'.heap ∧ s'.os = s₁.os ∧ AllBare s'.gens) s₁ := by
  have rv := vals_ints hi
  have lenV := hi.length
  have core : ∀ H : Hp, Only H → SqL K H a (ns.map V.int) → HOk P w H s₁.heap → (∀ b, H b ≠ none → b = a) → (H a ≠ none → K.lookup a = none) →
      codeAny (model P w) callerA (.call (.ref fa) ⟨[.ref a], []⟩) (fun r s' => r = .ok (.ret (.bool true)) ∧ OldK s₁.heap s'.heap ∧ s'.os = s₁.os ∧ AllBare s'.gens) s₁ := by
    intro H hO hS hok hA hK
    have base_of : ∀ {b : Addr} {o : Obj}, s₁.heap.get? b = some o → H b = none → (hidT s₁.heap H).get? b = some o := fun e n => hidT_get e n
    have noA : ∀ {b : Addr} {o : Obj} {es : Array DictEntry} {ep : Nat}, s₁.heap.get? b = some o → o.data = .dict es ep → H b = none := fun {b o es ep} e d => by
      cases q : H b with
      | none => rfl
      | some u =>
        have e' : b = a := hA b (by rw [q]; simp)
        subst e'
        rw [ha] at e; cases e
        have d' : Data.seq vs.toArray _ = Data.dict es ep := d
        cases d'
    have nsK : ∀ {b : Addr} {m : Str → Option Value}, s₁.heap.Ns b m → (hidT s₁.heap H).Ns b m := fun {b m} ⟨o, es, ep, e, d, r⟩ => ⟨o, es, ep, base_of e (noA e d), d, r⟩
    have hKb : K.In (hidT s₁.heap H) := fun b o e => base_of (KX b o e) (by
      cases q : H b with
      | none => rfl
      | some u =>
        have e' : b = a := hA b (by rw [q]; simp)
        subst e'
        rw [hK (by rw [q]; simp)] at e; cases e)
    have hM : Mod K mg (hidT s₁.heap H) := ⟨hKb, nsK hns, ⟨mb, nsK hb, hbb⟩, let ⟨mc, h1, h2⟩ := hlim; ⟨mc, nsK h1, h2⟩⟩
    have e0 : Env0 P w K mg (hidT s₁.heap H) callerA [] s₁ H := ⟨rfl, hM, fun b o e => of_hidT e, Nat.le_of_eq (hidT_size _ _), trivial, fun b hb => absurd (show b ∈ ([] : List Addr) from hb) (by simp), hok, .of_eq hg⟩
    refine codeAny_mono ((F _ hKb (nsK hns)).run callerA [] s₁ H ⟨[.ref a], []⟩ [.ref a] [.ref a] _ _ hr e0 (hbind s₁ (.ref a)) (.cons rfl .nil) (hsp H hO hS)) fun r s' h => ?_
    cases r with
    | error e => exact (hCX H e s' h).elim
    | ok fl =>
      cases fl with
      | next => exact False.elim h
      | brk => exact False.elim h
      | cont => exact False.elim h
      | ret u =>
        obtain ⟨v, H', os, bare, un, hok', r', q⟩ := h
        have q' : v = .bl true := q
        subst q'
        obtain rfl : u = Value.bool true := r'
        refine ⟨rfl, OldK.of_keep fun b o e => ?_, os, bare⟩
        cases q : H b with
        | none => exact un.keep b o e q (by intro z; exact absurd (show b ∈ ([] : List Addr) from z) (by simp)) (by simp)
        | some u =>
          rcases hO b with z | ⟨ob, xs, z⟩
          · rw [q] at z; cases z
          · have z2 := un.frzs b ob _ z
            obtain ⟨e1, _⟩ := hok b _ z
            obtain ⟨e2, _⟩ := hok' b _ z2
            rw [e] at e1; cases e1
            exact e2
  cases hk : K.lookup a with
  | some o =>
    have e := KX a o hk
    rw [ha] at e
    cases e
    refine core (fun _ => none) (fun _ => .inl rfl) (.inr ⟨_, vs.toArray, _, hk, rfl, rfl, rfl, by rw [List.size_toArray, lenV]; exact hl, by simpa using rv⟩) (fun b u z => by have z' : (none : Option HO) = some u := z; cases z') (fun b z => absurd rfl z) fun z => absurd rfl z
  | none =>
    refine core (fun b => if b = a then some (.frz { cls := .type "list", data := .seq vs.toArray } (.lst (ns.map V.int))) else none) (fun b => ?_) (.inl (.inr ⟨{ cls := .type "list", data := .seq vs.toArray }, if_pos rfl⟩)) (fun b u z => ?_) (fun b z => ?_) fun _ => hk
    · by_cases hb : b = a
      · exact .inr ⟨_, _, if_pos hb⟩
      · exact .inl (if_neg hb)
    · by_cases hb : b = a
      · have z' := (if_pos hb).symm.trans z
        cases z'
        subst hb
        exact ⟨ha, by rw [List.length_map]; exact hl, vs, _, rv, ha⟩
      · have z' := (if_neg hb).symm.trans z
        cases z'
    · by_cases hb : b = a
      · exact hb
      · exact absurd (if_neg hb) z
end L2
namespace L2
open PySem PySem.Spec PyProof.Rows
abbrev KOf {K : PySem.W.Frag} {h : Heap} (_ : K.In h) : PySem.W.Frag := K
theorem walk_of {l : PySem.W.OpenLaw} {n k : Nat} {q : Program} {loose : List Str} {XP : (Str → Option Value) → Heap → Prop} {YP : World → Heap → Prop} {d : DefRec} {K : Params → PySem.W.Frag} {CX : World → CXT} {sp : World → Sp} {x : Str}
    (hn : l.most = some n) (hn2 : n ≤ sizeLine) (hdf : d.params.defaults = []) (hr : Room k callerA)
    (hY : ∀ (w : World) (h : Heap), YP w h → (K w.params).In h)
    (F : ∀ (w : World) (mg : Str → Option Value) (fa : Addr) (h : Heap), (K w.params).In h → h.Ns mainGlobals mg → mg d.name = some (.ref fa) →
      ∃ fd : FuncData, (∀ (s : Shared) (u : Value), BindsTo s fd ⟨[u], []⟩ [(x, u)]) ∧
        ∀ base : Heap, (K w.params).In base → base.Ns mainGlobals mg → FnOk l.prog w (K w.params) mg base (CX w) k fa fd [x] (sp w))
    (hsp : ∀ (w : World) (H : Hp) (a : Addr) (ns : List Int), ns.length ≤ n → Only H → SqL (K w.params) H a (ns.map V.int) → sp w [.ref a] H (fun v _ => v = .bl true) fun _ _ _ => False)
    (hCX : ∀ (w : World) (H : Hp) (s : Shared) (e : Value) (s' : Shared), CX w [] H s (fun _ _ _ => False) e s' → False) :
    PySem.W.WalkO q loose XP YP l.row.toRowW d [] (fun f vs => PySem.call f vs) := by
  refine Att.attach_call hn hdf fun w s₀ s₁ mg mb fa o pm cd doc a vs ns G Y ho hd hcd hmg hobj hints hlen hg => ?_
  have KX := hY w _ Y
  obtain ⟨fd, hb, hF⟩ := F w mg fa _ KX G.T.g hmg
  exact law_call KX G.T.g G.T.b G.T.builtins G.T.nolimit hg hobj hints (Nat.le_trans hlen hn2) hr hF hb (fun H hO hS => hsp w H a ns hlen hO hS) fun H e s' => hCX w H s₁ e s'
end L2
/- THE LAST THEOREM (shape; LID, My.* are yours):
   My.Adr: a structure of the addresses that your layer names (classes, functions); My.Txt K t: a structure (Prop) of the equations over K;
   My.txt_mk : {K} {implicit addresses ..} (e1 : nsIn K mainGlobals "law" = some (some (.ref f))) (e2 : K.lookup f = some ⟨oc, od, .func (fnOf "law" "law" params body scope dV kV doc pm an cdv ct), sl⟩) (e3 : codeIn K cdv "law" = true) .. : ∃ t, My.Txt K t
set_option maxRecDepth 100000 in
set_option maxHeartbeats 0 in
theorem PySem.Challenge.cw_LID_holds : PySem.Challenge.rw_LID.Holds := by
  w_on; o_law; k_head; (case hw => w_witness2)
  k_fill
  refine L2.walk_of (l := PySem.Challenge.rw_LID) (n := 63) (k := 40) (x := "script") (CX := fun w => ..) (sp := fun _ => My.sp_law) rfl (by decide) rfl ⟨rfl, by decide, by decide⟩ (fun w h Y => PySem.W.kIn_of Y) ?F ?S ?C
  case F =>
    intro w mg fa h KX G hmg
    have T : ∃ t, My.Txt (L2.KOf KX) t := by
      dsimp only [L2.KOf]                          -- K must stand as «<heap const> w.params» for k_is
      refine' My.txt_mk ?e1 ?e2 ?e3 ..
      (case e1 => PySem.W.k_is)                    -- in the order: a name -> its address -> its object -> its parts
      (case e2 => PySem.W.k_is)
      ..
    obtain ⟨t, T⟩ := T
    have e0 := hmg.symm.trans (PySem.W.mg_of KX G T.law)
    cases e0                                       -- fa is the law's own address
    exact ⟨_, fun s u => .of_eq rfl, fun base kb nb => My.law_fn T kb nb⟩     -- if «.of_eq rfl» comes too early: refine' ⟨_, ?b, fun base kb nb => My.law_fn T kb nb⟩; exact fun s u => .of_eq rfl
  case S => exact fun w H a ns hl hO hS => ..
  case C => exact ..
(the tactic k_is has no namespace: write k_is) -/
namespace L2
open PySem PySem.Spec PyProof.Rows
def defArgs (s : Stmt) : Arguments := match s with
  | .FunctionDef _ a _ _ _ _ _ _ _ _ => a
  | _ => { posonlyargs := [], args := [], vararg := none, kwonlyargs := [], kw_defaults := [], kwarg := none, defaults := [] }
def defBody (s : Stmt) : List Stmt := match s with
  | .FunctionDef _ _ b _ _ _ _ _ _ _ => b
  | _ => []
def defScope (s : Stmt) : Scope := match s with
  | .FunctionDef _ _ _ _ _ _ sc _ _ _ => sc
  | _ => { kind := .function, names := [], isGenerator := false, isCoroutine := false }
abbrev CX0 : CXT := fun _ _ _ _ _ _ => False
abbrev E0 : XK := fun _ _ _ => False
theorem pass0 {X : Cx} : Passes CX0 X E0 := fun _ _ _ _ _ _ _ h => h.elim
structure Fun (K : PySem.W.Frag) (x qual : Str) (st : Stmt) (f : Addr) (fd : FuncData) : Prop where
  ex : ∃ (oc : Value) (od : Option Addr) (kV doc pm : Value) (an : Option Addr) (cdv ct : Value) (osl : Array (Option Value)),
    fd = PySem.W.fnOf x qual (defArgs st) (defBody st) (defScope st) .none kV doc pm an cdv ct ∧ K.lookup f = some ⟨oc, od, .func fd, osl⟩ ∧ PySem.W.codeIn K cdv qual = true
  kp : PySem.W.keepIn K (.ref f) = true
section
variable {P : Program} {w : World} {K : PySem.W.Frag} {mg : Str → Option Value} {base : Heap}
theorem Fun.ok {x qual : Str} {st : Stmt} {f : Addr} {fd : FuncData} {N ps : List Str} {k : Nat} {sp : Sp} (F : Fun K x qual st f fd) (S : FnScope N ps (defScope st)) (len : ∀ vs H Q E, sp vs H Q E → vs.length = ps.length)
    (hbody : ∀ (cdv : Value) (A : Around) (outer : List Env) (s : Shared) (H : Hp) (vs : List V) (Q : VK) (E : XK), Room k (A.deeper (envOfC qual (defScope st) s.heap.objs.size f cdv)) → sp vs H Q E →
      ∃ t, PSs (cxOf CX0 P w K mg base N qual (defScope st) f cdv A outer s H E).nox (defBody st) t ∧ t { nx := fun _ H' => Q .non H', rt := Q } (start N vs) H) : FnOk P w K mg base CX0 (k + 1) f fd ps sp := by
  obtain ⟨oc, od, kV, doc, pm, an, cdv, ct, osl, rfl, lk, hcd⟩ := F.ex
  refine fn_of lk hcd S len fun A outer s H vs Q E hr hsp => ?_
  obtain ⟨t, h, q⟩ := hbody cdv A outer s H vs Q E hr hsp
  exact ⟨t, h.nox, q⟩
theorem Fun.binds {x qual : Str} {st : Stmt} {f : Addr} {fd : FuncData} {ps : List Str} (F : Fun K x qual st f fd)
    (h : ∀ (kV doc pm : Value) (an : Option Addr) (cdv ct : Value) (us : List Value), us.length = ps.length → bindArgs (PySem.W.fnOf x qual (defArgs st) (defBody st) (defScope st) .none kV doc pm an cdv ct) ⟨us, []⟩ = pure (ps.zip us)) : Binds K fd ps [] := by
  obtain ⟨oc, od, kV, doc, pm, an, cdv, ct, osl, rfl, lk, hcd⟩ := F.ex
  exact .all (h kV doc pm an cdv ct)
theorem fun_mk {x qual : Str} {st : Stmt} {f : Addr} {oc : Value} {od an : Option Addr} {osl : Array (Option Value)} {kV doc pm cdv ct : Value} (l : K.lookup f = some ⟨oc, od, .func (PySem.W.fnOf x qual (defArgs st) (defBody st) (defScope st) .none kV doc pm an cdv ct), osl⟩)
    (c : PySem.W.codeIn K cdv qual = true) (k : PySem.W.keepIn K (.ref f) = true) : Fun K x qual st f (PySem.W.fnOf x qual (defArgs st) (defBody st) (defScope st) .none kV doc pm an cdv ct) := ⟨⟨oc, od, kV, doc, pm, an, cdv, ct, osl, rfl, l, c⟩, k⟩
end
theorem hu_of {A : Around} {k : Nat} (hr : Room k A) : A.units + 1 < cLine := Nat.lt_of_le_of_lt (Nat.add_le_add_left (by decide : 1 ≤ 64) _) hr.units
section
variable {X : Cx}
theorem pv (i : Nat) {x : Str} {pos : Pos} (hN : X.N[i]? = some x := by rfl) (hv : Vis X.env.scope x := by first | exact Or.inl rfl | exact Or.inr (Or.inl rfl) | exact Or.inr (Or.inr rfl)) (hd : (x == ("__debug__" : Str)) = false := by decide)
    (hcd : (x == ("__classdict__" : Str)) = false := by decide) : PE X (.Name x pos) (tVar i) := pe_var hN hv hd hcd
end
theorem iteF {A B : Prop} (h : B) : if false = true then A else B := by
  rw [if_neg Bool.false_ne_true]
  exact h
theorem iteT {A B : Prop} (h : A) : if true = true then A else B := by
  rw [if_pos rfl]
  exact h
theorem ite2 {c A B : Prop} [Decidable c] (h1 : c → A) (h2 : ¬ c → B) : if c then A else B := by
  by_cases h : c
  · rw [if_pos h]
    exact h1 h
  · rw [if_neg h]
    exact h2 h
def Same (H H' : Hp) : Prop := ∀ b o, H b = some o → H' b = some o
theorem Same.refl (H : Hp) : Same H H := fun _ _ h => h
theorem Same.trans {H H1 H2 : Hp} (a : Same H H1) (b : Same H1 H2) : Same H H2 := fun c o h => b c o (a c o h)
theorem Same.free {H H' : Hp} (e : Same H H') {l : Addr} (h : H' l = Option.none) : H l = Option.none := by
  cases q : H l with
  | none => rfl
  | some o =>
    rw [e l o q] at h
    cases h
theorem Same.seq {K : PySem.W.Frag} {H H' : Hp} {a : Addr} {xs : List V} (e : Same H H') (h : SqL K H a xs) : SqL K H' a xs := by
  rcases h with (h | ⟨o, h⟩) | h
  · exact .inl (.inl (e _ _ h))
  · exact .inl (.inr ⟨o, e _ _ h⟩)
  · exact .inr h
end L2
namespace L2
open PySem PySem.Spec PyProof.Rows
section
variable {κ : Type} [DecidableEq κ]
def valV (kvs : List (κ × V)) (k : κ) : Option V := (kvs.find? fun kv => decide (kv.1 = k)).map (·.2)
def putK (kvs : List (κ × V)) (k : κ) (v : V) : List (κ × V) :=
  if (kvs.any fun kv => decide (kv.1 = k)) = true then kvs.map (fun kv => if kv.1 = k then (kv.1, v) else kv) else kvs ++ [(k, v)]
def dropK (kvs : List (κ × V)) (k : κ) : List (κ × V) := kvs.filter fun kv => decide (kv.1 ≠ k)
theorem valV_pos {p : κ × V} {r : List (κ × V)} {k : κ} (e : p.1 = k) : valV (p :: r) k = some p.2 := by simp [valV, List.find?_cons, e]
theorem valV_neg {p : κ × V} {r : List (κ × V)} {k : κ} (e : ¬ p.1 = k) : valV (p :: r) k = valV r k := by simp [valV, List.find?_cons, e]
theorem valV_any (k : κ) : ∀ kvs : List (κ × V), (kvs.any fun kv => decide (kv.1 = k)) = (valV kvs k).isSome
  | [] => rfl
  | p :: r => by
    rw [List.any_cons]
    by_cases e : p.1 = k
    · simp only [valV_pos e, decide_eq_true e, Bool.true_or, Option.isSome_some]
    · rw [valV_neg e, decide_eq_false e, Bool.false_or]; exact valV_any k r
theorem valV_map (k j : κ) (y : V) : ∀ kvs : List (κ × V), valV (kvs.map fun kv => if kv.1 = k then (kv.1, y) else kv) j = (valV kvs j).map fun x => if j = k then y else x
  | [] => rfl
  | p :: r => by
    have ih := valV_map k j y r
    rw [List.map_cons]
    by_cases h : p.1 = k
    · rw [if_pos h]
      by_cases e : p.1 = j
      · rw [valV_pos (p := (p.1, y)) e, valV_pos e, Option.map_some, if_pos (e.symm.trans h)]
      · rw [valV_neg (p := (p.1, y)) e, valV_neg e, ih]
    · rw [if_neg h]
      by_cases e : p.1 = j
      · rw [valV_pos (p := p) e, valV_pos e, Option.map_some, if_neg (fun z => h (e.trans z))]
      · rw [valV_neg (p := p) e, valV_neg e, ih]
theorem valV_snoc (k j : κ) (y : V) : ∀ kvs : List (κ × V), valV kvs k = none → valV (kvs ++ [(k, y)]) j = if j = k then some y else valV kvs j
  | [], _ => by
    by_cases e : k = j
    · rw [if_pos e.symm]; exact valV_pos (p := (k, y)) e
    · rw [if_neg (fun z => e z.symm)]; exact valV_neg (p := (k, y)) e
  | p :: r, hn => by
    rw [List.cons_append]
    have hk : ¬ p.1 = k := fun z => by rw [valV_pos z] at hn; cases hn
    rw [valV_neg hk] at hn
    have ih := valV_snoc k j y r hn
    by_cases e : p.1 = j
    · rw [valV_pos e, valV_pos e, if_neg (fun z => hk (e.trans z))]
    · rw [valV_neg e, valV_neg e, ih]
theorem valV_put (kvs : List (κ × V)) (k j : κ) (y : V) : valV (putK kvs k y) j = if j = k then some y else valV kvs j := by
  unfold putK
  by_cases a : (kvs.any fun kv => decide (kv.1 = k)) = true
  · rw [if_pos a, valV_map]
    rw [valV_any] at a
    by_cases e : j = k
    · obtain ⟨x, hx⟩ := Option.isSome_iff_exists.mp a
      rw [if_pos e, e, hx, Option.map_some, if_pos rfl]
    · rw [if_neg e]
      cases valV kvs j with
      | none => rfl
      | some x => rw [Option.map_some, if_neg e]
  · rw [if_neg a]
    refine valV_snoc k j y kvs ?_
    rw [valV_any] at a
    cases q : valV kvs k with
    | none => rfl
    | some x => rw [q] at a; exact (a rfl).elim
theorem length_putK (kvs : List (κ × V)) (k : κ) (v : V) : (putK kvs k v).length ≤ kvs.length + 1 := by
  unfold putK
  split
  · rw [List.length_map]; omega
  · rw [List.length_append, List.length_cons, List.length_nil]; omega
theorem putK_new {kvs : List (κ × V)} {k : κ} (v : V) (h : valV kvs k = none) : putK kvs k v = kvs ++ [(k, v)] := by
  unfold putK
  rw [valV_any, h]
  exact if_neg (by decide)
theorem RelO.isSome_eq {o : Option V} {u : Option Value} (r : RelO o u) : o.isSome = u.isSome := by
  cases o with
  | none => cases u with
    | none => rfl
    | some _ => exact (show False from r).elim
  | some _ => cases u with
    | none => exact (show False from r).elim
    | some _ => rfl
theorem RelO.getD {o : Option V} {u : Option Value} {d : V} {d' : Value} (r : RelO o u) (rd : RelV d d') : RelV (o.getD d) (u.getD d') := by
  cases o with
  | none => cases u with
    | none => exact rd
    | some _ => exact (show False from r).elim
  | some _ => cases u with
    | none => exact (show False from r).elim
    | some _ => exact r
theorem KV.val {kvs : List (κ × V)} {vs : List (κ × Value)} (r : KV kvs vs) (k : κ) : RelO (valV kvs k) (valueAt vs k) := by
  unfold KV at r
  induction r with
  | nil => exact True.intro
  | @cons p q ps qs h t ih =>
    obtain ⟨h1, h2⟩ := h
    by_cases e : p.1 = k
    · have e' : q.1 = k := h1.symm.trans e
      have b : valueAt (q :: qs) k = some q.2 := by simp [valueAt, List.find?_cons, e']
      rw [valV_pos e, b]; exact h2
    · have e' : ¬ q.1 = k := fun z => e (h1.trans z)
      have b : valueAt (q :: qs) k = valueAt qs k := by simp [valueAt, List.find?_cons, e']
      rw [valV_neg e, b]; exact ih
theorem KV.any {kvs : List (κ × V)} {vs : List (κ × Value)} (r : KV kvs vs) (k : κ) : (kvs.any fun kv => decide (kv.1 = k)) = vs.any fun kv => decide (kv.1 = k) := by
  unfold KV at r
  induction r with
  | nil => rfl
  | cons h t ih => rw [List.any_cons, List.any_cons, ih, h.1]
theorem KV.repl {kvs : List (κ × V)} {vs : List (κ × Value)} (r : KV kvs vs) (k : κ) {y : V} {u : Value} (ry : RelV y u) :
    KV (kvs.map fun kv => if kv.1 = k then (kv.1, y) else kv) (vs.map fun kv => if kv.1 = k then (kv.1, u) else kv) := by
  unfold KV at r ⊢
  induction r with
  | nil => exact .nil
  | @cons p q ps qs h t ih =>
    rw [List.map_cons, List.map_cons]
    refine .cons ?_ ih
    obtain ⟨h1, h2⟩ := h
    by_cases e : p.1 = k
    · rw [if_pos e, if_pos (h1.symm.trans e)]; exact ⟨h1, ry⟩
    · rw [if_neg e, if_neg (fun z => e (h1.trans z))]; exact ⟨h1, h2⟩
theorem KV.put {kvs : List (κ × V)} {vs : List (κ × Value)} (r : KV kvs vs) (k : κ) {y : V} {u : Value} (ry : RelV y u) : KV (putK kvs k y) (stored vs k u) := by
  unfold putK stored
  rw [r.any k]
  by_cases e : (vs.any fun kv => decide (kv.1 = k)) = true
  · rw [if_pos e, if_pos e]; exact r.repl k ry
  · rw [if_neg e, if_neg e]; exact Paired.snoc r ⟨rfl, ry⟩
theorem KV.drop {kvs : List (κ × V)} {vs : List (κ × Value)} (r : KV kvs vs) (k : κ) : KV (dropK kvs k) (without vs k) := by
  unfold KV at r ⊢
  unfold dropK without
  induction r with
  | nil => exact .nil
  | @cons p q ps qs h t ih =>
    obtain ⟨h1, h2⟩ := h
    rw [List.filter_cons, List.filter_cons]
    by_cases e : p.1 = k
    · have a : ¬ decide (p.1 ≠ k) = true := by simp [e]
      have b : ¬ decide (q.1 ≠ k) = true := by simp [h1.symm.trans e]
      rw [if_neg a, if_neg b]; exact ih
    · have e' : ¬ q.1 = k := fun z => e (h1.trans z)
      have a : decide (p.1 ≠ k) = true := by simp [e]
      have b : decide (q.1 ≠ k) = true := by simp [e']
      rw [if_pos a, if_pos b]; exact .cons ⟨h1, h2⟩ ih
theorem KV.keys {kvs : List (κ × V)} {vs : List (κ × Value)} (r : KV kvs vs) : kvs.map (·.1) = vs.map (·.1) := by
  unfold KV at r
  induction r with
  | nil => rfl
  | cons h t ih => rw [List.map_cons, List.map_cons, ih, h.1]
theorem KV.length {kvs : List (κ × V)} {vs : List (κ × Value)} (r : KV kvs vs) : kvs.length = vs.length := Paired.length r
end
theorem kV_is {P : Program} {w : World} {k : Key} {u : Value} (r : RelV (kV k) u) : (mixKind P w).is k u = true := by
  cases k with
  | inl i => obtain ⟨t, e⟩ := (show ∃ t, u = Value.int i t from r); subst e; exact mixKind_int P w i t
  | inr x => obtain ⟨t, e⟩ := (show ∃ t, u = Value.str x t from r); subst e; exact mixKind_str P w x t
theorem items_are {P : Program} {w : World} : ∀ {ks : List Key} {us : List Value}, Vals (ks.map kV) us → ItemsAre (mixKind P w) ks us
  | [], _, r => by rw [List.map_nil] at r; cases r; exact .nil
  | k :: ks, _, r => by
    rw [List.map_cons] at r
    cases r with
    | cons h t => exact .cons (kV_is h) (items_are t)
abbrev KT (H : Hp) : List (List Key × V) → List (List Key × Addr × Value) → Prop := Paired fun p q => p.1 = q.1 ∧ H q.2.1 = some (.tup (p.1.map kV)) ∧ RelV p.2 q.2.2
theorem KT.val {H : Hp} {kvs : List (List Key × V)} {xs : List (List Key × Addr × Value)} (r : KT H kvs xs) (k : List Key) : RelO (valV kvs k) ((atKey xs k).map (·.2)) := by
  induction r with
  | nil => exact True.intro
  | @cons p q ps qs h t ih =>
    obtain ⟨h1, _, h2⟩ := h
    by_cases e : p.1 = k
    · have e' : q.1 = k := h1.symm.trans e
      have b : atKey (q :: qs) k = some q.2 := by simp [atKey, List.find?_cons, e']
      rw [valV_pos e, b]; exact h2
    · have e' : ¬ q.1 = k := fun z => e (h1.trans z)
      have b : atKey (q :: qs) k = atKey qs k := by simp [atKey, List.find?_cons, e']
      rw [valV_neg e, b]; exact ih
theorem KT.repl {H : Hp} {kvs : List (List Key × V)} {xs : List (List Key × Addr × Value)} (r : KT H kvs xs) (k : List Key) {y : V} {u : Value} (ry : RelV y u) :
    KT H (kvs.map fun kv => if kv.1 = k then (kv.1, y) else kv) (xs.map (putAt k u)) := by
  induction r with
  | nil => exact .nil
  | @cons p q ps qs h t ih =>
    rw [List.map_cons, List.map_cons]
    refine .cons ?_ ih
    obtain ⟨h1, h2, h3⟩ := h
    unfold putAt
    by_cases e : p.1 = k
    · rw [if_pos e, if_pos (h1.symm.trans e)]; exact ⟨h1, h2, ry⟩
    · rw [if_neg e, if_neg (fun z => e (h1.trans z))]; exact ⟨h1, h2, h3⟩
theorem KT.put {H : Hp} {kvs : List (List Key × V)} {xs : List (List Key × Addr × Value)} (r : KT H kvs xs) (k : List Key) {b : Addr} {y : V} {u : Value} (hb : H b = some (.tup (k.map kV))) (ry : RelV y u) :
    KT H (putK kvs k y) (storedH xs k b u) := by
  have e : (kvs.any fun kv => decide (kv.1 = k)) = (atKey xs k).isSome := by
    rw [valV_any, (r.val k).isSome_eq, Option.isSome_map]
  unfold putK storedH
  rw [e]
  by_cases q : (atKey xs k).isSome = true
  · rw [if_pos q, if_pos q]; exact r.repl k ry
  · rw [if_neg q, if_neg q]; exact Paired.snoc r ⟨rfl, hb, ry⟩
theorem KT.keeps {H H' : Hp} {kvs : List (List Key × V)} {xs : List (List Key × Addr × Value)} (r : KT H kvs xs) (ht : ∀ b ys, H b = some (.tup ys) → H' b = some (.tup ys)) : KT H' kvs xs :=
  Paired.mapP r fun _ _ z => ⟨z.1, ht _ _ z.2.1, z.2.2⟩
section
variable {P : Program} {w : World} {H : Hp} {h : Heap} {a : Addr}
theorem rd_of {u : HO} (ok : HOk P w H h) (e : Rd H a u) : ObjOk P w H h a u := e.ok ok
theorem dk_rd {kvs : List (Key × V)} (ok : HOk P w H h) (e : Rd H a (.dK kvs)) : kvs.length ≤ sizeLine ∧ (a == sysModules) = false ∧ ∃ vs, KV kvs vs ∧ h.DictOf (mixKind P w) a vs :=
  show ObjOk P w H h a (.dK kvs) from rd_of ok e
theorem dk_of {kvs : List (Key × V)} (ok : HOk P w H h) (e : H a = some (.dK kvs)) : kvs.length ≤ sizeLine ∧ (a == sysModules) = false ∧ ∃ vs, KV kvs vs ∧ h.DictOf (mixKind P w) a vs := dk_rd ok (.inl e)
theorem key_of {ks : List Key} (ok : HOk P w H h) (e : H a = some (.tup (ks.map kV))) : (tupleKind (mixKind P w)).is h ks a := by
  obtain ⟨_, its, r, o, h1, h2, n, h3, _⟩ := (show ObjOk P w H h a (.tup (ks.map kV)) from ok a _ e)
  exact ⟨o, its.toArray, n, h1, h2, h3, by simpa using items_are r⟩
theorem dt_rd {kvs : List (List Key × V)} (ok : HOk P w H h) (e : Rd H a (.dT kvs)) : kvs.length ≤ sizeLine ∧ (a == sysModules) = false ∧
    ∃ xs, KT H kvs xs ∧ h.DictOfH (tupleKind (mixKind P w)) a xs := by
  obtain ⟨z, y, xs, r, o, es, ep, h1, h2, h3, h4, h5⟩ := (show ObjOk P w H h a (.dT kvs) from rd_of ok e)
  refine ⟨z, y, xs, r, o, es, ep, h1, h2, h3, h4, fun x hx => ?_, h5⟩
  have all : ∀ {l : List (List Key × V)} {m : List (List Key × Addr × Value)}, KT H l m → ∀ x ∈ m, (tupleKind (mixKind P w)).is h x.1 x.2.1 := by
    intro l m q
    induction q with
    | nil => intro x hx; exact nomatch hx
    | @cons p q ps qs hq t ih =>
      intro x hx
      rcases List.mem_cons.mp hx with e | hx
      · subst e
        exact key_of ok (by rw [← hq.1]; exact hq.2.1)
      · exact ih x hx
  exact all r x hx
theorem dt_of {kvs : List (List Key × V)} (ok : HOk P w H h) (e : H a = some (.dT kvs)) : kvs.length ≤ sizeLine ∧ (a == sysModules) = false ∧
    ∃ xs, KT H kvs xs ∧ h.DictOfH (tupleKind (mixKind P w)) a xs := dt_rd ok (.inl e)
end
def DGet (H : Hp) (a : Addr) (y : V) (r : Option V) : Prop :=
  (∃ kvs k, Rd H a (.dK kvs) ∧ y = kV k ∧ r = valV kvs k) ∨ ∃ kvs k b, Rd H a (.dT kvs) ∧ y = .ref b ∧ H b = some (.tup (k.map kV)) ∧ r = valV kvs k
def DPut (H : Hp) (a : Addr) (y v : V) (H' : Hp) : Prop :=
  (∃ kvs k, H a = some (.dK kvs) ∧ y = kV k ∧ kvs.length < sizeLine ∧ H' = upd H a (.dK (putK kvs k v))) ∨
  ∃ kvs k b, H a = some (.dT kvs) ∧ y = .ref b ∧ H b = some (.tup (k.map kV)) ∧ kvs.length < sizeLine ∧ H' = upd H a (.dT (putK kvs k v))
theorem DGet.k {H : Hp} {a : Addr} {kvs : List (Key × V)} {k : Key} (e : H a = some (.dK kvs)) : DGet H a (kV k) (valV kvs k) := .inl ⟨kvs, k, .inl e, rfl, rfl⟩
theorem DGet.t {H : Hp} {a b : Addr} {kvs : List (List Key × V)} {k : List Key} (e : H a = some (.dT kvs)) (eb : H b = some (.tup (k.map kV))) : DGet H a (.ref b) (valV kvs k) := .inr ⟨kvs, k, b, .inl e, rfl, eb, rfl⟩
theorem DPut.k {H : Hp} {a : Addr} {kvs : List (Key × V)} {k : Key} {v : V} (e : H a = some (.dK kvs)) (hl : kvs.length < sizeLine) : DPut H a (kV k) v (upd H a (.dK (putK kvs k v))) := .inl ⟨kvs, k, e, rfl, hl, rfl⟩
theorem DPut.t {H : Hp} {a b : Addr} {kvs : List (List Key × V)} {k : List Key} {v : V} (e : H a = some (.dT kvs)) (eb : H b = some (.tup (k.map kV))) (hl : kvs.length < sizeLine) :
    DPut H a (.ref b) v (upd H a (.dT (putK kvs k v))) := .inr ⟨kvs, k, b, e, rfl, eb, hl, rfl⟩
section
variable {X : Cx} {pins : List (Addr × Obj)} {σ : St} {H : Hp} {s : Shared} {a : Addr} {y v : V} {u r : Value} {o : Option V} {A : Around} {E : Value → Shared → Prop}
theorem Inv.big (I : Inv X pins σ H s) : sysModules < s.heap.objs.size := by
  have h : mainGlobals < s.heap.objs.size := (I.mod.glob.keeps I.bk).lt
  exact Nat.lt_trans (by decide) h
theorem d_getItem {Q : Value → Shared → Prop} (hu : A.units + 1 < cLine) (I : Inv X pins σ H s) (g : DGet H a y (some v)) (ry : RelV y u) (h : ∀ w' s', Inv X pins σ H s' → RelV v w' → Q w' s') :
    wpAny (model X.prog X.w) A (getItem (.ref a) u) Q E s := by
  rcases g with ⟨kvs, k, e, ey, l⟩ | ⟨kvs, k, b, e, ey, eb, l⟩
  · subst ey
    obtain ⟨z, hd, vs, rel, dd⟩ := dk_rd I.hok e
    obtain ⟨w', hw, rw'⟩ := RelO.some_of (v := v) (o := valueAt vs k) (by rw [l]; exact rel.val k)
    exact wpAny_getItem_of (kV_is ry) dd.mapOf hw (h w' _ (I.tok _) rw')
  · subst ey
    cases (show u = Value.ref b from ry)
    obtain ⟨z, hd, xs, rel, dd⟩ := dt_rd I.hok e
    obtain ⟨w', hw, rw'⟩ := RelO.some_of (v := v) (o := (atKey xs k).map (·.2)) (by rw [l]; exact rel.val k)
    obtain ⟨p, hp, hp2⟩ := Option.map_eq_some_iff.mp hw
    refine wpAny_getItem_heap (tupleKind_room_in1 hu) (key_of I.hok eb) dd hp ?_
    rw [hp2]
    exact h w' _ (I.tok _) rw'
theorem d_notIn {Q : Value → Shared → Prop} (hu : A.units + 1 < cLine) (I : Inv X pins σ H s) (g : DGet H a y o) (ry : RelV y u) (h : ∀ s', Inv X pins σ H s' → Q (.bool (!o.isSome)) s') :
    wpAny (model X.prog X.w) A (compareOp .NotIn u (.ref a)) Q E s := by
  rcases g with ⟨kvs, k, e, ey, l⟩ | ⟨kvs, k, b, e, ey, eb, l⟩
  · subst ey
    obtain ⟨z, hd, vs, rel, dd⟩ := dk_rd I.hok e
    refine wpAny_notIn_of (kV_is ry) hd dd.mapOf ?_
    rw [← (rel.val k).isSome_eq, ← l]
    exact h _ (I.tok _)
  · subst ey
    cases (show u = Value.ref b from ry)
    obtain ⟨z, hd, xs, rel, dd⟩ := dt_rd I.hok e
    refine wpAny_notIn_heap (tupleKind_room_in1 hu) (key_of I.hok eb) hd dd ?_
    have q := (rel.val k).isSome_eq
    rw [Option.isSome_map] at q
    rw [← q, ← l]
    exact h _ (I.tok _)
theorem d_write {h' : Heap} {t' : Nat} {ob : HO} (I : Inv X pins σ H s) (mu : Mut (H a)) (hs : Heap.SameBut a s.heap h') (he : ∃ q, h'.get? a = some q) (new : ObjOk X.prog X.w (upd H a ob) h' a ob) :
    Inv X pins σ (upd H a ob) { s with heap := h', toks := t' } :=
  I.write (x := a) (e := a) mu (.inl rfl) (fun b q hb z => (hs.2 b hb).trans z) he new
theorem dk_new {P : Program} {w : World} {H' : Hp} {h' : Heap} {kvs : List (Key × V)} {vs : List (Key × Value)} (z : kvs.length ≤ sizeLine) (hd : (a == sysModules) = false) (rel : KV kvs vs) (dd : h'.DictOf (mixKind P w) a vs) :
    ObjOk P w H' h' a (.dK kvs) := ⟨z, hd, vs, rel, dd⟩
theorem d_setItem {H' : Hp} {Q : Unit → Shared → Prop} (hu : A.units + 1 < cLine) (I : Inv X pins σ H s) (g : DPut H a y v H') (ry : RelV y u) (rv : RelV v r) (h : ∀ s', Inv X pins σ H' s' → Q () s') :
    wpAny (model X.prog X.w) A (setItem (.ref a) u r) Q E s := by
  rcases g with ⟨kvs, k, e, ey, l, eH⟩ | ⟨kvs, k, b, e, ey, eb, l, eH⟩
  · subst ey eH
    obtain ⟨z, hd, vs, rel, dd⟩ := dk_of I.hok e
    have hz : vs.length ≤ sizeLine := by rw [← rel.length]; exact z
    have hl : (putK kvs k v).length ≤ sizeLine := by have := length_putK kvs k v; omega
    refine wpAny_setItem_pairs (hsz := hz) (kV_is ry) dd fun h' dd' hs => h _ ?_
    have he : ∃ q, h'.get? a = some q := let ⟨q, _, _, hq, _⟩ := dd'; ⟨q, hq⟩
    exact d_write I (by rw [e]; exact True.intro) hs he (dk_new hl hd (rel.put k rv) dd')
  · subst ey eH
    cases (show u = Value.ref b from ry)
    obtain ⟨z, hd, xs, rel, dd⟩ := dt_of I.hok e
    have hz : xs.length ≤ sizeLine := by rw [← Paired.length rel]; exact z
    have hl : (putK kvs k v).length ≤ sizeLine := by have := length_putK kvs k v; omega
    refine wpAny_setItem_heap (hsz := hz) (tupleKind_room_in1 hu) (key_of I.hok eb) dd fun h' dd' hs => h _ ?_
    obtain ⟨q, es, ep, hq, h2, h3, h4, _, h5⟩ := dd'
    refine d_write I (by rw [e]; exact True.intro) hs ⟨q, hq⟩ ⟨hl, hd, _, (rel.put k eb rv).keeps fun c ys ec => ?_, q, es, ep, hq, h2, h3, h4, h5⟩
    rw [upd_ne (ne_of ec e (fun z => nomatch z))]
    exact ec
end
section
variable {X : Cx} {pins : List (Addr × Obj)} {σ : St} {H : Hp} {s : Shared} {a : Addr} {kvs : List (Key × V)} {k : Key} {u : Value} {A : Around} {E : Value → Shared → Prop}
theorem d_len {Q : Value → Shared → Prop} (I : Inv X pins σ H s) (e : Rd H a (.dK kvs)) (h : ∀ t s', Inv X pins σ H s' → Q (.int kvs.length t) s') : wpAny (model X.prog X.w) A (call (.builtin "len") [.ref a]) Q E s := by
  obtain ⟨z, hd, vs, rel, dd⟩ := dk_rd I.hok e
  refine call_len_dict hd dd (by rw [← rel.length]; rw [sizeLine_eq] at z; omega) ?_
  rw [← rel.length]
  exact h _ _ (I.tok _)
end
def NoSl (i : Expr) : Prop := ∀ ov iv, subscripted i false ov iv = operate [ov, iv] (getItem ov iv)
theorem subD_of {prog : Program} {w : World} {A : Around} {E : Value → Shared → Prop} {s : Shared} {env : Env} {value slice : Expr} {pos : Pos} {T id : String} {Q : Value → Shared → Prop}
    (hl : typeLookup (.type T) "__getitem__" = pure (some (.builtin id))) (hs : NoSl slice)
    (h : wpAny (model prog w) A (eval value env) (fun o s₁ => wpAny (model prog w) A (eval slice env) (fun i s₂ => s₂.TypeIs o T ∧ wpAny (model prog w) A (getItem o i) Q E s₂) E s₁) E s) :
    wpAny (model prog w) A (eval (.Subscript value slice pos) env) Q E s := by
  refine Subscript_ (wpAny_mono h (fun o s₁ h₁ => wpAny_mono h₁ (fun i s₂ h₂ => ?_) fun _ _ x => x) fun _ _ x => x)
  obtain ⟨hT, h₂⟩ := h₂
  unfold subscriptTail
  refine wpAny_bind ?_
  rw [getitemInPython_of_ne hT.not_modules]
  refine wpAny_bind (wpAny_specialOf hT hl ?_)
  have fin : wpAny (model prog w) A (subscripted slice false o i) (fun r s₃ => wpAny (model prog w) A (letTemporaryGo value o r >>= fun _ => pure r) Q E s₃) E s₂ := by
    rw [hs o i]
    exact wpAny_operating (wpAny_mono h₂ (fun r s₃ h₃ => wpAny_bind (wpAny_letTemporaryGo (wpAny_pure h₃))) fun _ _ x => x)
  first
    | exact wpAny_pure (wpAny_bind fin)
    | exact wpAny_bind (wpAny_pure (wpAny_bind fin))
    | exact wpAny_bind fin
theorem dict_typeIs {X : Cx} {pins : List (Addr × Obj)} {σ : St} {H : Hp} {s : Shared} {a : Addr} {y : V} {o : Option V} (I : Inv X pins σ H s) (g : DGet H a y o) : s.TypeIs (.ref a) "dict" := by
  rcases g with ⟨kvs, k, e, _, _⟩ | ⟨kvs, k, b, e, _, _, _⟩
  · obtain ⟨_, _, vs, _, dd⟩ := dk_rd I.hok e
    exact dd.typeIs
  · obtain ⟨_, _, xs, _, dd⟩ := dt_rd I.hok e
    exact dd.typeIs
def tDGet (td ty : TE) : TE := fun σ H Q => td σ H fun x H1 => ty σ H1 fun y H2 => ∃ a v, x = .ref a ∧ DGet H2 a y (some v) ∧ Q v H2
def tDIn (ty td : TE) : TE := fun σ H Q => ty σ H fun y H1 => td σ H1 fun x H2 => ∃ a o, x = .ref a ∧ DGet H2 a y o ∧ Q (.bl o.isSome) H2
def tDNotIn (ty td : TE) : TE := fun σ H Q => ty σ H fun y H1 => td σ H1 fun x H2 => ∃ a o, x = .ref a ∧ DGet H2 a y o ∧ Q (.bl (!o.isSome)) H2
def sDPut (td ty tv : TE) : TS := fun D σ H => tv σ H fun v H1 => td σ H1 fun x H2 => ty σ H2 fun y H3 => ∃ a H4, x = .ref a ∧ DPut H3 a y v H4 ∧ D.nx σ H4
section
variable {X : Cx} {o i e value : Expr} {pos pos' tpos : Pos} {td ty tv : TE}
theorem pe_dget (hu : X.A.units + 1 < cLine) (ho : PE X o td) (hi : PE X i ty) (hs : NoSl i) : PE X (.Subscript o i pos) (tDGet td ty) := by
  intro pins s σ H Q I h
  refine subD_of PySem.F.slot_dict_getitem.lookup hs (thn (ho pins s σ H _ I h) fun u s1 ⟨x, H1, I1, rx, q1⟩ => thn (hi pins s1 σ H1 _ I1 q1) fun iv s2 ⟨y, H2, I2, ry, a, v, ex, g, q2⟩ => ?_)
  subst ex
  obtain rfl : u = Value.ref a := rx
  exact ⟨dict_typeIs I2 g, d_getItem hu I2 g ry fun w' s3 I3 rw' => ⟨v, H2, I3, rw', q2⟩⟩
theorem pc_dnotin (hu : X.A.units + 1 < cLine) (hi : PE X i ty) (ho : PE X o td) : PC X .NotIn i o (tDNotIn ty td) := by
  intro pins s σ H Q I h
  refine thn (hi pins s σ H _ I h) fun iv s1 ⟨y, H1, I1, ry, q1⟩ => thn (ho pins s1 σ H1 _ I1 q1) fun u s2 ⟨x, H2, I2, rx, a, ov, ex, g, q2⟩ => ?_
  subst ex
  obtain rfl : u = Value.ref a := rx
  exact d_notIn hu I2 g ry fun s3 I3 => ⟨.bl (!ov.isSome), H2, I3, rfl, q2⟩
theorem ps_dput (hu : X.A.units + 1 < cLine) (ho : PE X o td) (hi : PE X i ty) (hv : PE X value tv) (hs : swapsWith value (some (.Subscript o i pos')) pos.line X.env = pure false) :
    PS X (.Assign [.Subscript o i pos'] value pos) (sDPut td ty tv) := by
  intro pins s σ H D I h
  refine wpAny_Assign_Subscript (thn (hv pins s σ H _ I h) fun r s1 ⟨v, H1, I1, rv, q1⟩ => thn (ho pins s1 σ H1 _ I1 q1) fun u s2 ⟨x, H2, I2, rx, q2⟩ => thn (hi pins s2 σ H2 _ I2 q2) fun iv s3 ⟨y, H3, I3, ry, a, H4, ex, g, q3⟩ => ?_) hs
  subst ex
  obtain rfl : u = Value.ref a := rx
  exact d_setItem hu I3 g ry rv fun s4 I4 => ⟨σ, H4, I4, q3⟩
end
theorem dk_empty {P : Program} {w : World} {H : Hp} (h : Heap) (hb : sysModules < h.objs.size) : ObjOk P w H (h.push { cls := .type "dict", data := .dict #[] }) h.objs.size (.dK []) :=
  ⟨Nat.zero_le _, beq_eq_false_iff_ne.mpr (Ne.symm (Nat.ne_of_lt hb)), [], .nil, Heap.DictOf.new h⟩
def tDNewK : TE := fun _ H Q => ∀ p, H p = none → Q (.ref p) (upd H p (.dK []))
section
variable {X : Cx} {pos : Pos}
theorem pe_dnewK : PE X (.Dict [] [] pos) tDNewK := fun pins s σ H Q I h =>
  wpAny_Dict_empty ⟨.ref s.heap.objs.size, _, I.laid (a := s.heap.objs.size) (o := .dK []) (t' := s.toks) (fun _ _ q => Heap.get?_push_of_some _ q) (Nat.le_refl _) (dk_empty s.heap I.big), rfl, h _ (I.hok.fresh (Nat.le_refl _))⟩
end
def tPairs : List (TE × TE) → St → Hp → (List (V × V) → Hp → Prop) → Prop
  | [], _, H, Q => Q [] H
  | (tk, tv) :: r, σ, H, Q => tk σ H fun x H1 => tv σ H1 fun y H2 => tPairs r σ H2 fun ps H3 => Q ((x, y) :: ps) H3
abbrev VV : List (V × V) → List (Value × Value) → Prop := Paired fun p q => RelV p.1 q.1 ∧ RelV p.2 q.2
def PPs (X : Cx) (pos : Pos) (keys : List (Option Expr)) (values : List Expr) (trs : List (TE × TE)) : Prop :=
  ∀ (pins : List (Addr × Obj)) (s : Shared) (σ : St) (H : Hp) (Q : List (V × V) → Hp → Prop), Inv X pins σ H s → tPairs trs σ H Q →
    wpAny (model X.prog X.w) X.A (evalPairs (pairTrees keys values X.env pos)) (fun vs s' => ∃ ps H', Inv X pins σ H' s' ∧ VV ps vs ∧ Q ps H') X.xe s
theorem pps_nil {X : Cx} {pos : Pos} : PPs X pos [] [] [] := fun pins s σ H Q I h => pairTrees_nil_walk ⟨[], H, I, .nil, h⟩
theorem pps_cons {X : Cx} {pos : Pos} {k v : Expr} {ks : List (Option Expr)} {vs : List Expr} {tk tv : TE} {trs : List (TE × TE)} (hk : PE X k tk) (hv : PE X v tv) (hr : PPs X pos ks vs trs) :
    PPs X pos (some k :: ks) (v :: vs) ((tk, tv) :: trs) := fun pins s σ H Q I h =>
  pairTrees_cons_walk (thn (hk pins s σ H _ I h) fun u s1 ⟨x, H1, I1, rx, q1⟩ => thn (hv pins s1 σ H1 _ I1 q1) fun w2 s2 ⟨y, H2, I2, ry, q2⟩ =>
    thn (hr pins s2 σ H2 _ I2 q2) fun ws s3 ⟨ps, H3, I3, rel, q3⟩ => ⟨(x, y) :: ps, H3, I3, .cons ⟨rx, ry⟩ rel, q3⟩)
def mergeK (kvs more : List (Key × V)) : List (Key × V) := more.foldl (fun acc kv => putK acc kv.1 kv.2) kvs
theorem KV.merge : ∀ {more : List (Key × V)} {rs : List (Key × Value)} {kvs : List (Key × V)} {vs : List (Key × Value)}, KV more rs → KV kvs vs → KV (mergeK kvs more) (merged vs rs) := by
  intro more rs kvs vs r
  unfold KV at r
  induction r generalizing kvs vs with
  | nil => intro q; exact q
  | @cons p q ps qs h t ih =>
    intro r0
    have e : KV (putK kvs p.1 p.2) (stored vs q.1 q.2) := by
      have := r0.put p.1 h.2
      rw [← h.1]; exact this
    exact ih e
theorem length_mergeK : ∀ (more kvs : List (Key × V)), (mergeK kvs more).length ≤ kvs.length + more.length
  | [], kvs => by show kvs.length ≤ kvs.length + 0; omega
  | p :: r, kvs => by
    have h1 := length_mergeK r (putK kvs p.1 p.2)
    have h2 := length_putK kvs p.1 p.2
    show (mergeK (putK kvs p.1 p.2) r).length ≤ _
    rw [List.length_cons]; omega
theorem carries_of {P : Program} {w : World} : ∀ {kvs : List (Key × V)} {ws : List (Value × Value)}, VV (kvs.map fun kv => (kV kv.1, kv.2)) ws → ∃ rs, Carries (mixKind P w) ws rs ∧ KV kvs rs
  | [], _, r => by rw [List.map_nil] at r; cases r; exact ⟨[], True.intro, .nil⟩
  | p :: kvs, _, r => by
    rw [List.map_cons] at r
    cases r with
    | @cons a b as bs h t =>
      obtain ⟨rs, c, q⟩ := carries_of (P := P) (w := w) t
      obtain ⟨b1, b2⟩ := b
      exact ⟨(p.1, b2) :: rs, ⟨kV_is h.1, rfl, c⟩, .cons ⟨rfl, h.2⟩ q⟩
def tDisp (trs : List (TE × TE)) : TE := fun σ H Q => ∀ p, H p = none → tPairs trs σ (upd H p (.dK [])) fun ps H2 => H2 p = some (.dK []) ∧ ∃ kvs : List (Key × V), ps = kvs.map (fun kv => (kV kv.1, kv.2)) ∧ kvs.length ≤ 15 ∧ Q (.ref p) (upd H2 p (.dK (mergeK [] kvs)))
theorem pe_disp {X : Cx} {pos : Pos} {keys : List (Option Expr)} {values : List Expr} {trs : List (TE × TE)} (h : PPs X pos keys values trs) (hall : keys.all (·.isSome) = true) (hl : keys.length = values.length) (h0 : keys ≠ [])
    (h15 : keys.length ≤ 15) : PE X (.Dict keys values pos) (tDisp trs) := by
  intro pins s σ H Q I q
  have hn := I.hok.fresh (Nat.le_refl s.heap.objs.size)
  have I1 := I.laid (a := s.heap.objs.size) (o := .dK []) (h' := s.heap.push { cls := .type "dict", data := .dict #[] }) (t' := s.toks) (fun _ _ q => Heap.get?_push_of_some _ q) (Nat.le_refl _) (dk_empty s.heap I.big)
  refine wpAny_Dict_walk (knd := mixKind X.prog X.w) hall hl h0 h15 (thn (h pins _ σ _ _ I1 (q _ hn)) fun ws s2 ⟨ps, H2, I2, rel, e, kvs, ep, lk, q2⟩ => ?_)
  subst ep
  obtain ⟨rs, c, rk⟩ := carries_of (P := X.prog) (w := X.w) rel
  obtain ⟨z, hd, vs0, r0, dd⟩ := dk_of I2.hok e
  cases r0
  refine ⟨rs, c, dd, fun h' dd' hs => ⟨.ref s.heap.objs.size, _, ?_, rfl, q2⟩⟩
  have hz : (mergeK [] kvs).length ≤ sizeLine := by
    have h1 := length_mergeK kvs []
    rw [List.length_nil] at h1
    rw [sizeLine_eq]; omega
  have he : ∃ q, h'.get? s.heap.objs.size = some q := let ⟨q, _, _, hq, _⟩ := dd'; ⟨q, hq⟩
  exact d_write I2 (by rw [e]; exact True.intro) hs he (dk_new hz hd (rk.merge .nil) dd')
structure M2 (X : Cx) (o : Expr) (m : Str) (apos : Pos) (e f : Expr) (cpos : Pos) : Prop where
  base : attributeBase o m X.env (eval o X.env) = eval o X.env
  few : ((backTo cpos (starEach [e, f] X.env)).all (fun x => !x.1) && (backToKw cpos (keywordEach [] X.env)).all (fun x => x.1.isSome)
    && decide (([e, f] : List Expr).length + ([] : List Keyword).length + (if ([] : List Keyword).isEmpty then 0 else 1) < 30)) = true
  line : (apos.endLine == cpos.line) = true
  trees : backTo cpos (starEach [e, f] X.env) = [(false, eval e X.env), (false, eval f X.env)]
section
variable {X : Cx} {pins : List (Addr × Obj)} {σ : St} {H : Hp} {s : Shared} {a : Addr} {y d : V} {u r : Value} {o : Option V} {A : Around} {E : Value → Shared → Prop}
end
section
variable {X : Cx} {o e f : Expr} {apos cpos : Pos} {td ty tx : TE}
end
section
variable {X : Cx} {pins : List (Addr × Obj)} {σ : St} {H : Hp} {s : Shared} {a : Addr} {kvs : List (Key × V)} {A : Around} {E : Value → Shared → Prop}
end
section
variable {X : Cx} {pins : List (Addr × Obj)} {σ : St} {H : Hp} {s : Shared} {a : Addr} {y : V} {u : Value} {A : Around} {E : Value → Shared → Prop}
end
end L2
namespace L2
open PySem PySem.Spec PyProof.Rows
section
variable {X : Cx}
theorem call_lenD : CallR X (.builtin "len") (fun xs H Q => ∃ a kvs, xs = [V.ref a] ∧ H a = some (.dK kvs) ∧ Q (.int kvs.length) H) := by
  intro pins s σ H xs us Q I r h
  obtain ⟨a, kvs, rfl, ha, q⟩ := h
  obtain ⟨u, rfl, ru⟩ := vals1 r
  cases ru
  exact d_len I (.inl ha) fun t s' I' => ⟨.int kvs.length, H, I', ⟨t, rfl⟩, q⟩
end
section
variable {κ : Type} [DecidableEq κ]
theorem valV_not {kvs : List (κ × V)} {k : κ} (h : valV kvs k = none) : ¬ k ∈ kvs.map (·.1) := by
  intro m
  obtain ⟨p, hp, e⟩ := List.mem_map.mp m
  have q : (kvs.any fun kv => decide (kv.1 = k)) = true := List.any_eq_true.mpr ⟨p, hp, decide_eq_true e⟩
  rw [valV_any, h] at q
  exact absurd q (by simp)
theorem nd_snoc : ∀ {l : List κ} {k : κ}, l.Nodup → ¬ k ∈ l → (l ++ [k]).Nodup
  | [], k, _, _ => by simp
  | a :: r, k, h, hk => by
    obtain ⟨h1, h2⟩ := List.nodup_cons.mp h
    show (a :: (r ++ [k])).Nodup
    refine List.nodup_cons.mpr ⟨fun m => ?_, nd_snoc h2 fun m => hk (List.mem_cons.mpr (Or.inr m))⟩
    rcases List.mem_append.mp m with q | q
    · exact h1 q
    · exact hk (List.mem_cons.mpr (Or.inl (List.mem_singleton.mp q).symm))
theorem nd_putK {kvs : List (κ × V)} {k : κ} (v : V) (hn : (kvs.map (·.1)).Nodup) (h : valV kvs k = none) : ((putK kvs k v).map (·.1)).Nodup := by
  rw [putK_new v h, List.map_append]
  exact nd_snoc hn (valV_not h)
end
end L2
namespace L2
open PySem PySem.Spec PyProof.Rows
def tVarD (i : Nat) : TE := fun σ H Q => match σ[i]? with | some (some v) => Q v H | _ => False
theorem pvD {X : Cx} (i : Nat) {x : Str} {pos : Pos} (hN : X.N[i]? = some x) (hv : Vis X.env.scope x) (hd : (x == ("__debug__" : Str)) = false) (hcd : (x == ("__classdict__" : Str)) = false) : PE X (.Name x pos) (tVarD i) := fun pins s σ H Q I h => pv i hN hv hd hcd pins s σ H Q I (by
  unfold tVarD at h
  split at h
  · exact ⟨_, ‹_›, h⟩
  · exact h.elim)
theorem tVarD_any {i : Nat} {σ : L2.St} {H : Hp} {Q : VK} : tVarD i σ H Q = ∃ v, σ[i]? = some (some v) ∧ Q v H := by
  unfold tVarD
  refine propext ⟨fun h => ?_, fun ⟨v, e, h⟩ => ?_⟩
  · split at h
    · exact ⟨_, ‹_›, h⟩
    · exact h.elim
  · rw [e]
    exact h
theorem cons_same {α : Type} {a : α} {x y : List α} : (a :: x = a :: y) = (x = y) := propext ⟨fun h => (List.cons.inj h).2, fun h => by rw [h]⟩
theorem l1_same {α : Type} {a b : α} : ([a] = [b]) = (a = b) := propext ⟨fun h => (List.cons.inj h).1, fun h => by rw [h]⟩
theorem l2_same {α : Type} {a b c d : α} : ([a, c] = [b, d]) = (a = b ∧ c = d) := propext ⟨fun h => ⟨(List.cons.inj h).1, (List.cons.inj (List.cons.inj h).2).1⟩, fun ⟨h, k⟩ => by rw [h, k]⟩
theorem l3_same {α : Type} {a b c d e f : α} : ([a, c, e] = [b, d, f]) = (a = b ∧ c = d ∧ e = f) := propext ⟨fun h => ⟨(List.cons.inj h).1, (List.cons.inj (List.cons.inj h).2).1, (List.cons.inj (List.cons.inj (List.cons.inj h).2).2).1⟩, fun ⟨h, k, l⟩ => by rw [h, k, l]⟩
theorem int_ex {a : Int} {p : Int → Prop} : (∃ x, V.int a = V.int x ∧ p x) = p a := propext ⟨fun ⟨x, e, h⟩ => by cases e; exact h, fun h => ⟨a, rfl, h⟩⟩
theorem ref_ex {a : Addr} {p : Addr → Prop} : (∃ x, V.ref a = V.ref x ∧ p x) = p a := propext ⟨fun ⟨x, e, h⟩ => by cases e; exact h, fun h => ⟨a, rfl, h⟩⟩
theorem bl_ex {a : Bool} {p : Bool → Prop} : (∃ x, V.bl a = V.bl x ∧ p x) = p a := propext ⟨fun ⟨x, e, h⟩ => by cases e; exact h, fun h => ⟨a, rfl, h⟩⟩
theorem int_ex2 {a b : Int} {p : Int → Int → Prop} : (∃ x y, V.int a = V.int x ∧ V.int b = V.int y ∧ p x y) = p a b := propext ⟨fun ⟨x, y, e, e2, h⟩ => by cases e; cases e2; exact h, fun h => ⟨a, b, rfl, rfl, h⟩⟩
theorem ifY {c : Prop} [Decidable c] {A B : Prop} (hc : c) (h : A) : if c then A else B := by rw [if_pos hc]; exact h
theorem ifN {c : Prop} [Decidable c] {A B : Prop} (hc : ¬ c) (h : B) : if c then A else B := by rw [if_neg hc]; exact h
theorem us1 {P : List Value → Prop} {us : List Value} (hl : us.length = 1) (h : ∀ a, P [a]) : P us := by
  match us, hl with
  | [a], _ => exact h a
theorem us2 {P : List Value → Prop} {us : List Value} (hl : us.length = 2) (h : ∀ a b, P [a, b]) : P us := by
  match us, hl with
  | [a, b], _ => exact h a b
theorem us3 {P : List Value → Prop} {us : List Value} (hl : us.length = 3) (h : ∀ a b c, P [a, b, c]) : P us := by
  match us, hl with
  | [a, b, c], _ => exact h a b c
theorem us4 {P : List Value → Prop} {us : List Value} (hl : us.length = 4) (h : ∀ a b c d, P [a, b, c, d]) : P us := by
  match us, hl with
  | [a, b, c, d], _ => exact h a b c d
end L2
namespace L2
open PySem PySem.Spec PyProof.Rows
theorem lookup_mem {α : Type} {x : Str} {c : α} : ∀ {l : List (Str × α)}, l.lookup x = some c → (x, c) ∈ l
  | [], h => by cases h
  | (y, d) :: r, h => by
    rw [List.lookup_cons] at h
    cases e : x == y with
    | true =>
      rw [e] at h
      have e' : x = y := eq_of_beq e
      cases h
      subst e'
      exact List.mem_cons_self
    | false =>
      rw [e] at h
      exact List.mem_cons_of_mem _ (lookup_mem h)
def frOf (ix : List Nat) (σ : St) : St := ix.map fun j => (σ[j]?).getD none
def SubP (cs : List (Str × Addr)) : List (Str × Addr) → Prop
  | [] => True
  | p :: r => cs.lookup p.1 = some p.2 ∧ SubP cs r
theorem SubP.of {cs : List (Str × Addr)} : ∀ {cl : List (Str × Addr)}, SubP cs cl → ∀ p ∈ cl, cs.lookup p.1 = some p.2
  | [], _, _, h => by cases h
  | p :: r, ⟨h1, h2⟩, q, hq => by
    rcases List.mem_cons.mp hq with e | e
    · rw [e]; exact h1
    · exact SubP.of h2 q e
def OutP (X : Cx) (scope : Scope) : List Str → List Nat → Prop
  | [], [] => True
  | x :: fr, j :: ix => (X.N[j]? = some x ∧ X.env.kindOf x = some .cell ∧ (relabel scope X.env).names.lookup x = some .cell) ∧ OutP X scope fr ix
  | _, _ => False
theorem OutP.len {X : Cx} {scope : Scope} : ∀ {fr : List Str} {ix : List Nat}, OutP X scope fr ix → fr.length = ix.length
  | [], [], _ => rfl
  | x :: fr, j :: ix, h => by rw [List.length_cons, List.length_cons, OutP.len h.2]
  | [], _ :: _, h => h.elim
  | _ :: _, [], h => h.elim
theorem OutP.get {X : Cx} {scope : Scope} : ∀ {fr : List Str} {ix : List Nat}, OutP X scope fr ix → ∀ (k j : Nat), ix[k]? = some j → ∃ x, fr[k]? = some x ∧ X.N[j]? = some x ∧ X.env.kindOf x = some .cell ∧ (relabel scope X.env).names.lookup x = some .cell
  | [], [], _, k, j, e => by simp at e
  | x :: fr, i :: ix, h, 0, j, e => by
    have e' : i = j := by simpa using e
    subst e'
    exact ⟨x, rfl, h.1⟩
  | x :: fr, i :: ix, h, k + 1, j, e => by
    obtain ⟨y, hy, r⟩ := OutP.get h.2 k j (by simpa using e)
    exact ⟨y, by simpa using hy, r⟩
  | [], _ :: _, h, _, _, _ => h.elim
  | _ :: _, [], h, _, _, _ => h.elim
structure ClOk (X : Cx) (scope : Scope) (own fr : List Str) (ix : List Nat) (cl : List (Str × Addr)) : Prop where
  clos : closureFor scope X.env = pure cl
  kind : scope.kind = .function
  nocell : (scope.names.all fun y => decide (y.2 ≠ .cell)) = true
  names : (scope.names.all fun y => decide (y.2 ≠ .local) || decide (scope.names.lookup y.1 = some .local)) = true
  sub : SubP X.env.cells cl
  has : ((relabel scope X.env).names.all fun y => !(decide (y.2 = .cell) || decide (y.2 = .free)) || (cl.lookup y.1).isSome) = true
  out' : OutP X scope fr ix
section
variable {X : Cx} {scope : Scope} {own fr : List Str} {ix : List Nat} {cl : List (Str × Addr)}
theorem ClOk.len (C : ClOk X scope own fr ix cl) : fr.length = ix.length := C.out'.len
theorem ClOk.out (C : ClOk X scope own fr ix cl) : ∀ (k j : Nat), ix[k]? = some j → ∃ x, fr[k]? = some x ∧ X.N[j]? = some x ∧ Vis X.env.scope x ∧ X.env.kindOf x ≠ some .local ∧ (relabel scope X.env).names.lookup x ≠ some .local := fun k j e => by
  obtain ⟨x, h1, h2, h3, h4⟩ := C.out'.get k j e
  exact ⟨x, h1, h2, .inr (.inl h3), (by rw [h3]; intro z; cases z), (by rw [h4]; intro z; cases z)⟩
theorem ClOk.nocell' (C : ClOk X scope own fr ix cl) : ∀ x ∈ scope.names, x.2 ≠ .cell := fun x hx => of_decide_eq_true (List.all_eq_true.mp C.nocell x hx)
theorem ClOk.names' (C : ClOk X scope own fr ix cl) : ∀ x ∈ scope.names, x.2 = .local → scope.names.lookup x.1 = some .local := fun x hx e => by
  have h := List.all_eq_true.mp C.names x hx
  rw [Bool.or_eq_true] at h
  rcases h with h | h
  · exact absurd e (of_decide_eq_true h)
  · exact of_decide_eq_true h
theorem ClOk.sub' (C : ClOk X scope own fr ix cl) : ∀ x c, cl.lookup x = some c → X.env.cells.lookup x = some c := fun x c h => C.sub.of _ (lookup_mem h)
theorem ClOk.has' (C : ClOk X scope own fr ix cl) : ∀ x, ((relabel scope X.env).names.lookup x = some .cell ∨ (relabel scope X.env).names.lookup x = some .free) → ∃ c, cl.lookup x = some c := fun x hx => by
  have key : ∀ k, (relabel scope X.env).names.lookup x = some k → (k = .cell ∨ k = .free) → ∃ c, cl.lookup x = some c := fun k e hk => by
    have h := List.all_eq_true.mp C.has (x, k) (lookup_mem e)
    rw [Bool.or_eq_true] at h
    rcases h with h | h
    · rcases hk with rfl | rfl
      · simp at h
      · simp at h
    · exact Option.isSome_iff_exists.mp h
  rcases hx with h | h
  · exact key _ h (.inl rfl)
  · exact key _ h (.inr rfl)
end
def cxC (X : Cx) (scope : Scope) (cl : List (Str × Addr)) (ns : List Str) (fp : List Addr) (s : Shared) (H : Hp) : Cx where
  prog := X.prog
  w := X.w
  K := X.K
  mg := X.mg
  base := X.base
  A := X.A
  N := ns
  s₀ := s
  H₀ := H
  env := compEnvC scope cl s.heap.objs.size X.env
  outer := X.stack
  stack := X.stack
  ex := fp
  fn := fun _ => false
  calm := X.calm
  pn := []
  xe := fun _ _ => False
section
variable {X : Cx} {scope : Scope} {own fr : List Str} {ix : List Nat} {cl : List (Str × Addr)} {pins : List (Addr × Obj)} {σ : St} {H : Hp} {s : Shared} {fp : List Addr}
theorem cxC_ok (C : ClOk X scope own fr ix cl) (I : Inv X pins σ H s) (f : ∀ b ∈ fp, FpOk X pins H b) (lt : ∀ b ∈ fp, b < s.heap.objs.size) : (cxC X scope cl (own ++ fr) fp s H).Ok where
  mod := I.ok.mod
  kind := C.kind
  glob := I.ok.glob
  blt := I.ok.blt
  above := Nat.le_refl _
  inj := fun x y c h1 h2 => I.ok.inj x y c (C.sub' x c h1) (C.sub' y c h2)
  has := fun x hx => C.has' x hx
  cab := fun x c h _ => Bool.noConfusion h
  hd := I.ok.hd
  frames := I.ok.frames
  stk := .inl rfl
  exf := fun b hb => ⟨Nat.ne_of_lt (lt b hb), fun x c e => (f b hb).2.2.2.2.1 x c (C.sub' x c e)⟩
  bs := fun b o e => I.bs b o e
  bsz := Nat.le_trans I.ok.bsz I.sz
  noex := fun b o e hb => by
    rcases (f b hb).2.2.2.1 with z | z
    · exact I.ok.noex b o e z
    · exact absurd (Nat.lt_of_lt_of_le (Heap.lt_size e) (Nat.le_trans I.ok.bsz z)) (Nat.lt_irrefl _)
  exfs := fun b hb z => by
    rcases List.mem_cons.mp (I.stkSub b z) with q | q
    · exact (f b hb).2.1 q
    · exact (f b hb).2.2.1 q
  funs := I.stack
  frf := I.stkFree
theorem inv_comp (C : ClOk X scope own fr ix cl) (I : Inv X pins σ H s) (f : ∀ b ∈ fp, FpOk X pins H b) (lt : ∀ b ∈ fp, b < s.heap.objs.size) {h₁ : Heap} {t : Nat} {m : Str → Option Value}
    (hns : h₁.Ns s.heap.objs.size m) (k : ∀ b o, s.heap.get? b = some o → h₁.get? b = some o) :
    Inv (cxC X scope cl (own ++ fr) fp s H) [] (List.replicate own.length none ++ frOf ix σ) H { s with heap := h₁, toks := t } where
  ok := cxC_ok C I f lt
  os := rfl
  bare := I.bare
  base := Un.kept k
  loc := ⟨m, hns, fun i x v e1 e2 e3 => by
    have e1 : (own ++ fr)[i]? = some x := e1
    by_cases hi : i < own.length
    · rw [List.getElem?_append_left (by simpa using hi), List.getElem?_replicate] at e2
      rw [if_pos hi] at e2
      cases e2
    · have hi' : own.length ≤ i := Nat.le_of_not_lt hi
      rw [List.getElem?_append_right (by simpa using hi')] at e2
      rw [List.getElem?_append_right hi'] at e1
      rw [List.length_replicate] at e2
      unfold frOf at e2
      rw [List.getElem?_map] at e2
      cases q : ix[i - own.length]? with
      | none => rw [q] at e2; cases e2
      | some j =>
        rw [q] at e2
        have e2' : (σ[j]?).getD none = some v := Option.some.inj e2
        obtain ⟨x', hx', hN, hv, hk, hl'⟩ := C.out _ j q
        rw [e1] at hx'
        cases hx'
        have e4 : σ[j]? = some (some v) := by
          cases z : σ[j]? with
          | none => rw [z] at e2'; cases e2'
          | some w => rw [z] at e2'; exact congrArg some e2'
        obtain ⟨mX, hnX, hl⟩ := I.loc
        obtain ⟨u, r, l⟩ := hl j x v hN e4 hv
        rcases l with ⟨kl, _⟩ | ⟨kk, c, ec, z⟩
        · exact absurd kl hk
        · have kY : (relabel scope X.env).names.lookup x = some .cell ∨ (relabel scope X.env).names.lookup x = some .free := by
            rcases e3 with e3 | e3 | e3
            · exact absurd e3 hl'
            · exact .inl e3
            · exact .inr e3
          obtain ⟨c', hc'⟩ := C.has' x kY
          have hcc := C.sub' x c' hc'
          rw [ec] at hcc
          cases hcc
          obtain ⟨o, ho, hd⟩ := z
          exact ⟨u, r, .inr ⟨kY, c, hc', ⟨o, k c o ho, hd⟩⟩⟩⟩
  cell := fun x c e => by
    obtain ⟨v, o, ho, hd⟩ := I.cell x c (C.sub' x c e)
    exact ⟨v, o, k c o ho, hd⟩
  free := I.hok.fresh (Nat.le_refl _)
  freeC := fun x c e => I.freeC x c (C.sub' x c e)
  pin := fun p hp => by cases hp
  hok := I.hok.kept k
  len := by
    show (List.replicate own.length none ++ frOf ix σ).length = (own ++ fr).length
    rw [List.length_append, List.length_append, List.length_replicate, C.len]
    unfold frOf
    rw [List.length_map]
theorem inv_back (I : Inv X pins σ H s) (f : ∀ b ∈ fp, FpOk X pins H b) {ns : List Str} {τ : St} {H' : Hp} {s' : Shared} {pins' : List (Addr × Obj)} (J : Inv (cxC X scope cl ns fp s H) pins' τ H' s') : Inv X pins σ H' s' :=
  I.call' (ch := fp) J.os J.base J.hok J.bare fun b hb => ⟨(f b hb).2.2.2.1, (f b hb).2.1, (f b hb).2.2.2.2.1, (f b hb).2.2.2.2.2⟩
theorem inv_gone {σ' : St} (I : Inv X pins σ H s) {H' : Hp} {s' : Shared} {h' : Heap} (J : Inv X pins σ' H' s') (free : H' s.heap.objs.size = none) (sb : Heap.SameBut s.heap.objs.size s'.heap h') : Inv X pins σ' H' { s' with heap := h' } :=
  J.turned (it := s.heap.objs.size) (t' := s'.toks) (fun b o hb e => (sb.2 b hb).trans e) free (Nat.ne_of_gt I.lt) (.inr I.sz)
    (fun x c e z => by
      obtain ⟨v, q⟩ := I.cell x c e
      exact absurd (z ▸ q.lt) (Nat.lt_irrefl _))
    (fun p hp z => absurd (z ▸ Heap.lt_size (I.pin p hp).1) (Nat.lt_irrefl _))
end
section
variable {prog : Program} {w : World} {A : Around} {R : Result → Shared → Prop} {s : Shared}
theorem compLoop_any {elt target iter : Expr} {ifs : List Expr} {scope : Scope} {pos : Pos} {it acc : Value} {env : Env} (I : Nat → Shared → Prop)
    (turn : ∀ n s, I n s → wpAny (model prog w) A (pyNext it) (fun r s₁ => match r with
      | none => R (.ok .next) s₁
      | some v => wpAny (model prog w) A (letOwnedTupleGo target it v) (fun _ s₁' => wpAny (model prog w) A (assign target env v) (fun _ s₂ =>
          wpAny (model prog w) A (forIn ifs true fun c r => if r = true then do let ok ← isTrue c env (eval c env); pure (ForInStep.yield ok) else pure (ForInStep.yield r)) (fun ok s₃ =>
            if ok = true then wpAny (model prog w) A (eval elt env) (fun x s₄ =>
              wpAny (model prog w) A (call (.builtin "list.append") [acc, x]) (fun _ s₅ => ∃ m, m < n ∧ I m s₅) (notedBy (model prog w) A env fun e s' => R (.error e) s') s₄) (notedBy (model prog w) A env fun e s' => R (.error e) s') s₃
            else ∃ m, m < n ∧ I m s₃) (notedBy (model prog w) A env fun e s' => R (.error e) s') s₂) (notedBy (model prog w) A env fun e s' => R (.error e) s') s₁') (notedBy (model prog w) A env fun e s' => R (.error e) s') s₁)
        (notedBy (model prog w) A env fun e s' => R (.error e) s') s)
    (n : Nat) (h : I n s) :
    codeAny (model prog w) A (.compLoop (.ListComp elt [⟨target, iter, ifs, 0⟩] scope pos) 0 it acc env) R s := by
  refine codeAny_loop rfl I (fun n s hI => ?_) n h
  show wpAny _ A ((compTurn (.ListComp elt [⟨target, iter, ifs, 0⟩] scope pos) 0 it acc env).onRaise (fun x => do noteFrame x env; theTreesLotGoes x)) _ _ s
  refine wpAny_noted ?_
  rw [compTurn_list]
  refine wpAny_bind (wpAny_standAt (wpAny_bind (wpAny_mono (turn n s hI) (fun r s₁ h₁ => ?_) fun _ _ h' => h')))
  cases r with
  | none => exact wpAny_pure h₁
  | some v =>
    refine wpAny_bind (wpAny_mono h₁ (fun _ s₁' h₁' => ?_) fun _ _ h' => h')
    refine wpAny_bind (wpAny_mono h₁' (fun _ s₂ h₂ => wpAny_bind (wpAny_mono h₂ (fun ok s₃ h₃ => ?_) fun _ _ h' => h')) fun _ _ h' => h')
    cases ok with
    | false => exact wpAny_pure ⟨rfl, h₃⟩
    | true =>
      exact wpAny_bind (wpAny_bind (wpAny_mono h₃ (fun x s₄ h₄ => wpAny_bind (wpAny_mono h₄ (fun _ s₅ h₅ => wpAny_pure (wpAny_pure ⟨rfl, h₅⟩)) fun _ _ h' => h')) fun _ _ h' => h'))
end
def PIfs (X : Cx) (ifs : List Expr) (t : TT) : Prop :=
  ∀ (pins : List (Addr × Obj)) (s : Shared) (σ : St) (H : Hp) (Q : Bool → Hp → Prop), Inv X pins σ H s → t σ H Q →
    wpAny (model X.prog X.w) X.A (forIn ifs true fun c r => if r = true then do let ok ← isTrue c X.env (eval c X.env); pure (ForInStep.yield ok) else pure (ForInStep.yield r)) (TP X pins σ Q) X.xe s
def tNoIf : TT := fun _ H Q => Q true H
theorem pif0 {X : Cx} : PIfs X [] tNoIf := fun pins s σ H Q I h => wpAny_tests_nil ⟨H, I, h⟩
theorem pif1 {X : Cx} {c : Expr} {t : TT} (h : PT X c t) : PIfs X [c] t := fun pins s σ H Q I q => wpAny_tests_one (h pins s σ H Q I q)
def LC (n : Nat) (fr : St) (g : TG) (tc : TT) (te : TE) (J : It) (D : Addr) (H1 : Hp) (Q : Hp → Prop) : Prop :=
  ∃ W : Nat → Nat → Hp → Prop, (∃ m, W 0 m (upd H1 D (.lst []))) ∧ ∀ i m H, W i m H →
    (J.stop i H ∧ Q H) ∨ (J.go i H ∧ ∀ (τ : St) x H', τ.length = n → J.yld i H x H' → g x (τ ++ fr) H' fun σ2 H2 => (∃ τ' : St, τ'.length = n ∧ σ2 = τ' ++ fr) ∧ tc σ2 H2 fun b H3 =>
      if b = true then te σ2 H3 fun y H4 => ∃ ys, H4 D = some (.lst ys) ∧ ys.length < sizeLine ∧ ∃ m', m' < m ∧ W (i + 1) m' (upd H4 D (.lst (ys ++ [y]))) else ∃ m', m' < m ∧ W (i + 1) m' H3)
def tLC (n : Nat) (ix : List Nat) (wi : TI) (g : TG) (tc : TT) (te : TE) : TE := fun σ H Q => wi σ H fun J H1 => ∀ D, H1 D = none → LC n (frOf ix σ) g tc te J D H1 fun H' => Q (.ref D) H'
section
variable {X : Cx} {scope : Scope} {own fr : List Str} {ix : List Nat} {cl : List (Str × Addr)} {elt iter tg : Expr} {ifs : List Expr} {pos : Pos} {wi : TI} {g : TG} {tc : TT} {te : TE}
theorem comp_block {E : Value → Shared → Prop} {RR : Value → Addr → Result → Shared → Prop} (C : ClOk X scope own fr ix cl) (hc : X.calm = true)
    (hg : ∀ fp s H, PG (cxC X scope cl (own ++ fr) fp s H) tg g) (ht : ∀ fp s H, PIfs (cxC X scope cl (own ++ fr) fp s H) ifs tc) (he : ∀ fp s H, PE (cxC X scope cl (own ++ fr) fp s H) elt te)
    {pins : List (Addr × Obj)} {σ : St} {H2 : Hp} {s2 : Shared} {it : Addr} {fp : List Addr} {tn : Nat → Heap → Prop} {J : It} {Q : Hp → Prop} (I2 : Inv X pins σ H2 s2) (T : Turn X.prog X.w X.K tg J fp it tn) (st2 : tn 0 s2.heap) (f2 : ∀ b ∈ fp, FpOk X pins H2 b)
    (q : LC own.length (frOf ix σ) g tc te J s2.heap.objs.size H2 Q)
    (hRR : ∀ (s3 s' : Shared) (H3 H' : Hp) (τ : St), Inv X pins σ H3 s3 → Inv X pins σ H' s' → H' s3.heap.objs.size = none → (∃ m, s'.heap.Ns s3.heap.objs.size m) → Q H' → RR (.ref s2.heap.objs.size) s3.heap.objs.size (.ok .next) s') :
    wpAny (model X.prog X.w) X.A (newList []) (fun acc s₃ => wpAny (model X.prog X.w) X.A (newFunctionEnv scope X.env.globals cl [] X.env.qual none .none (some X.env)) (fun cenv s₄ =>
      codeAny (model X.prog X.w) X.A (.compStart (.ListComp elt [⟨tg, iter, ifs, 0⟩] scope pos) 0 (.ref it) acc { cenv with scope := relabel scope X.env }) (RR acc cenv.locals) s₄) E s₃) E s2 := by
  refine wpAny_newObj_type ?_
  have I3 : Inv X pins σ (upd H2 s2.heap.objs.size (.lst [])) { s2 with heap := s2.heap.push { cls := .type "list", dict := none, data := .seq ([] : List Value).toArray } } := I2.lnew (t' := s2.toks) (its := []) .nil (Nat.zero_le _)
  have lt2 : ∀ b ∈ fp, b < s2.heap.objs.size := fun b hb => by
    obtain ⟨o, e, _⟩ := T.obj 0 _ st2 b hb
    exact Heap.lt_size e
  have fneD : ∀ b ∈ fp, b ≠ s2.heap.objs.size := fun b hb => Nat.ne_of_lt (lt2 b hb)
  generalize hs3 : ({ s2 with heap := s2.heap.push { cls := .type "list", dict := none, data := .seq ([] : List Value).toArray } } : Shared) = s3 at I3 ⊢
  have hsz : s3.heap.objs.size = s2.heap.objs.size + 1 := by rw [← hs3]; exact Heap.size_push ..
  have kp23 : ∀ b o, s2.heap.get? b = some o → s3.heap.get? b = some o := fun b o e => by rw [← hs3]; exact Heap.get?_push_of_some _ e
  have f3 : ∀ b ∈ fp, FpOk X pins (upd H2 s2.heap.objs.size (.lst [])) b := fun b hb => by
    obtain ⟨f0, fr⟩ := f2 b hb
    exact ⟨by rw [upd_ne (fneD b hb)]; exact f0, fr⟩
  have lt3 : ∀ b ∈ fp, b < s3.heap.objs.size := fun b hb => by rw [hsz]; exact Nat.lt_succ_of_lt (lt2 b hb)
  refine wpAny_newFunctionEnv C.nocell' (by intro y hy; simp at hy) (fun h₁ hns₁ hsb₁ => ?_) C.kind
  have k34 : ∀ b o, s3.heap.get? b = some o → h₁.get? b = some o := fun b o e =>
    (hsb₁.2 b (Nat.ne_of_lt (Heap.lt_size e))).trans (Heap.get?_push_of_some _ e)
  have I4 := inv_comp C I3 f3 lt3 (t := s3.toks + ([] : List (Str × Value)).length) hns₁ k34
  have st4 : tn 0 h₁ := T.keep 0 _ _ st2 fun b _ o e => k34 b o (kp23 b o e)
  obtain ⟨W, ⟨m0, w0⟩, turn⟩ := q
  have loop : ∀ s4 : Shared, s4 = { s3 with heap := h₁, toks := s3.toks + ([] : List (Str × Value)).length } →
      codeAny (model X.prog X.w) X.A (.compLoop (.ListComp elt [⟨tg, iter, ifs, 0⟩] scope pos) 0 (.ref it) (.ref s2.heap.objs.size) (compEnvC scope cl s3.heap.objs.size X.env)) (RR (.ref s2.heap.objs.size) s3.heap.objs.size) s4 := by
    rintro s4 rfl
    have stat : ∀ {H' : Hp}, (∀ b ∈ fp, H' b = none) → ∀ b ∈ fp, FpOk (cxC X scope cl (own ++ fr) fp s3 (upd H2 s2.heap.objs.size (.lst []))) [] H' b := fun {H'} hn b hb =>
      ⟨hn b hb, Nat.ne_of_lt (lt3 b hb), I4.ok.exfs b hb, .inl hb, (I4.ok.exf b hb).2, fun p hp => by cases hp⟩
    refine compLoop_any (fun n s' => ∃ i τ H', τ.length = own.length ∧ Inv (cxC X scope cl (own ++ fr) fp s3 (upd H2 s2.heap.objs.size (.lst []))) [] (τ ++ frOf ix σ) H' s' ∧ tn i s'.heap ∧ (∀ b ∈ fp, H' b = none) ∧ W i n H') ?_ m0
      ⟨0, List.replicate own.length none, _, List.length_replicate, I4, st4, fun b hb => (f3 b hb).1, w0⟩
    rintro n s5 ⟨i, τ, H5, hτ, I5, st5, fr5, w5⟩
    rcases turn i n H5 w5 with ⟨stop, qn⟩ | ⟨go, step⟩
    · refine wpAny_mono (T.done (cxC X scope cl (own ++ fr) fp s3 (upd H2 s2.heap.objs.size (.lst []))) rfl rfl rfl hc i [] s5 _ H5 (fun _ _ => False) I5 (stat fr5) st5 stop) (fun r s6 ⟨hr, I6⟩ => ?_) fun _ _ z => z.elim
      subst hr
      obtain ⟨mm, hmm, _⟩ := I6.loc
      exact hRR s3 s6 _ H5 τ I3 (inv_back I3 f3 I6) I6.free ⟨mm, hmm⟩ qn
    · refine wpAny_mono (T.item (cxC X scope cl (own ++ fr) fp s3 (upd H2 s2.heap.objs.size (.lst []))) rfl rfl rfl hc i [] s5 _ H5 (fun _ _ => False) I5 (stat fr5) st5 go) (fun r s6 ⟨u, hr, h6⟩ => ?_) fun _ _ z => z.elim
      subst hr
      refine wpAny_mono h6 (fun _ s7 ⟨x, H7, I7, r7, y7, st7, fr7⟩ => ?_) fun _ _ z => z.elim
      have I7' := I7.pinned (stat fr7) (T.obj _ _ st7)
      refine wpAny_mono (hg fp s3 _ _ s7 _ H7 x u _ I7' r7 (step τ x H7 hτ y7)) (fun _ s8 ⟨σ8, H8, I8, ⟨τ', hτ', e8⟩, q8⟩ => ?_) fun _ _ z => z.elim
      have fin : ∀ {H9 : Hp} {s9 : Shared}, Inv (cxC X scope cl (own ++ fr) fp s3 (upd H2 s2.heap.objs.size (.lst []))) ([] ++ pinsAt fp s7.heap) σ8 H9 s9 → (∃ m', m' < n ∧ W (i + 1) m' H9) →
          ∃ m, m < n ∧ ∃ i τ H', τ.length = own.length ∧ Inv (cxC X scope cl (own ++ fr) fp s3 (upd H2 s2.heap.objs.size (.lst []))) [] (τ ++ frOf ix σ) H' s9 ∧ tn i s9.heap ∧ (∀ b ∈ fp, H' b = none) ∧ W i m H' := fun {H9 s9} I9 hw => by
        obtain ⟨m', hm, w9⟩ := hw
        refine ⟨m', hm, i + 1, τ', H9, hτ', e8 ▸ I9.unpinned, T.keep _ _ _ st7 fun b hb o e => (I9.pin (b, o) (List.mem_append_right _ (List.mem_append_right _ (mem_pinsAt hb e)))).1, fun b hb => ?_, w9⟩
        obtain ⟨o, e, d⟩ := T.obj _ _ st7 b hb
        exact (I9.pin (b, o) (List.mem_append_right _ (List.mem_append_right _ (mem_pinsAt hb e)))).2.1
      refine wpAny_mono (ht fp s3 _ _ s8 σ8 H8 _ I8 q8) (fun ok s9 ⟨H9, I9, q9⟩ => ?_) fun _ _ z => z.elim
      cases ok with
      | false => exact fin I9 q9
      | true =>
        refine wpAny_mono (he fp s3 _ _ s9 σ8 H9 _ I9 q9) (fun y s10 ⟨v10, H10, I10, r10, ys, hD, hz, q10⟩ => ?_) fun _ _ z => z.elim
        refine wpAny_mono (mt_append (X := cxC X scope cl (own ++ fr) fp s3 (upd H2 s2.heap.objs.size (.lst []))) _ s10 σ8 H10 (.ref s2.heap.objs.size) [v10] _ [y] (fun _ H' => ∃ m', m' < n ∧ W (i + 1) m' H') I10 rfl (.cons r10 .nil) ⟨_, ys, v10, rfl, rfl, hD, hz, q10⟩) (fun _ s11 ⟨_, H11, I11, _, q11⟩ => ?_) fun _ _ z => z.elim
        exact fin I11 q11
  exact codeAny_compStart_list (loop _ rfl) (T.self _ 0 _ _ _ st4 (loop _ rfl))
theorem pe_lc (C : ClOk X scope own fr ix cl) (hc : X.calm = true) (hi : PI X tg iter wi) (hg : ∀ fp s H, PG (cxC X scope cl (own ++ fr) fp s H) tg g)
    (ht : ∀ fp s H, PIfs (cxC X scope cl (own ++ fr) fp s H) ifs tc) (he : ∀ fp s H, PE (cxC X scope cl (own ++ fr) fp s H) elt te)
    (hs : ∀ x, foldedSetIterable iter X.env x = pure x := by intro _; rfl) : PE X (.ListComp elt [⟨tg, iter, ifs, 0⟩] scope pos) (tLC own.length ix wi g tc te) := by
  intro pins s σ H Q I h
  rw [eval_ListComp]
  refine wpAny_comprehension_free (use := none) rfl hs C.clos C.kind C.names' (thn (hi pins s σ H _ I h) fun v s1 h1 => thn h1 fun itv s2 h2 => ?_)
  obtain ⟨it, fp, tn, J, H2, e, I2, T, st2, f2, q⟩ := h2
  subst e
  refine comp_block (RR := fun acc D => compPost (model X.prog X.w) X.A X.xe none (EP X pins σ Q) acc D) C hc hg ht he I2 T st2 f2 (q _ (I2.hok.fresh (Nat.le_refl _))) fun s3 s' H3 H' τ I3 I' hn hm q' => ?_
  obtain ⟨m, hm⟩ := hm
  exact ⟨m, hm, fun h' sb => ⟨.ref s2.heap.objs.size, H', inv_gone I3 I' hn sb, rfl, q'⟩⟩
def tSetLC (i n : Nat) (ix : List Nat) (wi : TI) (g : TG) (tc : TT) (te : TE) : TS := fun D σ H => wi σ H fun J H1 => ∀ l, H1 l = none → LC n (frOf ix σ) g tc te J l H1 fun H' => D.nx (σ.set i (some (.ref l))) H'
theorem ps_setlc {i : Nat} {x : Str} {px spos : Pos} (hN : X.N.Nodup) (hx : X.N[i]? = some x) (hl : Loc X.env.scope x) (C : ClOk X scope own fr ix cl) (hc : X.calm = true) (hi : PI X tg iter wi)
    (hg : ∀ fp s H, PG (cxC X scope cl (own ++ fr) fp s H) tg g) (ht : ∀ fp s H, PIfs (cxC X scope cl (own ++ fr) fp s H) ifs tc) (he : ∀ fp s H, PE (cxC X scope cl (own ++ fr) fp s H) elt te)
    (hsw : swapsWith (.ListComp elt [⟨tg, iter, ifs, 0⟩] scope pos) (some (.Name x px)) spos.line X.env = pure true := by rfl)
    (hs : ∀ x, foldedSetIterable iter X.env x = pure x := by intro _; rfl) (hf : X.fn x = true ∨ X.env.scope.names.lookup x = some .local := by first | exact .inl rfl | exact .inr rfl | assumption) :
    PS X (.Assign [.Name x px] (.ListComp elt [⟨tg, iter, ifs, 0⟩] scope pos) spos) (tSetLC i own.length ix wi g tc te) := by
  intro pins s σ H D I h
  rw [exec_Assign_Name_used _ _ _ _ hsw]
  refine wpAny_bind (wpAny_standAt (wpAny_bind ?_))
  show wpAny _ X.A (do let _ ← comprehension (.ListComp elt [⟨tg, iter, ifs, 0⟩] scope pos) scope X.env _ (newList []) false (eval iter X.env) (some (assign (.Name x px) X.env))) _ _ s
  refine wpAny_bind (wpAny_mono (wpAny_comprehension_free (use := some (assign (.Name x px) X.env)) (Q := fun _ s' => SP X pins D .next s') rfl hs C.clos C.kind C.names'
    (thn (hi pins s σ H _ I h) fun v s1 h1 => thn h1 fun itv s2 h2 => ?_)) (fun _ s' hq => wpAny_pure (wpAny_pure hq)) fun _ _ e => e)
  obtain ⟨it, fp, tn, J, H2, e, I2, T, st2, f2, q⟩ := h2
  subst e
  refine comp_block (RR := fun acc C => compPost (model X.prog X.w) X.A X.xe (some (assign (.Name x px) X.env)) (fun _ s' => SP X pins D .next s') acc C) C hc hg ht he I2 T st2 f2 (q _ (I2.hok.fresh (Nat.le_refl _))) fun s3 s' H3 H' τ I3 I' hn hm q' => ?_
  obtain ⟨m, hm⟩ := hm
  show wpAny _ X.A (assign (.Name x px) X.env (.ref s2.heap.objs.size)) _ _ _
  refine wpAny_assign_Name (store_ok2 I' hN hx hl (v := .ref s2.heap.objs.size) rfl (fun s'' I'' hsb => ?_) hf)
  obtain ⟨a, sba, ha⟩ := hsb
  have hne : s3.heap.objs.size ≠ a := by
    rcases ha with rfl | ha
    · exact Nat.ne_of_gt I3.lt
    · obtain ⟨v, qv⟩ := I3.cell x a ha
      exact Nat.ne_of_gt qv.lt
  exact ⟨m, hm.sameBut sba hne, fun h' sb => ⟨_, H', inv_gone I3 I'' hn sb, q'⟩⟩
end
end L2
namespace L2
open PySem PySem.Spec PyProof.Rows
def Its (z : Str) : It := ⟨fun i _ => i < z.cps.size, fun i H x H' => H' = H ∧ ∃ c, z.cps[i]? = some c ∧ x = .str ⟨#[c]⟩, fun i _ => i = z.cps.size⟩
def iStr (tl : TE) : TI := fun σ H R => tl σ H fun x H1 => ∃ z, x = .str z ∧ R (Its z) H1
section
variable {X : Cx} {tg : Expr}
end
section
variable {X : Cx}
end
def cutS (z : Str) (lo hi : Option Int) : Str := ⟨((z.cps.toList.drop (HT.sIx z.length 0 lo)).take (HT.sIx z.length z.length hi - HT.sIx z.length 0 lo)).toArray⟩
theorem cutS_le (z : Str) (lo hi : Option Int) : (cutS z lo hi).length ≤ z.length := by
  show ((z.cps.toList.drop _).take _).toArray.size ≤ z.cps.size
  rw [List.size_toArray, List.length_take, List.length_drop, Array.length_toList]
  omega
theorem clip_lo (n : Nat) (lo : Option Int) : (match lo with | none => (0 : Int) | some i => max 0 (min (if i < 0 then i + (n : Int) else i) n)) = ((HT.sIx n 0 lo : Nat) : Int) := by
  cases lo with
  | none => rfl
  | some i =>
    show max 0 (min (if i < 0 then i + (n : Int) else i) n) = ((HT.sIx n 0 (some i) : Nat) : Int)
    unfold HT.sIx
    by_cases h : i < 0
    · simp only [h, if_true] <;> omega
    · simp only [h, if_false] <;> omega
theorem clip_hi (n : Nat) (hi : Option Int) : (match hi with | none => (n : Int) | some i => max 0 (min (if i < 0 then i + (n : Int) else i) n)) = ((HT.sIx n n hi : Nat) : Int) := by
  cases hi with
  | none => rfl
  | some i =>
    show max 0 (min (if i < 0 then i + (n : Int) else i) n) = ((HT.sIx n n (some i) : Nat) : Int)
    unfold HT.sIx
    by_cases h : i < 0
    · simp only [h, if_true] <;> omega
    · simp only [h, if_false] <;> omega
theorem strSlice_run (lo hi : Option Int) (n : Nat) : Builtin.Str.strSliceIndices lo hi 1 n = (List.range (HT.sIx n n hi - HT.sIx n 0 lo)).map (HT.sIx n 0 lo + ·) := by
  have e : Builtin.Str.strSliceIndices lo hi 1 n = sliceRange (match lo with | none => (0 : Int) | some i => max 0 (min (if i < 0 then i + (n : Int) else i) n)) (match hi with | none => (n : Int) | some i => max 0 (min (if i < 0 then i + (n : Int) else i) n)) 1 := by
    cases lo <;> cases hi <;> rfl
  rw [e, clip_lo n lo, clip_hi n hi, sliceRange_one]
theorem cutS_made (z : Str) (lo hi : Option Int) : (⟨((Builtin.Str.strSliceIndices lo hi 1 z.length).filterMap (z.cps[·]?)).toArray⟩ : Str) = cutS z lo hi := by
  rw [strSlice_run, pick_run]
  rfl
theorem cutS_whole (z : Str) (lo hi : Option Int) (h : (Builtin.Str.strSliceIndices lo hi 1 z.length).length = z.length) : cutS z lo hi = z := by
  rw [strSlice_run, List.length_map, List.length_range] at h
  have h1 : HT.sIx z.length 0 lo ≤ z.length := HT.sIx_le _ _ (Nat.zero_le _) lo
  have h2 : HT.sIx z.length z.length hi ≤ z.length := HT.sIx_le _ _ (Nat.le_refl _) hi
  unfold cutS
  by_cases h0 : z.length = 0
  · have e0 : z.cps.toList = [] := by
      apply List.eq_nil_of_length_eq_zero
      rw [Array.length_toList]
      exact h0
    rw [e0]
    have e1 : z.cps = #[] := by
      apply Array.eq_empty_of_size_eq_zero
      exact h0
    cases z with
    | mk c => cases e1; simp
  · have a : HT.sIx z.length 0 lo = 0 := by omega
    have b : HT.sIx z.length z.length hi = z.length := by omega
    rw [a, b, List.drop_zero, Nat.sub_zero]
    have e : z.cps.toList.take z.length = z.cps.toList := by
      apply List.take_of_length_le
      rw [Array.length_toList]
      exact Nat.le_refl _
    rw [e]
section
variable {X : Cx}
def rSlS : V → Option Int → Option Int → Hp → VK → Prop := fun x lo hi H Q => ∃ z, x = .str z ∧ z.length ≤ sizeLine ∧ Q (.str (cutS z lo hi)) H
theorem part_of {v : Value} {o : Option Int} (p : IsPart v o) : ∃ l : Option (Int × Tok), partValue l = v ∧ l.map (·.1) = o := by
  cases p with
  | none => exact ⟨none, rfl, rfl⟩
  | int i t => exact ⟨some (i, t), rfl, rfl⟩
theorem sl_str : SlR X rSlS := by
  intro pins s σ H x v vl vu lo hi sl Q I rx hs pl pu h
  obtain ⟨z, rfl, hz, q⟩ := h
  obtain ⟨t, rfl⟩ := rx
  obtain ⟨l, el, e1⟩ := part_of pl
  obtain ⟨u, eu, e2⟩ := part_of pu
  subst el eu e1 e2
  refine ⟨"str", _, F.slot_str_getitem.lookup, typeIs_str s z t, wpAny_getItem_str_slice (l := l) (u := u) (st := none) hs rfl ?_⟩
  unfold sliceMade slicePicked
  by_cases c : (((none : Option (Int × Tok)).map (·.1)).getD 1 == 1 && (Builtin.Str.strSliceIndices (l.map (·.1)) (u.map (·.1)) (((none : Option (Int × Tok)).map (·.1)).getD 1) z.length).length == z.length) = true
  · rw [if_pos c]
    rw [Bool.and_eq_true] at c
    have c2 : (Builtin.Str.strSliceIndices (l.map (·.1)) (u.map (·.1)) 1 z.length).length = z.length := eq_of_beq c.2
    have e := cutS_whole z _ _ c2
    rw [e] at q
    exact ⟨.str z, H, I, ⟨t, rfl⟩, q⟩
  · rw [if_neg c]
    have e := cutS_made z (l.map (·.1)) (u.map (·.1))
    show ((⟨((Builtin.Str.strSliceIndices (l.map (·.1)) (u.map (·.1)) 1 z.length).filterMap (z.cps[·]?)).toArray⟩ : Str).length ≤ sizeLine ∧ EP X pins σ Q (.str ⟨((Builtin.Str.strSliceIndices (l.map (·.1)) (u.map (·.1)) 1 z.length).filterMap (z.cps[·]?)).toArray⟩ s.toks) { s with toks := s.toks + 1 })
    rw [e]
    exact ⟨Nat.le_trans (cutS_le z _ _) hz, ⟨.str _, H, I.tok _, ⟨_, rfl⟩, q⟩⟩
def mulS (z : Str) (n : Nat) : Str := ⟨(List.replicate n z.cps.toList).flatten.toArray⟩
theorem foldl_cat (x : List Nat) : ∀ (n : Nat) (acc : Array Nat), (List.replicate n x.toArray).foldl (· ++ ·) acc = acc ++ (List.replicate n x).flatten.toArray
  | 0, acc => by simp
  | n + 1, acc => by
    rw [List.replicate_succ, List.foldl_cons, foldl_cat x n, List.replicate_succ, List.flatten_cons]
    apply Array.toList_inj.mp
    simp
theorem mulS_eq (z : Str) (n : Int) (h : 0 ≤ n) : Txt.mul z n = mulS z n.toNat := by
  unfold Txt.mul mulS
  by_cases h1 : n < 1
  · rw [if_pos h1]
    have e : n.toNat = 0 := by omega
    rw [e]
    rfl
  · rw [if_neg h1]
    by_cases h2 : (n == 1 || z.length == 0) = true
    · rw [if_pos h2]
      rw [Bool.or_eq_true] at h2
      rcases h2 with h2 | h2
      · have e : n = 1 := eq_of_beq h2
        subst e
        show z = ⟨(List.replicate 1 z.cps.toList).flatten.toArray⟩
        simp
      · have e : z.length = 0 := eq_of_beq h2
        have e0 : z.cps = #[] := Array.eq_empty_of_size_eq_zero e
        cases z with
        | mk c => cases e0; simp
    · rw [if_neg h2]
      have e := foldl_cat z.cps.toList n.toNat #[]
      have e3 : z.cps.toList.toArray = z.cps := by simp
      rw [e3] at e
      rw [e]
      simp
theorem op_mul_str : OpR X (binaryOp .Mult) (fun x y H Q => ∃ z n, x = .str z ∧ y = .int n ∧ 0 ≤ n ∧ n ≤ 1000 ∧ z.length ≤ 1000 ∧ Q (.str (mulS z n.toNat)) H) := by
  intro pins s σ H x y v u Q I rx ry h
  obtain ⟨z, n, rfl, rfl, h0, h1, h2, q⟩ := h
  obtain ⟨t, rfl⟩ := rx
  obtain ⟨t', rfl⟩ := ry
  have hb : z.length * n.toNat ≤ 1000 * 1000 := Nat.mul_le_mul h2 (by omega)
  refine SB.mul ⟨by rw [Bool.or_eq_false_iff]; exact ⟨decide_eq_false (by omega), decide_eq_false (by omega)⟩, fun hn1 _ => ?_, fun _ _ => ?_⟩ fun t' k => ⟨.str _, H, I.tok _, ⟨_, rfl⟩, by rw [mulS_eq z n h0]; exact q⟩
  · have hp : 0 < n := by omega
    have h3 : (z.length : Int) * n ≤ 1000 * n := Int.mul_le_mul_of_nonneg_right (by omega) h0
    have h4 : (z.length : Int) ≤ (2 ^ 63 - 1) / n := Int.le_ediv_of_mul_le hp (by omega)
    omega
  · unfold Builtin.Str.tooLong
    exact decide_eq_false (by have := sizeLine_eq; omega)
theorem length_mulS (z : Str) (n : Nat) : (mulS z n).length = n * z.length := by
  show (List.replicate n z.cps.toList).flatten.toArray.size = n * z.cps.size
  rw [List.size_toArray, List.length_flatten, List.map_replicate, List.sum_replicate_nat, Array.length_toList]
theorem strsAre_of : ∀ {ys : List Str} {us : List Value}, Vals (ys.map V.str) us → StrsAre us ys
  | [], _, .nil => .nil
  | y :: ys, u :: us, .cons r t => by
    obtain ⟨t', rfl⟩ := r
    exact .cons _ _ (strsAre_of t)
theorem mt_join : MtR X "str.join" (fun x xs H Q => ∃ sep p ys, x = .str sep ∧ xs = [.ref p] ∧ SqL X.K H p (List.map V.str ys) ∧ (ys.map (·.length)).sum + ys.length * sep.length ≤ 1000000 ∧ Q (.str (Txt.join sep ys)) H) := by
  intro pins s σ H x xs v us Q I rx rv h
  obtain ⟨sep, p, ys, rfl, rfl, hq, hb, q⟩ := h
  obtain ⟨t, rfl⟩ := rx
  obtain ⟨u, rfl, ru⟩ := rv.one
  cases ru
  obtain ⟨its, r, pl, hz⟩ := I.list hq
  exact join_list pl.isList (by simpa using strsAre_of r) (by omega) fun t' k => ⟨.str _, H, I.tok _, ⟨_, rfl⟩, q⟩
theorem call_isinst : CallR X (.builtin "isinstance") (fun xs H Q => ∃ x n t b, xs = [x, .ty n] ∧ TyOf X.K H x t ∧ PySem.W.kitOne X.K t (.type n) = some b ∧ Q (.bl b) H) := by
  intro pins s σ H xs us Q I r h
  obtain ⟨x, n, t, b, rfl, ty, e, q⟩ := h
  obtain ⟨u, u2, rfl, r1, r2⟩ := vals2 r
  cases (show u2 = Value.type n from r2)
  exact isinst_ok I r1 ty e fun tk => ⟨.bl b, H, I.tok tk, rfl, q⟩
end
end L2
namespace L2
open PySem PySem.Spec PyProof.Rows
theorem same_new {H : Hp} {p : Addr} (h : H p = none) (o : HO) : Same H (upd H p o) := fun b u q => by rw [upd_ne (ne_of_none q h)]; exact q
theorem Same.upd {H H' : Hp} {p : Addr} (e : Same H H') (h : H p = none) (o : HO) : Same H (L2.upd H' p o) := fun b u q => by rw [upd_ne (ne_of_none q h)]; exact e b u q
theorem Same.tup {K : PySem.W.Frag} {H H' : Hp} {a : Addr} {xs : List V} (e : Same H H') (h : SqT K H a xs) : SqT K H' a xs := by
  rcases h with (h | ⟨o, h⟩) | h
  · exact .inl (.inl (e _ _ h))
  · exact .inl (.inr ⟨o, e _ _ h⟩)
  · exact .inr h
def Has (P : Program) (w : World) (K : PySem.W.Frag) (mg : Str → Option Value) (base : Heap) (k : Nat) (x : Str) (ps : List Str) (sp : Sp) : Prop :=
  ∃ (f : Addr) (fd : FuncData), FnOk P w K mg base CX0 k f fd ps sp ∧ Binds K fd ps [] ∧ PySem.W.keepIn K (.ref f) = true ∧ mg x = some (.ref f)
theorem Has.up {P : Program} {w : World} {K : PySem.W.Frag} {mg : Str → Option Value} {base : Heap} {j k : Nat} {x : Str} {ps : List Str} {sp : Sp} (h : Has P w K mg base j x ps sp) (l : j ≤ k) : Has P w K mg base k x ps sp := by
  obtain ⟨f, fd, F, r⟩ := h
  exact ⟨f, fd, F.mono l, r⟩
def Def (K : PySem.W.Frag) (mg : Str → Option Value) (x : Str) (st : Stmt) (ps : List Str) : Prop :=
  ∃ (f : Addr) (fd : FuncData), Fun K x x st f fd ∧ Binds K fd ps [] ∧ mg x = some (.ref f)
theorem Def.has {P : Program} {w : World} {K : PySem.W.Frag} {mg : Str → Option Value} {base : Heap} {k : Nat} {x : Str} {st : Stmt} {N ps : List Str} {sp : Sp} (D : Def K mg x st ps) (S : FnScope N ps (defScope st)) (len : ∀ vs H Q E, sp vs H Q E → vs.length = ps.length)
    (hbody : ∀ (f : Addr) (cdv : Value) (A : Around) (outer : List Env) (s : Shared) (H : Hp) (vs : List V) (Q : VK) (E : XK), Room k (A.deeper (envOfC x (defScope st) s.heap.objs.size f cdv)) → sp vs H Q E →
      ∃ t, PSs (cxOf CX0 P w K mg base N x (defScope st) f cdv A outer s H E).nox (defBody st) t ∧ t { nx := fun _ H' => Q .non H', rt := Q } (start N vs) H) : Has P w K mg base (k + 1) x ps sp := by
  obtain ⟨f, fd, F, b, m⟩ := D
  exact ⟨f, fd, F.ok S len fun cdv A outer s H vs Q E hr h => hbody f cdv A outer s H vs Q E hr h, b, F.kp, m⟩
section
variable {X : Cx} {k : Nat} {ps : List Str} {sp : Sp} {x : Str} {p pos : Pos} {e : Expr} {es : List Expr} {t : TA}
theorem pe_has (h : Has X.prog X.w X.K X.mg X.base k x ps sp) (hr : Room k X.A) (ha : PA X (e :: es) t) (hg : Gl X x := by rfl) (hdb : (x == ("__debug__" : Str)) = false := by decide +kernel)
    (he : starEach (e :: es) X.env = (false, eval e X.env) :: starEach es X.env := by rfl) (hpl : (backTo pos (starEach es X.env)).any (·.1) = false := by rfl) :
    PE X (.Call (.Name x p) (e :: es) [] pos) (tCall sp [] E0 t) := by
  obtain ⟨f, fd, F, b, kp, m⟩ := h
  exact pe_call F hr hg m kp b .nil pass0 ha hdb he hpl
end
theorem lc_gen {J : It} {fr : St} {tc : TT} {te : TE} {D : Addr} {H1 : Hp} {Q : Hp → Prop} (n : Nat) (item : Nat → V) (P : Nat → List V → Prop) (hn : n < sizeLine) (hD : H1 D = none)
    (hgo : ∀ i H, i < n → Same H1 H → J.go i H) (hyld : ∀ i H x H', i < n → Same H1 H → J.yld i H x H' → H' = H ∧ x = item i) (hstop : ∀ H, Same H1 H → J.stop n H)
    (h0 : P 0 [])
    (step : ∀ i ys H (G : Hp → Prop) (K' : V → Hp → Prop), i < n → P i ys → ys.length ≤ i → Same H1 H → (∀ H3, Same H H3 → P (i + 1) ys → G H3) → (∀ y H4, Same H H4 → P (i + 1) (ys ++ [y]) → K' y H4) → tc ([some (item i)] ++ fr) H fun b H3 => if b = true then te ([some (item i)] ++ fr) H3 K' else G H3)
    (done : ∀ ys H, P n ys → ys.length ≤ n → Same H1 H → H D = some (.lst ys) → Q H) : LC 1 fr (gName 0) tc te J D H1 Q := by
  refine ⟨fun i m H => m = n - i ∧ i ≤ n ∧ ∃ ys, H D = some (.lst ys) ∧ P i ys ∧ ys.length ≤ i ∧ Same H1 H, ⟨n, by simp, Nat.zero_le _, [], upd_same, h0, Nat.le_refl _, same_new hD _⟩, ?_⟩
  rintro i m H ⟨rfl, hi, ys, hys, hP, hl, hS⟩
  by_cases hlt : i < n
  · refine .inr ⟨hgo i H hlt hS, fun τ x H' hτ hy => ?_⟩
    obtain ⟨e1, e2⟩ := hyld i H x H' hlt hS hy
    subst e1 e2
    obtain ⟨a, rfl⟩ : ∃ a, τ = [a] := by
      match τ, hτ with
      | [a], _ => exact ⟨a, rfl⟩
    refine ⟨⟨[some (item i)], rfl, rfl⟩, step i ys H' (fun H3 => ∃ m', m' < n - i ∧ m' = n - (i + 1) ∧ i + 1 ≤ n ∧ ∃ ys, H3 D = some (.lst ys) ∧ P (i + 1) ys ∧ ys.length ≤ i + 1 ∧ Same H1 H3)
      (fun y H4 => ∃ zs, H4 D = some (.lst zs) ∧ zs.length < sizeLine ∧ ∃ m', m' < n - i ∧ m' = n - (i + 1) ∧ i + 1 ≤ n ∧ ∃ ys, upd H4 D (.lst (zs ++ [y])) D = some (.lst ys) ∧ P (i + 1) ys ∧ ys.length ≤ i + 1 ∧ Same H1 (upd H4 D (.lst (zs ++ [y])))) hlt hP hl hS (fun H3 q1 q2 => ?_) (fun y H4 q1 q2 => ?_)⟩
    · exact ⟨n - (i + 1), by omega, rfl, hlt, ys, q1 _ _ hys, q2, Nat.le_succ_of_le hl, hS.trans q1⟩
    · refine ⟨ys, q1 _ _ hys, by omega, n - (i + 1), by omega, rfl, hlt, ys ++ [y], upd_same, q2, ?_, (hS.trans q1).upd hD _⟩
      rw [List.length_append, List.length_singleton]
      omega
  · have e : i = n := by omega
    subst e
    exact .inl ⟨hstop H hS, done ys H hP hl hS hys⟩
theorem lc_list {K : PySem.W.Frag} {a : Addr} {xs : List V} {fr : St} {tc : TT} {te : TE} {D : Addr} {H1 : Hp} {Q : Hp → Prop} (P : Nat → List V → Prop) (hS : SqL K H1 a xs) (hn : xs.length < sizeLine) (hD : H1 D = none) (h0 : P 0 [])
    (step : ∀ i x ys H (G : Hp → Prop) (K' : V → Hp → Prop), xs[i]? = some x → P i ys → ys.length ≤ i → Same H1 H → (∀ H3, Same H H3 → P (i + 1) ys → G H3) → (∀ y H4, Same H H4 → P (i + 1) (ys ++ [y]) → K' y H4) → tc ([some x] ++ fr) H fun b H3 => if b = true then te ([some x] ++ fr) H3 K' else G H3)
    (done : ∀ ys H, P xs.length ys → ys.length ≤ xs.length → Same H1 H → H D = some (.lst ys) → Q H) : LC 1 fr (gName 0) tc te (Itl K a) D H1 Q := by
  have at' : ∀ i, i < xs.length → xs[i]? = some (xs.getD i .non) := fun i hi => by
    rw [List.getD_eq_getElem?_getD, List.getElem?_eq_getElem hi]
    rfl
  exact lc_gen xs.length (fun i => xs.getD i .non) P hn hD (fun i H hi hs => ⟨xs, _, hs.seq hS, at' i hi⟩)
    (fun i H x H' hi hs hy => ⟨hy.1, Option.some.inj ((hy.2 xs (hs.seq hS)).symm.trans (at' i hi))⟩) (fun H hs => ⟨xs, hs.seq hS, Nat.le_refl _⟩) h0
    (fun i ys H G K' hi hp hl hs hG hK => step i _ ys H G K' (at' i hi) hp hl hs hG hK) done
theorem lc_tup {K : PySem.W.Frag} {a : Addr} {xs : List V} {fr : St} {tc : TT} {te : TE} {D : Addr} {H1 : Hp} {Q : Hp → Prop} (P : Nat → List V → Prop) (hS : SqT K H1 a xs) (hn : xs.length < sizeLine) (hD : H1 D = none) (h0 : P 0 [])
    (step : ∀ i x ys H (G : Hp → Prop) (K' : V → Hp → Prop), xs[i]? = some x → P i ys → ys.length ≤ i → Same H1 H → (∀ H3, Same H H3 → P (i + 1) ys → G H3) → (∀ y H4, Same H H4 → P (i + 1) (ys ++ [y]) → K' y H4) → tc ([some x] ++ fr) H fun b H3 => if b = true then te ([some x] ++ fr) H3 K' else G H3)
    (done : ∀ ys H, P xs.length ys → ys.length ≤ xs.length → Same H1 H → H D = some (.lst ys) → Q H) : LC 1 fr (gName 0) tc te (Itt K a) D H1 Q := by
  have at' : ∀ i, i < xs.length → xs[i]? = some (xs.getD i .non) := fun i hi => by
    rw [List.getD_eq_getElem?_getD, List.getElem?_eq_getElem hi]
    rfl
  exact lc_gen xs.length (fun i => xs.getD i .non) P hn hD (fun i H hi hs => ⟨xs, _, hs.tup hS, at' i hi⟩)
    (fun i H x H' hi hs hy => ⟨hy.1, Option.some.inj ((hy.2 xs (hs.tup hS)).symm.trans (at' i hi))⟩) (fun H hs => ⟨xs, hs.tup hS, Nat.le_refl _⟩) h0
    (fun i ys H G K' hi hp hl hs hG hK => step i _ ys H G K' (at' i hi) hp hl hs hG hK) done
theorem lc_range {lo : Int} {n : Nat} {fr : St} {tc : TT} {te : TE} {D : Addr} {H1 : Hp} {Q : Hp → Prop} (P : Nat → List V → Prop) (hn : n < sizeLine) (hD : H1 D = none) (h0 : P 0 [])
    (step : ∀ (i : Nat) ys H (G : Hp → Prop) (K' : V → Hp → Prop), i < n → P i ys → ys.length ≤ i → Same H1 H → (∀ H3, Same H H3 → P (i + 1) ys → G H3) → (∀ y H4, Same H H4 → P (i + 1) (ys ++ [y]) → K' y H4) → tc ([some (.int (lo + i))] ++ fr) H fun b H3 => if b = true then te ([some (.int (lo + i))] ++ fr) H3 K' else G H3)
    (done : ∀ ys H, P n ys → ys.length ≤ n → Same H1 H → H D = some (.lst ys) → Q H) : LC 1 fr (gName 0) tc te (Itr lo n) D H1 Q :=
  lc_gen n (fun i => .int (lo + i)) P hn hD (fun i H hi _ => hi) (fun i H x H' hi hs hy => hy) (fun H hs => Nat.le_refl _) h0 step done
end L2
namespace L2
open PySem PySem.Spec PyProof.Rows
section
variable {X : Cx} {x : Str} {pos : Pos}
theorem pe_gref {a : Addr} (hm : X.mg x = some (.ref a)) (hg : Gl X x := by rfl) (hd : (x == ("__debug__" : Str)) = false := by decide +kernel) : PE X (.Name x pos) (tC (.ref a)) := pe_glob hg hm rfl hd
theorem pe_gty {T : String} (hm : X.mg x = none) (hv : bootBuiltins x = some (.type T)) (hg : Gl X x := by rfl) (hn : x ≠ "__name__" := by decide +kernel) (hd : (x == ("__debug__" : Str)) = false := by decide +kernel) : PE X (.Name x pos) (tC (.ty T)) := pe_bltn hg hm hv rfl hn hd
end
theorem b_len : bootBuiltins "len" = some (.builtin "len") := by decide +kernel
theorem b_sum : bootBuiltins "sum" = some (.builtin "sum") := by decide +kernel
theorem b_isinstance : bootBuiltins "isinstance" = some (.builtin "isinstance") := by decide +kernel
theorem b_int : bootBuiltins "int" = some (.type "int") := by decide +kernel
theorem b_str : bootBuiltins "str" = some (.type "str") := by decide +kernel
theorem b_list : bootBuiltins "list" = some (.type "list") := by decide +kernel
theorem b_tuple : bootBuiltins "tuple" = some (.type "tuple") := by decide +kernel
theorem b_dict : bootBuiltins "dict" = some (.type "dict") := by decide +kernel
end L2
namespace L2
open PySem PySem.Spec PyProof.Rows
theorem len_list (z : Str) : z.length = z.cps.toList.length := by
  show z.cps.size = _
  rw [Array.length_toList]
theorem cxOf_K {CX : CXT} {P : Program} {w : World} {K : PySem.W.Frag} {mg : Str → Option Value} {base : Heap} {N : List Str} {qual : Str} {scope : Scope} {f : Addr} {cd : Value} {A : Around} {outer : List Env} {s : Shared} {H : Hp} {E : XK} : (cxOf CX P w K mg base N qual scope f cd A outer s H E).K = K := rfl
theorem nox_K {X : Cx} : X.nox.K = X.K := rfl
end L2
namespace L2
open PySem PySem.Spec PyProof.Rows
theorem slen (z : Str) : z.length = z.cps.toList.length := len_list z
inductive CsOk : List Expr → List V → Prop where
  | nil : CsOk [] []
  | str {x : Str} {j : Nat} {pos : Pos} {es : List Expr} {vs : List V} (h : CsOk es vs) : CsOk (.Constant (.str x) j pos :: es) (.str x :: vs)
  | int {i : Int} {j : Nat} {pos : Pos} {es : List Expr} {vs : List V} (h : CsOk es vs) : CsOk (.Constant (.int i) j pos :: es) (.int i :: vs)
def tVals (vs : List V) : TA := fun _ H Q => Q vs H
theorem pa_const {X : Cx} {es : List Expr} {vs : List V} (h : CsOk es vs) : PA X es (tVals vs) := by
  induction h with
  | nil => exact pa_nil
  | str _ ih => exact pa_cons pe_str ih
  | int _ ih => exact pa_cons pe_int ih
end L2
namespace L2
open PySem PySem.Spec PyProof.Rows
def ForW (g : TG) (tb : TS) (D : Ends) (J : It) (σ : St) (H1 : Hp) : Prop := ∃ W : Nat → Nat → St → Hp → Prop, (∃ m, W 0 m σ H1) ∧ ∀ i m σ H, W i m σ H →
  (J.stop i H ∧ D.nx σ H) ∨ (J.go i H ∧ ∃ N : St → Hp → Prop, (∀ σ' H', N σ' H' → ∃ m', m' < m ∧ W (i + 1) m' σ' H') ∧ ∀ x H', J.yld i H x H' → g x σ H' fun σ2 H2 => tb { D with nx := N, ct := N, bk := D.nx } σ2 H2)
theorem tFor_eq (wi : TI) (g : TG) (tb : TS) (D : Ends) (σ : St) (H : Hp) : tFor wi g tb D σ H = wi σ H fun J H1 => ForW g tb D J σ H1 := rfl
section
variable {K : PySem.W.Frag} {a : Addr} {xs : List V} {g : TG} {tb : TS} {D : Ends} {σ : St} {H : Hp}
theorem forW_list (Pv : Nat → St → Hp → Prop) (h0 : Pv 0 σ H) (hl : ∀ i σ H, i ≤ xs.length → Pv i σ H → SqL K H a xs)
    (hs : ∀ i x σ H, xs[i]? = some x → Pv i σ H → g x σ H fun σ2 H2 => tb { D with nx := Pv (i + 1), ct := Pv (i + 1), bk := D.nx } σ2 H2) (hd : ∀ σ H, Pv xs.length σ H → D.nx σ H) : ForW g tb D (Itl K a) σ H := for_list Pv h0 hl hs hd
theorem forW_range {lo : Int} {n : Nat} (Pv : Nat → St → Hp → Prop) (h0 : Pv 0 σ H)
    (hs : ∀ i σ H, i < n → Pv i σ H → g (.int (lo + i)) σ H fun σ2 H2 => tb { D with nx := Pv (i + 1), ct := Pv (i + 1), bk := D.nx } σ2 H2) (hd : ∀ σ H, Pv n σ H → D.nx σ H) : ForW g tb D (Itr lo n) σ H := for_range Pv h0 hs hd
end
end L2
namespace L2
open PySem PySem.Spec PyProof.Rows Builtin Builtin.Str
def ModD (w : World) (K : PySem.W.Frag) (a : Addr) (kvs : List (Key × V)) : Prop :=
  (a == sysModules) = false ∧ ∀ (P : Program) (h : Heap), K.In h → ∃ vs, KV kvs vs ∧ h.DictOf (mixKind P w) a vs
abbrev SIRow := Int × Str × Tok × Int × Tok
def siE (e : SIRow) : DictEntry := ⟨e.1, .str e.2.1 e.2.2.1, .int e.2.2.2.1 e.2.2.2.2⟩
theorem si_pairs (P : Program) (w : World) : ∀ es : List SIRow, Pairs (mixKind P w) (es.map siE) (es.map fun e => ((Sum.inr e.2.1 : Key), Value.int e.2.2.2.1 e.2.2.2.2))
  | [] => .nil
  | e :: r => .cons (mixKind_str P w e.2.1 e.2.2.1) rfl (si_pairs P w r)
theorem si_kv : ∀ es : List SIRow, KV (es.map fun e => ((Sum.inr e.2.1 : Key), V.int e.2.2.2.1)) (es.map fun e => ((Sum.inr e.2.1 : Key), Value.int e.2.2.2.1 e.2.2.2.2))
  | [] => .nil
  | e :: r => .cons ⟨rfl, ⟨_, rfl⟩⟩ (si_kv r)
theorem modD_mk {w : World} {K : PySem.W.Frag} {a : Addr} {ep : Nat} (es : List SIRow) (hl : K.lookup a = some ⟨.type "dict", none, .dict (es.map siE).toArray ep, #[]⟩) (ha : (a == sysModules) = false)
    (hh : ∀ e ∈ es, e.1 = hashStr w e.2.1) (nd : (es.map fun e => (Sum.inr e.2.1 : Key)).Nodup) : ModD w K a (es.map fun e => (Sum.inr e.2.1, V.int e.2.2.2.1)) := by
  refine ⟨ha, fun P h hk => ⟨_, si_kv es, _, _, ep, hk a _ hl, ⟨rfl, rfl, rfl⟩, rfl, fun e he => ?_, by simpa using si_pairs P w es, ?_⟩⟩
  · have he' : e ∈ es.map siE := List.mem_toArray.mp he
    obtain ⟨r, hr, rfl⟩ := List.mem_map.mp he'
    exact ⟨Sum.inr r.2.1, mixKind_str P w r.2.1 r.2.2.1, hh r hr⟩
  · rw [List.map_map]
    exact nd
section
variable {X : Cx} {a : Addr} {kvs : List (Key × V)}
theorem op_in_mod (md : ModD X.w X.K a kvs) : OpR X (compareOp .In) (fun x y H Q => ∃ k, x = kV k ∧ y = .ref a ∧ Q (.bl (valV kvs k).isSome) H) := by
  intro pins s σ H x y v u Q I rx ry h
  obtain ⟨k, rfl, rfl, q⟩ := h
  cases (show u = Value.ref a from ry)
  obtain ⟨vs, rel, dd⟩ := md.2 X.prog _ I.kIn
  refine wpAny_in_of (kV_is rx) md.1 dd.mapOf ?_
  rw [← (rel.val k).isSome_eq]
  exact ⟨.bl _, H, I.tok _, rfl, q⟩
def tMGet2 (kvs : List (Key × V)) (ty tx : TE) : TE := fun σ H Q => ty σ H fun y H2 => tx σ H2 fun z H3 => ∃ k, y = kV k ∧ Q ((valV kvs k).getD z) H3
theorem pe_mget2 {o e f : Expr} {apos cpos : Pos} {ty tx : TE} (ho : PE X o (tC (.ref a))) (md : ModD X.w X.K a kvs) (he : PE X e ty) (hf : PE X f tx) (m : M2 X o "get" apos e f cpos) : PE X (.Call (.Attribute o "get" apos) [e, f] [] cpos) (tMGet2 kvs ty tx) := by
  intro pins s σ H Q I h
  refine wpAny_Call_method m.base m.few m.line PySem.F.plainAttrs_dict PySem.F.slot_dict_get PySem.F.type_dict_get (thn (ho pins s σ H (fun x H1 => x = .ref a ∧ H1 = H) I ⟨rfl, rfl⟩) fun u s1 ⟨x, H1, I1, rx, ex, eH⟩ => ?_)
  subst ex eH
  obtain rfl : u = Value.ref a := rx
  obtain ⟨vs, rel, dd⟩ := md.2 X.prog _ I1.kIn
  refine ⟨dd.typeIs, fun b q => ?_, ?_⟩
  · cases q
    obtain ⟨ob, _, _, h1, h2, _⟩ := dd
    exact ⟨ob, h1, h2.2.1⟩
  rw [m.trees]
  refine Calls.callWith_builtin rfl (Calls.evalArgs_plain (Calls.spliced_cons (thn (he pins s1 σ H1 _ I1 h) fun iv s2 ⟨y, H2, I2, ry, q2⟩ =>
    Calls.spliced_cons (thn (hf pins s2 σ H2 _ I2 q2) fun fv s3 ⟨z, H3, I3, rz, k, ek, q3⟩ => Calls.spliced_nil ?_))))
  subst ek
  obtain ⟨vs', rel', dd'⟩ := md.2 X.prog _ I3.kIn
  refine call_meetsIn PySem.F.slot_dict_get dd'.typeIs PySem.F.entry_dict_get (PySem.F.args_dict_get_3 _ _ _) (meets_dict_get_default (mixKind X.prog X.w) a (kV_is ry) md.1 fv) ⟨_, dd'.mapOf, ⟨_, H3, I3.tok _, ?_, q3⟩⟩
  exact (rel'.val k).getD rz
theorem call_sum_list (hc : X.calm = true) : CallR X (.builtin "sum") (fun xs H Q => ∃ p ns, xs = [.ref p] ∧ SqL X.K H p (List.map V.int ns) ∧ Q (.int ns.sum) H) := by
  intro pins s σ H xs us Q I r h
  obtain ⟨p, ns, rfl, hq, q⟩ := h
  obtain ⟨u, rfl, rx⟩ := vals1 r
  cases rx
  obtain ⟨its, rv, pl, hz⟩ := I.list hq
  have hi : IntsAre its ns := L2.intsAre_of rv
  obtain ⟨ys, hy⟩ := hi.allInts.items
  refine sum_intListG (I.ok.hd hc) (by rw [← hy]; exact pl.isList) fun h' tk t' hk => ⟨.int ns.sum, H, I.kept hk, ⟨t', ?_⟩, q⟩
  have e : ys.toList.map (·.1) = ns := by
    rw [← nums_intItems, ← hy]
    exact hi.numsOf
  rw [preSum_eq, List.take_of_length_le (by simp), e]
def textV : V → Str
  | .str z => z
  | .int i => (toString i : String)
  | _ => Str.empty
def wordV : V → Prop
  | .str _ => True
  | .int i => i.natAbs.log2 < 1920
  | _ => False
end
end L2
namespace L2
open PySem PySem.Spec PyProof.Rows
section
variable {X : Cx} (K : PySem.W.Frag) (hK : X.K = K)
include hK
theorem ix_listK : IxR X (rIxL K) := by subst hK; exact ix_list
theorem op_in_seqK : OpR X (compareOp .In) (rIn K false) := by subst hK; exact op_in_seq
end
end L2
namespace L2
open PySem PySem.Spec PyProof.Rows
def tMid (t u : TS) : TS := fun D σ H => ∃ M : St → Hp → Prop, t { D with nx := M } σ H ∧ ∀ σ' H', M σ' H' → u D σ' H'
theorem tMid_of {t u : TS} {D : Ends} {σ : St} {H : Hp} (M : St → Hp → Prop) (h1 : t { D with nx := M } σ H) (h2 : ∀ σ' H', M σ' H' → u D σ' H') : tMid t u D σ H := ⟨M, h1, h2⟩
section
variable {X : Cx} {st : Stmt} {rest : List Stmt} {t u : TS}
theorem pss_mid (h1 : PS X st t) (h2 : PSs X rest u) : PSs X (st :: rest) (tMid t u) := by
  intro pins s σ H D I h
  obtain ⟨M, h, hM⟩ := h
  refine wpAny_execs_cons (thn (h1 pins s σ H { D with nx := M } I h) fun f s1 q => ?_)
  cases f with
  | next =>
    obtain ⟨σ', H', I', q⟩ := q
    exact h2 pins s1 σ' H' D I' (hM σ' H' q)
  | ret v => exact q
  | brk => exact q
  | cont => exact q
end
theorem tyV_str {K : PySem.W.Frag} {z : Str} {H : Hp} : tyV K "str" (.str z) H = True := eq_true rfl
theorem tyV_list {K : PySem.W.Frag} {a : Addr} {xs : List V} {H : Hp} (h : H a = some (.lst xs)) : tyV K "list" (.ref a) H := .inl ⟨rfl, xs, SqL.of h⟩
theorem rIxT_ok {K : PySem.W.Frag} {H : Hp} {t : Addr} {xs : List V} {i : Int} {v : V} {Q : VK} (h : H t = some (.tup xs)) (hv : atI xs i = some v) (q : Q v H) : rIxT K (.ref t) (.int i) H Q := ⟨t, xs, i, v, rfl, rfl, SqT.of h, hv, q⟩
theorem rIxL_ok {K : PySem.W.Frag} {H : Hp} {t : Addr} {xs : List V} {i : Int} {v : V} {Q : VK} (h : H t = some (.lst xs)) (hv : atI xs i = some v) (q : Q v H) : rIxL K (.ref t) (.int i) H Q := ⟨t, xs, i, v, rfl, rfl, SqL.of h, hv, q⟩
theorem rCat_ok {H : Hp} {a b : Addr} {xs ys : List V} {Q : VK} (h1 : H a = some (.lst xs)) (h2 : H b = some (.lst ys)) (hz : xs.length + ys.length ≤ sizeLine) (q : ∀ p, H p = none → Q (.ref p) (upd H p (.lst (xs ++ ys)))) : rCat (.ref a) (.ref b) H Q := ⟨a, b, xs, ys, rfl, rfl, h1, h2, hz, q⟩
theorem append_ok {K : PySem.W.Frag} {H : Hp} {l : Addr} {xs : List V} {y : V} {Q : VK} (h : H l = some (.lst xs)) (hz : xs.length < sizeLine) (q : Q .non (upd H l (.lst (xs ++ [y])))) : tyV K "list" (.ref l) H ∧ rAppend (.ref l) [y] H Q :=
  ⟨tyV_list h, l, xs, y, rfl, rfl, h, hz, q⟩
end L2
namespace HT
open PySem PySem.Spec PyProof.Rows L2
section
variable {prog : Program} {w : World} {A : Around} {E : Value → Shared → Prop} {s : Shared}
theorem cat_tup0 {t b : Addr} {vs ws : List Value} {Q : Value → Shared → Prop} (ht : IsTup s.heap t vs.toArray) (hb : IsTup s.heap b ws.toArray) (hv : vs = []) (h1 : Q (.ref b) s) : wpAny (model prog w) A (binaryOp .Add (.ref t) (.ref b)) Q E s := by
  obtain ⟨⟨cls, dd, data, sl⟩, ho, hc, n, hd⟩ := id ht
  obtain ⟨⟨cls2, dd2, data2, sl2⟩, ho2, hc2, n2, hd2⟩ := id hb
  simp only at hc hd hc2 hd2
  subst hc hd hc2 hd2
  exact concat_meets ⟨_, ho, rfl⟩ ⟨_, ho2, rfl⟩ noFill_tuple_add seq_tuple_add PySem.F.slot_tuple_add PySem.F.entry_tuple_add (PySem.F.args_tuple_add_2 _ _)
    (tuple_addW0 t b vs.toArray ws.toArray n n2 dd dd2 sl sl2 (by simp [hv])) ⟨ho, ho2, h1⟩
theorem getItem_tuple_whole {t sl : Addr} {items : Array Value} {vl vu : Value} {lo hi : Option Int} {Q : Value → Shared → Prop} (ht : IsTup s.heap t items) (hs : s.heap.IsSliceOf sl vl vu .none) (pl : IsPart vl lo) (pu : IsPart vu hi)
    (hw : sIx items.size 0 lo = 0 ∧ sIx items.size items.size hi = items.size) (h : Q (.ref t) s) (hsz : items.size ≤ sizeLine) : wpAny (model prog w) A (getItem (.ref t) (.ref sl)) Q E s := by
  obtain ⟨os, hos, hcs, hds⟩ := id hs
  have hTs : s.TypeIs (.ref sl) "slice" := ⟨os, hos, hcs⟩
  unfold getItem
  try with_reducible refine wpAny_holding ?_
  first | refine wpAny_bind (wpAny_pure ?_) | skip
  refine wpAny_bind (wpAny_sequenceKey ht.typeIs (by decide) ?_)
  refine wpAny_bind (wpAny_callSpecial?_slot (name := Str.ofString "__getitem__") ht.typeIs PyProof.Rows.slot_tuple_getitem
    (wpAny_call_entry PyProof.Rows.slot_tuple_getitem ht.typeIs entry_tuple_getitem ?_ (args_tuple_getitem _ _)))
  show wpAny _ _ (Builtin.Tuple.tupleItemsOf (.ref t) >>= _) _ _ s
  refine wpAny_bind (tupleItemsOf_ ht ?_)
  refine wpAny_bind (wpAny_typeOf hTs ?_)
  rw [if_pos (by decide)]
  refine wpAny_bind (sliceApplied_gen hs pl pu ?_)
  have hyes : ((((sIx items.size 0 lo : Nat) : Int) == 0 && (1 : Int) == 1 && (sIx items.size items.size hi - sIx items.size 0 lo) == items.size) = true) := by
    rw [hw.1, hw.2]
    simp
  show wpAny _ _ (if (((sIx items.size 0 lo : Nat) : Int) == 0 && (1 : Int) == 1 && (sIx items.size items.size hi - sIx items.size 0 lo) == items.size) = true then _ else _) _ _ s
  rw [if_pos hyes]
  refine wpAny_bind ?_
  show wpAny _ _ (typeOf (.ref t) >>= fun v => pure (v == .type "tuple")) _ _ s
  refine wpAny_bind (wpAny_typeOf ht.typeIs (wpAny_pure ?_))
  rw [if_pos (by decide)]
  refine wpAny_bind (wpAny_rule ?_)
  first
    | exact wpAny_bind (wpAny_pure (wpAny_pure ⟨_, rfl, wpAny_pure h⟩))
    | exact wpAny_pure ⟨_, rfl, wpAny_pure h⟩
    | exact wpAny_bind (wpAny_pure ⟨_, rfl, wpAny_pure h⟩)
end
end HT
namespace L2
open PySem PySem.Spec PyProof.Rows
section
variable {X : Cx}
def rCatU : R2 := fun x y H Q => ∃ a b xs ys, x = .ref a ∧ y = .ref b ∧ H a = some (.tup xs) ∧ H b = some (.tup ys) ∧ xs.length + ys.length ≤ sizeLine ∧ ∀ p H', Same H H' → H' p = some (.tup (xs ++ ys)) → Q (.ref p) H'
theorem op_catU : OpR X (binaryOp .Add) rCatU := by
  intro pins s σ H x y v u Q I rx ry h
  obtain ⟨a, b, xs, ys, rfl, rfl, ha, hb, hz, q⟩ := h
  by_cases hx : xs = []
  · subst hx
    cases rx
    cases ry
    obtain ⟨its, r1, p1, _⟩ := I.tuple (SqT.of ha)
    obtain ⟨its2, r2, p2, _⟩ := I.tuple (SqT.of hb)
    exact HT.cat_tup0 p1 p2 (r1.nil_iff.mpr rfl) ⟨.ref b, H, I, rfl, q b H (Same.refl H) hb⟩
  · refine op_catT pins s σ H _ _ v u Q I rx ry ⟨a, b, xs, ys, rfl, rfl, SqT.of ha, SqT.of hb, hx, hz, fun e => ?_, fun _ p hp => q p _ (fun c o h => by rw [upd_ne (ne_of_none h hp)]; exact h) upd_same⟩
    subst e
    exact q a H (Same.refl H) (by rw [List.append_nil]; exact ha)
theorem rCatU_ok {H : Hp} {a b : Addr} {xs ys : List V} {Q : VK} (ha : H a = some (.tup xs)) (hb : H b = some (.tup ys)) (hz : xs.length + ys.length ≤ sizeLine) (q : ∀ p H', Same H H' → H' p = some (.tup (xs ++ ys)) → Q (.ref p) H') : rCatU (.ref a) (.ref b) H Q := ⟨a, b, xs, ys, rfl, rfl, ha, hb, hz, q⟩
def rSlU : V → Option Int → Option Int → Hp → VK → Prop := fun x lo hi H Q => ∃ a xs, x = .ref a ∧ H a = some (.tup xs) ∧ ∀ p H', Same H H' → H' p = some (.tup (cutV xs lo hi)) → Q (.ref p) H'
theorem cutV_all {xs : List V} {lo hi : Option Int} (h : HT.sIx xs.length 0 lo = 0 ∧ HT.sIx xs.length xs.length hi = xs.length) : cutV xs lo hi = xs := by
  unfold cutV
  rw [h.1, h.2, List.drop_zero, Nat.sub_zero, List.take_length]
theorem sl_tupU : SlR X rSlU := by
  intro pins s σ H x v vl vu lo hi sl Q I rx hs pl pu h
  obtain ⟨a, xs, rfl, ha, q⟩ := h
  by_cases hw : HT.sIx xs.length 0 lo = 0 ∧ HT.sIx xs.length xs.length hi = xs.length
  · cases rx
    obtain ⟨its, r, ht, hz⟩ := I.tuple (SqT.of ha)
    have hlen : its.toArray.size = xs.length := by rw [List.size_toArray]; exact r.length.symm
    exact ⟨"tuple", _, PyProof.Rows.slot_tuple_getitem.lookup, ht.typeIs, HT.getItem_tuple_whole ht hs pl pu (by rw [hlen]; exact hw) ⟨.ref a, H, I, rfl, q a H (Same.refl H) (by rw [cutV_all hw]; exact ha)⟩ (by rw [hlen]; exact hz)⟩
  · exact sl_tup pins s σ H _ v vl vu lo hi sl Q I rx hs pl pu ⟨a, xs, rfl, SqT.of ha, hw, fun p hp => q p _ (fun c o h => by rw [upd_ne (ne_of_none h hp)]; exact h) upd_same⟩
theorem rSlU_ok {H : Hp} {a : Addr} {xs : List V} {lo hi : Option Int} {Q : VK} (ha : H a = some (.tup xs)) (q : ∀ p H', Same H H' → H' p = some (.tup (cutV xs lo hi)) → Q (.ref p) H') : rSlU (.ref a) lo hi H Q := ⟨a, xs, rfl, ha, q⟩
theorem kV_flat (k : Key) : flatV (kV k) = true := by cases k <;> rfl
theorem eqV_kV (a b : Key) : eqV (kV a) (kV b) = decide (a = b) := by
  cases a <;> cases b <;> simp [eqV, kV] <;> exact Bool.beq_eq_decide_eq _ _
theorem range_eq {as bs : List Key} (hl : as.length = bs.length) : ((List.range as.length).all fun j => decide (as[j]? = bs[j]?)) = decide (as = bs) := by
  rw [Bool.eq_iff_iff, List.all_eq_true, decide_eq_true_eq]
  constructor
  · intro h
    apply List.ext_getElem? 
    intro j
    by_cases hj : j < as.length
    · exact of_decide_eq_true (h j (List.mem_range.mpr hj))
    · rw [List.getElem?_eq_none_iff.mpr (by omega), List.getElem?_eq_none_iff.mpr (by omega)]
  · intro h j _
    rw [h]
    exact decide_eq_true rfl
theorem keys_eqAt {A : Around} {s : Shared} {as bs : List Key} {us ws : List Value} (r1 : Vals (as.map kV) us) (r2 : Vals (bs.map kV) ws) (j : Nat) (h1 : j < us.toArray.size) (h2 : j < ws.toArray.size) :
    SeqAt.EqAt A s us.toArray[j] ws.toArray[j] (decide (as[j]? = bs[j]?)) := by
  have l1 := r1.length
  have l2 := r2.length
  rw [List.length_map] at l1 l2
  have j1 : j < as.length := by rw [l1]; simpa using h1
  have j2 : j < bs.length := by rw [l2]; simpa using h2
  obtain ⟨u, hu, ru⟩ := r1.get (i := j) (x := kV as[j]) (by rw [List.getElem?_map, List.getElem?_eq_getElem j1]; rfl)
  obtain ⟨w, hw, rw'⟩ := r2.get (i := j) (x := kV bs[j]) (by rw [List.getElem?_map, List.getElem?_eq_getElem j2]; rfl)
  have e1 : us.toArray[j] = u := by
    have : us[j]'(by simpa using h1) = u := by rw [List.getElem?_eq_getElem (by simpa using h1)] at hu; exact Option.some.inj hu
    simpa using this
  have e2 : ws.toArray[j] = w := by
    have : ws[j]'(by simpa using h2) = w := by rw [List.getElem?_eq_getElem (by simpa using h2)] at hw; exact Option.some.inj hw
    simpa using this
  rw [e1, e2, List.getElem?_eq_getElem j1, List.getElem?_eq_getElem j2]
  have e3 : decide (some as[j] = some bs[j]) = eqV (kV as[j]) (kV bs[j]) := by
    rw [eqV_kV]
    apply decide_eq_decide.mpr
    exact ⟨fun h => Option.some.inj h, fun h => by rw [h]⟩
  rw [e3]
  exact eqAt_V ru rw' (kV_flat _) (kV_flat _)
def rEqK (K : PySem.W.Frag) (neg : Bool) : R2 := fun x y H Q => ∃ a b as bs, x = .ref a ∧ y = .ref b ∧ ((SqT K H a (List.map kV as) ∧ SqT K H b (List.map kV bs)) ∨ (SqL K H a (List.map kV as) ∧ SqL K H b (List.map kV bs))) ∧ Q (.bl (if neg then !decide (as = bs) else decide (as = bs))) H
theorem op_eqK (hu : X.A.units < cLine) : OpR X (compareOp .Eq) (rEqK X.K false) := by
  intro pins s σ H x y v u Q I rx ry h
  obtain ⟨a, b, as, bs, rfl, rfl, hd, q⟩ := h
  cases rx
  cases ry
  rcases hd with ⟨ha, hb⟩ | ⟨ha, hb⟩
  · obtain ⟨its, r1, p1, _⟩ := I.tuple ha
    obtain ⟨its2, r2, p2, _⟩ := I.tuple hb
    have l1 := r1.length
    have l2 := r2.length
    rw [List.length_map] at l1 l2
    refine SeqAt.eq_tupleAt (show s.heap.IsTuple a its.toArray from p1) (show s.heap.IsTuple b its2.toArray from p2) hu (fun j h1 h2 => keys_eqAt r1 r2 j h1 h2) ?_
    refine fin_bl I q ?_
    show decide (as = bs) = _
    rw [List.size_toArray, List.size_toArray, ← l1, ← l2]
    by_cases hl : as.length = bs.length
    · rw [← hl, Nat.min_self, range_eq hl]
      simp
    · have : ¬ as = bs := fun e => hl (by rw [e])
      simp [this, hl]
  · obtain ⟨its, r1, p1, _⟩ := I.list ha
    obtain ⟨its2, r2, p2, _⟩ := I.list hb
    have l1 := r1.length
    have l2 := r2.length
    rw [List.length_map] at l1 l2
    by_cases hl : as.length = bs.length
    · refine SeqAt.eq_listAt p1.isList p2.isList (by rw [List.size_toArray, List.size_toArray, ← l1, ← l2, hl]) hu (fun j h1 h2 => keys_eqAt r1 r2 j h1 h2) ?_
      refine fin_bl I q ?_
      show decide (as = bs) = _
      rw [List.size_toArray, ← l1, range_eq hl]
    · refine SeqAt.eq_list_lengthsAt p1.isList p2.isList (by rw [List.size_toArray, List.size_toArray, ← l1, ← l2]; simpa using hl) hu ?_
      refine fin_bl I q ?_
      show decide (as = bs) = _
      exact decide_eq_false fun e => hl (by rw [e])
theorem op_neK (hu : X.A.units < cLine) : OpR X (compareOp .NotEq) (rEqK X.K true) := by
  intro pins s σ H x y v u Q I rx ry h
  obtain ⟨a, b, as, bs, rfl, rfl, hd, q⟩ := h
  cases rx
  cases ry
  rcases hd with ⟨ha, hb⟩ | ⟨ha, hb⟩
  · obtain ⟨its, r1, p1, _⟩ := I.tuple ha
    obtain ⟨its2, r2, p2, _⟩ := I.tuple hb
    have l1 := r1.length
    have l2 := r2.length
    rw [List.length_map] at l1 l2
    refine SeqAt.RcNeAt.tuples (show s.heap.IsTuple a its.toArray from p1) (show s.heap.IsTuple b its2.toArray from p2) hu (fun j h1 h2 => keys_eqAt r1 r2 j h1 h2) _ _ _ _ ?_
    refine fin_bl I q ?_
    show (!decide (as = bs)) = _
    rw [List.size_toArray, List.size_toArray, ← l1, ← l2]
    by_cases hl : as.length = bs.length
    · rw [← hl, Nat.min_self, range_eq hl]
      simp
    · have : ¬ as = bs := fun e => hl (by rw [e])
      simp [this, hl]
  · obtain ⟨its, r1, p1, _⟩ := I.list ha
    obtain ⟨its2, r2, p2, _⟩ := I.list hb
    have l1 := r1.length
    have l2 := r2.length
    rw [List.length_map] at l1 l2
    by_cases hl : as.length = bs.length
    · refine SeqAt.RcNeAt.lists p1.isList p2.isList (by rw [List.size_toArray, List.size_toArray, ← l1, ← l2, hl]) hu (fun j h1 h2 => keys_eqAt r1 r2 j h1 h2) _ _ _ _ ?_
      refine fin_bl I q ?_
      show (!decide (as = bs)) = _
      rw [List.size_toArray, ← l1, range_eq hl]
    · refine SeqAt.RcNeAt.lists_lengths p1.isList p2.isList (by rw [List.size_toArray, List.size_toArray, ← l1, ← l2]; simpa using hl) hu _ _ _ _ ?_
      refine fin_bl I q ?_
      show (!decide (as = bs)) = _
      rw [decide_eq_false fun e => hl (by rw [e])]
      rfl
end
section
variable {X : Cx} {k : Nat} {ps : List Str} {sp : Sp} {x : Str} {p pos : Pos} {e : Expr} {es : List Expr} {t : TA}
def FnV (P : Program) (w : World) (K : PySem.W.Frag) (mg : Str → Option Value) (base : Heap) (k : Nat) (ps : List Str) (sp : Sp) (v : V) : Prop :=
  ∃ (f : Addr) (fd : FuncData), v = .ref f ∧ FnOk P w K mg base CX0 k f fd ps sp ∧ Binds K fd ps [] ∧ PySem.W.keepIn K (.ref f) = true
theorem Has.val {P : Program} {w : World} {K : PySem.W.Frag} {mg : Str → Option Value} {base : Heap} (h : Has P w K mg base k x ps sp) : ∃ a, mg x = some (.ref a) ∧ FnV P w K mg base k ps sp (.ref a) := by
  obtain ⟨f, fd, F, b, kp, m⟩ := h
  exact ⟨f, m, f, fd, rfl, F, b, kp⟩
def tCallV (P : Program) (w : World) (K : PySem.W.Frag) (mg : Str → Option Value) (base : Heap) (k : Nat) (ps : List Str) (i : Nat) (t : TA) : TE := fun σ H Q => ∃ v sp, σ[i]? = some (some v) ∧ FnV P w K mg base k ps sp v ∧ t σ H fun vs H1 => sp vs H1 Q E0
theorem pe_callV (i : Nat) (ps : List Str) (hN : X.N[i]? = some x) (hv : Vis X.env.scope x) (hr : Room k X.A) (ha : PA X (e :: es) t) (hd : (x == ("__debug__" : Str)) = false := by decide +kernel) (hcd : (x == ("__classdict__" : Str)) = false := by decide +kernel)
    (he : starEach (e :: es) X.env = (false, eval e X.env) :: starEach es X.env := by rfl) (hpl : (backTo pos (starEach es X.env)).any (·.1) = false := by rfl) :
    PE X (.Call (.Name x p) (e :: es) [] pos) (tCallV X.prog X.w X.K X.mg X.base k ps i t) := by
  intro pins s σ H Q I h
  obtain ⟨v, sp, hσ, ⟨f, fd, rfl, F, hb, hk⟩, h⟩ := h
  refine wpAny_Call_Name_kw (thn (pe_var (pos := p) hN hv hd hcd pins s σ H (fun y H1 => y = .ref f ∧ H1 = H) I ⟨_, hσ, rfl, rfl⟩) fun u s1 ⟨y, H1, I1, ry, ey, eH⟩ => ?_)
  subst ey eH
  cases (show u = Value.ref f from ry)
  refine PySem.W.callWith_K (h₀ := X.base) I1.ok.mod.kin hk (thn (ha pos pins s1 σ H1 _ I1 h) fun us s2 ⟨vs, H2, I2, r, q⟩ => ⟨I2.kIn, ?_⟩) he hpl
  exact run_fn F hr hb .nil pass0 I2 r (by rw [List.append_nil]; exact q)
end
end L2
namespace L2
open PySem PySem.Spec PyProof.Rows
def Itv (K : PySem.W.Frag) (a : Addr) (n : Nat) : It :=
  ⟨fun i H => i < n ∧ ∃ xs, SqL K H a xs ∧ xs.length = n, fun i H x H' => H' = H ∧ ∀ xs, SqL K H a xs → xs[n - 1 - i]? = some x, fun i H => i = n⟩
theorem turn_rev {P : Program} {w : World} {K : PySem.W.Frag} {tg : Expr} (a it : Addr) (n : Nat) : Turn P w K tg (Itv K a n) [it] it (fun i h => i ≤ n ∧ h.IsRevIter it a ((n : Int) - 1 - (i : Int))) where
  mem := by simp
  obj := fun i h st b hb => by
    have e : b = it := by simpa using hb
    subst e
    obtain ⟨_, o, e, c, d⟩ := st
    exact ⟨o, e, fun v z => by rw [d] at z; cases z⟩
  keep := fun i h h' st k => ⟨st.1, st.2.at fun o e => k it (by simp) o e⟩
  item := by
    intro X hP hw hK hc i pins s σ H E I hf st hg
    subst hP hw hK
    obtain ⟨hi, xs, hq, hn⟩ := hg
    have hx : xs[n - 1 - i]? = some (xs[n - 1 - i]'(by omega)) := List.getElem?_eq_getElem (by omega)
    obtain ⟨its, rv, p, hz⟩ := I.list hq
    obtain ⟨u, hu, ru⟩ := rv.get hx
    obtain ⟨f0, f1, f2, f3, f4, f5⟩ := hf it (by simp)
    have e : (n : Int) - 1 - (i : Int) = ((n - 1 - i : Nat) : Int) := by omega
    have st2 := st.2
    rw [e] at st2
    refine wpAny_pyNext_rev_item st2 p.isList (x := u) (by simpa using hu) fun h' st' sb => ?_
    have e2 : ((n - 1 - i : Nat) : Int) - 1 = (n : Int) - 1 - ((i + 1 : Nat) : Int) := by omega
    rw [e2] at st'
    have I1 : Inv X pins σ H { s with heap := h' } := I.turned (t' := s.toks) (fun b o hb e => (sb.2 b hb).trans e) f0 f1 f3 f4 f5
    obtain ⟨o, e, c, d⟩ := id st'
    exact ⟨u, rfl, go_of (s := { s with heap := h' }) e c d (by decide) ⟨_, H, I1, ru, ⟨rfl, fun ys hy => by rw [I.list_inj hy hq]; exact hx⟩, ⟨hi, st'⟩, fun b hb => (hf b hb).1⟩⟩
  done := by
    intro X hP hw hK hc i pins s σ H E I hf st hg
    subst hP hw hK
    obtain ⟨f0, f1, f2, f3, f4, f5⟩ := hf it (by simp)
    have hg : i = n := hg
    subst hg
    have e : (i : Int) - 1 - (i : Int) = -1 := by omega
    have st2 := st.2
    rw [e] at st2
    exact wpAny_pyNext_rev_end (I.ok.hd hc) st2 fun h' eb => ⟨rfl, I.turned (t' := s.toks) (fun b o hb e => eb b o hb e) f0 f1 f3 f4 f5⟩
  self := fun _ _ _ _ _ st h => wpAny_pyIter_revIter st.2 h
def iRev (K : PySem.W.Frag) (ta : TA) : TI := fun σ H R => ta σ H fun vs H1 => ∃ a xs, vs = [.ref a] ∧ SqL K H1 a xs ∧ R (Itv K a xs.length) H1
theorem b_reversed : bootBuiltins "reversed" = some (.type "reversed") := by decide +kernel
section
variable {X : Cx} {tg : Expr}
theorem pi_rev {a : Expr} {ta : TA} {p pos : Pos} (hg : Gl X "reversed") (hm : X.mg "reversed" = none) (ha : PA X [a] ta) (hs : starEach [a] X.env = [(false, eval a X.env)] := by rfl) : PI X tg (.Call (.Name "reversed" p) [a] [] pos) (iRev X.K ta) := by
  intro pins s σ H R I h
  refine Call_ (ld_blt I hg hm b_reversed (PyProof.Rows.callWith_type1 (thn (ha pos pins s σ H _ I h) fun us s1 ⟨vs, H1, I1, r1, q1⟩ => ?_) hs rfl))
  obtain ⟨l, xs, e, hq, q⟩ := q1
  subst e
  cases r1 with
  | cons r rr =>
    cases rr
    cases (show _ = Value.ref l from r)
    obtain ⟨its, rv, pl, hz⟩ := I1.list hq
    refine call_reversed_list pl.isList ?_
    have hlen : ((its.toArray.size : Nat) : Int) - 1 = (xs.length : Int) - 1 - ((0 : Nat) : Int) := by
      rw [List.size_toArray, ← rv.length]
      omega
    have st : Heap.IsRevIter (s1.heap.push (revObj l ((its.toArray.size : Int) - 1))) s1.heap.objs.size l ((xs.length : Int) - 1 - ((0 : Nat) : Int)) := by
      rw [← hlen]
      exact ⟨_, Heap.get?_push_size _ rfl, rfl, rfl⟩
    refine wpAny_pyIter_revIter st ?_
    refine ⟨s1.heap.objs.size, [s1.heap.objs.size], _, _, H1, rfl, I1.kept (t' := s1.toks) fun b o e => Heap.get?_push_of_some _ e, turn_rev l _ xs.length, ⟨Nat.zero_le _, st⟩, fun b hb => ?_, q⟩
    have e : b = s1.heap.objs.size := by simpa using hb
    subst e
    exact I1.fpOk (Nat.le_refl _) (I1.hok.fresh (Nat.le_refl _))
end
theorem forW_rev {K : PySem.W.Frag} {a : Addr} {xs : List V} {g : TG} {tb : TS} {D : Ends} {σ : St} {H : Hp} (Pv : Nat → St → Hp → Prop) (h0 : Pv 0 σ H) (hl : ∀ i σ H, i ≤ xs.length → Pv i σ H → SqL K H a xs)
    (hs : ∀ i x σ H, i < xs.length → xs[xs.length - 1 - i]? = some x → Pv i σ H → g x σ H fun σ2 H2 => tb { D with nx := Pv (i + 1), ct := Pv (i + 1), bk := D.nx } σ2 H2) (hd : ∀ σ H, Pv xs.length σ H → D.nx σ H) : ForW g tb D (Itv K a xs.length) σ H := by
  refine ⟨fun i m σ H => m = xs.length - i ∧ i ≤ xs.length ∧ Pv i σ H, ⟨xs.length, by simp, Nat.zero_le _, h0⟩, ?_⟩
  rintro i m σ H ⟨rfl, hi, p⟩
  have q := hl i σ H hi p
  by_cases hlt : i < xs.length
  · refine .inr ⟨⟨hlt, xs, q, rfl⟩, Pv (i + 1), fun σ' H' p' => ⟨xs.length - (i + 1), by omega, rfl, hlt, p'⟩, fun x H' y => ?_⟩
    obtain ⟨e, y⟩ := y
    subst e
    exact hs i x σ _ hlt (y xs q) p
  · have e : i = xs.length := by omega
    subst e
    exact .inl ⟨rfl, hd σ H p⟩
end L2
namespace L2
open PySem PySem.Spec PyProof.Rows
section
variable {CX : CXT} {P : Program} {w : World} {K : PySem.W.Frag} {mg : Str → Option Value} {base : Heap} {N : List Str} {qual : Str} {scope : Scope} {f : Addr} {cd : Value} {A : Around} {outer : List Env} {s : Shared} {H : Hp} {E : XK}
theorem cxOf_P : (cxOf CX P w K mg base N qual scope f cd A outer s H E).prog = P := rfl
theorem cxOf_w : (cxOf CX P w K mg base N qual scope f cd A outer s H E).w = w := rfl
theorem cxOf_mg : (cxOf CX P w K mg base N qual scope f cd A outer s H E).mg = mg := rfl
theorem cxOf_b : (cxOf CX P w K mg base N qual scope f cd A outer s H E).base = base := rfl
end
theorem pop_ok {K : PySem.W.Frag} {H : Hp} {l : Addr} {xs : List V} {y : V} {Q : VK} (h : H l = some (.lst (xs ++ [y]))) (q : Q y (upd H l (.lst xs))) : tyV K "list" (.ref l) H ∧ rPop (.ref l) [] H Q :=
  ⟨tyV_list h, l, xs ++ [y], y, rfl, rfl, h, by rw [List.length_append, List.length_singleton, Nat.add_sub_cancel, List.getElem?_append_right (Nat.le_refl _), Nat.sub_self]; rfl, by rw [List.dropLast_concat]; exact q⟩
end L2
namespace Pc
def pend : Nat → List Nat → Option Nat
  | l, [] => some l
  | 0, _ :: _ => none
  | l + 1, a :: r => pend (l + a) r
theorem pend_app : ∀ (xs ys : List Nat) (l : Nat), pend l (xs ++ ys) = (pend l xs).bind fun m => pend m ys
  | [], ys, l => by cases l <;> rfl
  | a :: r, ys, 0 => rfl
  | a :: r, ys, l + 1 => by
    show pend (l + a) (r ++ ys) = (pend (l + a) r).bind _
    exact pend_app r ys (l + a)
theorem pend_one (l a : Nat) (h : 0 < l) : pend l [a] = some (l - 1 + a) := by
  cases l with
  | zero => omega
  | succ l => show some (l + a) = some (l + 1 - 1 + a); rw [Nat.add_sub_cancel]
theorem pend_snoc (xs : List Nat) (a l d : Nat) (h : pend l xs = some d) (hd : 0 < d) : pend l (xs ++ [a]) = some (d - 1 + a) := by
  rw [pend_app, h]
  exact pend_one d a hd
theorem pend_drop (r : List Nat) (l : Nat) (h : pend l r = some 0) (p : Nat) : ∃ m, pend m (r.drop p) = some 0 := by
  have e : r = r.take p ++ r.drop p := (List.take_append_drop p r).symm
  rw [e, pend_app] at h
  cases q : pend l (r.take p) with
  | none => rw [q] at h; cases h
  | some m => rw [q] at h; exact ⟨m, h⟩
end Pc
namespace Pc
end Pc
namespace Pc
open PySem PySem.Spec L2 PyProof.Rows
abbrev letS : Str := "abcdefghijklmnopqrstuvwxyz"
abbrev figS : Str := "0123456789"
def keptV : List V := [.str "add", .str "sub", .str "mul", .str "neg", .str "any", .str "var", .str "put", .str "load", .str "out"]
def madeB (z y : Str) : Bool := z.cps.toList.all fun c => decide (c ∈ y.cps.toList)
def nameB (z : Str) : Bool := decide (1 ≤ z.length) && (decide (z.length ≤ 8) && (madeB z letS && !inV (.str z) keptV))
def figL (l : List Nat) : List Nat := if l.head? = some 45 then l.tail else l
def numB (z : Str) : Bool := decide (1 ≤ (figL z.cps.toList).length) && (decide ((figL z.cps.toList).length ≤ 60) && (((figL z.cps.toList).all fun c => decide (c ∈ figS.cps.toList)) && (decide (z.cps.toList = [48]) || decide ((figL z.cps.toList).head? ≠ some 48))))
theorem big {n : Nat} (h : n ≤ 1000) : n ≤ sizeLine := Nat.le_trans h (by decide)
theorem atI_in {α : Type} (l : List α) (k : Int) (h0 : 0 ≤ k) (h1 : k < (l.length : Int)) : ∃ c, atI l k = some c ∧ c ∈ l := by
  have hk : k.toNat < l.length := by omega
  have e : k = ((k.toNat : Nat) : Int) := by omega
  have q : atI l ((k.toNat : Nat) : Int) = some l[k.toNat] := atI_nat (List.getElem?_eq_getElem hk)
  rw [← e] at q
  exact ⟨_, q, List.getElem_mem hk⟩
theorem join_le (sep : Str) (ys : List Str) : (Txt.join sep ys).length ≤ (ys.map (·.length)).sum + ys.length * sep.length := by
  show (Builtin.Str.glued sep ys).length ≤ _
  rw [StrLaws.glued_eq_join]
  exact StrLaws.join_length_le sep ys
def Ones (i : Nat) (ys : List V) : Prop := ∃ zs : List Str, ys = zs.map V.str ∧ zs.length = i ∧ ∀ z ∈ zs, z.length = 1
theorem Ones.zero : Ones 0 [] := ⟨[], rfl, rfl, fun _ h => nomatch h⟩
theorem Ones.more {i : Nat} {ys : List V} (h : Ones i ys) (c : Nat) : Ones (i + 1) (ys ++ [.str ⟨#[c]⟩]) := by
  obtain ⟨zs, rfl, rfl, h1⟩ := h
  refine ⟨zs ++ [⟨#[c]⟩], by rw [List.map_append]; rfl, by rw [List.length_append, List.length_singleton], fun z hz => ?_⟩
  rcases List.mem_append.mp hz with h | h
  · exact h1 z h
  · rw [List.mem_singleton.mp h]; rfl
def Txts (xs : List V) : Prop := ∀ v ∈ xs, ∃ z : Str, v = .str z ∧ z.length ≤ 1000
theorem Txts.app {xs ys : List V} (h : Txts xs) (g : Txts ys) : Txts (xs ++ ys) := fun v hv => (List.mem_append.mp hv).elim (h v) (g v)
theorem Txts.snoc {xs : List V} {z : Str} (h : Txts xs) (g : z.length ≤ 1000) : Txts (xs ++ [.str z]) := h.app fun v hv => ⟨z, List.mem_singleton.mp hv, g⟩
theorem one_len (x : Nat) : (⟨#[x]⟩ : Str).length = 1 := rfl
end Pc
namespace Pc
open PySem PySem.Spec L2 PyProof.Rows
abbrev parts : List (Key × V) := [(Sum.inr "add", .int 2), (Sum.inr "sub", .int 2), (Sum.inr "mul", .int 2), (Sum.inr "neg", .int 1)]
def arS (z : Str) : Nat := if z = "add" then 2 else if z = "sub" then 2 else if z = "mul" then 2 else if z = "neg" then 1 else 0
def arV : V → Nat
  | .str z => arS z
  | _ => 0
def isW (v : V) : Prop := ∃ k : Key, v = kV k
theorem isW.str (z : Str) : isW (.str z) := ⟨Sum.inr z, rfl⟩
theorem isW.int (i : Int) : isW (.int i) := ⟨Sum.inl i, rfl⟩
theorem val_parts (k : Key) : (valV parts k).getD (.int 0) = .int (arV (kV k)) := by
  cases k with
  | inl i => rfl
  | inr z =>
    show (valV parts (Sum.inr z)).getD (.int 0) = .int (arS z)
    unfold arS
    by_cases h1 : z = "add"
    · subst h1; rw [valV_pos rfl, if_pos rfl]; rfl
    rw [valV_neg (fun e => h1 (Sum.inr.inj e).symm), if_neg h1]
    by_cases h2 : z = "sub"
    · subst h2; rw [valV_pos rfl, if_pos rfl]; rfl
    rw [valV_neg (fun e => h2 (Sum.inr.inj e).symm), if_neg h2]
    by_cases h3 : z = "mul"
    · subst h3; rw [valV_pos rfl, if_pos rfl]; rfl
    rw [valV_neg (fun e => h3 (Sum.inr.inj e).symm), if_neg h3]
    by_cases h4 : z = "neg"
    · subst h4; rw [valV_pos rfl, if_pos rfl]; rfl
    rw [valV_neg (fun e => h4 (Sum.inr.inj e).symm), if_neg h4]
    rfl
theorem in_parts (z : Str) : (valV parts (Sum.inr z)).isSome = decide (0 < arS z) := by
  unfold arS
  by_cases h1 : z = "add"
  · subst h1; rw [valV_pos rfl, if_pos rfl]; rfl
  rw [valV_neg (fun e => h1 (Sum.inr.inj e).symm), if_neg h1]
  by_cases h2 : z = "sub"
  · subst h2; rw [valV_pos rfl, if_pos rfl]; rfl
  rw [valV_neg (fun e => h2 (Sum.inr.inj e).symm), if_neg h2]
  by_cases h3 : z = "mul"
  · subst h3; rw [valV_pos rfl, if_pos rfl]; rfl
  rw [valV_neg (fun e => h3 (Sum.inr.inj e).symm), if_neg h3]
  by_cases h4 : z = "neg"
  · subst h4; rw [valV_pos rfl, if_pos rfl]; rfl
  rw [valV_neg (fun e => h4 (Sum.inr.inj e).symm), if_neg h4]
  rfl
theorem arS_le (z : Str) : arS z ≤ 2 := by
  unfold arS
  repeat' split
  all_goals decide
theorem arV_le (v : V) : arV v ≤ 2 := by cases v <;> first | exact arS_le _ | exact Nat.zero_le _
theorem arS_cases {z : Str} (h : 0 < arS z) : z = "add" ∨ z = "sub" ∨ z = "mul" ∨ z = "neg" := by
  unfold arS at h
  by_cases h1 : z = "add"
  · exact .inl h1
  by_cases h2 : z = "sub"
  · exact .inr (.inl h2)
  by_cases h3 : z = "mul"
  · exact .inr (.inr (.inl h3))
  by_cases h4 : z = "neg"
  · exact .inr (.inr (.inr h4))
  rw [if_neg h1, if_neg h2, if_neg h3, if_neg h4] at h
  exact absurd h (by decide)
theorem toDigits_len : ∀ (n m : Nat), m < 10 ^ (n + 1) → (Nat.toDigits 10 m).length ≤ n + 1
  | 0, m, h => by rw [Nat.toDigits_of_lt_base (by simpa using h)]; exact Nat.le_refl _
  | n + 1, m, h => by
    by_cases hm : m < 10
    · rw [Nat.toDigits_of_lt_base hm]
      show 1 ≤ _
      omega
    have hr : m % 10 < 10 := Nat.mod_lt m (by decide)
    have t : Nat.toDigits 10 (m / 10) ++ Nat.toDigits 10 (m % 10) = Nat.toDigits 10 (10 * (m / 10) + m % 10) := Nat.toDigits_append_toDigits (by decide) (by omega) hr
    rw [Nat.div_add_mod] at t
    have ih := toDigits_len n (m / 10) (by rw [Nat.pow_succ] at h; omega)
    rw [← t, List.length_append, Nat.toDigits_of_lt_base hr]
    show _ + 1 ≤ _
    omega
theorem digitChar_ne : ∀ d : Nat, 0 < d → d < 10 → (Nat.digitChar d).toNat ≠ 48 := by
  intro d h1 h2
  have : d = 1 ∨ d = 2 ∨ d = 3 ∨ d = 4 ∨ d = 5 ∨ d = 6 ∨ d = 7 ∨ d = 8 ∨ d = 9 := by omega
  rcases this with rfl | rfl | rfl | rfl | rfl | rfl | rfl | rfl | rfl <;> decide
theorem toDigits_head (m : Nat) : 0 < m → ∃ c r, (Nat.toDigits 10 m).map Char.toNat = c :: r ∧ c ≠ 48 := by
  induction m using Nat.strongRecOn with
  | _ m ih =>
    intro h0
    by_cases h : m < 10
    · rw [Nat.toDigits_of_lt_base h]
      exact ⟨_, _, rfl, digitChar_ne m h0 h⟩
    · have hm : m % 10 < 10 := Nat.mod_lt m (by decide)
      have t : Nat.toDigits 10 (m / 10) ++ Nat.toDigits 10 (m % 10) = Nat.toDigits 10 (10 * (m / 10) + m % 10) := Nat.toDigits_append_toDigits (by decide) (by omega) hm
      rw [Nat.div_add_mod] at t
      obtain ⟨c, r, e, hc⟩ := ih (m / 10) (by omega) (by omega)
      rw [← t, List.map_append, e]
      exact ⟨c, _, rfl, hc⟩
def digs (m : Nat) : List Nat := (Nat.toDigits 10 m).map Char.toNat
theorem digs_digit (m : Nat) : NumText.AllDigits (digs m) := by
  intro c hc
  obtain ⟨ch, hch, e⟩ := List.mem_map.mp hc
  have r := PyProof.Rows.digit_range (Nat.isDigit_of_mem_toDigits (by decide) (by decide) hch)
  rw [← e]
  exact r
theorem digs_ne (m : Nat) : digs m ≠ [] := by
  unfold digs
  intro e
  have h := PySem.toDigits_len_ge 10 m
  rw [List.map_eq_nil_iff.mp e] at h
  exact absurd h (by decide)
theorem digs_len {m : Nat} (h : m < 10 ^ 60) : (digs m).length ≤ 60 := by
  unfold digs
  rw [List.length_map]
  exact toDigits_len 59 m h
theorem digs_head (m : Nat) : digs m = [48] ∨ ∃ c r, digs m = c :: r ∧ c ≠ 48 := by
  cases m with
  | zero => exact .inl rfl
  | succ m => exact .inr (toDigits_head (m + 1) (Nat.succ_pos m))
theorem text_nat (m : Nat) : (textV (.int (m : Int))).cps.toList = digs m := PySem.W.KIN.signs_num m
theorem text_neg (m : Nat) : (textV (.int (Int.negSucc m))).cps.toList = 45 :: digs (m + 1) := by
  show (Str.ofString (toString (Int.negSucc m))).cps.toList = _
  rw [PyProof.Rows.signs_ofString]
  show ("-" ++ Nat.repr (m + 1)).toList.map Char.toNat = _
  rw [String.toList_append, List.map_append, Nat.toList_repr]
  rfl
theorem mem_fig (c : Nat) : c ∈ figS.cps.toList ↔ (48 ≤ c ∧ c ≤ 57) := by
  have e : figS.cps.toList = [48, 49, 50, 51, 52, 53, 54, 55, 56, 57] := by decide +kernel
  rw [e]
  simp only [List.mem_cons, List.not_mem_nil, or_false]
  omega
theorem mem_let (c : Nat) : c ∈ letS.cps.toList ↔ (97 ≤ c ∧ c ≤ 122) := by
  have e : letS.cps.toList = List.range' 97 26 := by decide +kernel
  rw [e, List.mem_range']
  constructor
  · rintro ⟨i, h1, h2⟩; omega
  · intro h; exact ⟨c - 97, by omega, by omega⟩
theorem digs_all (m : Nat) : ((digs m).all fun c => decide (c ∈ figS.cps.toList)) = true := by
  rw [List.all_eq_true]
  intro c hc
  exact decide_eq_true ((mem_fig c).mpr (digs_digit m c hc))
theorem digs_no45 (m : Nat) : (digs m).head? ≠ some 45 := by
  rcases digs_head m with h | ⟨c, r, h, _⟩
  · rw [h]; decide
  · rw [h]
    intro e
    have := digs_digit m c (by rw [h]; exact List.mem_cons_self)
    have e' : c = 45 := by simpa using e
    omega
theorem read_nat {m : Nat} (h : m < 10 ^ 60) : numB (textV (.int (m : Int))) = true ∧ PySem.intText? (textV (.int (m : Int))) = some (m : Int) ∧ (textV (.int (m : Int))).length ≤ 61 := by
  have e := text_nat m
  have hl := digs_len h
  have hn := digs_ne m
  refine ⟨?_, ?_, by rw [slen, e]; omega⟩
  · unfold numB
    rw [e]
    have f : figL (digs m) = digs m := by unfold figL; rw [if_neg (digs_no45 m)]
    rw [f, digs_all, decide_eq_true (show 1 ≤ (digs m).length from List.length_pos_iff.mpr hn), decide_eq_true hl]
    rcases digs_head m with h | ⟨c, r, h, hc⟩
    · rw [h]; rfl
    · have : (digs m).head? ≠ some 48 := by rw [h]; intro q; exact hc (by simpa using q)
      rw [decide_eq_true this]
      simp
  · have q := PySem.intText_digits (x := textV (.int (m : Int))) (by rw [e]; exact digs_digit m) (by rw [e]; exact hn) (by rw [slen, e]; omega)
    rw [e] at q
    rw [q]
    unfold digs
    rw [PySem.W.KIN.val_back]
theorem read_negS {m : Nat} (h : m + 1 < 10 ^ 60) : numB (textV (.int (Int.negSucc m))) = true ∧ PySem.intText? (textV (.int (Int.negSucc m))) = some (Int.negSucc m) ∧ (textV (.int (Int.negSucc m))).length ≤ 61 := by
  have e := text_neg m
  have hl := digs_len h
  have hn := digs_ne (m + 1)
  refine ⟨?_, ?_, by rw [slen, e, List.length_cons]; omega⟩
  · unfold numB
    rw [e]
    have f : figL (45 :: digs (m + 1)) = digs (m + 1) := by unfold figL; simp
    rw [f, digs_all, decide_eq_true (show 1 ≤ (digs (m + 1)).length from List.length_pos_iff.mpr hn), decide_eq_true hl]
    rcases toDigits_head (m + 1) (Nat.succ_pos m) with ⟨c, r, h, hc⟩
    have : (digs (m + 1)).head? ≠ some 48 := by
      show ((Nat.toDigits 10 (m + 1)).map Char.toNat).head? ≠ some 48
      rw [h]; intro q; exact hc (by simpa using q)
    rw [decide_eq_true this]
    simp
  · have q := PySem.intText_neg (x := textV (.int (Int.negSucc m))) e (digs_digit _) hn (by rw [slen, e, List.length_cons]; omega)
    rw [q]
    unfold digs
    rw [PySem.W.KIN.val_back]
    rfl
def okW : V → Prop
  | .int i => i.natAbs < 10 ^ 60
  | .str z => nameB z = true ∨ 0 < arS z
  | _ => False
theorem read_int {i : Int} (h : i.natAbs < 10 ^ 60) : numB (textV (.int i)) = true ∧ PySem.intText? (textV (.int i)) = some i ∧ (textV (.int i)).length ≤ 61 := by
  cases i with
  | ofNat m => exact read_nat h
  | negSucc m => exact read_negS h
theorem okW.isW {v : V} (h : okW v) : isW v := by
  cases v with
  | int i => exact isW.int i
  | str z => exact isW.str z
  | _ => exact h.elim
theorem log_small {m : Nat} (h : m < 10 ^ 60) : m.log2 < 1920 := by
  by_cases h0 : m = 0
  · subst h0; decide
  · exact (Nat.log2_lt h0).mpr (Nat.lt_of_lt_of_le h (by decide))
theorem okW.word {v : V} (h : okW v) : wordV v := by
  cases v with
  | int i => exact log_small h
  | str z => exact True.intro
  | _ => exact h.elim
theorem name_codes {z : Str} (h : nameB z = true) : z.cps.toList ≠ [] ∧ z.length ≤ 8 ∧ ∀ c ∈ z.cps.toList, 97 ≤ c ∧ c ≤ 122 := by
  unfold nameB madeB at h
  simp only [Bool.and_eq_true, decide_eq_true_eq, List.all_eq_true] at h
  obtain ⟨h1, h2, h3, _⟩ := h
  exact ⟨fun e => by rw [slen, e] at h1; exact absurd h1 (by decide), h2, fun c hc => (mem_let c).mp (h3 c hc)⟩
theorem op_codes {z : Str} (h : 0 < arS z) : z.cps.toList ≠ [] ∧ z.length ≤ 8 ∧ ∀ c ∈ z.cps.toList, 97 ≤ c ∧ c ≤ 122 := by
  rcases arS_cases h with rfl | rfl | rfl | rfl <;> refine ⟨by decide +kernel, by decide +kernel, ?_⟩ <;> decide +kernel
theorem str_codes {z : Str} (h : okW (.str z)) : z.cps.toList ≠ [] ∧ z.length ≤ 8 ∧ ∀ c ∈ z.cps.toList, 97 ≤ c ∧ c ≤ 122 := h.elim name_codes op_codes
theorem okW.text {v : V} (h : okW v) : (textV v).length ≤ 61 ∧ 32 ∉ (textV v).cps.toList := by
  cases v with
  | int i =>
    refine ⟨(read_int h).2.2, ?_⟩
    cases i with
    | ofNat m =>
      show 32 ∉ (textV (.int (m : Int))).cps.toList
      rw [text_nat]
      intro hc
      have := digs_digit m 32 hc
      omega
    | negSucc m =>
      rw [text_neg]
      intro hc
      rcases List.mem_cons.mp hc with e | hc
      · exact absurd e (by decide)
      · have := digs_digit (m + 1) 32 hc
        omega
  | str z =>
    obtain ⟨h1, h2, h3⟩ := str_codes h
    refine ⟨by show z.length ≤ 61; omega, fun hc => ?_⟩
    have := h3 32 hc
    omega
  | _ => exact h.elim
def isTerm (ws : List V) : Prop := pend 1 (ws.map arV) = some 0
theorem isTerm.ne {ws : List V} (h : isTerm ws) : ws ≠ [] := by
  intro e
  rw [e] at h
  cases h
def spHow : Sp := fun vs H Q _ => ∃ v, vs = [v] ∧ isW v ∧ Q (.int (arV v)) H
end Pc
namespace Pc
open PySem PySem.Spec L2 PyProof.Rows
def Deck (H : Hp) (d b : Addr) (ns : List Int) (n : Nat) : Prop := H d = some (.lst [.ref b, .int (n : Int)]) ∧ H b = some (.lst (List.map V.int ns))
def SameB (d : Addr) (H H' : Hp) : Prop := ∀ b o, b ≠ d → H b = some o → H' b = some o
theorem SameB.refl (d : Addr) (H : Hp) : SameB d H H := fun _ _ _ h => h
theorem SameB.trans {d : Addr} {H H1 H2 : Hp} (a : SameB d H H1) (b : SameB d H1 H2) : SameB d H H2 := fun c o n h => b c o n (a c o n h)
theorem SameB.of {d : Addr} {H H' : Hp} (a : Same H H') : SameB d H H' := fun b o _ h => a b o h
theorem SameB.upd {d p : Addr} {H H' : Hp} (a : SameB d H H') (hp : H p = none) (o : HO) : SameB d H (L2.upd H' p o) := fun b u n h => by rw [upd_ne (ne_of_none h hp)]; exact a b u n h
theorem Deck.ne {H : Hp} {d b : Addr} {ns : List Int} {n : Nat} (h : Deck H d b ns n) : b ≠ d := ne_of h.2 h.1 (by intro e; cases ns <;> simp at e)
theorem Deck.next {H H' : Hp} {d b : Addr} {ns : List Int} {n k : Nat} (h : Deck H d b ns n) (s : SameB d H H') (e : H' d = some (.lst [.ref b, .int (k : Int)])) : Deck H' d b ns k := ⟨e, s b _ h.ne h.2⟩
theorem Deck.same {H H' : Hp} {d b : Addr} {ns : List Int} {n : Nat} (h : Deck H d b ns n) (s : Same H H') : Deck H' d b ns n := ⟨s _ _ h.1, s _ _ h.2⟩
def lenAt (H : Hp) (p : Addr) : Nat := match H p with | some (.lst ws) => ws.length | _ => 0
theorem lenAt_of {H : Hp} {p : Addr} {ws : List V} (h : H p = some (.lst ws)) : lenAt H p = ws.length := by unfold lenAt; rw [h]
def spNext : Sp := fun vs H Q _ => ∃ (d b : Addr) (ns : List Int) (n : Nat), vs = [.ref d] ∧ Deck H d b ns n ∧ n ≤ 100000 ∧ ∀ (c : Int) (H' : Hp), SameB d H H' → H' d = some (.lst [.ref b, .int ((n + 1 : Nat) : Int)]) → Q (.int c) H'
def Names (H : Hp) (l : Addr) (k : Nat) : Prop := ∃ zs : List Str, H l = some (.lst (List.map V.str zs)) ∧ zs.length = k ∧ ∀ z ∈ zs, nameB z = true
def TermAt (H : Hp) (t : Addr) (m : Nat) : Prop := ∃ ws : List V, H t = some (.tup ws) ∧ (∀ v ∈ ws, okW v) ∧ isTerm ws ∧ ws.length ≤ m
def spTerm (k : Nat) : Sp := fun vs H Q _ => ∃ (d b l : Addr) (ns : List Int) (m n : Nat), vs = [.ref d, .ref l, .int (m : Int)] ∧ Deck H d b ns n ∧ Names H l k ∧ 1 ≤ m ∧ m ≤ 200 ∧ n ≤ 10000 ∧ ∀ (t : Addr) (n' : Nat) (H' : Hp), SameB d H H' → H' d = some (.lst [.ref b, .int (n' : Int)]) → n' ≤ n + m → H t = none → TermAt H' t m → Q (.ref t) H'
theorem inV_str {z : Str} : ∀ {xs : List V}, inV (.str z) xs = true → .str z ∈ xs := by
  intro xs h
  unfold inV at h
  obtain ⟨y, hy, e⟩ := List.any_eq_true.mp h
  cases y with
  | str x =>
    have e' : x = z := by simpa [eqV] using e
    exact e' ▸ hy
  | _ => simp [eqV] at e
theorem let_at (k : Int) : ∃ c : Nat, atI letS.cps.toList (k % 26) = some (97 + c) ∧ c < 26 := by
  obtain ⟨c, h1, h2⟩ := atI_in letS.cps.toList (k % 26) (Int.emod_nonneg _ (by decide)) (by rw [show letS.cps.toList.length = 26 by decide +kernel]; omega)
  have h := (mem_let c).mp h2
  exact ⟨c - 97, by rw [show 97 + (c - 97) = c by omega]; exact h1, by omega⟩
def keptS : List Str := ["add", "sub", "mul", "neg", "any", "var", "put", "load", "out"]
theorem ar_neg : arS "neg" = 1 := by decide +kernel
theorem SameB.free {d t : Addr} {H H' : Hp} {o : HO} (s : SameB d H H') (hd : H' d = some o) (ht : H' t = none) : H t = none := by
  cases e : H t with
  | none => rfl
  | some u =>
    by_cases h : t = d
    · subst h; rw [hd] at ht; cases ht
    · rw [s t u h e] at ht; cases ht
theorem strs_at {zs : List Str} {k : Int} {n : Nat} (hn : zs.length = n) (h0 : 0 ≤ k) (h1 : k < (n : Int)) : ∃ z, atI (zs.map V.str) k = some (.str z) ∧ z ∈ zs := by
  obtain ⟨x, h1, h2⟩ := atI_in (zs.map V.str) k h0 (by rw [List.length_map, hn]; exact h1)
  obtain ⟨z, hz, rfl⟩ := List.mem_map.mp h2
  exact ⟨z, h1, hz⟩
theorem Names.same {H H' : Hp} {l : Addr} {k : Nat} (h : Names H l k) (s : Same H H') : Names H' l k := by
  obtain ⟨zs, h1, h2⟩ := h
  exact ⟨zs, s _ _ h1, h2⟩
theorem Names.sameB {H H' : Hp} {d l : Addr} {k : Nat} (h : Names H l k) (s : SameB d H H') (hn : l ≠ d) : Names H' l k := by
  obtain ⟨zs, h1, h2⟩ := h
  exact ⟨zs, s _ _ hn h1, h2⟩
theorem Names.ne {H : Hp} {d b l : Addr} {ns : List Int} {n k : Nat} (h : Names H l k) (hD : Deck H d b ns n) : l ≠ d := by
  obtain ⟨zs, h1, h2⟩ := h
  exact ne_of h1 hD.1 (by intro e; cases zs <;> simp at e)
theorem TermAt.same {H H' : Hp} {t : Addr} {m : Nat} (h : TermAt H t m) (s : Same H H') : TermAt H' t m := by
  obtain ⟨ws, h1, h2⟩ := h
  exact ⟨ws, s _ _ h1, h2⟩
theorem TermAt.sameB {H H' : Hp} {d b t : Addr} {ns : List Int} {n m : Nat} (h : TermAt H t m) (hD : Deck H d b ns n) (s : SameB d H H') : TermAt H' t m := by
  obtain ⟨ws, h1, h2⟩ := h
  exact ⟨ws, s _ _ (ne_of h1 hD.1 (by intro e; cases e)) h1, h2⟩
theorem cut_ints (ns : List Int) (lo hi : Option Int) : ∃ ms : List Int, cutV (ns.map V.int) lo hi = ms.map V.int ∧ ms.length ≤ ns.length := by
  refine ⟨_, by unfold cutV; rw [← List.map_drop, ← List.map_take], ?_⟩
  rw [List.length_take, List.length_drop]
  omega
end Pc
namespace Pc
open PySem PySem.Spec L2 PyProof.Rows
def opN (z : Str) (a b : Int) : Int := if z = "add" then a + b else if z = "sub" then a - b else if z = "mul" then a * b else -a
def numW : V → Prop
  | .int _ => True
  | .str z => 0 < arS z
  | _ => False
def stepN (w : V) (st : List Int) : List Int := match w with
  | .int i => i :: st
  | .str z => opN z (st.getD 0 0) (st.getD 1 0) :: st.drop (arS z)
  | _ => 0 :: st
def runN (ws : List V) : List Int := ws.foldr stepN []
theorem runN_cons (w : V) (r : List V) : runN (w :: r) = stepN w (runN r) := rfl
theorem runN_len : ∀ (ws : List V) (l : Nat), (∀ v ∈ ws, numW v) → pend l (ws.map arV) = some 0 → (runN ws).length = l
  | [], l, _, h => by
    have : l = 0 := Option.some.inj h
    rw [this]; rfl
  | w :: r, 0, _, h => by cases h
  | w :: r, l + 1, hw, h => by
    have ih := runN_len r (l + arV w) (fun v hv => hw v (List.mem_cons_of_mem _ hv)) h
    rw [runN_cons]
    have hn := hw w List.mem_cons_self
    cases w with
    | int i =>
      show (i :: runN r).length = l + 1
      rw [List.length_cons, ih]
      rfl
    | str z =>
      show (_ :: (runN r).drop (arS z)).length = l + 1
      rw [List.length_cons, List.length_drop, ih]
      show l + arS z - arS z + 1 = l + 1
      omega
    | _ => exact hn.elim
def mag (x : Int) : Nat := max x.natAbs 2
def prodM (st : List Int) : Nat := st.foldr (fun x p => mag x * p) 1
theorem mag2 (x : Int) : 2 ≤ mag x := Nat.le_max_right _ _
theorem prodM_pos : ∀ st : List Int, 1 ≤ prodM st
  | [] => Nat.le_refl _
  | x :: r => by
    show 1 ≤ mag x * prodM r
    have := mag2 x
    have h := prodM_pos r
    exact Nat.le_trans (by omega) (Nat.le_mul_of_pos_right (mag x) h)
theorem prodM_cons (x : Int) (r : List Int) : prodM (x :: r) = mag x * prodM r := rfl
theorem mag_le : ∀ (st : List Int) (x : Int), x ∈ st → mag x ≤ prodM st
  | y :: r, x, h => by
    rw [prodM_cons]
    rcases List.mem_cons.mp h with rfl | h
    · exact Nat.le_mul_of_pos_right _ (prodM_pos r)
    · exact Nat.le_trans (mag_le r x h) (Nat.le_mul_of_pos_left _ (by have := mag2 y; omega))
theorem mul_ge_add {u v : Nat} (hu : 2 ≤ u) (hv : 2 ≤ v) : u + v ≤ u * v := by
  obtain ⟨a, rfl⟩ : ∃ a, u = a + 2 := ⟨u - 2, by omega⟩
  obtain ⟨b, rfl⟩ : ∃ b, v = b + 2 := ⟨v - 2, by omega⟩
  have : (a + 2) * (b + 2) = a * b + 2 * a + 2 * b + 4 := by
    rw [Nat.add_mul, Nat.mul_add, Nat.mul_add]
    omega
  omega
theorem mag_op (z : Str) (a b : Int) : mag (opN z a b) ≤ mag a * mag b ∧ (z = "neg" → mag (opN z a b) = mag a) := by
  have ha := mag2 a
  have hb := mag2 b
  have hs := mul_ge_add ha hb
  have la : a.natAbs ≤ mag a := Nat.le_max_left _ _
  have lb : b.natAbs ≤ mag b := Nat.le_max_left _ _
  have le : ∀ n : Nat, n ≤ mag a * mag b → max n 2 ≤ mag a * mag b := fun n h => Nat.max_le.mpr ⟨h, by omega⟩
  constructor
  · unfold opN
    split
    · exact le _ (by have := Int.natAbs_add_le a b; omega)
    split
    · exact le _ (by have := Int.natAbs_sub_le a b; omega)
    split
    · refine le _ ?_
      rw [Int.natAbs_mul]
      exact Nat.mul_le_mul la lb
    · refine le _ ?_
      rw [Int.natAbs_neg]
      have : mag a ≤ mag a * mag b := Nat.le_mul_of_pos_right _ (by omega)
      omega
  · intro e
    have n1 : ¬ ("neg" : Str) = "add" := by decide +kernel
    have n2 : ¬ ("neg" : Str) = "sub" := by decide +kernel
    have n3 : ¬ ("neg" : Str) = "mul" := by decide +kernel
    subst e
    unfold opN
    rw [if_neg n1, if_neg n2, if_neg n3]
    show max (-a).natAbs 2 = max a.natAbs 2
    rw [Int.natAbs_neg]
def leafB : V → Prop
  | .int i => mag i ≤ 2 ^ 200
  | _ => True
theorem runN_size : ∀ (ws : List V) (l : Nat), (∀ v ∈ ws, numW v ∧ leafB v) → pend l (ws.map arV) = some 0 → prodM (runN ws) ≤ 2 ^ (200 * ws.length)
  | [], _, _, _ => Nat.le_refl _
  | w :: r, 0, _, h => by cases h
  | w :: r, l + 1, hw, h => by
    have hr : ∀ v ∈ r, numW v ∧ leafB v := fun v hv => hw v (List.mem_cons_of_mem _ hv)
    have ih := runN_size r (l + arV w) hr h
    have hlen := runN_len r (l + arV w) (fun v hv => (hr v hv).1) h
    have hn := hw w List.mem_cons_self
    have e : 200 * (w :: r).length = 200 + 200 * r.length := by rw [List.length_cons]; omega
    rw [runN_cons, e, Nat.pow_add]
    have hp : 1 ≤ 2 ^ 200 := Nat.one_le_two_pow
    cases w with
    | int i =>
      show mag i * prodM (runN r) ≤ _
      exact Nat.mul_le_mul hn.2 ih
    | str z =>
      have ha : 0 < arS z := hn.1
      have hz : (runN r).length = l + arS z := hlen
      show mag (opN z ((runN r).getD 0 0) ((runN r).getD 1 0)) * prodM ((runN r).drop (arS z)) ≤ _
      refine Nat.le_trans ?_ (Nat.le_trans ih (Nat.le_mul_of_pos_left _ hp))
      by_cases hneg : z = "neg"
      · have h1 : arS z = 1 := by rw [hneg]; exact ar_neg
        rw [h1] at hz ⊢
        obtain ⟨a, t, et⟩ : ∃ a t, runN r = a :: t := List.exists_cons_of_ne_nil (by intro q; rw [q] at hz; simp at hz)
        rw [et, (mag_op z _ _).2 hneg]
        exact Nat.le_refl _
      · have h2 : arS z = 2 := by
          rcases arS_cases ha with rfl | rfl | rfl | rfl
          · decide +kernel
          · decide +kernel
          · decide +kernel
          · exact absurd rfl hneg
        rw [h2] at hz ⊢
        obtain ⟨a, t, et⟩ : ∃ a t, runN r = a :: t := List.exists_cons_of_ne_nil (by intro q; rw [q] at hz; simp at hz)
        rw [et] at hz ⊢
        obtain ⟨b, t', et'⟩ : ∃ b t', t = b :: t' := List.exists_cons_of_ne_nil (by intro q; rw [q] at hz; simp at hz)
        rw [et']
        show mag (opN z a b) * prodM t' ≤ mag a * (mag b * prodM t')
        rw [← Nat.mul_assoc]
        exact Nat.mul_le_mul_right _ (mag_op z a b).1
    | _ => exact hn.1.elim
end Pc
namespace L2
open PySem PySem.Spec PyProof.Rows
def bitsOk (i : Int) : Prop := ∃ n, n ≤ 1000000 ∧ i.natAbs < 2 ^ n
theorem bitsOk.le {i : Int} (h : bitsOk i) : Builtin.Int.intBits i ≤ 2 ^ 20 := by
  obtain ⟨n, hn, hi⟩ := h
  unfold Builtin.Int.intBits
  split
  · exact Nat.zero_le _
  · rename_i h0
    have hne : i.natAbs ≠ 0 := by
      intro e
      exact h0 (by rw [Int.natAbs_eq_zero.mp e]; rfl)
    have := (Nat.log2_lt hne).mpr hi
    have e : (2 : Nat) ^ 20 = 1048576 := rfl
    omega
def CBits (i j : Int) : Prop := bitsOk i ∧ bitsOk j
theorem op_mulB {X : Cx} : OpR X (binaryOp .Mult) (rI CBits fun i j => .int (i * j)) := opI fun _ _ _ _ _ _ _ hc q => mul_int q (IntMulOk.of_bits hc.1.le hc.2.le)
theorem FnV.up {P : Program} {w : World} {K : PySem.W.Frag} {mg : Str → Option Value} {base : Heap} {j k : Nat} {ps : List Str} {sp : Sp} {v : V} (h : FnV P w K mg base j ps sp v) (l : j ≤ k) : FnV P w K mg base k ps sp v := by
  obtain ⟨f, fd, e, F, r⟩ := h
  exact ⟨f, fd, e, F.mono l, r⟩
end L2
namespace Pc
open PySem PySem.Spec L2 PyProof.Rows
theorem bits_of_run {ws : List V} {l : Nat} (hw : ∀ v ∈ ws, numW v ∧ leafB v) (h : pend l (ws.map arV) = some 0) (hl : ws.length ≤ 1000) {x : Int} (hx : x ∈ runN ws) : bitsOk x := by
  refine ⟨200 * ws.length + 1, by omega, ?_⟩
  have h1 := mag_le _ _ hx
  have h2 := runN_size ws l hw h
  have h3 : x.natAbs ≤ mag x := Nat.le_max_left _ _
  rw [Nat.pow_succ]
  have h4 : 1 ≤ 2 ^ (200 * ws.length) := Nat.one_le_two_pow
  omega
def ValsAt (H : Hp) (a : Addr) (ρ : Str → Option Int) : Prop := ∃ kvs : List (Key × V), H a = some (.dK kvs) ∧ ∀ z, valV kvs (Sum.inr z) = (ρ z).map V.int
theorem ValsAt.same {H H' : Hp} {a : Addr} {ρ : Str → Option Int} (h : ValsAt H a ρ) (s : Same H H') : ValsAt H' a ρ := by
  obtain ⟨kvs, h1, h2⟩ := h
  exact ⟨kvs, s _ _ h1, h2⟩
def valW (ρ : Str → Option Int) : V → V
  | .str z => if 0 < arS z then .str z else .int ((ρ z).getD 0)
  | v => v
def hasV (ρ : Str → Option Int) : V → Prop
  | .str z => 0 < arS z ∨ (ρ z).isSome = true
  | _ => True
theorem arV_valW (ρ : Str → Option Int) (v : V) : arV (valW ρ v) = arV v := by
  cases v with
  | str z =>
    show arV (if 0 < arS z then V.str z else V.int _) = arS z
    split
    · rfl
    · show 0 = arS z
      omega
  | _ => rfl
theorem map_arV (ρ : Str → Option Int) (ws : List V) : (ws.map (valW ρ)).map arV = ws.map arV := by
  rw [List.map_map]
  exact List.map_congr_left fun v _ => arV_valW ρ v
theorem numW_valW {ρ : Str → Option Int} {v : V} (h : isW v) : numW (valW ρ v) := by
  obtain ⟨k, rfl⟩ := h
  cases k with
  | inl i => exact True.intro
  | inr z =>
    show numW (if 0 < arS z then V.str z else V.int _)
    by_cases h : 0 < arS z
    · rw [if_pos h]; exact h
    · rw [if_neg h]; exact True.intro
def worthN (ρ : Str → Option Int) (ws : List V) : Int := (runN (ws.map (valW ρ))).getD 0 0
def spJoinN : Sp := fun vs H Q _ => ∃ (z : Str) (pl : Addr) (xs : List Int), vs = [.str z, .ref pl] ∧ 0 < arS z ∧ H pl = some (.lst (List.map V.int xs)) ∧ xs.length = arS z ∧ (∀ x ∈ xs, bitsOk x) ∧ Q (.int (opN z (xs.getD 0 0) (xs.getD 1 0))) H
def spFoldN (P : Program) (w : World) (K : PySem.W.Frag) (mg : Str → Option Value) (base : Heap) : Sp := fun vs H Q _ => ∃ (l : Addr) (fv : V) (ws : List V), vs = [.ref l, fv] ∧ FnV P w K mg base 1 ["word", "parts"] spJoinN fv ∧ SqL K H l ws ∧ (∀ v ∈ ws, numW v ∧ leafB v) ∧ isTerm ws ∧ ws.length ≤ 1000 ∧ ∀ H', Same H H' → Q (.int ((runN ws).getD 0 0)) H'
def spWithN : Sp := fun vs H Q _ => ∃ (v : V) (a : Addr) (ρ : Str → Option Int), vs = [v, .ref a] ∧ isW v ∧ ValsAt H a ρ ∧ hasV ρ v ∧ Q (valW ρ v) H
def spWorth (K : PySem.W.Frag) : Sp := fun vs H Q _ => ∃ (t a : Addr) (ws : List V) (ρ : Str → Option Int), vs = [.ref t, .ref a] ∧ SqT K H t ws ∧ ValsAt H a ρ ∧ (∀ v ∈ ws, isW v ∧ hasV ρ v ∧ leafB (valW ρ v)) ∧ isTerm ws ∧ ws.length ≤ 1000 ∧ ∀ H', Same H H' → Q (.int (worthN ρ ws)) H'
end Pc
namespace Pc
open PySem PySem.Spec L2 PyProof.Rows
theorem pend_le : ∀ (r : List Nat) (l : Nat), pend l r = some 0 → l ≤ r.length
  | [], l, h => by
    have : l = 0 := Option.some.inj h
    omega
  | a :: r, 0, h => by cases h
  | a :: r, l + 1, h => by
    have := pend_le r (l + a) h
    rw [List.length_cons]
    omega
theorem opN_neg (a b b' : Int) : opN "neg" a b = opN "neg" a b' := by
  have n1 : ¬ ("neg" : Str) = "add" := by decide +kernel
  have n2 : ¬ ("neg" : Str) = "sub" := by decide +kernel
  have n3 : ¬ ("neg" : Str) = "mul" := by decide +kernel
  unfold opN
  rw [if_neg n1, if_neg n2, if_neg n3, if_neg n1, if_neg n2, if_neg n3]
theorem op_take {z : Str} (hz : 0 < arS z) (st : List Int) : opN z ((st.take (arS z)).getD 0 0) ((st.take (arS z)).getD 1 0) = opN z (st.getD 0 0) (st.getD 1 0) := by
  have g : ∀ i, i < arS z → (st.take (arS z)).getD i 0 = st.getD i 0 := fun i hi => by
    rw [List.getD_eq_getElem?_getD, List.getD_eq_getElem?_getD, List.getElem?_take_of_lt hi]
  rw [g 0 hz]
  by_cases h2 : arS z = 2
  · rw [g 1 (by omega)]
  · have hneg : z = "neg" := by
      rcases arS_cases hz with rfl | rfl | rfl | rfl
      · exact absurd (by decide +kernel) h2
      · exact absurd (by decide +kernel) h2
      · exact absurd (by decide +kernel) h2
      · rfl
    subst hneg
    exact opN_neg _ _ _
def runW (ρ : Str → Option Int) (ws : List V) : List Int := runN (ws.map (valW ρ))
theorem runW_len {ρ : Str → Option Int} {xs : List V} {l : Nat} (hx : ∀ v ∈ xs, isW v) (h : pend l (xs.map arV) = some 0) : (runW ρ xs).length = l := by
  refine runN_len _ l (fun v hv => ?_) (by rw [map_arV]; exact h)
  obtain ⟨u, hu, rfl⟩ := List.mem_map.mp hv
  exact numW_valW (hx u hu)
theorem runW_one {ρ : Str → Option Int} {xs : List V} (hx : ∀ v ∈ xs, isW v) (h : isTerm xs) : runW ρ xs = [worthN ρ xs] := by
  have hl := runW_len (ρ := ρ) hx h
  have e : worthN ρ xs = (runW ρ xs).getD 0 0 := rfl
  rw [e]
  match runW ρ xs, hl with
  | [x], _ => rfl
theorem cut_tail (ws : List V) (p n : Nat) (h : p + n ≤ ws.length) : cutV ws (some ((p : Int) + (n : Int))) none = ws.drop (p + n) := by
  unfold cutV
  rw [show (p : Int) + (n : Int) = ((p + n : Nat) : Int) by omega, HT.sIx_nat, HT.sIx_none, Nat.min_eq_left h]
  apply List.take_of_length_le
  rw [List.length_drop]
  omega
theorem three_in {x : V} (hx : isW x) : (inV x [V.str "add", V.str "sub", V.str "mul"] = true) ↔ arV x = 2 := by
  obtain ⟨k, rfl⟩ := hx
  cases k with
  | inl i =>
    constructor
    · intro h
      exact absurd h (by simp [inV, eqV, kV])
    · intro h
      exact absurd h (by show ¬ (0 = 2); decide)
  | inr z =>
    show (inV (.str z) _ = true) ↔ arS z = 2
    constructor
    · intro h
      have := inV_str h
      simp only [List.mem_cons, List.not_mem_nil, or_false, V.str.injEq] at this
      rcases this with rfl | rfl | rfl <;> decide +kernel
    · intro h
      rcases arS_cases (z := z) (by omega) with rfl | rfl | rfl | rfl
      · decide +kernel
      · decide +kernel
      · decide +kernel
      · rw [ar_neg] at h
        exact absurd h (by decide)
def six : List Str := ["a", "b", "ab", "kind", "addd", "neon"]
theorem six_name {z : Str} (h : z ∈ six) : nameB z = true := by
  have all : six.all nameB = true := by decide +kernel
  exact List.all_eq_true.mp all z h
def okL : V → Prop
  | .int i => i.natAbs ≤ 100
  | .str z => z ∈ six ∨ 0 < arS z
  | _ => False
theorem okL.ok {v : V} (h : okL v) : okW v := by
  cases v with
  | int i =>
    have h : i.natAbs ≤ 100 := h
    show i.natAbs < 10 ^ 60
    omega
  | str z => exact h.elim (fun a => .inl (six_name a)) .inr
  | _ => exact h.elim
def LawTerm (H : Hp) (t : Addr) (m : Nat) (ws : List V) : Prop := H t = some (.tup ws) ∧ (∀ v ∈ ws, okL v) ∧ isTerm ws ∧ ws.length ≤ m
def lawV (ρ : Str → Option Int) : Prop := ∀ z ∈ six, ∃ i, ρ z = some i ∧ i.natAbs ≤ 100
def valsOk (i : Nat) (kvs : List (Key × V)) : Prop := (∀ z v, valV kvs (Sum.inr z) = some v → ∃ x : Int, v = .int x) ∧ ∀ z ∈ six.take i, ∃ x : Int, valV kvs (Sum.inr z) = some (.int x) ∧ x.natAbs ≤ 100
theorem valsOk.put {i : Nat} {kvs : List (Key × V)} (h : valsOk i kvs) {z : Str} (hz : six[i]? = some z) {x : Int} (hx : x.natAbs ≤ 100) : valsOk (i + 1) (putK kvs (Sum.inr z) (.int x)) := by
  constructor
  · intro y v e
    rw [valV_put] at e
    by_cases hy : (Sum.inr y : Key) = Sum.inr z
    · rw [if_pos hy] at e
      exact ⟨x, (Option.some.inj e).symm⟩
    · rw [if_neg hy] at e
      exact h.1 y v e
  · intro y hy
    rw [valV_put]
    by_cases e : (Sum.inr y : Key) = Sum.inr z
    · rw [if_pos e]
      exact ⟨x, rfl, hx⟩
    · rw [if_neg e]
      rw [List.take_add_one, hz] at hy
      rcases List.mem_append.mp hy with hy | hy
      · exact h.2 y hy
      · have : y = z := by simpa using hy
        exact absurd (by rw [this]) e
theorem valsOk.vals {kvs : List (Key × V)} (h : valsOk 6 kvs) {H : Hp} {a : Addr} (ha : H a = some (.dK kvs)) : ∃ ρ, ValsAt H a ρ ∧ lawV ρ := by
  refine ⟨fun z => match valV kvs (Sum.inr z) with | some (.int x) => some x | _ => none, ⟨kvs, ha, fun z => ?_⟩, fun z hz => ?_⟩
  · show valV kvs (Sum.inr z) = Option.map V.int (match valV kvs (Sum.inr z) with | some (.int x) => some x | _ => none)
    generalize e : valV kvs (Sum.inr z) = r
    cases r with
    | none => rfl
    | some v =>
      obtain ⟨x, rfl⟩ := h.1 z v e
      rfl
  · obtain ⟨x, hx, hb⟩ := h.2 z (by rw [show six.take 6 = six from rfl]; exact hz)
    refine ⟨x, ?_, hb⟩
    show (match valV kvs (Sum.inr z) with | some (.int x) => some x | _ => none) = some x
    rw [hx]
theorem LawTerm.same {H H' : Hp} {t : Addr} {m : Nat} {ws : List V} (h : LawTerm H t m ws) (s : Same H H') : LawTerm H' t m ws := ⟨s _ _ h.1, h.2⟩
theorem LawTerm.sameB {H H' : Hp} {d b t : Addr} {ns : List Int} {n m : Nat} {ws : List V} (h : LawTerm H t m ws) (hD : Deck H d b ns n) (s : SameB d H H') : LawTerm H' t m ws := ⟨s _ _ (ne_of h.1 hD.1 (by intro e; cases e)) h.1, h.2⟩
theorem LawTerm.le {H : Hp} {t : Addr} {m k : Nat} {ws : List V} (h : LawTerm H t m ws) (l : m ≤ k) : LawTerm H t k ws := ⟨h.1, h.2.1, h.2.2.1, Nat.le_trans h.2.2.2 l⟩
end Pc
namespace L2.Srt
open PySem PySem.W PyProof.Rows
section
variable {cmp : Nat → Nat → (Bool → Shared → Prop) → Shared → Prop} {N : Nat} {r : Nat → Int} {s : Shared}
def PermR (N : Nat) (p : Array Nat) : Prop := p.toList.Perm (List.range N)
theorem PermR.size {p : Array Nat} (h : PermR N p) : p.size = N := by
  have := h.length_eq
  rw [Array.length_toList, List.length_range] at this
  exact this
theorem PermR.lt {p : Array Nat} (h : PermR N p) {k : Nat} (hk : k < N) : p.getD k 0 < N := by
  have hs := h.size
  have e : p.getD k 0 = p[k]'(by omega) := by simp [Array.getD, hs, hk]
  rw [e]
  have : p[k]'(by omega) ∈ p.toList := by simp
  exact List.mem_range.mp (h.mem_iff.mp this)
theorem PermR.of {p q : Array Nat} (h : PermR N p) (e : q.Perm p) : PermR N q := (Array.perm_iff_toList_perm.mp e).trans h
def R (r : Nat → Int) (p : Array Nat) (i : Nat) : Int := r (p.getD i 0)
def Inc (r : Nat → Int) (p : Array Nat) (k : Nat) : Prop := ∀ i j, i ≤ j → j < k → R r p i ≤ R r p j
def Dec (r : Nat → Int) (p : Array Nat) (k : Nat) : Prop := ∀ i j, i ≤ j → j < k → R r p j ≤ R r p i
theorem Inc.more {p : Array Nat} {k : Nat} (h : Inc r p k) (hk : 1 ≤ k) (e : R r p (k - 1) ≤ R r p k) : Inc r p (k + 1) := by
  intro i j hij hj
  by_cases h1 : j < k
  · exact h i j hij h1
  · have : j = k := by omega
    subst this
    by_cases h2 : i = j
    · subst h2; exact Int.le_refl _
    · have := h i (j - 1) (by omega) (by omega)
      omega
theorem Dec.more {p : Array Nat} {k : Nat} (h : Dec r p k) (hk : 1 ≤ k) (e : R r p k ≤ R r p (k - 1)) : Dec r p (k + 1) := by
  intro i j hij hj
  by_cases h1 : j < k
  · exact h i j hij h1
  · have : j = k := by omega
    subst this
    by_cases h2 : i = j
    · subst h2; exact Int.le_refl _
    · have := h i (j - 1) (by omega) (by omega)
      omega
end
end L2.Srt
namespace L2.Srt
open PySem PySem.W PyProof.Rows
section
variable {prog : Program} {w : World} {A : Around} {E : Value → Shared → Prop} {s : Shared} {r : Nat → Int}
end
end L2.Srt
namespace L2
open PySem PySem.Spec PyProof.Rows Srt
section
variable {X : Cx}
end
end L2
namespace PySem.SeqAt
open PySem PySem.Spec PySem.Calls
def LtAt (A : Around) (s : Shared) (x y : Value) (b : Bool) : Prop := ∀ (prog : Program) (w : World) (E : Value → Shared → Prop) (Q : Value → Shared → Prop), Q (.bool b) s → wpAny (model prog w) A (richCompare .Lt x y) Q E s
def lexB (e c : Nat → Bool) (d : Bool) : List Nat → Bool
  | [] => d
  | j :: r => if e j then lexB e c d r else c j
theorem tuple_ltAt (l b : Addr) (items items2 : Array Value) (n n2 : Nat) (dd dd2 : Option Addr) (sl sl2 : Array (Option Value)) (e c : Nat → Bool) :
    Meets (Builtin.«tuple.__lt__» ⟨[.ref l, .ref b], []⟩)
      (fun A R s => s.heap.get? l = some { cls := .type "tuple", dict := dd, data := .seq items n, slots := sl } ∧ s.heap.get? b = some { cls := .type "tuple", dict := dd2, data := .seq items2 n2, slots := sl2 } ∧
        (∀ j (h1 : j < items.size) (h2 : j < items2.size), EqAt A.in1 s items[j] items2[j] (e j)) ∧
        (∀ j (h1 : j < items.size) (h2 : j < items2.size), e j = false → LtAt A.in1 s items[j] items2[j] (c j)) ∧
        R (.ok (.ret (.bool (lexB e c (decide (items.size < items2.size)) (List.range (min items.size items2.size)))))) s) :=
  .of_wp fun prog w A R s h => by
    obtain ⟨hp, g, d, tk, os⟩ := s; obtain ⟨hl, hb, he, hc, h⟩ := h
    have f2 := AutoSeq1.sub_tuple_tuple
    have hZ : (items.toList.zip items2.toList).length = min items.size items2.size := by simp
    wp_walk using wpAny_loadPart' hl, wpAny_loadPart' hb, wpAny_forIn_list _ (fun rest b s' => b.1 = none ∧ s' = ⟨hp, g, d, tk, os⟩ ∧ ∃ i, rest = (items.toList.zip items2.toList).drop i ∧
      R (.ok (.ret (.bool (lexB e c (decide (items.size < items2.size)) ((List.range (min items.size items2.size)).drop i))))) ⟨hp, g, d, tk, os⟩) _
    case turn =>
      rintro ⟨y, x⟩ rest b s' ⟨hb', rfl, i, hz, hR⟩
      have hlt : i < (items.toList.zip items2.toList).length := by
        rcases Nat.lt_or_ge i (items.toList.zip items2.toList).length with h' | h'
        · exact h'
        · rw [List.drop_of_length_le h'] at hz; cases hz
      have hm : i < min items.size items2.size := hZ ▸ hlt
      have h1 : i < items.size := Nat.lt_of_lt_of_le hm (Nat.min_le_left _ _)
      have h2 : i < items2.size := Nat.lt_of_lt_of_le hm (Nat.min_le_right _ _)
      rw [List.drop_eq_getElem_cons hlt] at hz
      injection hz with hyx hrest
      have hy : y = items[i] := by have := congrArg Prod.fst hyx; simpa using this
      have hx : x = items2[i] := by have := congrArg Prod.snd hyx; simpa using this
      subst hy hx
      have hd : (List.range (min items.size items2.size)).drop i = i :: (List.range (min items.size items2.size)).drop (i + 1) := by simp [List.drop_eq_getElem_cons, hm]
      rw [hd] at hR
      unfold lexB at hR
      refine wpAny_bind (he i h1 h2 prog w _ _ ?_)
      cases hy : e i with
      | true =>
        rw [hy] at hR
        wp_walk
        exact ⟨rfl, rfl, i + 1, hrest, by simpa using hR⟩
      | false =>
        rw [hy] at hR
        rw [if_pos (show (!false) = true from rfl)]
        dsimp only
        refine wpAny_bind (wpAny_rule ?_)
        refine wpAny_bind (hc i h1 h2 hy prog w _ _ ?_)
        wp_walk
        exact ⟨_, rfl, by simpa using hR⟩
    case fin =>
      rintro ⟨b1, b2⟩ s' ⟨hb', rfl, i, hz, hR⟩
      simp only at hb'
      subst hb'
      have hge : min items.size items2.size ≤ i := by
        rcases Nat.lt_or_ge i (items.toList.zip items2.toList).length with h' | h'
        · rw [List.drop_eq_getElem_cons h'] at hz; cases hz
        · exact hZ ▸ h'
      rw [List.drop_of_length_le (by simpa using hge)] at hR
      wp_walk
      exact ⟨_, rfl, by simpa [Builtin.Tuple.tupleCompareSizes, lexB] using hR⟩
    case h =>
      exact ⟨rfl, rfl, 0, rfl, by simpa using h⟩
section
variable {A : Around} {s : Shared}
theorem LtAt.tuples {l b : Addr} {items items2 : Array Value} {e c : Nat → Bool} (hl : s.heap.IsTuple l items) (hb : s.heap.IsTuple b items2) (hu : A.units < cLine)
    (he : ∀ j (h1 : j < items.size) (h2 : j < items2.size), EqAt A.in1 s items[j] items2[j] (e j)) (hc : ∀ j (h1 : j < items.size) (h2 : j < items2.size), e j = false → LtAt A.in1 s items[j] items2[j] (c j)) :
    LtAt A s (.ref l) (.ref b) (lexB e c (decide (items.size < items2.size)) (List.range (min items.size items2.size))) := fun prog w E Q h => by
  obtain ⟨⟨cls, dd, data, sl⟩, ho, hc1, n, hd⟩ := id hl
  obtain ⟨⟨cls2, dd2, data2, sl2⟩, ho2, hc2, n2, hd2⟩ := id hb
  simp only at hc1 hd hc2 hd2
  subst hc1 hd hc2 hd2
  exact richCompare_meets_room (op := .Lt) ⟨_, ho, rfl⟩ ⟨_, ho2, rfl⟩ F.slot_tuple_lt F.entry_tuple_lt (F.args_tuple_lt_2 _ _) (tuple_ltAt l b items items2 n n2 dd dd2 sl sl2 e c)
    ⟨ho, ho2, he, hc, show Value.bool _ ≠ Value.notImplemented ∧ Q (.bool _) s from ⟨(fun x => nomatch x), h⟩⟩ hu
theorem LtAt.str {x y : Str} {t u : Tok} : LtAt A s (.str x t) (.str y u) (decide (x.cps.toList < y.cps.toList)) := fun prog w E Q h => by
  refine wpAny_richCompare_same (T := "str") (id := "str.__lt__") (op := .Lt) (typeIs_str s x t) (typeIs_str s y u) PyProof.Rows.slot_str_lt (PyProof.Rows.call_str_lt ?_)
  exact ⟨(fun x => nomatch x), h⟩
end
end PySem.SeqAt
namespace L2
open PySem PySem.Spec PyProof.Rows Srt
theorem countP_lt {α : Type} {p q : α → Bool} : ∀ {l : List α}, (∀ x ∈ l, p x = true → q x = true) → (∃ x ∈ l, q x = true ∧ p x = false) → l.countP p < l.countP q
  | [], _, h => by obtain ⟨x, hx, _⟩ := h; cases hx
  | a :: t, hm, h => by
    rw [List.countP_cons, List.countP_cons]
    have mono := List.countP_mono_left (l := t) (fun x hx => hm x (List.mem_cons_of_mem _ hx))
    have ha := hm a List.mem_cons_self
    by_cases hw : q a = true ∧ p a = false
    · rw [hw.1, hw.2]
      simp
      omega
    · have : ∃ x ∈ t, q x = true ∧ p x = false := by
        obtain ⟨x, hx, hq⟩ := h
        rcases List.mem_cons.mp hx with rfl | hx
        · exact absurd hq hw
        · exact ⟨x, hx, hq⟩
      have ih := countP_lt (fun x hx => hm x (List.mem_cons_of_mem _ hx)) this
      cases hp : p a with
      | true => rw [ha hp]; simp; omega
      | false => cases q a <;> simp <;> omega
def rank (n : Nat) (lt : Nat → Nat → Bool) (i : Nat) : Int := (((List.range n).countP fun k => lt k i : Nat) : Int)
structure Ord (n : Nat) (lt : Nat → Nat → Bool) : Prop where
  irr : ∀ i, i < n → lt i i = false
  tr : ∀ i j k, i < n → j < n → k < n → lt i j = true → lt j k = true → lt i k = true
  neg : ∀ i j k, i < n → j < n → k < n → lt i k = true → lt i j = true ∨ lt j k = true
theorem Ord.rank {n : Nat} {lt : Nat → Nat → Bool} (o : Ord n lt) {i j : Nat} (hi : i < n) (hj : j < n) : decide (rank n lt i < rank n lt j) = lt i j := by
  cases h : lt i j with
  | true =>
    apply decide_eq_true
    have : (List.range n).countP (fun k => lt k i) < (List.range n).countP fun k => lt k j := countP_lt (fun k hk e => o.tr k i j (List.mem_range.mp hk) hi hj e h) ⟨i, List.mem_range.mpr hi, h, o.irr i hi⟩
    unfold L2.rank
    omega
  | false =>
    apply decide_eq_false
    have : (List.range n).countP (fun k => lt k j) ≤ (List.range n).countP fun k => lt k i := List.countP_mono_left fun k hk e => by
      rcases o.neg k i j (List.mem_range.mp hk) hi hj e with e | e
      · exact e
      · rw [h] at e; cases e
    unfold L2.rank
    omega
section
variable {P : Program} {w : World} {A : Around} {H : Hp}
end
end L2
namespace L2.Srt
open PySem PySem.W PyProof.Rows
end L2.Srt
namespace L2
open PySem PySem.Spec PyProof.Rows Srt
section
variable {P : Program} {w : World} {A : Around} {H : Hp}
end
end L2
namespace L2
open PySem PySem.Spec PyProof.Rows
def rDGet2 : V → List V → Hp → VK → Prop := fun x xs H Q => ∃ a y z o, x = .ref a ∧ xs = [y, z] ∧ DGet H a y o ∧ Q (o.getD z) H
section
variable {X : Cx}
theorem mt_dget2 (hu : X.A.units + 1 < cLine) : MtR X "dict.get" rDGet2 := by
  intro pins s σ H x xs v us Q I rx r h
  obtain ⟨a, y, z, o, rfl, rfl, g, q⟩ := h
  cases (show v = Value.ref a from rx)
  cases r with
  | cons ry rr =>
    cases rr with
    | cons rz rr =>
      cases rr
      rename_i u1 u2
      rcases g with ⟨kvs, k, e, ey, l⟩ | ⟨kvs, k, b, e, ey, eb, l⟩
      · subst ey
        obtain ⟨_, hd, vs, rel, dd⟩ := dk_rd I.hok e
        refine call_meetsIn PySem.F.slot_dict_get dd.typeIs PySem.F.entry_dict_get (PySem.F.args_dict_get_3 _ _ _) (meets_dict_get_default (mixKind X.prog X.w) a (kV_is ry) hd u2) ⟨_, dd.mapOf, ⟨_, H, I.tok _, ?_, q⟩⟩
        rw [l]
        exact RelO.getD (rel.val k) rz
      · subst ey
        cases (show u1 = Value.ref b from ry)
        obtain ⟨_, hd, xs, rel, dd⟩ := dt_rd I.hok e
        have rv := rel.val k
        rw [← l] at rv
        refine wpAny_call_entry PySem.F.slot_dict_get dd.typeIs PySem.F.entry_dict_get ?_ (PySem.F.args_dict_get_3 _ _ _)
        show wpAny _ _ (dictGet a (.ref b) >>= _) _ _ s
        refine wpAny_bind (wpAny_dictGet_heap (tupleKind_room_in1 hu) (key_of I.hok eb) dd ?_)
        have g := RelO.getD rv rz
        cases hf : atKey xs k with
        | some p =>
          rw [hf] at g
          exact wpAny_pure ⟨p.2, rfl, ⟨_, H, I.tok _, g, q⟩⟩
        | none =>
          rw [hf] at g
          show wpAny _ _ (Builtin.Dict.missed a (.ref b) >>= _) _ _ _
          exact wpAny_bind (wpAny_missed_other hd (wpAny_pure ⟨u2, rfl, ⟨_, H, I.tok _, g, q⟩⟩))
end
end L2
namespace L2
open PySem PySem.Spec PyProof.Rows
theorem rel_is {P : Program} {w : World} {k : Key} {u : Value} (h : (mixKind P w).is k u = true) : RelV (kV k) u := by
  rcases keyIs_shape h with ⟨i, t, rfl, rfl⟩ | ⟨x, t, rfl, rfl⟩
  · exact ⟨t, rfl⟩
  · exact ⟨t, rfl⟩
def Itk (a : Addr) (o : Obj) (kvs : List (Key × V)) : It :=
  ⟨fun i H => i < kvs.length ∧ H a = some (.frz o (.dK kvs)), fun i H x H' => H' = H ∧ ∃ k, (kvs.map (·.1))[i]? = some k ∧ x = kV k, fun i H => i = kvs.length ∧ H a = some (.frz o (.dK kvs))⟩
theorem frz_at {P : Program} {w : World} {H : Hp} {h : Heap} {a : Addr} {o : Obj} {kvs : List (Key × V)} {ep : Nat} (ok : HOk P w H h) (e : H a = some (.frz o (.dK kvs))) (he : ∃ es, o.data = .dict es ep) : ∃ vs, KV kvs vs ∧ h.DictAt (mixKind P w) a vs ep := by
  obtain ⟨h1, _, _, vs, r, o', es', ep', h2, h3, h4, h5⟩ := (show ObjOk P w H h a (.frz o (.dK kvs)) from ok a _ e)
  rw [h1] at h2
  cases h2
  obtain ⟨es, he⟩ := he
  rw [he] at h4
  cases h4
  exact ⟨vs, r, o, _, h1, h3, he, h5⟩
theorem turn_dict {P : Program} {w : World} {K : PySem.W.Frag} {tg : Expr} (a it : Addr) (o : Obj) (kvs : List (Key × V)) (ep : Nat) (he : ∃ es, o.data = .dict es ep) : Turn P w K tg (Itk a o kvs) [it] it (fun i h => h.IsKeyIter it a i kvs.length ep) where
  mem := by simp
  obj := fun i h st b hb => by
    have e : b = it := by simpa using hb
    subst e
    obtain ⟨o', e', c', d'⟩ := st
    exact ⟨o', e', fun v z => by rw [d'] at z; cases z⟩
  keep := fun i h h' st k => by
    obtain ⟨o', ho', r'⟩ := st
    exact ⟨o', k it (by simp) o' ho', r'⟩
  item := by
    intro X hP hw hK hc i pins s σ H E I hf st hg
    subst hP hw hK
    obtain ⟨hi, ha⟩ := hg
    obtain ⟨vs, rv, hat⟩ := frz_at I.hok ha he
    have hl := rv.length
    obtain ⟨f0, f1, f2, f3, f4, f5⟩ := hf it (by simp)
    have hi' : i < vs.length := by omega
    have hx : vs[i]? = some (vs[i].1, vs[i].2) := List.getElem?_eq_getElem hi'
    have st0 : s.heap.IsKeyIter it a i vs.length ep := by rw [← hl]; exact st
    refine wpAny_pyNext_dict_item st0 hat hx fun key h' hkey st' sb => ?_
    rw [← hl] at st'
    have I1 : Inv X pins σ H { s with heap := h' } := I.turned (t' := s.toks) (fun b o' hb e' => (sb.2 b hb).trans e') f0 f1 f3 f4 f5
    obtain ⟨o', e', c', d'⟩ := id st'
    exact ⟨key, rfl, go_of (s := { s with heap := h' }) e' c' d' (by decide) ⟨_, H, I1, rel_is hkey, ⟨rfl, _, by rw [rv.keys, List.getElem?_map, hx]; rfl, rfl⟩, st', fun b hb => (hf b hb).1⟩⟩
  done := by
    intro X hP hw hK hc i pins s σ H E I hf st hg
    subst hP hw hK
    obtain ⟨hi, ha⟩ := hg
    obtain ⟨vs, rv, hat⟩ := frz_at I.hok ha he
    have hl := rv.length
    obtain ⟨f0, f1, f2, f3, f4, f5⟩ := hf it (by simp)
    have st0 : s.heap.IsKeyIter it a i vs.length ep := by rw [← hl]; exact st
    exact wpAny_pyNext_dict_end (I.ok.hd hc) st0 hat (List.getElem?_eq_none_iff.mpr (by omega)) fun h' eb => ⟨rfl, I.turned (t' := s.toks) (fun b o' hb e' => eb b o' hb e') f0 f1 f3 f4 f5⟩
  self := fun _ _ _ _ _ st h => wpAny_pyIter_keyiter st h
section
variable {X : Cx} {pins : List (Addr × Obj)} {σ σ' : St} {H H0 : Hp} {s s0 : Shared} {a : Addr} {kvs kvs' : List (Key × V)} {o : Obj}
theorem Inv.freeze (I : Inv X pins σ H s) (e : H a = some (.dK kvs)) : ∃ o ep, (∃ es, o.data = .dict es ep) ∧ Inv X pins σ (upd H a (.frz o (.dK kvs))) s ∧ ∃ vs, KV kvs vs ∧ s.heap.DictAt (mixKind X.prog X.w) a vs ep := by
  obtain ⟨z, y, vs, r, o, es, ep, h1, h2, h3, h4⟩ := (show ObjOk X.prog X.w H s.heap a (.dK kvs) from I.hok a _ e)
  refine ⟨o, ep, ⟨es, h3⟩, ?_, vs, r, o, es, h1, h2, h3, h4⟩
  exact I.write (t' := s.toks) (h' := s.heap) (e := a) (by rw [e]; exact True.intro) (.inl rfl) (fun b u _ q => q) ⟨o, h1⟩ ⟨h1, z, y, vs, r, o, es, ep, h1, h2, h3, h4⟩
theorem Inv.thaw (I0 : Inv X pins σ' H0 s0) (e0 : H0 a = some (.dK kvs')) (I : Inv X pins σ H s) (e : H a = some (.frz o (.dK kvs))) : Inv X pins σ (upd H a (.dK kvs)) s := by
  have nn : ∀ b, H b = none → b ≠ a := fun b hb z => by rw [z, e] at hb; cases hb
  have nt : ∀ b xs, H b = some (.tup xs) → b ≠ a := fun b xs hb z => by rw [z, e] at hb; cases hb
  have no : ∀ b y, H b = some (.own y) → b ≠ a := fun b y hb z => by rw [z, e] at hb; cases hb
  refine ⟨I.ok, I.os, I.bare, ⟨I.base.keep, I.base.slot, fun b ob h1 h2 h3 => ?_, I.base.there, fun b xs h1 => ?_, fun b ob u h1 => ?_, fun b ps h1 => ?_⟩, I.loc, I.cell, ?_, fun x c h1 => ?_, fun p hp => ?_, fun b u q => ?_, I.len⟩
  · have h4 := I.base.free b ob h1 h2 h3
    rw [upd_ne (nn b h4)]
    exact h4
  · have h4 := I.base.tups b xs h1
    rw [upd_ne (nt b xs h4)]
    exact h4
  · have h4 := I.base.frzs b ob u h1
    have h5 := I0.base.frzs b ob u h1
    rw [upd_ne (fun z => by rw [z, e0] at h5; cases h5)]
    exact h4
  · obtain ⟨more, h4⟩ := I.base.tbls b ps h1
    exact ⟨more, by rw [upd_ne (fun z => by rw [z, e] at h4; cases h4)]; exact h4⟩
  · rw [upd_ne (nn _ I.free)]
    exact I.free
  · rw [upd_ne (nn _ (I.freeC x c h1))]
    exact I.freeC x c h1
  · obtain ⟨p1, p2, p3, p4, p5⟩ := I.pin p hp
    exact ⟨p1, by rw [upd_ne (nn _ p2)]; exact p2, p3, p4, p5⟩
  · by_cases hb : b = a
    · subst hb
      rw [upd_same] at q
      cases q
      exact (show ObjOk X.prog X.w H s.heap b (.frz o (.dK kvs)) from I.hok b _ e).2
    · rw [upd_ne hb] at q
      exact (I.hok b u q).stay (fun c v _ r => r) (fun c r => by rw [upd_ne (no c b r)]; exact r) fun c xs r => by rw [upd_ne (nt c xs r)]; exact r
end
def tThaw (t : TE) : TE := fun σ H Q => ∃ a kvs, H a = some (.dK kvs) ∧ t σ H fun v H' => ∃ o, H' a = some (.frz o (.dK kvs)) ∧ Q v (upd H' a (.dK kvs))
def iDict (tl : TE) : TI := fun σ H R => tl σ H fun x H1 => ∃ a kvs, x = .ref a ∧ H1 a = some (.dK kvs) ∧ ∀ o, R (Itk a o kvs) (upd H1 a (.frz o (.dK kvs)))
section
variable {X : Cx} {tg : Expr}
theorem pe_thaw {e : Expr} {t : TE} (h : PE X e t) : PE X e (tThaw t) := by
  intro pins s σ H Q I q
  obtain ⟨a, kvs, e0, q⟩ := q
  exact thn (h pins s σ H _ I q) fun v s1 ⟨x, H1, I1, r1, o, e1, q1⟩ => ⟨x, _, Inv.thaw I e0 I1 e1, r1, q1⟩
theorem pi_dict {l : Expr} {tl : TE} (hl : PE X l tl) : PI X tg l (iDict tl) := by
  intro pins s σ H R I h
  refine thn (hl pins s σ H _ I h) fun v s1 ⟨x, H1, I1, r1, q1⟩ => ?_
  obtain ⟨a, kvs, e, ha, q⟩ := q1
  subst e
  cases r1
  obtain ⟨o, ep, he, I2, vs, rv, hat⟩ := I1.freeze ha
  have hd := (dk_of I1.hok ha).2.1
  refine wpAny_pyIter_dict hd hat ?_
  refine ⟨s1.heap.objs.size, [s1.heap.objs.size], _, _, _, rfl, I2.kept (t' := s1.toks) fun b o' e' => Heap.get?_push_of_some _ e', turn_dict a _ o kvs ep he, ⟨_, Heap.get?_push_size _ rfl, rfl, by rw [rv.length]; rfl⟩, fun b hb => ?_, q o⟩
  have e' : b = s1.heap.objs.size := by simpa using hb
  subst e'
  exact I2.fpOk (Nat.le_refl _) (I2.hok.fresh (Nat.le_refl _))
end
theorem lc_dict {a : Addr} {o : Obj} {kvs : List (Key × V)} {fr : St} {tc : TT} {te : TE} {D : Addr} {H1 : Hp} {Q : Hp → Prop} (P : Nat → List V → Prop) (ha : H1 a = some (.frz o (.dK kvs))) (hn : kvs.length < sizeLine) (hD : H1 D = none) (h0 : P 0 [])
    (step : ∀ i k v ys H (G : Hp → Prop) (K' : V → Hp → Prop), kvs[i]? = some (k, v) → P i ys → ys.length ≤ i → Same H1 H → (∀ H3, Same H H3 → P (i + 1) ys → G H3) → (∀ y H4, Same H H4 → P (i + 1) (ys ++ [y]) → K' y H4) → tc ([some (kV k)] ++ fr) H fun b H3 => if b = true then te ([some (kV k)] ++ fr) H3 K' else G H3)
    (done : ∀ ys H, P kvs.length ys → ys.length ≤ kvs.length → Same H1 H → H D = some (.lst ys) → Q H) : LC 1 fr (gName 0) tc te (Itk a o kvs) D H1 Q := by
  have at' : ∀ i (hi : i < kvs.length), (kvs.map (·.1)).getD i (.inl 0) = kvs[i].1 := fun i hi => by
    rw [List.getD_eq_getElem?_getD, List.getElem?_map, List.getElem?_eq_getElem hi]
    rfl
  refine lc_gen kvs.length (fun i => kV ((kvs.map (·.1)).getD i (.inl 0))) P hn hD (fun i H hi hs => ⟨hi, hs _ _ ha⟩) (fun i H x H' hi hs hy => ?_) (fun H hs => ⟨rfl, hs _ _ ha⟩) h0 (fun i ys H G K' hi hp hl hs hG hK => ?_) done
  · obtain ⟨e, k, hk, rfl⟩ := hy
    refine ⟨e, ?_⟩
    show kV k = kV ((kvs.map (·.1)).getD i (.inl 0))
    rw [List.getD_eq_getElem?_getD, hk]
    rfl
  · have := step i kvs[i].1 kvs[i].2 ys H G K' (List.getElem?_eq_getElem hi) hp hl hs hG hK
    rw [← at' i hi] at this
    exact this
def eqD (ka kb : List (Key × V)) : Bool := ka.length == kb.length && ka.all fun p => match valV kb p.1 with | none => false | some y => eqV p.2 y
theorem valV_mem {κ : Type} [DecidableEq κ] {kvs : List (κ × V)} {k : κ} {y : V} (h : valV kvs k = some y) : (k, y) ∈ kvs := by
  unfold valV at h
  obtain ⟨p, hp, rfl⟩ := Option.map_eq_some_iff.mp h
  have h1 := List.find?_some hp
  have h2 := List.mem_of_find?_eq_some hp
  have : p.1 = k := by simpa using h1
  subst this
  exact h2
theorem hits_of {A : Around} {s : Shared} {kb : List (Key × V)} {kbv : List (Key × Value)} (rb : KV kb kbv) (fb : ∀ p ∈ kb, flatV p.2 = true) : ∀ {ka : List (Key × V)} {kav : List (Key × Value)}, KV ka kav → (∀ p ∈ ka, flatV p.2 = true) →
    PySem.W.KeqHits A s kbv kav (ka.all fun p => match valV kb p.1 with | none => false | some y => eqV p.2 y)
  | _, _, .nil, _ => .nil
  | (k, v) :: _, (k', u) :: _, .cons r t, f => by
    obtain ⟨e, r⟩ := r
    have e : k = k' := e
    subst e
    have rv := rb.val k
    have ih := hits_of (A := A) (s := s) rb fb t fun p hp => f p (List.mem_cons_of_mem _ hp)
    rw [List.all_cons]
    cases hk : valV kb k with
    | none =>
      rw [hk] at rv
      cases hv : valueAt kbv k with
      | none => simp only [hk, Bool.false_and]; exact .miss hv
      | some y => rw [hv] at rv; exact rv.elim
    | some y =>
      rw [hk] at rv
      cases hv : valueAt kbv k with
      | none => rw [hv] at rv; exact rv.elim
      | some y' =>
        rw [hv] at rv
        simp only [hk]
        exact .hit hv (eqAt_V r rv (f _ List.mem_cons_self) (fb _ (valV_mem hk))) ih
def rEqD (neg : Bool) : R2 := fun x y H Q => ∃ a b ka kb, x = .ref a ∧ y = .ref b ∧ Rd H a (.dK ka) ∧ Rd H b (.dK kb) ∧ (∀ p ∈ ka, flatV p.2 = true) ∧ (∀ p ∈ kb, flatV p.2 = true) ∧ Q (.bl (if neg then !eqD ka kb else eqD ka kb)) H
section
variable {X : Cx}
theorem op_neD (hu : X.A.units < cLine) : OpR X (compareOp .NotEq) (rEqD true) := by
  intro pins s σ H x y v u Q I rx ry h
  obtain ⟨a, b, ka, kb, rfl, rfl, ha, hb, fa, fb, q⟩ := h
  cases rx
  cases ry
  obtain ⟨_, da, va, ra, oa⟩ := dk_rd I.hok ha
  obtain ⟨_, db, vb, rb, ob⟩ := dk_rd I.hok hb
  refine PySem.W.keq_ne da db oa ob hu (fun _ => hits_of rb fb ra fa) ?_
  refine fin_bl I q ?_
  rw [← ra.length, ← rb.length]
  rfl
end
end L2
namespace L2
open PySem PySem.Spec PyProof.Rows
section
variable {X : Cx}
end
end L2
namespace L2.Srt
open PySem PySem.W PyProof.Rows PySem.Spec
section
variable {prog : Program} {w : World} {A : Around} {E : Value → Shared → Prop} {s : Shared}
end
end L2.Srt
namespace L2
open PySem PySem.Spec PyProof.Rows Srt
section
variable {X : Cx}
theorem ints_of : ∀ {vs : List Value} {ns : List Int}, Vals (ns.map V.int) vs → IntsAre vs ns
  | [], [], _ => .nil
  | v :: vs, n :: ns, .cons r t => by
    obtain ⟨k, rfl⟩ := r
    exact .cons _ _ (ints_of t)
end
end L2
namespace Pc
open PySem PySem.Spec L2 PyProof.Rows
section
variable {κ : Type} [DecidableEq κ]
theorem nd_put {kvs : List (κ × V)} {k : κ} (v : V) (hn : (kvs.map (·.1)).Nodup) : ((putK kvs k v).map (·.1)).Nodup := by
  cases h : valV kvs k with
  | none => exact nd_putK v hn h
  | some y =>
    have e : (putK kvs k v).map (·.1) = kvs.map (·.1) := by
      unfold putK
      rw [if_pos (by rw [valV_any, h]; rfl), List.map_map]
      apply List.map_congr_left
      intro p _
      show (if p.1 = k then (p.1, v) else p).1 = p.1
      split <;> rfl
    rw [e]
    exact hn
theorem mem_put {kvs : List (κ × V)} {k : κ} {v : V} {p : κ × V} (h : p ∈ putK kvs k v) : p ∈ kvs ∨ p = (k, v) := by
  unfold putK at h
  split at h
  · obtain ⟨q, hq, rfl⟩ := List.mem_map.mp h
    by_cases e : q.1 = k
    · rw [if_pos e, e]
      exact .inr rfl
    · rw [if_neg e]
      exact .inl hq
  · rcases List.mem_append.mp h with h | h
    · exact .inl h
    · exact .inr (List.mem_singleton.mp h)
theorem valV_at : ∀ {kvs : List (κ × V)} {k : κ} {v : V}, (kvs.map (·.1)).Nodup → (k, v) ∈ kvs → valV kvs k = some v
  | [], _, _, _, h => by cases h
  | p :: r, k, v, hn, h => by
    have hn : (p.1 :: r.map (·.1)).Nodup := hn
    obtain ⟨h1, h2⟩ := List.nodup_cons.mp hn
    rcases List.mem_cons.mp h with e | e
    · rw [valV_pos (by rw [← e]), ← e]
    · rw [valV_neg (fun z => h1 (by rw [z]; exact List.mem_map.mpr ⟨(k, v), e, rfl⟩))]
      exact valV_at h2 e
end
theorem eqV_int (i : Int) : eqV (.int i) (.int i) = true := by show (i == i) = true; exact beq_self_eq_true i
theorem eqD_self {kvs : List (Key × V)} (hn : (kvs.map (·.1)).Nodup) (hi : ∀ p ∈ kvs, ∃ i : Int, p.2 = .int i) : eqD kvs kvs = true := by
  unfold eqD
  rw [Bool.and_eq_true, List.all_eq_true]
  refine ⟨beq_self_eq_true _, fun p hp => ?_⟩
  obtain ⟨k, v⟩ := p
  obtain ⟨i, e⟩ := hi _ hp
  have e : v = .int i := e
  subst e
  show (match valV kvs k with | none => false | some y => eqV (.int i) y) = true
  rw [valV_at hn hp]
  exact eqV_int i
inductive RowAt (vals kvs : List (Key × V)) : List V → Int → Int → Prop
  | put (b n : Int) : RowAt vals kvs [.str "put", .int b, .int n] b n
  | load (b : Int) (z : Str) (n : Int) (h : valV vals (Sum.inr z) = some (.int n)) : RowAt vals kvs [.str "load", .int b, .str z] b n
  | neg (b x m : Int) (h : valV kvs (Sum.inl x) = some (.int m)) (b1 : bitsOk m) : RowAt vals kvs [.str "neg", .int b, .int x] b (-m)
  | bin (z : Str) (b x y m n : Int) (hz : arS z = 2) (h1 : valV kvs (Sum.inl x) = some (.int m)) (h2 : valV kvs (Sum.inl y) = some (.int n)) (b1 : bitsOk m) (b2 : bitsOk n) : RowAt vals kvs [.str z, .int b, .int x, .int y] b (opN z m n)
theorem RowAt.at1 {vals kvs : List (Key × V)} {ts : List V} {b n : Int} (h : RowAt vals kvs ts b n) : atI ts 1 = some (.int b) := by cases h <;> rfl
def boxes (fs : List (Int × Int)) : List (Key × V) := fs.foldl (fun k p => putK k (Sum.inl p.1) (.int p.2)) []
theorem boxes_snoc (fs : List (Int × Int)) (b n : Int) : boxes (fs ++ [(b, n)]) = putK (boxes fs) (Sum.inl b) (.int n) := by
  unfold boxes
  rw [List.foldl_append]
  rfl
theorem boxes_ind {P : List (Key × V) → Prop} (h0 : P []) (hs : ∀ kvs (p : Int × Int), P kvs → P (putK kvs (Sum.inl p.1) (.int p.2))) (fs : List (Int × Int)) : P (boxes fs) := by
  have : ∀ (fs : List (Int × Int)) (kvs : List (Key × V)), P kvs → P (fs.foldl (fun k p => putK k (Sum.inl p.1) (.int p.2)) kvs) := by
    intro fs
    induction fs with
    | nil => exact fun kvs h => h
    | cons p r ih => exact fun kvs h => ih _ (hs kvs p h)
  exact this fs [] h0
theorem boxes_nd (fs : List (Int × Int)) : ((boxes fs).map (·.1)).Nodup := boxes_ind (P := fun k => (k.map (·.1)).Nodup) List.nodup_nil (fun kvs p h => nd_put _ h) fs
theorem boxes_int (fs : List (Int × Int)) : ∀ p ∈ boxes fs, ∃ b i : Int, p = (Sum.inl b, .int i) := boxes_ind (P := fun k => ∀ p ∈ k, ∃ b i : Int, p = (Sum.inl b, V.int i)) (fun _ h => nomatch h) (fun kvs p h q hq => by
  rcases mem_put hq with z | z
  · exact h q z
  · exact ⟨p.1, p.2, z⟩) fs
theorem boxes_len (fs : List (Int × Int)) : (boxes fs).length ≤ fs.length := by
  have : ∀ (fs : List (Int × Int)) (kvs : List (Key × V)), (fs.foldl (fun k p => putK k (Sum.inl p.1) (.int p.2)) kvs).length ≤ kvs.length + fs.length := by
    intro fs
    induction fs with
    | nil => exact fun kvs => Nat.le_refl _
    | cons p r ih =>
      intro kvs
      have h1 := ih (putK kvs (Sum.inl p.1) (.int p.2))
      have h2 := length_putK kvs (Sum.inl p.1) (.int p.2)
      show (r.foldl _ (putK kvs (Sum.inl p.1) (.int p.2))).length ≤ _
      rw [List.length_cons]
      omega
  have h := this fs []
  rw [List.length_nil, Nat.zero_add] at h
  exact h
theorem boxes_flat (fs : List (Int × Int)) : ∀ p ∈ boxes fs, flatV p.2 = true := fun p hp => by
  obtain ⟨b, i, rfl⟩ := boxes_int fs p hp
  rfl
theorem boxes_self (fs : List (Int × Int)) : eqD (boxes fs) (boxes fs) = true := eqD_self (boxes_nd fs) fun p hp => by
  obtain ⟨b, i, rfl⟩ := boxes_int fs p hp
  exact ⟨i, rfl⟩
def RunsAt (vals : List (Key × V)) (ts : List (List V)) (fs : List (Int × Int)) : Prop := ts.length = fs.length ∧ ∀ (i : Nat) (p : Int × Int), fs[i]? = some p → ∃ t, ts[i]? = some t ∧ RowAt vals (boxes (fs.take i)) t p.1 p.2
theorem RunsAt.nil (vals : List (Key × V)) : RunsAt vals [] [] := ⟨rfl, fun i p h => by simp at h⟩
theorem RunsAt.snoc {vals : List (Key × V)} {ts : List (List V)} {fs : List (Int × Int)} (h : RunsAt vals ts fs) {t : List V} {b n : Int} (r : RowAt vals (boxes fs) t b n) : RunsAt vals (ts ++ [t]) (fs ++ [(b, n)]) := by
  refine ⟨by rw [List.length_append, List.length_append, h.1]; rfl, fun i p hp => ?_⟩
  by_cases hi : i < fs.length
  · rw [List.getElem?_append_left hi] at hp
    obtain ⟨t', h1, h2⟩ := h.2 i p hp
    exact ⟨t', by rw [List.getElem?_append_left (by rw [h.1]; exact hi)]; exact h1, by rw [List.take_append_of_le_length (Nat.le_of_lt hi)]; exact h2⟩
  · have hl := (List.getElem?_eq_some_iff.mp hp).1
    rw [List.length_append, List.length_singleton] at hl
    have e : i = fs.length := by omega
    subst e
    rw [List.getElem?_append_right (Nat.le_refl _), Nat.sub_self] at hp
    have e : (b, n) = p := Option.some.inj hp
    subst e
    refine ⟨t, by rw [List.getElem?_append_right (by rw [h.1]; exact Nat.le_refl _), h.1, Nat.sub_self]; rfl, ?_⟩
    rw [List.take_left' rfl]
    exact r
def RowsIn (H : Hp) (rs : List V) (ts : List (List V)) : Prop := rs.length = ts.length ∧ ∀ (i : Nat) (t : List V), ts[i]? = some t → ∃ a, rs[i]? = some (.ref a) ∧ H a = some (.tup t)
theorem RowsIn.same {H H' : Hp} {rs : List V} {ts : List (List V)} (h : RowsIn H rs ts) (s : Same H H') : RowsIn H' rs ts := ⟨h.1, fun i t ht => by
  obtain ⟨a, h1, h2⟩ := h.2 i t ht
  exact ⟨a, h1, s _ _ h2⟩⟩
theorem RowsIn.nil (H : Hp) : RowsIn H [] [] := ⟨rfl, fun i t h => by simp at h⟩
theorem RowsIn.snoc {H : Hp} {rs : List V} {ts : List (List V)} (h : RowsIn H rs ts) {a : Addr} {t : List V} (ha : H a = some (.tup t)) : RowsIn H (rs ++ [.ref a]) (ts ++ [t]) := by
  refine ⟨by rw [List.length_append, List.length_append, h.1]; rfl, fun i u hu => ?_⟩
  by_cases hi : i < ts.length
  · rw [List.getElem?_append_left hi] at hu
    obtain ⟨b, h1, h2⟩ := h.2 i u hu
    exact ⟨b, by rw [List.getElem?_append_left (by rw [h.1]; exact hi)]; exact h1, h2⟩
  · have hl := (List.getElem?_eq_some_iff.mp hu).1
    rw [List.length_append, List.length_singleton] at hl
    have e : i = ts.length := by omega
    subst e
    rw [List.getElem?_append_right (Nat.le_refl _), Nat.sub_self] at hu
    have e : t = u := Option.some.inj hu
    subst e
    exact ⟨a, by rw [List.getElem?_append_right (by rw [h.1]; exact Nat.le_refl _), h.1, Nat.sub_self]; rfl, ha⟩
theorem RowsIn.refs {H : Hp} {rs : List V} {ts : List (List V)} (h : RowsIn H rs ts) : ∀ v ∈ rs, ∃ a, v = .ref a := fun v hv => by
  obtain ⟨i, hi, e⟩ := List.mem_iff_getElem.mp hv
  have hi' : i < ts.length := by rw [← h.1]; exact hi
  obtain ⟨a, h1, _⟩ := h.2 i ts[i] (List.getElem?_eq_getElem hi')
  rw [List.getElem?_eq_getElem hi, e] at h1
  exact ⟨a, Option.some.inj h1⟩
def BoxB (e : Nat) (fs : List (Int × Int)) : Prop := ∀ b m : Int, (Sum.inl b, V.int m) ∈ boxes fs → m.natAbs < 2 ^ e
theorem BoxB.nil (e : Nat) : BoxB e [] := fun b m h => by cases h
theorem BoxB.le {e e' : Nat} {fs : List (Int × Int)} (h : BoxB e fs) (l : e ≤ e') : BoxB e' fs := fun b m hm => Nat.lt_of_lt_of_le (h b m hm) (Nat.pow_le_pow_right (by decide) l)
theorem BoxB.snoc {e : Nat} {fs : List (Int × Int)} (h : BoxB e fs) {b n : Int} (hn : n.natAbs < 2 ^ e) : BoxB e (fs ++ [(b, n)]) := fun x m hm => by
  rw [boxes_snoc] at hm
  rcases mem_put hm with z | z
  · exact h x m z
  · cases z
    exact hn
end Pc
namespace Pc
open PySem PySem.Spec L2 PyProof.Rows
def spValOf : Sp := fun vs H Q _ => ∃ (vl : Addr) (z : Str) (n : Int) (kvs : List (Key × V)), vs = [.str z, .ref vl] ∧ H vl = some (.dK kvs) ∧ valV kvs (Sum.inr z) = some (.int n) ∧ Q (.int n) H
def spHeld : Sp := fun vs H Q _ => ∃ (bx : Addr) (x m : Int) (kvs : List (Key × V)), vs = [.int x, .ref bx] ∧ H bx = some (.dK kvs) ∧ valV kvs (Sum.inl x) = some (.int m) ∧ Q (.int m) H
def spRowN : Sp := fun vs H Q _ => ∃ (t bx vl : Addr) (ts : List V) (kvs vals : List (Key × V)) (b n : Int), vs = [.ref t, .ref bx, .ref vl] ∧ H t = some (.tup ts) ∧ H bx = some (.dK kvs) ∧ H vl = some (.dK vals) ∧ RowAt vals kvs ts b n ∧ ∀ H', Same H H' → Q (.int n) H'
def spRun (K : PySem.W.Frag) : Sp := fun vs H Q _ => ∃ (l vl : Addr) (rs : List V) (ts : List (List V)) (fs : List (Int × Int)) (vals : List (Key × V)), vs = [.ref l, .ref vl] ∧ SqL K H l rs ∧ rs.length ≤ 1000 ∧ RowsIn H rs ts ∧ H vl = some (.dK vals) ∧ RunsAt vals ts fs ∧
  ∀ (d : Addr) (H' : Hp), Same H H' → H d = none → H' d = some (.dK (boxes fs)) → Q (.ref d) H'
end Pc
namespace Pc
open PySem PySem.Spec L2 PyProof.Rows
end Pc
namespace L2
open PySem PySem.Spec PyProof.Rows PySem.SeqAt PySem.MeetsSeq PySem.MeetsSeq2 PySem.MeetsSeq3
open AutoSeq1 (wpAny_loadPart')
section
variable {P : Program} {w : World} {A : Around} {E : Value → Shared → Prop} {s : Shared}
end
section
variable {X : Cx}
end
end L2
namespace L2
open PySem
end L2
namespace Pc
open PySem PySem.Spec L2 PyProof.Rows
theorem ar_of_list {z : Str} (h1 : z.cps.toList ≠ [97, 100, 100]) (h2 : z.cps.toList ≠ [115, 117, 98]) (h3 : z.cps.toList ≠ [109, 117, 108]) (h4 : z.cps.toList ≠ [110, 101, 103]) : arS z = 0 := by
  unfold arS
  rw [if_neg (fun e => h1 (by rw [e]; decide +kernel)), if_neg (fun e => h2 (by rw [e]; decide +kernel)), if_neg (fun e => h3 (by rw [e]; decide +kernel)), if_neg (fun e => h4 (by rw [e]; decide +kernel))]
theorem ar1 (x : Nat) : arS ⟨#[x]⟩ = 0 := ar_of_list (by simp) (by simp) (by simp) (by simp)
theorem ar2 (x y : Nat) : arS ⟨#[x, y]⟩ = 0 := ar_of_list (by simp) (by simp) (by simp) (by simp)
theorem arxx (x y : Nat) : arS ⟨#[x, x, y]⟩ = 0 := ar_of_list (fun e => by simp at e; omega) (fun e => by simp at e; omega) (fun e => by simp at e; omega) (fun e => by simp at e; omega)
theorem six_first (x y : Nat) : ∀ z ∈ ([⟨#[y]⟩, mulS ⟨#[x]⟩ 2 ++ ⟨#[y]⟩, ⟨#[x]⟩, mulS ⟨#[x]⟩ 3, (⟨#[y]⟩ : Str) ++ ⟨#[x]⟩, mulS ⟨#[x]⟩ 2] : List Str), arS z = 0 ∧ z.length ≤ 20 := by
  intro z hz
  simp only [List.mem_cons, List.not_mem_nil, or_false] at hz
  rcases hz with rfl | rfl | rfl | rfl | rfl | rfl
  · exact ⟨ar1 y, by show (1 : Nat) ≤ 20; decide⟩
  · exact ⟨arxx x y, by show (3 : Nat) ≤ 20; decide⟩
  · exact ⟨ar1 x, by show (1 : Nat) ≤ 20; decide⟩
  · exact ⟨arxx x x, by show (3 : Nat) ≤ 20; decide⟩
  · exact ⟨ar2 y x, by show (2 : Nat) ≤ 20; decide⟩
  · exact ⟨ar2 x x, by show (2 : Nat) ≤ 20; decide⟩
theorem kept_x {z : Str} (hl : z.length ≤ 18) : arS (z ++ mulS (Str.ofString "x") (if inV (.str z) keptV = true then (1 : Int) else 0).toNat) = 0 ∧ (z ++ mulS (Str.ofString "x") (if inV (.str z) keptV = true then (1 : Int) else 0).toNat).length ≤ 20 := by
  by_cases h : inV (.str z) keptV = true
  · rw [if_pos h]
    have hz : z ∈ keptS := by
      obtain ⟨v, hv, e⟩ := List.any_eq_true.mp h
      simp only [keptV, List.mem_cons, List.not_mem_nil, or_false] at hv
      rcases hv with rfl | rfl | rfl | rfl | rfl | rfl | rfl | rfl | rfl <;> (rw [← eq_of_beq (show (_ == z) = true from e)]; decide +kernel)
    simp only [keptS, List.mem_cons, List.not_mem_nil, or_false] at hz
    rcases hz with rfl | rfl | rfl | rfl | rfl | rfl | rfl | rfl | rfl <;> exact ⟨by decide +kernel, by decide +kernel⟩
  · rw [if_neg h]
    have e : z ++ mulS (Str.ofString "x") (0 : Int).toNat = z := by
      show (⟨z.cps ++ #[]⟩ : Str) = z
      rw [Array.append_empty]
    rw [e]
    refine ⟨?_, by omega⟩
    rcases Nat.eq_zero_or_pos (arS z) with k | k
    · exact k
    · exact absurd (by rcases arS_cases k with rfl | rfl | rfl | rfl <;> decide +kernel) h
def spNames6 : Sp := fun vs H Q _ => ∃ c : Int, vs = [.int c] ∧ ∀ (l : Addr) (H' : Hp) (zs : List Str), zs.length = 6 → (∀ z ∈ zs, arS z = 0 ∧ z.length ≤ 20) → Same H H' → H' l = some (.lst (zs.map V.str)) → Q (.ref l) H'
end Pc
namespace L2
open PySem
end L2
namespace Pc
open PySem L2
theorem RowsIn.put {H : Hp} {rs : List V} {ts : List (List V)} (h : RowsIn H rs ts) {x : Addr} {o : HO} (hx : H x = some o) (ho : ∀ t, o ≠ .tup t) (o' : HO) : RowsIn (upd H x o') rs ts := ⟨h.1, fun i t ht => by
  obtain ⟨a, h1, h2⟩ := h.2 i t ht
  refine ⟨a, h1, ?_⟩
  rw [upd_ne (fun e => by rw [e, hx] at h2; exact ho t (Option.some.inj h2))]
  exact h2⟩
end Pc
namespace L2
open PySem PySem.Spec PyProof.Rows
section
variable {P : Program} {w : World}
end
section
variable {X : Cx} {a : Addr} {kvs : List (Key × V)}
end
end L2
namespace L2.Itm
open PySem PySem.Spec PyProof.Rows
structure Raw (h : Heap) (d : Addr) (es : Array DictEntry) (ep : Nat) (o : Obj) : Prop where
  there : h.get? d = some o
  exact' : o.ExactDict
  data : o.data = .dict es ep
theorem Raw.typeIs {s : Shared} {d : Addr} {es : Array DictEntry} {ep : Nat} {o : Obj} (r : Raw s.heap d es ep o) : s.TypeIs (.ref d) "dict" := ⟨o, r.there, r.exact'.1⟩
section
variable {prog : Program} {w : World} {A : Around} {E : Value → Shared → Prop} {s : Shared} {d : Addr} {es : Array DictEntry} {ep : Nat} {o : Obj}
end
end L2.Itm
namespace L2
open PySem PySem.Spec PyProof.Rows Itm
section
variable {X : Cx} {pins : List (Addr × Obj)} {σ σ' : St} {H H0 : Hp} {s s0 : Shared} {a : Addr} {kvs kvs' : List (List Key × V)} {o : Obj}
end
section
variable {X : Cx}
end
end L2
namespace L2
open PySem PySem.Spec PyProof.Rows Itm
section
variable {X : Cx}
end
def TK (H H' : Hp) : Prop := ∀ b xs, H b = some (.tup xs) → H' b = some (.tup xs)
theorem TK.refl (H : Hp) : TK H H := fun _ _ h => h
theorem TK.trans {H H1 H2 : Hp} (a : TK H H1) (b : TK H1 H2) : TK H H2 := fun c xs h => b c xs (a c xs h)
theorem TK.of {H H' : Hp} (s : Same H H') : TK H H' := fun b xs h => s b _ h
theorem TK.put {H : Hp} {a : Addr} {o o' : HO} (h : H a = some o) (ho : ∀ xs, o ≠ .tup xs) : TK H (upd H a o') := fun b xs hb => by
  rw [upd_ne (fun e => by rw [e, h] at hb; exact ho xs (Option.some.inj hb))]
  exact hb
theorem lc_genH {J : It} {fr : St} {tc : TT} {te : TE} {D : Addr} {H1 : Hp} {Q : Hp → Prop} (n : Nat) (item : Nat → V) (P : Nat → List V → Hp → Prop) (mono : ∀ i ys H H', TK H H' → P i ys H → P i ys H') (hn : n < sizeLine) (hD : H1 D = none)
    (hgo : ∀ i H, i < n → Same H1 H → J.go i H) (hyld : ∀ i H x H', i < n → Same H1 H → J.yld i H x H' → H' = H ∧ x = item i) (hstop : ∀ H, Same H1 H → J.stop n H) (h0 : P 0 [] H1)
    (step : ∀ i ys H (G : Hp → Prop) (K' : V → Hp → Prop), i < n → P i ys H → ys.length ≤ i → Same H1 H → (∀ H3, Same H H3 → P (i + 1) ys H3 → G H3) → (∀ y H4, Same H H4 → P (i + 1) (ys ++ [y]) H4 → K' y H4) → tc ([some (item i)] ++ fr) H fun b H3 => if b = true then te ([some (item i)] ++ fr) H3 K' else G H3)
    (done : ∀ ys H, P n ys H → ys.length ≤ n → Same H1 H → H D = some (.lst ys) → Q H) : LC 1 fr (gName 0) tc te J D H1 Q := by
  refine ⟨fun i m H => m = n - i ∧ i ≤ n ∧ ∃ ys, H D = some (.lst ys) ∧ P i ys H ∧ ys.length ≤ i ∧ Same H1 H, ⟨n, by simp, Nat.zero_le _, [], upd_same, mono _ _ _ _ (TK.of (same_new hD _)) h0, Nat.le_refl _, same_new hD _⟩, ?_⟩
  rintro i m H ⟨rfl, hi, ys, hys, hP, hl, hS⟩
  by_cases hlt : i < n
  · refine .inr ⟨hgo i H hlt hS, fun τ x H' hτ hy => ?_⟩
    obtain ⟨e1, e2⟩ := hyld i H x H' hlt hS hy
    subst e1 e2
    obtain ⟨a, rfl⟩ : ∃ a, τ = [a] := by
      match τ, hτ with
      | [a], _ => exact ⟨a, rfl⟩
    refine ⟨⟨[some (item i)], rfl, rfl⟩, step i ys H' _ _ hlt hP hl hS (fun H3 q1 q2 => ?_) (fun y H4 q1 q2 => ?_)⟩
    · exact ⟨n - (i + 1), by omega, rfl, hlt, ys, q1 _ _ hys, q2, Nat.le_succ_of_le hl, hS.trans q1⟩
    · refine ⟨ys, q1 _ _ hys, by omega, n - (i + 1), by omega, rfl, hlt, ys ++ [y], upd_same, mono _ _ _ _ (TK.put (q1 _ _ hys) fun xs e => by cases e) q2, ?_, (hS.trans q1).upd hD _⟩
      rw [List.length_append, List.length_singleton]
      omega
  · have e : i = n := by omega
    subst e
    exact .inl ⟨hstop H hS, done ys H hP hl hS hys⟩
end L2
namespace L2.Itm
open PySem PySem.Spec PyProof.Rows
section
variable {prog : Program} {w : World} {A : Around} {E : Value → Shared → Prop} {s : Shared} {d : Addr} {es : Array DictEntry} {ep : Nat} {o : Obj}
end
end L2.Itm
namespace L2
open PySem PySem.Spec PyProof.Rows Itm
section
variable {X : Cx} {tg : Expr}
end
end L2
namespace L2
open PySem PySem.Spec PyProof.Rows
end L2
namespace L2.Rv
open PySem PySem.Spec PyProof.Rows
theorem slot_next : Slot "reversed" "__next__" "reversed.__next__" :=
  .of (owner := "reversed") (n := "__next__") (by rw [typeLookup_type, builtinLookup_eq_fast]; kernel_rfl) (by decide +kernel) (by decide +kernel) (by decide +kernel)
    (by first | exact .inl (by decide +kernel) | exact .inr (by decide +kernel)) (by rw [isSubtype_type]; kernel_rfl)
theorem slot_iter : Slot "reversed" "__iter__" "reversed.__iter__" :=
  .of (owner := "reversed") (n := "__iter__") (by rw [typeLookup_type, builtinLookup_eq_fast]; kernel_rfl) (by decide +kernel) (by decide +kernel) (by decide +kernel)
    (by first | exact .inl (by decide +kernel) | exact .inr (by decide +kernel)) (by rw [isSubtype_type]; kernel_rfl)
theorem slot_init : Slot "reversed" "__init__" "object.__init__" :=
  .of (owner := "object") (n := "__init__") (by rw [typeLookup_type, builtinLookup_eq_fast]; kernel_rfl) (by decide +kernel) (by decide +kernel) (by decide +kernel)
    (by first | exact .inl (by decide +kernel) | exact .inr (by decide +kernel)) (by rw [isSubtype_type]; kernel_rfl)
theorem entry_next : entryFor table "reversed.__next__" = some Builtin.«reversed.__next__» := entryFor_of_tree (by kernel_rfl)
theorem called : TypeCalled "reversed" "reversed.__new__" "object.__init__" :=
  ⟨by decide +kernel, by decide +kernel, ⟨_, _, F.mro_reversed⟩, F.made_reversed, by decide +kernel, F.sub_reversed_self, slot_init⟩
theorem no_reversed : typeLookup (.type "tuple") "__reversed__" = pure none := by rw [typeLookup_type, builtinLookup_eq_fast]; kernel_rfl
theorem owner : Manifest.owners.lookup (String.ofList ['d', 'e', 's', 'r', 'e', 'v', 'e', 'r'].reverse) = some Manifest.sig_reversed := by kernel_rfl
theorem args_next (a : Value) : argsOk "reversed.__next__" ⟨[a], []⟩ := by
  unfold argsOk; rw [signature?_of (id := "reversed.__next__") (n := ['_', '_', 't', 'x', 'e', 'n', '_', '_']) (o := ['d', 'e', 's', 'r', 'e', 'v', 'e', 'r']) (by kernel_rfl) owner]; kernel_rfl
theorem args_iter (a : Value) : argsOk "reversed.__iter__" ⟨[a], []⟩ := by
  unfold argsOk; rw [signature?_of (id := "reversed.__iter__") (n := ['_', '_', 'r', 'e', 't', 'i', '_', '_']) (o := ['d', 'e', 's', 'r', 'e', 'v', 'e', 'r']) (by kernel_rfl) owner]; kernel_rfl
theorem entry_iter : entryFor table "reversed.__iter__" = some Builtin.«dict_keyiterator.__iter__» :=
  entryFor_alias (id' := "dict_keyiterator.__iter__") (by kernel_rfl) (by first | rfl | decide +kernel | (unfold String.splitOn; simp +decide [String.splitOnAux])) (by decide +kernel) (by kernel_rfl)
theorem tup_dict : isSubtype (.type "tuple") (.type "dict") = pure false := by rw [isSubtype_type]; kernel_rfl
def At (h : Heap) (it t : Addr) (i : Int) : Prop := ∃ o, h.get? it = some o ∧ o.cls = .type "reversed" ∧ o.data = .fields #[.ref t, rawInt i]
section
variable {prog : Program} {w : World} {A : Around} {E : Value → Shared → Prop} {s : Shared}
theorem At.typeIs {it t : Addr} {i : Int} (x : At s.heap it t i) : s.TypeIs (.ref it) "reversed" := let ⟨o, ho, hc, _⟩ := x; ⟨o, ho, hc⟩
theorem meets_new (t : Addr) (items : Array Value) (hz : items.size ≤ sizeLine) :
    MeetsIn prog w (Builtin.«reversed.__new__» ⟨[.type "reversed", .ref t], []⟩) (fun A R s => IsTup s.heap t items ∧ ∀ tk, R (.ok (.ret (Value.ref s.heap.objs.size))) { s with heap := s.heap.push { cls := .type "reversed", data := .fields #[.ref t, rawInt ((items.size : Int) - 1)] }, toks := tk }) :=
  .of_wp fun A R s h => by
    obtain ⟨ht, h⟩ := h
    unfold Builtin.«reversed.__new__»
    refine wpAny_bind (wpAny_of_eq (newClass_reversed _) ?_)
    try dsimp only
    refine wpAny_bind (wpAny_of_eq (a := ()) (by first | rfl | kernel_rfl) ?_)
    refine wpAny_bind (wpAny_of_eq (a := ()) (by first | rfl | kernel_rfl) ?_)
    try dsimp only
    refine wpAny_bind (wpAny_specialOf ht.typeIs no_reversed ?_)
    try dsimp only
    refine wpAny_bind ?_
    refine (show wpAny _ _ (isInstance (.ref t) (.type "dict") >>= _) _ _ s from wpAny_bind (wpAny_isInstance (T := "tuple") (b := false) ht.typeIs tup_dict ?_))
    refine (show wpAny _ _ (specialOf (.ref t) "__getitem__" >>= _) _ _ s from wpAny_bind (wpAny_specialOf ht.typeIs PySem.F.slot_tuple_getitem.lookup ?_))
    try dsimp only
    rw [if_pos (by decide +kernel)]
    refine wpAny_pure ?_
    rw [if_neg (by decide)]
    have sz := sizeLine_eq
    refine wpAny_bind (len_tuple ht (by omega) ?_)
    refine wpAny_bind (wpAny_of_eq (a := some ((items.size : Nat) : Int)) rfl ?_)
    try dsimp only
    unfold Builtin.SmallTypes.newRecord
    refine wpAny_bind (wpAny_newObj_type (wpAny_pure ⟨_, rfl, h _⟩))
theorem call_rv {t : Addr} {items : Array Value} {Q : Value → Shared → Prop} (hz : items.size ≤ sizeLine) (ht : IsTup s.heap t items)
    (h : ∀ tk, Q (.ref s.heap.objs.size) { s with heap := s.heap.push { cls := .type "reversed", data := .fields #[.ref t, rawInt ((items.size : Int) - 1)] }, toks := tk }) : wpAny (model prog w) A (call (.type "reversed") [.ref t]) Q E s :=
  callType_newIn called (by decide) (F.typeCall_reversed_1 _) (F.newCall_reversed_1 _) (fun obj => F.args_object_init_2 obj _) F.entry_reversed_new (meets_new t items hz) ⟨ht, fun tk => ⟨⟨_, Heap.get?_push_size _ rfl, rfl⟩, h tk⟩⟩
theorem iter_rv {it t : Addr} {i : Int} {Q : Value → Shared → Prop} (hit : At s.heap it t i) (h : Q (.ref it) s) : wpAny (model prog w) A (pyIter (.ref it)) Q E s := by
  refine wpAny_pyIter_slot hit.typeIs slot_iter (wpAny_call_entry slot_iter hit.typeIs entry_iter ?_ (args_iter _))
  show wpAny _ _ (ret (.ref it)) _ _ s
  exact wpAny_pure ⟨_, rfl, "reversed", _, hit.typeIs, slot_next.lookup, h⟩
theorem next_rv {it t : Addr} {i : Nat} {items : Array Value} {x : Value} {Q : Option Value → Shared → Prop} (hz : items.size ≤ sizeLine) (hit : At s.heap it t (i : Int)) (ht : IsTup s.heap t items) (hne : t ≠ it) (hx : items[i]? = some x)
    (q : ∀ h' tk, At h' it t ((i : Int) - 1) → Heap.SameBut it s.heap h' → Q (some x) { s with heap := h', toks := tk }) : wpAny (model prog w) A (pyNext (.ref it)) Q E s := by
  obtain ⟨o, ho, hc, hd⟩ := id hit
  have hT := hit.typeIs
  have sz := sizeLine_eq
  have hi : i < items.size := (Array.getElem?_eq_some_iff.mp hx).1
  unfold pyNext
  refine wpAny_bind (wpAny_attempt (wpAny_callSpecial?_slot (name := Str.ofString "__next__") hT slot_next (wpAny_call_entry slot_next hT entry_next ?_ (args_next _))))
  unfold Builtin.«reversed.__next__»
  refine wpAny_bind (wpAny_of_eq (a := (Value.ref it, [])) rfl ?_)
  try dsimp only
  refine wpAny_bind (wpAny_field ho hd (x := .ref t) rfl ?_)
  refine wpAny_bind (wpAny_field ho hd (x := rawInt (i : Int)) rfl ?_)
  show wpAny _ _ (if (i : Int) < 0 then _ else _) _ _ s
  rw [if_neg (by omega)]
  refine wpAny_bind (wpAny_specialOf ht.typeIs PySem.F.slot_tuple_getitem.lookup ?_)
  rw [if_neg (by decide)]
  refine wpAny_bind (wpAny_mkInt ?_)
  refine wpAny_bind (wpAny_attempt (PyProof.Rows.getItem_tuple (j := i) ht (by omega) (by omega) (by unfold seqIndex?; simp; omega) hx ?_))
  try dsimp only
  refine wpAny_bind (wpAny_field ho hd (x := rawInt (i : Int)) rfl ?_)
  refine (show wpAny _ _ (setField (.ref it) 1 (rawInt ((i : Int) - 1)) >>= _) _ _ _ from wpAny_bind (wpAny_setField ho hd (by simp) ?_))
  refine wpAny_pure ⟨x, rfl, wpAny_pure (q _ _ ?_ (Heap.SameBut.update ..))⟩
  exact ⟨_, Heap.get?_update_self _ ho (Obj.isFreed_of_fields (Obj.data_mapFields hd _)), (Obj.cls_mapFields ..).trans hc, by rw [Obj.data_mapFields hd]; simp⟩
theorem end_rv {it t : Addr} {Q : Option Value → Shared → Prop} (hh : A.handled = none) (hit : At s.heap it t (-1)) (q : ∀ h', Heap.ExtBut it s.heap h' → Q none { s with heap := h' }) : wpAny (model prog w) A (pyNext (.ref it)) Q E s := by
  obtain ⟨o, ho, hc, hd⟩ := id hit
  have hT := hit.typeIs
  unfold pyNext
  refine wpAny_bind (wpAny_attempt (wpAny_callSpecial?_slot (name := Str.ofString "__next__") hT slot_next (wpAny_call_entry slot_next hT entry_next ?_ (args_next _))))
  unfold Builtin.«reversed.__next__»
  refine wpAny_bind (wpAny_of_eq (a := (Value.ref it, [])) rfl ?_)
  try dsimp only
  refine wpAny_bind (wpAny_field ho hd (x := .ref t) rfl ?_)
  refine wpAny_bind (wpAny_field ho hd (x := rawInt (-1)) rfl ?_)
  show wpAny _ _ (if (-1 : Int) < 0 then _ else _) _ _ s
  rw [if_pos (by decide)]
  refine wpAny_bind (wpAny_rule ?_)
  refine wpAny_bind ?_
  refine (show wpAny _ _ (setField (.ref it) 1 (rawInt (-1)) >>= _) _ _ s from wpAny_bind (wpAny_setField ho hd (by simp) ?_))
  have ho2 := Heap.get?_update_self (Obj.mapFields (·.setIfInBounds 1 (rawInt (-1)))) ho (Obj.isFreed_of_fields (Obj.data_mapFields hd _))
  have hd2 := Obj.data_mapFields hd (·.setIfInBounds 1 (rawInt (-1)))
  refine wpAny_setField ho2 hd2 (by simp) ?_
  first
  | show wpAny _ _ (newExc (.type "StopIteration") [] >>= _) _ _ _
  | (refine wpAny_bind ?_; show wpAny _ _ (newExc (.type "StopIteration") [] >>= _) _ _ _)
  refine wpAny_bind ?_
  simp only [newExc, newTuple]
  refine wpAny_bind (wpAny_newObj_type (wpAny_bind (m := firstArgMember _ _) (wpAny_of_eq (a := Value.none) (by first | rfl | (simp only [firstArgMember]; rfl)) (wpAny_newObj_type ?_ (by size_fits)))) (by size_fits))
  simp only [raiseNew]
  refine wpAny_bind (wpAny_handled ?_)
  rw [show A.in1.handled = none from hh]
  refine wpAny_bind (wpAny_pure (wpAny_throw ?_))
  exact wpAny_bind (wpAny_isInstance (T := "StopIteration") (b := true) ⟨_, Heap.get?_push_size _ rfl, rfl⟩ isSubtype_stop (wpAny_pure (q _ ((((Heap.SameBut.update ..).trans (Heap.SameBut.update ..)).extBut.push _).push _))))
end
end L2.Rv
namespace L2
open PySem PySem.Spec PyProof.Rows
def Itw (K : PySem.W.Frag) (a : Addr) (n : Nat) : It :=
  ⟨fun i H => i < n ∧ ∃ xs, SqT K H a xs ∧ xs.length = n, fun i H x H' => H' = H ∧ ∀ xs, SqT K H a xs → xs[n - 1 - i]? = some x, fun i H => i = n⟩
theorem turn_revT {P : Program} {w : World} {K : PySem.W.Frag} {tg : Expr} (a it : Addr) (n : Nat) (hne : a ≠ it) : Turn P w K tg (Itw K a n) [it] it (fun i h => i ≤ n ∧ Rv.At h it a ((n : Int) - 1 - (i : Int))) where
  mem := by simp
  obj := fun i h st b hb => by
    have e : b = it := by simpa using hb
    subst e
    obtain ⟨_, o, e, c, d⟩ := st
    exact ⟨o, e, fun v z => by rw [d] at z; cases z⟩
  keep := fun i h h' st k => by
    obtain ⟨h1, o, e, r⟩ := st
    exact ⟨h1, o, k it (by simp) o e, r⟩
  item := by
    intro X hP hw hK hc i pins s σ H E I hf st hg
    subst hP hw hK
    obtain ⟨hi, xs, hq, hn⟩ := hg
    have hx : xs[n - 1 - i]? = some (xs[n - 1 - i]'(by omega)) := List.getElem?_eq_getElem (by omega)
    obtain ⟨its, rv, p, hz⟩ := I.tuple hq
    obtain ⟨u, hu, ru⟩ := rv.get hx
    obtain ⟨f0, f1, f2, f3, f4, f5⟩ := hf it (by simp)
    have e : (n : Int) - 1 - (i : Int) = ((n - 1 - i : Nat) : Int) := by omega
    have st2 := st.2
    rw [e] at st2
    refine Rv.next_rv (items := its.toArray) (by rw [List.size_toArray, ← rv.length]; exact hz) st2 p hne (x := u) (by simpa using hu) fun h' tk st' sb => ?_
    have e2 : ((n - 1 - i : Nat) : Int) - 1 = (n : Int) - 1 - ((i + 1 : Nat) : Int) := by omega
    rw [e2] at st'
    have I1 : Inv X pins σ H { s with heap := h', toks := tk } := I.turned (t' := tk) (fun b o hb e => (sb.2 b hb).trans e) f0 f1 f3 f4 f5
    obtain ⟨o, e, c, d⟩ := id st'
    exact ⟨u, rfl, go_of (s := { s with heap := h', toks := tk }) e c d (by decide) ⟨_, H, I1, ru, ⟨rfl, fun ys hy => by rw [I.tuple_inj hy hq]; exact hx⟩, ⟨hi, st'⟩, fun b hb => (hf b hb).1⟩⟩
  done := by
    intro X hP hw hK hc i pins s σ H E I hf st hg
    subst hP hw hK
    obtain ⟨f0, f1, f2, f3, f4, f5⟩ := hf it (by simp)
    have hg : i = n := hg
    subst hg
    have e : (i : Int) - 1 - (i : Int) = -1 := by omega
    have st2 := st.2
    rw [e] at st2
    exact Rv.end_rv (I.ok.hd hc) st2 fun h' eb => ⟨rfl, I.turned (t' := s.toks) (fun b o hb e => eb b o hb e) f0 f1 f3 f4 f5⟩
  self := fun _ _ _ _ _ st h => Rv.iter_rv st.2 h
def iRevT (K : PySem.W.Frag) (ta : TA) : TI := fun σ H R => ta σ H fun vs H1 => ∃ a xs, vs = [.ref a] ∧ SqT K H1 a xs ∧ R (Itw K a xs.length) H1
section
variable {X : Cx} {tg : Expr}
theorem pi_revT {a : Expr} {ta : TA} {p pos : Pos} (hg : Gl X "reversed") (hm : X.mg "reversed" = none) (ha : PA X [a] ta) (hs : starEach [a] X.env = [(false, eval a X.env)] := by rfl) : PI X tg (.Call (.Name "reversed" p) [a] [] pos) (iRevT X.K ta) := by
  intro pins s σ H R I h
  refine Call_ (ld_blt I hg hm b_reversed (PyProof.Rows.callWith_type1 (thn (ha pos pins s σ H _ I h) fun us s1 ⟨vs, H1, I1, r1, q1⟩ => ?_) hs rfl))
  obtain ⟨l, xs, e, hq, q⟩ := q1
  subst e
  cases r1 with
  | cons r rr =>
    cases rr
    cases (show _ = Value.ref l from r)
    obtain ⟨its, rv, pl, hz⟩ := I1.tuple hq
    refine Rv.call_rv (items := its.toArray) (by rw [List.size_toArray, ← rv.length]; exact hz) pl fun tk => ?_
    have hlen : ((its.toArray.size : Nat) : Int) - 1 = (xs.length : Int) - 1 - ((0 : Nat) : Int) := by
      rw [List.size_toArray, ← rv.length]
      omega
    have st : Rv.At (s1.heap.push { cls := .type "reversed", data := .fields #[.ref l, rawInt ((its.toArray.size : Int) - 1)] }) s1.heap.objs.size l ((xs.length : Int) - 1 - ((0 : Nat) : Int)) := by
      rw [← hlen]
      exact ⟨_, Heap.get?_push_size _ rfl, rfl, rfl⟩
    refine Rv.iter_rv st ?_
    obtain ⟨ol, hol, _⟩ := id pl
    refine ⟨s1.heap.objs.size, [s1.heap.objs.size], _, _, H1, rfl, I1.kept (t' := tk) fun b o e => Heap.get?_push_of_some _ e, turn_revT l _ xs.length (Nat.ne_of_lt (Heap.lt_size hol)), ⟨Nat.zero_le _, st⟩, fun b hb => ?_, q⟩
    have e : b = s1.heap.objs.size := by simpa using hb
    subst e
    exact I1.fpOk (Nat.le_refl _) (I1.hok.fresh (Nat.le_refl _))
end
theorem forW_revT {K : PySem.W.Frag} {a : Addr} {xs : List V} {g : TG} {tb : TS} {D : Ends} {σ : St} {H : Hp} (Pv : Nat → St → Hp → Prop) (h0 : Pv 0 σ H) (hl : ∀ i σ H, i ≤ xs.length → Pv i σ H → SqT K H a xs)
    (hs : ∀ i x σ H, i < xs.length → xs[xs.length - 1 - i]? = some x → Pv i σ H → g x σ H fun σ2 H2 => tb { D with nx := Pv (i + 1), ct := Pv (i + 1), bk := D.nx } σ2 H2) (hd : ∀ σ H, Pv xs.length σ H → D.nx σ H) : ForW g tb D (Itw K a xs.length) σ H := by
  refine ⟨fun i m σ H => m = xs.length - i ∧ i ≤ xs.length ∧ Pv i σ H, ⟨xs.length, by simp, Nat.zero_le _, h0⟩, ?_⟩
  rintro i m σ H ⟨rfl, hi, p⟩
  have q := hl i σ H hi p
  by_cases hlt : i < xs.length
  · refine .inr ⟨⟨hlt, xs, q, rfl⟩, Pv (i + 1), fun σ' H' p' => ⟨xs.length - (i + 1), by omega, rfl, hlt, p'⟩, fun x H' y => ?_⟩
    obtain ⟨e, y⟩ := y
    subst e
    exact hs i x σ _ hlt (y xs q) p
  · have e : i = xs.length := by omega
    subst e
    exact .inl ⟨rfl, hd σ H p⟩
end L2
namespace L2
open PySem PySem.Spec PyProof.Rows PySem.SeqAt
section
variable {X : Cx}
end
end L2
namespace L2.Zd
open PySem
abbrev IsZ (h : Heap) (z TI TO : Addr) (f0 f1 : Value) : Prop :=
  h.get? z = some { cls := .type "zip", dict := none, data := .fields #[f0, f1, .bool false, .ref TI, .ref TO], slots := #[] }
section
variable {prog : Program} {w : World} {A : Around} {E : Value → Shared → Prop} {s : Shared}
theorem alive {M : Model} {a : Addr} {Q : Option Obj → Shared → Prop} (h : Q (s.heap.get? a) s) : wpAny M A (loadIfAlive a) Q E s := fun Γ p hΓ => by
  unfold loadIfAlive
  rw [Sem.wp_loadIfAlive]
  exact wpAny_pure h Γ p hΓ
theorem not_free {z TI TO T : Addr} {b : Bool} {o : Obj} {Q : Bool → Shared → Prop} (hz : IsZ s.heap z TI TO (rawInt T) (.bool b)) (ho : s.heap.get? T = some o)
    (q : ∀ h', IsZ h' z TI TO (rawInt T) (.bool true) → Heap.SameBut z s.heap h' → Q false { s with heap := h' }) : wpAny (model prog w) A (Builtin.SmallTypes.ownedTupleIsFree (.ref z)) Q E s := by
  unfold Builtin.SmallTypes.ownedTupleIsFree
  refine wpAny_bind (wpAny_field hz rfl (x := rawInt T) rfl ?_)
  show wpAny _ _ (loadIfAlive T >>= _) _ _ _
  refine wpAny_bind (alive ?_)
  rw [ho]
  show wpAny _ _ (field (.ref z) 1 >>= _) _ _ _
  refine wpAny_bind (wpAny_field hz rfl (x := .bool b) rfl ?_)
  cases b with
  | true => exact wpAny_pure (q s.heap hz (Heap.SameBut.refl _ _))
  | false => exact wpAny_bind (wpAny_setField_rec hz (by simp) fun h' hz' hs' => wpAny_pure (q h' hz' hs'))
theorem next_item {z TI TO i1 i2 l1 l2 T : Addr} {k1 k2 : Nat} {xs ys : Array Value} {x y : Value} {f : Bool} {o : Obj} {Q : Value → Shared → Prop} (D : ZipApart z TI TO i1 i2 l1 l2)
    (hz : IsZ s.heap z TI TO (rawInt T) (.bool f)) (ho : s.heap.get? T = some o) (hTI : IsPair s.heap TI (.ref i1) (.ref i2))
    (h1 : s.heap.IsListIter i1 l1 k1) (h2 : s.heap.IsListIter i2 l2 k2) (hl1 : s.heap.IsList l1 xs) (hl2 : s.heap.IsList l2 ys) (hx : xs[k1]? = some x) (hy : ys[k2]? = some y)
    (hQ : ∀ h', IsZ h' z TI TO (rawInt T) (.bool true) → h'.IsListIter i1 l1 (k1 + 1) → h'.IsListIter i2 l2 (k2 + 1) → IsPair h' s.heap.objs.size x y → h'.objs.size = s.heap.objs.size + 1 →
      (∀ c o, c ≠ z → c ≠ i1 → c ≠ i2 → s.heap.get? c = some o → h'.get? c = some o) → Q (.ref s.heap.objs.size) { s with heap := h' }) :
    wpAny (model prog w) A (Builtin.«zip.__next__» ⟨[.ref z], []⟩) (fun fin s' => ∃ v, fin = .done (.ret v) ∧ Q v s') E s := by
  show wpAny _ _ (field (.ref z) 2 >>= _) _ _ _
  refine wpAny_bind (wpAny_field hz rfl (x := .bool false) rfl ?_)
  show wpAny _ _ (field (.ref z) 3 >>= _) _ _ _
  refine wpAny_bind (wpAny_field hz rfl (x := .ref TI) rfl ?_)
  refine wpAny_bind (wpAny_seqItems hTI rfl ?_)
  show wpAny _ _ (Builtin.SmallTypes.ownedTupleIsFree (.ref z) >>= _) _ _ _
  refine wpAny_bind (not_free hz ho fun h₁ hz₁ hs₁ => ?_)
  simp only [Bool.false_eq_true, if_false]
  refine wpAny_bind ?_
  rw [← Array.forIn_toList]
  simp only [List.forIn_cons, List.forIn_nil]
  refine wpAny_bind (wpAny_bind (wpAny_holding ?_))
  show wpAny _ _ (Builtin.SmallTypes.nextOf (.ref i1) >>= _) _ _ _
  refine wpAny_bind (wpAny_nextOf_list_item (h1.extBut hs₁.extBut D.i1z) (hl1.extBut hs₁.extBut D.l1z) hx fun h₂ h1₂ hs₂ => wpAny_pure ?_)
  refine wpAny_pure ?_
  refine wpAny_bind (wpAny_bind (wpAny_holding ?_))
  show wpAny _ _ (Builtin.SmallTypes.nextOf (.ref i2) >>= _) _ _ _
  refine wpAny_bind (wpAny_nextOf_list_item ((h2.extBut hs₁.extBut D.i2z).extBut hs₂.extBut D.i12.symm) ((hl2.extBut hs₁.extBut D.l2z).extBut hs₂.extBut D.l2i1) hy fun h₄ h2₄ hs₄ => wpAny_pure ?_)
  refine wpAny_pure (wpAny_pure ?_)
  refine wpAny_bind (wpAny_newTuple (hsz := by show (2 : Nat) ≤ sizeLine; decide) ?_)
  have hsz : h₄.objs.size = s.heap.objs.size := by rw [hs₄.1, hs₂.1, hs₁.1]
  have up : ∀ c o, c ≠ z → c ≠ i1 → c ≠ i2 → s.heap.get? c = some o → h₄.get? c = some o := fun c o c1 c3 c4 e => hs₄.extBut _ _ c4 (hs₂.extBut _ _ c3 (hs₁.extBut _ _ c1 e))
  refine wpAny_pure ⟨_, rfl, ?_⟩
  rw [hsz]
  have n1 : IsPair (h₄.push { cls := .type "tuple", data := .seq #[x, y] }) s.heap.objs.size x y := by
    rw [← hsz]
    exact Heap.get?_push_size _ rfl
  exact hQ _ (Heap.get?_push_of_some _ (hs₄.extBut _ _ D.i2z.symm (hs₂.extBut _ _ D.i1z.symm hz₁))) ((h1₂.extBut hs₄.extBut D.i12).at fun o e => Heap.get?_push_of_some _ e) (h2₄.at fun o e => Heap.get?_push_of_some _ e) n1 (by rw [Heap.size_push, hsz]) fun c o c1 c3 c4 e => Heap.get?_push_of_some _ (up c o c1 c3 c4 e)
theorem next_end {z TI TO i1 i2 l1 l2 T : Addr} {k1 : Nat} {xs : Array Value} {f : Bool} {o : Obj} {Q : Fin → Shared → Prop} (hh : A.handled = none) (D : ZipApart z TI TO i1 i2 l1 l2)
    (hz : IsZ s.heap z TI TO (rawInt T) (.bool f)) (ho : s.heap.get? T = some o) (hTI : IsPair s.heap TI (.ref i1) (.ref i2))
    (h1 : s.heap.IsListIter i1 l1 k1) (hl1 : s.heap.IsList l1 xs) (hend : xs[k1]? = none)
    (hE : ∀ h' e, (∀ c o, c ≠ z → c ≠ i1 → s.heap.get? c = some o → h'.get? c = some o) → (∃ o, h'.get? e = some o ∧ o.cls = .type "StopIteration") → E (.ref e) { s with heap := h' }) :
    wpAny (model prog w) A (Builtin.«zip.__next__» ⟨[.ref z], []⟩) Q E s := by
  show wpAny _ _ (field (.ref z) 2 >>= _) _ _ _
  refine wpAny_bind (wpAny_field hz rfl (x := .bool false) rfl ?_)
  show wpAny _ _ (field (.ref z) 3 >>= _) _ _ _
  refine wpAny_bind (wpAny_field hz rfl (x := .ref TI) rfl ?_)
  refine wpAny_bind (wpAny_seqItems hTI rfl ?_)
  show wpAny _ _ (Builtin.SmallTypes.ownedTupleIsFree (.ref z) >>= _) _ _ _
  refine wpAny_bind (not_free hz ho fun h₁ hz₁ hs₁ => ?_)
  simp only [Bool.false_eq_true, if_false]
  refine wpAny_bind ?_
  rw [← Array.forIn_toList]
  simp only [List.forIn_cons, List.forIn_nil]
  refine wpAny_bind (wpAny_bind (wpAny_holding ?_))
  show wpAny _ _ (Builtin.SmallTypes.nextOf (.ref i1) >>= _) _ _ _
  exact wpAny_bind (wpAny_nextOf_list_end hh (h1.extBut hs₁.extBut D.i1z) (hl1.extBut hs₁.extBut D.l1z) hend fun h₂ e hs₂ he => hE h₂ e (fun c o c1 c3 x => hs₂ _ _ c3 (hs₁.extBut _ _ c1 x)) he)
end
end L2.Zd
namespace L2.Zd
open PySem
theorem entry_loop : entryFor table "dict.update.loop" = some Builtin.«dict.update.loop» := entryFor_of_tree (by kernel_rfl)
theorem plain_loop : plainId "dict.update.loop" = true := by decide +kernel
def Zs (d z TI TO i1 i2 l1 l2 : Addr) (xs ys : Array Value) (i : Nat) (h : Heap) : Prop :=
  ((IsZip h z TI TO .none ∧ ∃ a b, IsPair h TO a b) ∨ ∃ (T : Addr) (b : Bool) (o : Obj), IsZ h z TI TO (rawInt T) (.bool b) ∧ h.get? T = some o ∧ T ≠ z ∧ T ≠ i1 ∧ T ≠ i2 ∧ T ≠ d) ∧
    IsPair h TI (.ref i1) (.ref i2) ∧ h.IsListIter i1 l1 i ∧ h.IsListIter i2 l2 i ∧ h.IsList l1 xs ∧ h.IsList l2 ys
structure Ap (d z TI TO i1 i2 l1 l2 : Addr) : Prop where
  za : ZipApart z TI TO i1 i2 l1 l2
  dz : d ≠ z
  dTI : d ≠ TI
  dTO : d ≠ TO
  d1 : d ≠ i1
  d2 : d ≠ i2
  dl1 : d ≠ l1
  dl2 : d ≠ l2
section
variable {prog : Program} {w : World} {A : Around} {E : Value → Shared → Prop} {s : Shared} {d z TI TO i1 i2 l1 l2 : Addr} {xs ys : Array Value} {i : Nat}
theorem Zs.dict {h h' : Heap} (D : Ap d z TI TO i1 i2 l1 l2) (hs : Heap.SameBut d h h') (x : Zs d z TI TO i1 i2 l1 l2 xs ys i h) : Zs d z TI TO i1 i2 l1 l2 xs ys i h' := by
  obtain ⟨a, b, c, e, f, g⟩ := x
  refine ⟨?_, hs.extBut _ _ D.dTI.symm b, c.extBut hs.extBut D.d1.symm, e.extBut hs.extBut D.d2.symm, f.extBut hs.extBut D.dl1.symm, g.extBut hs.extBut D.dl2.symm⟩
  rcases a with ⟨a1, u, v, a2⟩ | ⟨T, u, o, a1, a2, a3, a4, a5, a6⟩
  · exact .inl ⟨hs.extBut _ _ D.dz.symm a1, u, v, hs.extBut _ _ D.dTO.symm a2⟩
  · exact .inr ⟨T, u, o, hs.extBut _ _ D.dz.symm a1, hs.extBut _ _ a6 a2, a3, a4, a5, a6⟩
theorem zs_next {x y : Value} {Q : Option Value → Shared → Prop} (D : Ap d z TI TO i1 i2 l1 l2) (hz : Zs d z TI TO i1 i2 l1 l2 xs ys i s.heap) (hd : d < s.heap.objs.size) (hx : xs[i]? = some x) (hy : ys[i]? = some y)
    (hQ : ∀ h', Zs d z TI TO i1 i2 l1 l2 xs ys (i + 1) h' → IsPair h' s.heap.objs.size x y → (∀ c o, c ≠ z → c ≠ TO → c ≠ i1 → c ≠ i2 → s.heap.get? c = some o → h'.get? c = some o) → Q (some (.ref s.heap.objs.size)) { s with heap := h' }) :
    wpAny (model prog w) A (pyNext (.ref z)) Q E s := by
  obtain ⟨a, hTI, h1, h2, hl1, hl2⟩ := hz
  have lt : ∀ {c o}, s.heap.get? c = some o → s.heap.objs.size ≠ c := fun e => Nat.ne_of_gt (Heap.lt_size e)
  have g1 : s.heap.objs.size ≠ i1 := by obtain ⟨_, e, _⟩ := h1; exact lt e
  have g2 : s.heap.objs.size ≠ i2 := by obtain ⟨_, e, _⟩ := h2; exact lt e
  rcases a with ⟨a1, u, v, a2⟩ | ⟨T, u, o, a1, a2, a3, a4, a5, a6⟩
  · refine wpAny_pyNext_zip_item D.za a1 hTI a2 h1 h2 hl1 hl2 hx hy fun h' b1 b2 b3 b4 b5 b6 hk => hQ h' ⟨.inr ⟨_, false, _, b1, b5, lt a1, g1, g2, Nat.ne_of_gt hd⟩, hk _ _ D.za.TIz D.za.TITO D.za.TIi1 D.za.TIi2 hTI, b3, b4, hl1.at fun o e => hk _ o D.za.l1z D.za.l1TO D.za.l1i1 D.za.l1i2 e, hl2.at fun o e => hk _ o D.za.l2z D.za.l2TO D.za.l2i1 D.za.l2i2 e⟩ b5 hk
  · have hT : s.TypeIs (.ref z) "zip" := ⟨_, a1, rfl⟩
    unfold pyNext
    refine wpAny_bind (wpAny_attempt (wpAny_callSpecial?_slot (name := Str.ofString "__next__") hT F.slot_zip_next
      (wpAny_call_entry F.slot_zip_next hT F.entry_zip_next
        (next_item D.za a1 a2 hTI h1 h2 hl1 hl2 hx hy fun h' b1 b3 b4 b5 b6 hk => wpAny_pure (hQ h' ⟨.inr ⟨T, true, o, b1, hk _ _ a3 a4 a5 a2, a3, a4, a5, a6⟩, hk _ _ D.za.TIz D.za.TIi1 D.za.TIi2 hTI, b3, b4, hl1.at fun o e => hk _ o D.za.l1z D.za.l1i1 D.za.l1i2 e, hl2.at fun o e => hk _ o D.za.l2z D.za.l2i1 D.za.l2i2 e⟩ b5 fun c o c1 _ c3 c4 e => hk c o c1 c3 c4 e)) (F.args_zip_next_1 _))))
theorem zs_end {Q : Option Value → Shared → Prop} (hh : A.handled = none) (D : Ap d z TI TO i1 i2 l1 l2) (hz : Zs d z TI TO i1 i2 l1 l2 xs ys i s.heap) (hx : xs[i]? = none)
    (hQ : ∀ h', (∀ c o, c ≠ z → c ≠ TO → c ≠ i1 → c ≠ i2 → s.heap.get? c = some o → h'.get? c = some o) → Q none { s with heap := h' }) : wpAny (model prog w) A (pyNext (.ref z)) Q E s := by
  obtain ⟨a, hTI, h1, h2, hl1, hl2⟩ := hz
  rcases a with ⟨a1, u, v, a2⟩ | ⟨T, u, o, a1, a2, a3, a4, a5, a6⟩
  · exact wpAny_pyNext_zip_end hh D.za a1 hTI a2 h1 h2 hl1 hl2 (.inl hx) hQ
  · have hT : s.TypeIs (.ref z) "zip" := ⟨_, a1, rfl⟩
    unfold pyNext
    refine wpAny_bind (wpAny_attempt (wpAny_callSpecial?_slot (name := Str.ofString "__next__") hT F.slot_zip_next
      (wpAny_call_entry F.slot_zip_next hT F.entry_zip_next (next_end (by first | exact hh | simp [hh]) D.za a1 a2 hTI h1 hl1 hx fun h' e hk he => ?_) (F.args_zip_next_1 _))))
    obtain ⟨o, ho, hc⟩ := he
    refine wpAny_bind (wpAny_isInstance (T := "StopIteration") (b := true) ⟨o, ho, hc⟩ isSubtype_stop ?_)
    exact wpAny_pure (hQ _ fun c o c1 _ c3 _ e => hk c o c1 c3 e)
theorem loop {κ : Type} [DecidableEq κ] {knd : KeyKind prog w κ} {R : Result → Shared → Prop} (hh : A.in1.handled = none) (D : Ap d z TI TO i1 i2 l1 l2) (ps : List (κ × Value)) (hn : ps.length = xs.size)
    (hps : ∀ (i : Nat) (k : κ) (v : Value), ps[i]? = some (k, v) → ∃ x, xs[i]? = some x ∧ knd.is k x = true ∧ ys[i]? = some v) :
    ∀ (m i : Nat) (j : Int) (s : Shared) (kvs : List (κ × Value)), ps.length - i = m → i ≤ ps.length → Zs d z TI TO i1 i2 l1 l2 xs ys i s.heap → s.heap.DictOf knd d kvs → kvs.length + m ≤ sizeLine →
      (∀ h' tk, h'.DictOf knd d (merged kvs (ps.drop i)) → (∀ c o, c ≠ d → c ≠ z → c ≠ TO → c ≠ i1 → c ≠ i2 → s.heap.get? c = some o → h'.get? c = some o) → R (.ok (.ret .none)) { s with heap := h', toks := tk }) →
      codeAny (model prog w) A (.builtin "dict.update.loop" ⟨[.ref d, .ref z, rawInt j, .none], []⟩) R s := by
  intro m
  induction m with
  | zero =>
    intro i j s kvs hm hi hz hd hsz hR
    have e : i = xs.size := by omega
    refine codeAny_builtin entry_loop ?_
    rw [Around.under_plainId plain_loop _]
    show wpAny _ A.in1 (pyNext (.ref z) >>= _) _ _ s
    refine wpAny_bind (zs_end hh D hz (by rw [e]; exact Array.getElem?_eq_none (Nat.le_refl _)) fun h' hk => ?_)
    show wpAny _ A.in1 (Builtin.Dict.addKeywords d [] >>= _) _ _ _
    refine wpAny_bind (wpAny_pure ?_)
    refine wpAny_pure (hR h' s.toks ?_ fun c o c1 c2 c3 c4 c5 x => hk c o c2 c3 c4 c5 x)
    rw [List.drop_eq_nil_of_le (by omega)]
    obtain ⟨o, es, ep, ho, r⟩ := hd
    exact ⟨o, es, ep, hk d o D.dz D.dTO D.d1 D.d2 ho, r⟩
  | succ m ih =>
    intro i j s kvs hm hi hz hd hsz hR
    have hlt : i < ps.length := by omega
    obtain ⟨x, hx, hk, hy⟩ := hps i ps[i].1 ps[i].2 (List.getElem?_eq_getElem hlt)
    refine codeAny_builtin entry_loop ?_
    rw [Around.under_plainId plain_loop _]
    show wpAny _ A.in1 (pyNext (.ref z) >>= _) _ _ s
    have hdl : d < s.heap.objs.size := by obtain ⟨_, _, _, e, _⟩ := hd; exact Heap.lt_size e
    refine wpAny_bind (zs_next D hz hdl hx hy fun h₁ hz₁ hP keep => ?_)
    refine wpAny_bind (wpAny_holding ?_)
    refine wpAny_bind (wpAny_tryCatch ?_)
    unfold Builtin.Dict.pairItems
    have hT : Shared.TypeIs { s with heap := h₁ } (.ref s.heap.objs.size) "tuple" := ⟨_, hP, rfl⟩
    refine wpAny_bind (wpAny_typeOf hT ?_)
    rw [if_pos (by decide)]
    refine wpAny_bind (wpAny_seqItems hP rfl (wpAny_pure ?_))
    show wpAny _ _ (holding [x, ps[i].2] (dictSet d x ps[i].2)) _ _ _
    refine wpAny_holding ?_
    unfold dictSet
    refine wpAny_holding ?_
    refine wpAny_bind (knd.pyHash hk ?_)
    have hd₁ : h₁.DictOf knd d kvs := by
      obtain ⟨o, es, ep, ho, r⟩ := hd
      exact ⟨o, es, ep, keep d o D.dz D.dTO D.d1 D.d2 ho, r⟩
    refine wpAny_dictSetHashed_pairs (s := { s with heap := h₁, toks := s.toks + 1 }) hk hd₁ (fun h₂ hd₂ hs₂ => ?_) (by omega)
    refine wpAny_pure ⟨plainId_quiet plain_loop _, ih (i + 1) (j + 1) _ _ (by omega) hlt (hz₁.dict D hs₂) hd₂ ?_ fun h' tk hd' kp => ?_⟩
    · have := merged_length_le kvs [(ps[i].1, ps[i].2)]
      have e : merged kvs [(ps[i].1, ps[i].2)] = stored kvs ps[i].1 ps[i].2 := rfl
      rw [e] at this
      have e2 : [(ps[i].1, ps[i].2)].length = 1 := rfl
      omega
    · refine hR h' tk ?_ fun c o c1 c2 c3 c4 c5 x => kp c o c1 c2 c3 c4 c5 ((hs₂.2 c c1).trans (keep c o c2 c3 c4 c5 x))
      rw [List.drop_eq_getElem_cons hlt]
      exact hd'
end
end L2.Zd
namespace L2.Zd
open PySem
section
variable {prog : Program} {w : World} {A : Around} {E : Value → Shared → Prop} {s : Shared}
end
end L2.Zd
namespace L2.Zd
open PySem
section
variable {prog : Program} {w : World} {A : Around} {E : Value → Shared → Prop} {s : Shared} {z TI TO i1 i2 l1 l2 : Addr} {xs ys : Array Value}
end
end L2.Zd
namespace L2
open PySem PySem.Spec PyProof.Rows Srt
def mergeV (ps acc : List (Key × V)) : List (Key × V) := ps.foldl (fun acc p => putK acc p.1 p.2) acc
theorem KV.mergeZ : ∀ {ps : List (Key × V)} {qs : List (Key × Value)}, KV ps qs → ∀ {acc : List (Key × V)} {acc' : List (Key × Value)}, KV acc acc' → KV (mergeV ps acc) (merged acc' qs)
  | _, _, .nil, _, _, r => r
  | (k, v) :: ps, (k', u) :: qs, .cons h t, acc, acc', r => by
    obtain ⟨h1, h2⟩ := h
    have h1 : k = k' := h1
    subst h1
    exact KV.mergeZ t (r.put k h2)
theorem mergeV_len : ∀ (ps acc : List (Key × V)), (mergeV ps acc).length ≤ acc.length + ps.length
  | [], acc => Nat.le_refl _
  | p :: ps, acc => by
    have h1 := mergeV_len ps (putK acc p.1 p.2)
    have h2 := length_putK acc p.1 p.2
    show (mergeV ps (putK acc p.1 p.2)).length ≤ _
    rw [List.length_cons]
    omega
section
variable {X : Cx}
end
end L2
namespace L2.Zd
open PySem PyProof.Rows
theorem list_no_keys : typeLookup (.type "list") "keys" = pure none := by rw [typeLookup_type, builtinLookup_eq_fast]; kernel_rfl
def Prs {prog : Program} {w : World} {κ : Type} [DecidableEq κ] (knd : KeyKind prog w κ) (ps : List (κ × Value)) (items : Array Value) (no : List Addr) (h : Heap) : Prop :=
  ∀ (i : Nat) (k : κ) (y : Value), ps[i]? = some (k, y) → ∃ T x o n, items[i]? = some (.ref T) ∧ T ∉ no ∧ knd.is k x = true ∧ h.get? T = some o ∧ o.cls = .type "tuple" ∧ o.data = .seq #[x, y] n
section
variable {prog : Program} {w : World} {A : Around} {E : Value → Shared → Prop} {s : Shared}
theorem Prs.keep {κ : Type} [DecidableEq κ] {knd : KeyKind prog w κ} {ps : List (κ × Value)} {items : Array Value} {no : List Addr} {h h' : Heap} (x : Prs knd ps items no h) (k : ∀ b o, b ∉ no → h.get? b = some o → h'.get? b = some o) : Prs knd ps items no h' := fun i a b e => by
  obtain ⟨T, u, o, n, h1, h2, h3, h4, h5⟩ := x i a b e
  exact ⟨T, u, o, n, h1, h2, h3, k _ _ h2 h4, h5⟩
theorem loopP {κ : Type} [DecidableEq κ] {knd : KeyKind prog w κ} {R : Result → Shared → Prop} {I l d : Addr} {items : Array Value} (hI : I ≠ l) (hh : A.in1.handled = none) (hdI : d ≠ I) (hdl : d ≠ l) (ps : List (κ × Value)) (hn : ps.length = items.size) :
    ∀ (m i : Nat) (j : Int) (s : Shared) (kvs : List (κ × Value)), ps.length - i = m → i ≤ ps.length → s.heap.IsListIter I l i → s.heap.IsList l items → Prs knd ps items [d, I] s.heap → s.heap.DictOf knd d kvs → kvs.length + m ≤ sizeLine →
      (∀ h' tk, h'.DictOf knd d (merged kvs (ps.drop i)) → (∀ c o, c ≠ d → c ≠ I → s.heap.get? c = some o → h'.get? c = some o) → R (.ok (.ret .none)) { s with heap := h', toks := tk }) →
      codeAny (model prog w) A (.builtin "dict.update.loop" ⟨[.ref d, .ref I, rawInt j, .none], []⟩) R s := by
  intro m
  induction m with
  | zero =>
    intro i j s kvs hm hi h1 hl hp hd hsz hR
    have e : i = items.size := by omega
    refine codeAny_builtin entry_loop ?_
    rw [Around.under_plainId plain_loop _]
    show wpAny _ A.in1 (pyNext (.ref I) >>= _) _ _ s
    refine wpAny_bind (wpAny_pyNext_list_end hh h1 hl (by rw [e]; exact Array.getElem?_eq_none (Nat.le_refl _)) fun h' hk => ?_)
    show wpAny _ A.in1 (Builtin.Dict.addKeywords d [] >>= _) _ _ _
    refine wpAny_bind (wpAny_pure ?_)
    refine wpAny_pure (hR h' s.toks ?_ fun c o c1 c2 x => hk c o c2 x)
    rw [List.drop_eq_nil_of_le (by omega)]
    obtain ⟨o, es, ep, ho, r⟩ := hd
    exact ⟨o, es, ep, hk d o hdI ho, r⟩
  | succ m ih =>
    intro i j s kvs hm hi h1 hl hp hd hsz hR
    have hlt : i < ps.length := by omega
    obtain ⟨T, x, o, n, hx, hT, hk, ho, hc, hdat⟩ := hp i ps[i].1 ps[i].2 (List.getElem?_eq_getElem hlt)
    have hTd : T ≠ d := fun e => hT (by rw [e]; exact List.mem_cons_self)
    have hTI : T ≠ I := fun e => hT (by rw [e]; exact List.mem_cons_of_mem _ List.mem_cons_self)
    refine codeAny_builtin entry_loop ?_
    rw [Around.under_plainId plain_loop _]
    show wpAny _ A.in1 (pyNext (.ref I) >>= _) _ _ s
    refine wpAny_bind (wpAny_pyNext_list_item h1 hl hx fun h₁ h1₁ hs₁ => ?_)
    have hP : h₁.get? T = some o := hs₁.extBut _ _ hTI ho
    refine wpAny_bind (wpAny_holding (wpAny_bind (wpAny_tryCatch ?_)))
    unfold Builtin.Dict.pairItems
    have hTy : Shared.TypeIs { s with heap := h₁ } (.ref T) "tuple" := ⟨_, hP, hc⟩
    refine wpAny_bind (wpAny_typeOf hTy ?_)
    rw [if_pos (by decide)]
    refine wpAny_bind (wpAny_seqItems hP hdat (wpAny_pure ?_))
    show wpAny _ _ (holding [x, ps[i].2] (dictSet d x ps[i].2)) _ _ _
    refine wpAny_holding ?_
    unfold dictSet
    refine wpAny_holding ?_
    refine wpAny_bind (knd.pyHash hk ?_)
    have hd₁ : h₁.DictOf knd d kvs := by
      obtain ⟨o, es, ep, ho, r⟩ := hd
      exact ⟨o, es, ep, hs₁.extBut _ _ hdI ho, r⟩
    refine wpAny_dictSetHashed_pairs (s := { s with heap := h₁, toks := s.toks + 1 }) hk hd₁ (fun h₂ hd₂ hs₂ => ?_) (by omega)
    have kp : ∀ c o, c ≠ d → c ≠ I → s.heap.get? c = some o → h₂.get? c = some o := fun c o c1 c2 e => hs₂.extBut _ _ c1 (hs₁.extBut _ _ c2 e)
    refine wpAny_pure ⟨plainId_quiet plain_loop _, ih (i + 1) (j + 1) _ _ (by omega) hlt (h1₁.extBut hs₂.extBut hdI.symm) ((hl.extBut hs₁.extBut hI.symm).extBut hs₂.extBut hdl.symm) (hp.keep fun b o hb e => kp b o (fun z => hb (by rw [z]; exact List.mem_cons_self)) (fun z => hb (by rw [z]; exact List.mem_cons_of_mem _ List.mem_cons_self)) e) hd₂ ?_ fun h' tk hd' k' => ?_⟩
    · have := merged_length_le kvs [(ps[i].1, ps[i].2)]
      have e : merged kvs [(ps[i].1, ps[i].2)] = stored kvs ps[i].1 ps[i].2 := rfl
      rw [e] at this
      have e2 : [(ps[i].1, ps[i].2)].length = 1 := rfl
      omega
    · refine hR h' tk ?_ fun c o c1 c2 x => k' c o c1 c2 (kp c o c1 c2 x)
      rw [List.drop_eq_getElem_cons hlt]
      exact hd'
theorem meets_missL (a : Addr) (vs : Array Value) (n : Nat) (u : Tok) :
    Meets (Builtin.«object.__getattribute__» ⟨[.ref a, .str "keys" u], []⟩) (fun A R s => s.heap.get? a = some { cls := .type "list", dict := none, data := .seq vs n, slots := #[] } ∧ raisesAttr (.ref a) "keys" A R s) :=
  meets_getattribute_miss_list a vs n #[] "keys" u list_no_keys (by decide +kernel) (by decide +kernel)
theorem no_keysL {a : Addr} {vs : Array Value} {n : Nat} {Q : Option Value → Shared → Prop} (hx : s.heap.get? a = some { cls := .type "list", dict := none, data := .seq vs n, slots := #[] }) (hA : A.handled = none)
    (h : ∀ h' tk, (∀ b o, s.heap.get? b = some o → h'.get? b = some o) → Q none { s with heap := h', toks := tk }) : wpAny (model prog w) A (getAttr? (.ref a) "keys") Q E s := by
  obtain ⟨hp, g, d, tk, os⟩ := s
  have hT : ∀ tk', (⟨hp, g, d, tk', os⟩ : Shared).TypeIs (.ref a) "list" := fun _ => ⟨_, hx, rfl⟩
  have f1 := sub_AttributeError
  have f3 := F.slot_list_getattribute.lookup
  have f4 := F.slot_list_getattribute.bind (.ref a)
  have f5 := am_list_getattr_none
  unfold getAttr? getAttrBy? getAttrBy
  repeat (any_goals (first | assumption | exact hT _ | ((with_reducible show wpAny _ _ (call (Value.builtin "list.__getattribute__") _ _) _ _ _); refine call_meets F.slot_list_getattribute (hT _) am_entry_list_getattribute (F.args_list_getattribute_2 _ _) (meets_missL a vs n _) ⟨hx, hA, fun h' tk' e hx' => ?_⟩) | wp_step))
  obtain ⟨t', u', he⟩ := hx'.there
  show wpAny _ _ (getattributeRaised _ _ _ _ _ _ _) _ _ _
  unfold getattributeRaised
  repeat (any_goals (first | assumption | wp_step))
  exact h h' tk' hx'.keeps
theorem call_dictL {κ : Type} [DecidableEq κ] {knd : KeyKind prog w κ} {l : Addr} {items : Array Value} {n : Nat} {Q : Value → Shared → Prop} (hh : A.handled = none) (ho : s.heap.get? l = some { cls := .type "list", dict := none, data := .seq items n, slots := #[] })
    (ps : List (κ × Value)) (hn : ps.length = items.size) (hps : Prs knd ps items [] s.heap) (hsz : ps.length ≤ sizeLine)
    (h : ∀ h' tk, h'.DictOf knd s.heap.objs.size (merged [] ps) → (∀ c o, s.heap.get? c = some o → h'.get? c = some o) → Q (.ref s.heap.objs.size) { s with heap := h', toks := tk }) :
    wpAny (model prog w) A (call (.type "dict") [.ref l]) Q E s := by
  refine callType_codes (Q₁ := fun obj s₁ => obj = .ref s.heap.objs.size ∧ s₁ = { s with heap := s.heap.push { cls := .type "dict", data := .dict #[] } }) F.kt_called_dict (F.kt_typeCall_dict_1 _) F.entry_dict_init (kt_code_dict_new _ ⟨rfl, rfl⟩) ?_
  rintro obj s₁ ⟨rfl, rfl⟩
  have hnew : (s.heap.push { cls := .type "dict", data := .dict #[] }).DictOf knd s.heap.objs.size [] := Heap.DictOf.new s.heap
  have gt : ∀ {c o}, s.heap.get? c = some o → s.heap.objs.size ≠ c := fun e => Nat.ne_of_gt (Heap.lt_size e)
  have up : ∀ {c o}, s.heap.get? c = some o → (s.heap.push { cls := .type "dict", data := .dict #[] }).get? c = some o := fun e => Heap.get?_push_of_some _ e
  refine ⟨hnew.typeIs, F.args_dict_init_2 _ _, ?_⟩
  unfold Builtin.«dict.__init__»
  refine wpAny_bind ?_
  unfold Builtin.Dict.selfAndRest
  refine wpAny_bind (wpAny_notOrdered_dict hnew.typeIs ?_)
  show wpAny _ _ (pure (s.heap.objs.size, [Value.ref l])) _ _ _
  refine wpAny_pure ?_
  show wpAny _ _ (Builtin.Dict.updateFrom "dict.__init__" s.heap.objs.size (.ref l) [] .none) _ _ _
  unfold Builtin.Dict.updateFrom
  have hT : Shared.TypeIs { s with heap := s.heap.push { cls := .type "dict", data := .dict #[] } } (.ref l) "list" := ⟨_, up ho, rfl⟩
  refine wpAny_bind (wpAny_typeOf hT ?_)
  rw [if_pos (by decide)]
  refine wpAny_bind (no_keysL (up ho) (by simp [hh]) fun h₁ tk₁ kp₁ => ?_)
  rw [if_pos (show (none : Option Value).isNone = true from rfl)]
  have kp : ∀ {c o}, s.heap.get? c = some o → h₁.get? c = some o := fun e => kp₁ _ _ (up e)
  have hl₁ : h₁.IsList l items := ⟨_, kp ho, rfl, n, rfl⟩
  refine wpAny_bind (wpAny_rule (wpAny_bind (wpAny_pyIter_list hl₁ ?_)))
  have dl : s.heap.objs.size < h₁.objs.size := by
    obtain ⟨o, _, _, e, _⟩ := hnew
    exact Heap.lt_size (kp₁ _ _ e)
  have hd₁ : (h₁.push { cls := .type "list_iterator", data := .fields #[.ref l, .int 0 0] }).DictOf knd s.heap.objs.size [] := by
    obtain ⟨o, es, ep, ho, r⟩ := hnew
    exact ⟨o, es, ep, Heap.get?_push_of_some _ (kp₁ _ _ ho), r⟩
  refine wpAny_pure ⟨plainId_quiet plain_loop _, loopP (items := items) (Nat.ne_of_gt (Heap.lt_size (kp ho))) (by simp [hh]) (Nat.ne_of_lt dl) (gt ho) ps hn ps.length 0 0 _ [] rfl (Nat.zero_le _) ⟨_, Heap.get?_push_size _ rfl, rfl, rfl⟩ (hl₁.push _) (fun i k y e => ?_) hd₁ (by show 0 + _ ≤ _; omega) fun h' tk hd' k' => ⟨rfl, ?_⟩⟩
  · obtain ⟨T, x, o, n, a1, a2, a3, a4, a5⟩ := hps i k y e
    refine ⟨T, x, o, n, a1, fun z => ?_, a3, Heap.get?_push_of_some _ (kp a4), a5⟩
    rcases List.mem_cons.mp z with z | z
    · exact gt a4 z.symm
    · rw [List.mem_singleton.mp z] at a4
      exact absurd (Heap.lt_size (kp a4)) (Nat.lt_irrefl _)
  · exact h h' tk hd' fun c o e => k' c o (gt e).symm (Nat.ne_of_lt (Heap.lt_size (kp e))) (Heap.get?_push_of_some _ (kp e))
end
end L2.Zd
namespace L2
open PySem PySem.Spec PyProof.Rows PySem.SeqAt
theorem b_min : bootBuiltins "min" = some (.builtin "min") := by decide +kernel
def isSV (z : Str) : Value → Bool
  | .str w _ => w == z
  | _ => false
def rCountL : V → List V → Hp → VK → Prop := fun x xs H Q => ∃ (a : Addr) (ks : List Key) (z : Str), x = .ref a ∧ xs = [.str z] ∧ H a = some (.lst (ks.map kV)) ∧ ∀ n : Nat, Q (.int (n : Int)) H
def rRemove : V → List V → Hp → VK → Prop := fun x xs H Q => ∃ (a : Addr) (ns : List Int) (i : Int), x = .ref a ∧ xs = [.int i] ∧ H a = some (.lst (ns.map V.int)) ∧ i ∈ ns ∧ Q .non (upd H a (.lst ((ns.erase i).map V.int)))
theorem kv_build : ∀ {ps : List (Key × V)} {R : Nat → Key → Value → Prop}, (∀ (i : Nat) (p : Key × V), ps[i]? = some p → ∃ y, RelV p.2 y ∧ R i p.1 y) → ∃ qs : List (Key × Value), KV ps qs ∧ ∀ (i : Nat) (k : Key) (y : Value), qs[i]? = some (k, y) → R i k y
  | [], _, _ => ⟨[], .nil, fun i k y h => by simp at h⟩
  | p :: ps, R, h => by
    obtain ⟨y, ry, hy⟩ := h 0 p rfl
    obtain ⟨qs, r, hq⟩ := kv_build (ps := ps) (R := fun i => R (i + 1)) fun i p hp => h (i + 1) p (by rw [List.getElem?_cons_succ]; exact hp)
    refine ⟨(p.1, y) :: qs, .cons ⟨rfl, ry⟩ r, fun i k z e => ?_⟩
    cases i with
    | zero => cases e; exact hy
    | succ i => exact hq i k z (by rw [List.getElem?_cons_succ] at e; exact e)
theorem eraseIdx_mapV {α β : Type} (f : α → β) : ∀ (l : List α) (i : Nat), (l.map f).eraseIdx i = (l.eraseIdx i).map f
  | [], _ => rfl
  | _ :: _, 0 => rfl
  | a :: r, i + 1 => by
    show f a :: (r.map f).eraseIdx i = f a :: (r.eraseIdx i).map f
    rw [eraseIdx_mapV f r i]
theorem Vals.erase : ∀ {xs : List V} {us : List Value} (j : Nat), Vals xs us → Vals (xs.eraseIdx j) (us.eraseIdx j)
  | _, _, _, .nil => .nil
  | _, _, 0, .cons _ t => t
  | _, _, j + 1, .cons r t => .cons r (Vals.erase j t)
section
variable {X : Cx}
theorem mt_countL : MtR X "list.count" rCountL := by
  intro pins s σ H x xs v us Q I rx rv h
  obtain ⟨a, ks, z, rfl, rfl, ha, q⟩ := h
  cases (show v = Value.ref a from rx)
  obtain ⟨u, rfl, ru⟩ := rv.one
  obtain ⟨t', rfl⟩ := ru
  obtain ⟨_, its, n, r, e⟩ := I.hok a _ ha
  refine call_meets PySem.F.slot_list_count ⟨_, e, rfl⟩ PySem.F.entry_list_count (PySem.F.args_list_count_2 _ _) (list_countAt a its.toArray n none #[] (.str z t') (isSV z)) ⟨e, fun y hy => ?_, ?_⟩
  · obtain ⟨i, hi, ei⟩ := List.mem_iff_getElem.mp (show y ∈ its by simpa using hy)
    have hl := r.length
    rw [List.length_map] at hl
    obtain ⟨u, hu, ru⟩ := r.get (i := i) (x := kV (ks[i]'(by omega))) (by rw [List.getElem?_map, List.getElem?_eq_getElem (by omega)]; rfl)
    rw [List.getElem?_eq_getElem hi, ei] at hu
    cases hu
    revert ru
    cases ks[i]'(by omega) with
    | inl m =>
      rintro ⟨t, rfl⟩
      exact EqAt.int_str (A := X.A.in1) (s := s) m t z t'
    | inr w =>
      rintro ⟨t, rfl⟩
      exact EqAt.str_str (A := X.A.in1) (s := s) w t z t'
  · exact ⟨.int ((its.toArray.toList.countP (isSV z) : Nat) : Int), H, I.tok _, ⟨_, rfl⟩, q _⟩
theorem call_minL (hc : X.calm = true) : CallR X (.builtin "min") (fun xs H Q => ∃ (a : Addr) (ns : List Int), xs = [.ref a] ∧ SqL X.K H a (ns.map V.int) ∧ ns ≠ [] ∧ ∀ m ∈ ns, Q (.int m) H) := by
  intro pins s σ H xs us Q I r h
  obtain ⟨a, ns, rfl, ha, hne, q⟩ := h
  obtain ⟨u, rfl, rx⟩ := vals1 r
  cases rx
  obtain ⟨its, rv, pl, _⟩ := I.list ha
  have ia := ints_of rv
  have hl := rv.length
  rw [List.length_map] at hl
  obtain ⟨xs, e⟩ := ia.allInts.items
  have hpos : 0 < ns.length := List.length_pos_iff.mpr hne
  have esz : (intItems xs).size = its.length := by rw [← e, List.size_toArray]
  have xsz : 0 < xs.size := by
    have : (intItems xs).size = xs.size := by simp [intItems]
    omega
  refine min_intList (I.ok.hd hc) (l := a) (xs := xs) (by rw [← e]; exact pl.isList) xsz fun v h' tk hv keep => ?_
  rw [← e, List.getElem?_toArray] at hv
  generalize argBest _ _ = k at hv
  have hk : k < ns.length := by rw [hl]; exact (List.getElem?_eq_some_iff.mp hv).1
  obtain ⟨u, hu, ru⟩ := rv.get (i := k) (x := .int ns[k]) (by rw [List.getElem?_map, List.getElem?_eq_getElem hk]; rfl)
  rw [hv] at hu
  cases hu
  exact ⟨.int ns[k], H, I.kept keep, ru, q _ (List.getElem_mem hk)⟩
theorem mt_remove : MtM X "list.remove" rRemove := by
  intro pins s σ H x xs v us Q I rx rv h
  obtain ⟨a, ns, i, rfl, rfl, ha, hi, q⟩ := h
  cases (show v = Value.ref a from rx)
  obtain ⟨u, rfl, ru⟩ := rv.one
  obtain ⟨t', rfl⟩ := ru
  obtain ⟨z, its, n, r, hl, e⟩ := I.lstM ha
  rw [List.length_map] at hl z
  have at' : ∀ (k : Nat) (hk : k < its.length), ∃ t, its[k] = .int (ns[k]'(by omega)) t := fun k hk => by
    obtain ⟨u, hu, t, rfl⟩ := r.get (i := k) (x := .int (ns[k]'(by omega))) (by rw [List.getElem?_map, List.getElem?_eq_getElem (by omega)]; rfl)
    rw [List.getElem?_eq_getElem hk] at hu
    exact ⟨t, Option.some.inj hu⟩
  have hj := List.idxOf_lt_length_iff.mpr hi
  have hz := sizeLine_eq
  refine call_meets F.slot_list_remove ⟨_, e, rfl⟩ F.entry_list_remove (F.args_list_remove_2 _ _) (MeetsSeq.list_remove a its.toArray n (.int i t') (fun y => match y with | .int m _ => m == i | _ => false) (fun y hy => ?_) (ns.idxOf i) (by rw [List.size_toArray]; omega) ?_ (fun m hm hlt => ?_) (by rw [List.size_toArray]; omega)) ⟨e, ?_⟩
  · obtain ⟨k, hk, ek⟩ := List.mem_iff_getElem.mp (show y ∈ its by simpa using hy)
    obtain ⟨t, et⟩ := at' k hk
    rw [← ek, et]
    exact MeetsSeq.EqGives.int _ _ _ _
  · obtain ⟨t, et⟩ := at' (ns.idxOf i) (by omega)
    have : its.toArray[ns.idxOf i]'(by rw [List.size_toArray]; omega) = .int i t := by
      rw [List.getElem_toArray, et]
      congr 1
      exact List.getElem_idxOf hj
    rw [this]
    exact beq_self_eq_true i
  · have hm' : m < its.length := by simpa using hm
    obtain ⟨t, et⟩ := at' m hm'
    have : its.toArray[m] = .int (ns[m]'(by omega)) t := by rw [List.getElem_toArray, et]
    rw [this]
    exact List.not_of_lt_findIdx (p := fun x => x == i) hlt
  · refine ⟨.non, _, I.lset (its' := its.eraseIdx (ns.idxOf i)) (ys := (ns.erase i).map V.int) ha e ?_ ?_ ?_, rfl, q⟩
    · rw [List.eraseIdxIfInBounds_toArray]
    · have e1 : (ns.erase i).map V.int = (ns.map V.int).eraseIdx (ns.idxOf i) := by rw [List.erase_eq_eraseIdx_of_idxOf rfl, eraseIdx_mapV]
      rw [e1]
      exact r.erase _
    · rw [List.length_map]
      exact Nat.le_trans (List.length_erase_le ..) z
theorem call_dictL : CallR X (.type "dict") (fun xs H Q => X.calm = true ∧ ∃ (a : Addr) (rs : List V) (ps : List (Key × V)), xs = [.ref a] ∧ H a = some (.lst rs) ∧ rs.length = ps.length ∧ (∀ (i : Nat) (p : Key × V), ps[i]? = some p → ∃ t, rs[i]? = some (.ref t) ∧ H t = some (.tup [kV p.1, p.2])) ∧ ∀ d, H d = none → Q (.ref d) (upd H d (.dK (mergeV ps [])))) := by
  intro pins s σ H xs us Q I r h
  obtain ⟨hc, a, rs, ps, rfl, ha, hl, hp, q⟩ := h
  obtain ⟨u, rfl, rx⟩ := vals1 r
  cases rx
  obtain ⟨z, its, n, rv, hl2, e⟩ := I.lstM ha
  obtain ⟨qs, kv, hq⟩ := kv_build (ps := ps) (R := fun i k y => ∃ (T : Addr) (x : Value) (o : Obj) (m : Nat), its[i]? = some (.ref T) ∧ RelV (kV k) x ∧ s.heap.get? T = some o ∧ o.cls = .type "tuple" ∧ o.data = .seq #[x, y] m) fun i p hp' => by
    obtain ⟨t, h1, h2⟩ := hp i p hp'
    obtain ⟨u, hu, ru⟩ := rv.get h1
    cases (show u = Value.ref t from ru)
    obtain ⟨_, js, rj, o, g1, g2, m, g3⟩ := tup_rd I.hok h2
    obtain ⟨x, y, rfl, rx, ry⟩ := vals2 rj
    exact ⟨y, ry, t, x, o, m, hu, rx, g1, g2, g3⟩
  have lq := kv.length
  refine Zd.call_dictL (knd := mixKind X.prog X.w) (I.ok.hd hc) e qs (by rw [List.size_toArray]; omega) (fun i k y hi => ?_) (by omega) fun h' tk hd keep => ?_
  · obtain ⟨T, x, o, m, g1, g2, g3, g4, g5⟩ := hq i k y hi
    exact ⟨T, x, o, m, by rw [List.getElem?_toArray]; exact g1, (fun z => nomatch z), kV_is g2, g3, g4, g5⟩
  · have zl : (mergeV ps []).length ≤ sizeLine := by
      have := mergeV_len ps []
      rw [List.length_nil] at this
      omega
    refine ⟨.ref s.heap.objs.size, _, I.laid (t' := tk) (fun b u e => keep b u e) (Nat.le_refl _) (show ObjOk X.prog X.w _ _ _ (.dK (mergeV ps [])) from ⟨zl, ?_, _, KV.mergeZ kv .nil, hd⟩), rfl, q _ (I.hok.fresh (Nat.le_refl _))⟩
    exact beq_eq_false_iff_ne.mpr (Ne.symm (Nat.ne_of_lt I.big))
end
end L2
namespace L2.Un
open PySem PyProof.Rows
section
variable {prog : Program} {w : World} {A : Around} {E : Value → Shared → Prop} {s : Shared}
theorem draw_list {it l : Addr} {items : Array Value} (hne : l ≠ it) : ∀ (n i : Nat) (s : Shared) (Q : List Value → Shared → Prop), s.heap.IsListIter it l i → s.heap.IsList l items → i + n ≤ items.size →
    (∀ h', h'.IsListIter it l (i + n) → Heap.SameBut it s.heap h' → Q ((items.toList.drop i).take n) { s with heap := h' }) → wpAny (model prog w) A (draw (.ref it) n) Q E s
  | 0, i, s, Q, hit, _, _, hQ => by
    show wpAny _ _ (pure []) Q E s
    exact wpAny_pure (by simpa using hQ s.heap hit (Heap.SameBut.refl ..))
  | n + 1, i, s, Q, hit, ht, hle, hQ => by
    have hlt : i < items.size := by omega
    show wpAny _ _ (pyNext (.ref it) >>= _) Q E s
    refine wpAny_bind (wpAny_pyNext_list_item hit ht (x := items[i]) (by simp [hlt]) fun h₁ hit₁ hs₁ => ?_)
    refine wpAny_bind (wpAny_holding (draw_list hne n (i + 1) _ _ hit₁ (ht.extBut hs₁.extBut hne) (by omega) fun h₂ hit₂ hs₂ => wpAny_pure ?_))
    have hd : items.toList.drop i = items[i] :: items.toList.drop (i + 1) := by simp [List.drop_eq_getElem_cons, hlt]
    have := hQ h₂ (by rw [show i + (n + 1) = i + 1 + n by omega]; exact hit₂) (hs₁.trans hs₂)
    rw [hd, List.take_succ_cons] at this
    exact this
theorem items_list {t : Addr} {items : Array Value} {Q : List Value → Shared → Prop} (hh : A.handled = none) (ht : s.heap.IsList t items)
    (hQ : ∀ h', Heap.ExtBut s.heap.objs.size s.heap h' → Q items.toList { s with heap := h' }) : wpAny (model prog w) A (unpackItems (.ref t) items.size none) Q E s := by
  have hlt : t ≠ s.heap.objs.size := by obtain ⟨o, ho, _⟩ := ht; exact Nat.ne_of_lt (Heap.lt_size ho)
  unfold unpackItems
  refine wpAny_bind ?_
  unfold notIterableAtAll
  refine wpAny_bind (wpAny_specialOf ht.typeIs F.slot_list_iter.lookup ?_)
  refine wpAny_pure ?_
  simp only [Bool.false_eq_true, if_false]
  refine wpAny_bind (wpAny_holding (wpAny_pyIter_list ht ?_))
  refine wpAny_bind (wpAny_holding (draw_list hlt items.size 0 _ _ ⟨_, Heap.get?_push_size _ rfl, rfl, rfl⟩ (ht.push _) (by omega) fun h₁ hit₁ hs₁ => ?_))
  have hall : List.take items.size (List.drop 0 items.toList) = items.toList := by
    rw [List.drop_zero]; exact List.take_of_length_le (by simp)
  rw [hall]
  rw [if_neg (by simp)]
  have ht₁ : h₁.IsList t items := (ht.push _).extBut hs₁.extBut hlt
  refine wpAny_bind (wpAny_holding (wpAny_pyNext_list_end hh hit₁ ht₁ (by simp) fun h₂ he₂ => ?_))
  simp only [Option.isSome_none, Bool.false_eq_true, if_false]
  exact wpAny_pure (hQ h₂ fun b o hb e => he₂ b o hb (hs₁.extBut b o hb (Heap.get?_push_of_some _ e)))
end
end L2.Un
namespace L2
open PySem PySem.Spec PyProof.Rows
def gLst (K : PySem.W.Frag) (n : Nat) (t : TGs) : TG := fun v σ H Q => ∃ a xs, v = .ref a ∧ SqL K H a xs ∧ xs.length = n ∧ t xs σ H Q
theorem pg_lst {X : Cx} {pos : Pos} {es : List Expr} {k : Nat} {t : TGs} {n : Nat} (hc : X.calm = true) (h : PGs X es t)
    (hn : (assignEach es X.env).length = n := by rfl) (hst : (assignEach es X.env).findIdx? (·.1) = none := by rfl) : PG X (.Tuple es k pos) (gLst X.K n t) := by
  intro pins s σ H v u Q I r hw
  obtain ⟨a, xs, e1, hq, hl, hw⟩ := hw
  subst e1
  cases r
  obtain ⟨its, rv, ht, hz⟩ := I.list hq
  rw [assign_Tuple]
  refine wpAny_bind (wpAny_standAt ?_)
  unfold unpack
  have hsz : (assignEach es X.env).length = its.toArray.size := by simp [hn, ← hl, rv.length]
  rw [hsz, hst]
  refine wpAny_bind (wpAny_holding (Un.items_list (I.ok.hd hc) ht.isList fun h' hx => ?_))
  have I1 : Inv X pins σ H { s with heap := h' } := I.kept (t' := s.toks) fun b o e => hx b o (Nat.ne_of_lt (Heap.lt_size e)) e
  exact h pins _ σ H xs _ Q I1 (by simpa using rv) hw
end L2
namespace L2
open PySem PySem.Spec PyProof.Rows
theorem lc_listH {K : PySem.W.Frag} {a : Addr} {xs : List V} {fr : L2.St} {tc : TT} {te : TE} {D : Addr} {H1 : Hp} {Q : Hp → Prop} (P : Nat → List V → Hp → Prop) (mono : ∀ i ys H H', TK H H' → P i ys H → P i ys H') (hS : SqL K H1 a xs) (hn : xs.length < sizeLine) (hD : H1 D = none) (h0 : P 0 [] H1)
    (step : ∀ i x ys H (G : Hp → Prop) (K' : V → Hp → Prop), xs[i]? = some x → P i ys H → ys.length ≤ i → Same H1 H → (∀ H3, Same H H3 → P (i + 1) ys H3 → G H3) → (∀ y H4, Same H H4 → P (i + 1) (ys ++ [y]) H4 → K' y H4) → tc ([some x] ++ fr) H fun b H3 => if b = true then te ([some x] ++ fr) H3 K' else G H3)
    (done : ∀ ys H, P xs.length ys H → ys.length ≤ xs.length → Same H1 H → H D = some (.lst ys) → Q H) : LC 1 fr (gName 0) tc te (Itl K a) D H1 Q := by
  have at' : ∀ i, i < xs.length → xs[i]? = some (xs.getD i .non) := fun i hi => by
    rw [List.getD_eq_getElem?_getD, List.getElem?_eq_getElem hi]
    rfl
  exact lc_genH xs.length (fun i => xs.getD i .non) P mono hn hD (fun i H hi hs => ⟨xs, _, hs.seq hS, at' i hi⟩)
    (fun i H x H' hi hs hy => ⟨hy.1, Option.some.inj ((hy.2 xs (hs.seq hS)).symm.trans (at' i hi))⟩) (fun H hs => ⟨xs, hs.seq hS, Nat.le_refl _⟩) h0
    (fun i ys H G K' hi hP hl hs hG hK => step i _ ys H G K' (at' i hi) hP hl hs hG hK) done
theorem lc_dictH {a : Addr} {o : Obj} {kvs : List (Key × V)} {fr : L2.St} {tc : TT} {te : TE} {D : Addr} {H1 : Hp} {Q : Hp → Prop} (P : Nat → List V → Hp → Prop) (mono : ∀ i ys H H', TK H H' → P i ys H → P i ys H') (ha : H1 a = some (.frz o (.dK kvs))) (hn : kvs.length < sizeLine) (hD : H1 D = none) (h0 : P 0 [] H1)
    (step : ∀ i k v ys H (G : Hp → Prop) (K' : V → Hp → Prop), kvs[i]? = some (k, v) → P i ys H → ys.length ≤ i → Same H1 H → (∀ H3, Same H H3 → P (i + 1) ys H3 → G H3) → (∀ y H4, Same H H4 → P (i + 1) (ys ++ [y]) H4 → K' y H4) → tc ([some (kV k)] ++ fr) H fun b H3 => if b = true then te ([some (kV k)] ++ fr) H3 K' else G H3)
    (done : ∀ ys H, P kvs.length ys H → ys.length ≤ kvs.length → Same H1 H → H D = some (.lst ys) → Q H) : LC 1 fr (gName 0) tc te (Itk a o kvs) D H1 Q := by
  have at' : ∀ i (hi : i < kvs.length), (kvs.map (·.1)).getD i (.inl 0) = kvs[i].1 := fun i hi => by
    rw [List.getD_eq_getElem?_getD, List.getElem?_map, List.getElem?_eq_getElem hi]
    rfl
  refine lc_genH kvs.length (fun i => kV ((kvs.map (·.1)).getD i (.inl 0))) P mono hn hD (fun i H hi hs => ⟨hi, hs _ _ ha⟩) (fun i H x H' hi hs hy => ?_) (fun H hs => ⟨rfl, hs _ _ ha⟩) h0 (fun i ys H G K' hi hp hl hs hG hK => ?_) done
  · obtain ⟨e, k, hk, rfl⟩ := hy
    refine ⟨e, ?_⟩
    show kV k = kV ((kvs.map (·.1)).getD i (.inl 0))
    rw [List.getD_eq_getElem?_getD, hk]
    rfl
  · have := step i kvs[i].1 kvs[i].2 ys H G K' (List.getElem?_eq_getElem hi) hp hl hs hG hK
    rw [← at' i hi] at this
    exact this
end L2
namespace Pc
open PySem PySem.Spec L2 PyProof.Rows
section
variable {κ : Type} [DecidableEq κ]
theorem putK_map {h : κ → κ} (hi : ∀ a b, h a = h b → a = b) (kvs : List (κ × V)) (k : κ) (v : V) : putK (kvs.map fun p => (h p.1, p.2)) (h k) v = (putK kvs k v).map fun p => (h p.1, p.2) := by
  have ha : ((kvs.map fun p => (h p.1, p.2)).any fun kv => decide (kv.1 = h k)) = kvs.any fun kv => decide (kv.1 = k) := by
    rw [List.any_map]
    congr 1
    funext p
    show decide (h p.1 = h k) = decide (p.1 = k)
    by_cases e : p.1 = k
    · rw [e, decide_eq_true rfl, decide_eq_true rfl]
    · rw [decide_eq_false e, decide_eq_false fun z => e (hi _ _ z)]
  unfold putK
  rw [ha]
  split
  · rw [List.map_map, List.map_map]
    refine List.map_congr_left fun p _ => ?_
    show (if h p.1 = h k then (h p.1, v) else (h p.1, p.2)) = (h (if p.1 = k then (p.1, v) else p).1, (if p.1 = k then (p.1, v) else p).2)
    by_cases e : p.1 = k
    · rw [if_pos (by rw [e]), if_pos e]
    · rw [if_neg fun z => e (hi _ _ z), if_neg e]
  · rw [List.map_append]
    rfl
theorem putK_drop {q : κ → Bool} (kvs : List (κ × V)) {k : κ} (v : V) (hk : q k = false) : (putK kvs k v).filter (fun p => q p.1) = kvs.filter fun p => q p.1 := by
  unfold putK
  split
  · rw [List.filter_map]
    have e : ((fun p : κ × V => q p.1) ∘ fun kv : κ × V => if kv.1 = k then (kv.1, v) else kv) = fun p => q p.1 := by
      funext p
      show q (if p.1 = k then (p.1, v) else p).1 = q p.1
      split <;> rfl
    rw [e]
    conv => rhs; rw [← List.map_id (kvs.filter fun p => q p.1)]
    refine List.map_congr_left fun p hp => if_neg fun z => ?_
    have := (List.mem_filter.mp hp).2
    rw [z, hk] at this
    cases this
  · rw [List.filter_append]
    show _ ++ [(k, v)].filter (fun p => q p.1) = _
    rw [List.filter_cons, if_neg (by rw [hk]; decide), List.filter_nil, List.append_nil]
theorem putK_keep {q : κ → Bool} (kvs : List (κ × V)) {k : κ} (v : V) (hk : q k = true) : (putK kvs k v).filter (fun p => q p.1) = putK (kvs.filter fun p => q p.1) k v := by
  have ha : ((kvs.filter fun p => q p.1).any fun kv => decide (kv.1 = k)) = kvs.any fun kv => decide (kv.1 = k) := by
    rw [List.any_filter]
    congr 1
    funext p
    by_cases e : p.1 = k
    · rw [e, hk, Bool.true_and]
    · rw [decide_eq_false e, Bool.and_false]
  unfold putK
  rw [ha]
  split
  · rw [List.filter_map]
    have e : ((fun p : κ × V => q p.1) ∘ fun kv : κ × V => if kv.1 = k then (kv.1, v) else kv) = fun p => q p.1 := by
      funext p
      show q (if p.1 = k then (p.1, v) else p).1 = q p.1
      split <;> rfl
    rw [e]
  · rw [List.filter_append]
    show _ ++ [(k, v)].filter (fun p => q p.1) = _
    rw [List.filter_cons, if_pos hk, List.filter_nil]
end
def reK (f : Int → Int) : Key → Key
  | .inl b => .inl (f b)
  | .inr z => .inr z
theorem reK_inj {f : Int → Int} (hf : ∀ a b, f a = f b → a = b) : ∀ a b, reK f a = reK f b → a = b
  | .inl a, .inl b, h => by rw [hf a b (Sum.inl.inj h)]
  | .inl _, .inr _, h => by cases h
  | .inr _, .inl _, h => by cases h
  | .inr a, .inr b, h => by rw [show a = b from Sum.inr.inj h]
theorem boxes_map {f : Int → Int} (hf : ∀ a b, f a = f b → a = b) (fs : List (Int × Int)) : boxes (fs.map fun p => (f p.1, p.2)) = (boxes fs).map fun p => (reK f p.1, p.2) := by
  have : ∀ (fs : List (Int × Int)) (kvs : List (Key × V)), (fs.map fun p => (f p.1, p.2)).foldl (fun k p => putK k (Sum.inl p.1) (.int p.2)) (kvs.map fun p => (reK f p.1, p.2)) = (fs.foldl (fun k p => putK k (Sum.inl p.1) (V.int p.2)) kvs).map fun p => (reK f p.1, p.2) := by
    intro fs
    induction fs with
    | nil => exact fun _ => rfl
    | cons p r ih =>
      intro kvs
      rw [List.map_cons, List.foldl_cons, List.foldl_cons, ← ih]
      congr 1
      exact putK_map (reK_inj hf) kvs (Sum.inl p.1) (.int p.2)
  exact this fs []
theorem valV_map {h : Key → Key} (hi : ∀ a b, h a = h b → a = b) (k : Key) : ∀ kvs : List (Key × V), valV (kvs.map fun p => (h p.1, p.2)) (h k) = valV kvs k
  | [] => rfl
  | p :: r => by
    rw [List.map_cons]
    by_cases e : p.1 = k
    · rw [valV_pos (p := (h p.1, p.2)) (by rw [e]), valV_pos e]
    · rw [valV_neg (p := (h p.1, p.2)) (fun z => e (hi _ _ z)), valV_neg e, valV_map hi k r]
theorem valV_filter {q : Key → Bool} {k : Key} (hk : q k = true) : ∀ kvs : List (Key × V), valV (kvs.filter fun p => q p.1) k = valV kvs k
  | [] => rfl
  | p :: r => by
    by_cases e : p.1 = k
    · rw [List.filter_cons, if_pos (by rw [e]; exact hk), valV_pos e, valV_pos e]
    · by_cases hq : q p.1 = true
      · rw [List.filter_cons, if_pos hq, valV_neg e, valV_neg e, valV_filter hk r]
      · rw [List.filter_cons, if_neg hq, valV_neg e, valV_filter hk r]
end Pc
namespace Pc
open PySem PySem.Spec L2 PyProof.Rows
def rowV (w : V) (b : Int) (ps : List Int) : List V := match w with
  | .str z => if arS z = 2 then [.str z, .int b, .int (ps.getD 0 0), .int (ps.getD 1 0)] else if arS z = 1 then [.str "neg", .int b, .int (ps.getD 0 0)] else [.str "load", .int b, .str z]
  | v => [.str "put", .int b, v]
theorem take_getD {st : List Int} {a i : Nat} (h : i < a) : (st.take a).getD i 0 = st.getD i 0 := by
  rw [List.getD_eq_getElem?_getD, List.getD_eq_getElem?_getD, List.getElem?_take_of_lt h]
theorem arS_one {z : Str} (h : arS z = 1) : z = "neg" := by
  rcases arS_cases (z := z) (by omega) with r | r | r | r
  · rw [r] at h; exact absurd h (by decide +kernel)
  · rw [r] at h; exact absurd h (by decide +kernel)
  · rw [r] at h; exact absurd h (by decide +kernel)
  · exact r
theorem opN_negN (m x : Int) : opN "neg" m x = -m := by
  unfold opN
  rw [if_neg (by decide +kernel), if_neg (by decide +kernel), if_neg (by decide +kernel)]
theorem row_of {vals kvs : List (Key × V)} {ρ : Str → Option Int} {w : V} {sfx : List V} {st : List Int} (hw : isW w) (hv : hasV ρ w) (hvals : ∀ z, valV vals (Sum.inr z) = (ρ z).map V.int) (ha : arV w ≤ st.length) (hl : st.length = (runW ρ sfx).length)
    (val : ∀ (i : Nat) (b m : Int), st[i]? = some b → (runW ρ sfx)[i]? = some m → valV kvs (Sum.inl b) = some (.int m)) (hb : ∀ m ∈ runW ρ sfx, bitsOk m) (nb : Int) :
    ∃ x, runW ρ (w :: sfx) = x :: (runW ρ sfx).drop (arV w) ∧ RowAt vals kvs (rowV w nb (st.take (arV w))) nb x := by
  have gd : ∀ i, i < st.length → valV kvs (Sum.inl (st.getD i 0)) = some (.int ((runW ρ sfx).getD i 0)) ∧ bitsOk ((runW ρ sfx).getD i 0) := fun i hi => by
    have hi2 : i < (runW ρ sfx).length := by omega
    rw [List.getD_eq_getElem?_getD, List.getD_eq_getElem?_getD, List.getElem?_eq_getElem hi, List.getElem?_eq_getElem hi2]
    exact ⟨val i _ _ (List.getElem?_eq_getElem hi) (List.getElem?_eq_getElem hi2), hb _ (List.getElem_mem hi2)⟩
  obtain ⟨k, rfl⟩ := hw
  cases k with
  | inl n => exact ⟨n, rfl, RowAt.put nb n⟩
  | inr z =>
    have ea : arV (kV (Sum.inr z)) = arS z := rfl
    rw [ea] at ha ⊢
    have h2 := arV_le (.str z)
    have h2 : arS z ≤ 2 := h2
    by_cases hz : 0 < arS z
    · have ev : valW ρ (.str z) = .str z := if_pos hz
      have er : runW ρ (kV (Sum.inr z) :: sfx) = opN z ((runW ρ sfx).getD 0 0) ((runW ρ sfx).getD 1 0) :: (runW ρ sfx).drop (arS z) := by
        show stepN (valW ρ (.str z)) (runW ρ sfx) = _
        rw [ev]
        rfl
      refine ⟨_, er, ?_⟩
      obtain ⟨g1, g2⟩ := gd 0 (by omega)
      by_cases h : arS z = 2
      · obtain ⟨g3, g4⟩ := gd 1 (by omega)
        show RowAt vals kvs (if arS z = 2 then [V.str z, .int nb, .int ((st.take (arS z)).getD 0 0), .int ((st.take (arS z)).getD 1 0)] else _) nb _
        rw [if_pos h, take_getD (by omega), take_getD (by omega)]
        exact RowAt.bin z nb _ _ _ _ h g1 g3 g2 g4
      · have h1 : arS z = 1 := by omega
        have e := arS_one h1
        show RowAt vals kvs (if arS z = 2 then _ else if arS z = 1 then [V.str "neg", .int nb, .int ((st.take (arS z)).getD 0 0)] else _) nb _
        rw [if_neg h, if_pos h1, take_getD (by omega), e, opN_negN]
        exact RowAt.neg nb _ _ g1 g2
    · have h0 : arS z = 0 := by omega
      have ev : valW ρ (.str z) = .int ((ρ z).getD 0) := if_neg hz
      have er : runW ρ (kV (Sum.inr z) :: sfx) = (ρ z).getD 0 :: (runW ρ sfx).drop (arS z) := by
        show stepN (valW ρ (.str z)) (runW ρ sfx) = _
        rw [ev, h0]
        rfl
      refine ⟨_, er, ?_⟩
      show RowAt vals kvs (if arS z = 2 then _ else if arS z = 1 then _ else [V.str "load", .int nb, .str z]) nb _
      rw [if_neg (by omega), if_neg (by omega)]
      refine RowAt.load nb z _ ?_
      rw [hvals z]
      have hs : (ρ z).isSome = true := hv.resolve_left hz
      obtain ⟨y, hy⟩ := Option.isSome_iff_exists.mp hs
      rw [hy]
      rfl
structure Stk (vals : List (Key × V)) (ρ : Str → Option Int) (sfx : List V) (ts : List (List V)) (fs : List (Int × Int)) (st fr : List Int) (u : Nat) : Prop where
  runs : RunsAt vals ts fs
  len : fs.length = sfx.length
  sl : st.length = (runW ρ sfx).length
  val : ∀ (i : Nat) (b m : Int), st[i]? = some b → (runW ρ sfx)[i]? = some m → valV (boxes fs) (Sum.inl b) = some (.int m)
  nd : st.Nodup
  fnd : fr.Nodup
  disj : ∀ b ∈ fr, b ∉ st
  rng : ∀ b, b ∈ st ∨ b ∈ fr → 0 ≤ b ∧ b < (u : Int)
  ul : u ≤ sfx.length
  box : ∀ p ∈ fs, 0 ≤ p.1 ∧ p.1 < (u : Int)
  top : sfx ≠ [] → ∃ b r, st = b :: r ∧ fs.getLast? = some (b, (runW ρ sfx).getD 0 0)
theorem Stk.nil (vals : List (Key × V)) (ρ : Str → Option Int) : Stk vals ρ [] [] [] [] [] 0 :=
  ⟨RunsAt.nil _, rfl, rfl, fun i b m h => by simp at h, List.nodup_nil, List.nodup_nil, (fun _ h => nomatch h), (fun b h => by rcases h with h | h <;> cases h), Nat.le_refl _, (fun _ h => nomatch h), fun h => absurd rfl h⟩
theorem Stk.step {vals : List (Key × V)} {ρ : Str → Option Int} {sfx : List V} {ts : List (List V)} {fs : List (Int × Int)} {st fr : List Int} {u : Nat} (h : Stk vals ρ sfx ts fs st fr u) {w : V} (hw : isW w) (hv : hasV ρ w) (hvals : ∀ z, valV vals (Sum.inr z) = (ρ z).map V.int) (ha : arV w ≤ st.length) (hb : ∀ m ∈ runW ρ sfx, bitsOk m)
    {nb : Int} {fr2 : List Int} {u2 : Nat} (hc : (nb = (u : Int) ∧ u2 = u + 1 ∧ fr2 = fr ++ st.take (arV w)) ∨ (u2 = u ∧ (fr ++ st.take (arV w)).Perm (nb :: fr2))) :
    Stk vals ρ (w :: sfx) (ts ++ [rowV w nb (st.take (arV w))]) (fs ++ [(nb, (runW ρ (w :: sfx)).getD 0 0)]) (nb :: st.drop (arV w)) fr2 u2 := by
  obtain ⟨x, er, row⟩ := row_of (nb := nb) hw hv hvals ha h.sl h.val hb
  have ex : (runW ρ (w :: sfx)).getD 0 0 = x := by rw [er]; rfl
  rw [ex]
  have split : st.take (arV w) ++ st.drop (arV w) = st := List.take_append_drop _ _
  have nd2 : (st.take (arV w) ++ st.drop (arV w)).Nodup := by rw [split]; exact h.nd
  obtain ⟨n1, n2, n3⟩ := List.nodup_append.mp nd2
  have mt : ∀ b ∈ st.take (arV w), b ∈ st := fun b hb => List.mem_of_mem_take hb
  have md : ∀ b ∈ st.drop (arV w), b ∈ st := fun b hb => List.mem_of_mem_drop hb
  have fnd1 : (fr ++ st.take (arV w)).Nodup := List.nodup_append.mpr ⟨h.fnd, n1, fun a ha b hb e => h.disj a ha (e ▸ mt b hb)⟩
  have fr1 : ∀ b ∈ fr ++ st.take (arV w), b ∉ st.drop (arV w) := fun b hb hd => by
    rcases List.mem_append.mp hb with k | k
    · exact h.disj b k (md b hd)
    · exact n3 b k b hd rfl
  have rng1 : ∀ b ∈ fr ++ st.take (arV w), 0 ≤ b ∧ b < (u : Int) := fun b hb => by
    rcases List.mem_append.mp hb with k | k
    · exact h.rng b (.inr k)
    · exact h.rng b (.inl (mt b k))
  have facts : nb ∉ st.drop (arV w) ∧ 0 ≤ nb ∧ nb < (u2 : Int) ∧ u ≤ u2 ∧ u2 ≤ u + 1 ∧ fr2.Nodup ∧ nb ∉ fr2 ∧ ∀ b ∈ fr2, b ∈ fr ++ st.take (arV w) := by
    rcases hc with ⟨rfl, rfl, rfl⟩ | ⟨rfl, hp⟩
    · exact ⟨fun k => by have := (h.rng _ (.inl (md _ k))).2; omega, by omega, by omega, by omega, by omega, fnd1, fun k => by have := (rng1 _ k).2; omega, fun b hb => hb⟩
    · have hm : nb ∈ fr ++ st.take (arV w) := hp.mem_iff.mpr List.mem_cons_self
      have nd3 := hp.nodup_iff.mp fnd1
      obtain ⟨m1, m2⟩ := List.nodup_cons.mp nd3
      exact ⟨fr1 nb hm, (rng1 nb hm).1, (rng1 nb hm).2, Nat.le_refl _, Nat.le_succ _, m2, m1, fun b hb => hp.mem_iff.mpr (List.mem_cons_of_mem _ hb)⟩
  obtain ⟨q1, q2, q3, q4, q5, q6, q7, q8⟩ := facts
  refine ⟨h.runs.snoc row, ?_, ?_, fun i b m hi hm => ?_, List.nodup_cons.mpr ⟨q1, n2⟩, q6, fun b hb k => ?_, fun b hb => ?_, ?_, fun p hp => ?_, fun _ => ⟨nb, _, rfl, ?_⟩⟩
  · rw [List.length_append, h.len]; rfl
  · rw [er, List.length_cons, List.length_cons, List.length_drop, List.length_drop, h.sl]
  · rw [boxes_snoc, valV_put]
    rw [er] at hm
    cases i with
    | zero =>
      cases hi
      cases hm
      rw [if_pos rfl]
    | succ i =>
      rw [List.getElem?_cons_succ, List.getElem?_drop] at hi hm
      have hbm : b ∈ st.drop (arV w) := List.mem_of_getElem? (i := i) (by rw [List.getElem?_drop]; exact hi)
      rw [if_neg (fun e => q1 (by rw [← Sum.inl.inj e]; exact hbm))]
      exact h.val _ b m hi hm
  · rcases List.mem_cons.mp k with e | e
    · exact q7 (e ▸ hb)
    · exact fr1 b (q8 b hb) e
  · rcases hb with k | k
    · rcases List.mem_cons.mp k with e | e
      · rw [e]; exact ⟨q2, q3⟩
      · have := h.rng b (.inl (md b e))
        omega
    · have := rng1 b (q8 b k)
      omega
  · have := h.ul
    rw [List.length_cons]
    omega
  · rcases List.mem_append.mp hp with k | k
    · have := h.box p k
      omega
    · rw [List.mem_singleton.mp k]; exact ⟨q2, q3⟩
  · rw [List.getLast?_append]
    rw [ex]
    rfl
end Pc
namespace K23
open PySem PySem.Spec L2 PyProof.Rows Pc
local macro_rules | `(tactic| push_cast [$xs,*]) => `(tactic| simp only [↓cons_same, ↓l1_same, ↓l2_same, ↓l3_same, ↓exists_eq_left, ↓exists_eq_left', ↓int_ex, ↓ref_ex, ↓bl_ex, ↓int_ex2, tVarD, tSeq, tIfS, tRet, tRetN, tNext, tVar, tC, tTest, tB, tOp, tUn, rI, rI0, rU, rEq, rNe, tCall, tCB, tCons, tNil, tAnd, tOr, tNot, tAndV, tOrV, tNotV, tIf, gName, tAsg, tBM, tBM0, tSl, tNoPart, tPart, rSlS, rSlL, tLst, tTup, tDrop, tNoIf, iStr, iList, iTup, iRng1, iRng2, tLC, tSetLC, frOf, List.set_cons_zero, List.set_cons_succ, List.getElem?_cons_zero, List.getElem?_cons_succ, Option.some.injEq, V.int.injEq, V.str.injEq, V.bl.injEq, V.ref.injEq, List.cons.injEq, exists_eq_left, exists_eq_left', exists_eq_right, exists_eq_right', exists_and_left, exists_and_right, and_true, true_and, List.cons_append, List.nil_append, List.append_nil, reduceCtorEq, false_and, exists_false, false_or, or_false, decide_eq_true_eq, eq_self, if_true, if_false, Bool.false_eq_true, Bool.true_eq_false, cxOf_K, cxOf_P, cxOf_w, cxOf_mg, cxOf_b, List.map_cons, List.map_nil, Option.getD_some, Option.getD_none, exists_const, nox_K, and_assoc, exists_eq, exists_eq', V.ty.injEq, tVals, Int.reduceLT, Int.reduceLE, Int.reduceNeg, Int.reducePow, Nat.reduceLT, Nat.reduceLeDiff, tFor_eq, tyV_str, CDiv, tCallV, tDIn, tDNotIn, tDGet, iRev, tDNewK, sDPut, and_self, exists_prop, $xs,*])
def top (i : Nat) : Stmt := PySem.Challenge.pw_pricecover_k23_whole_terms_run.main.body.getD i (.Pass ⟨0, 0, 0, 0⟩)
structure Gs (w : World) (K : PySem.W.Frag) (mg : Str → Option Value) : Prop where
  m_dict : mg "dict" = none
  m_int : mg "int" = none
  m_isinstance : mg "isinstance" = none
  m_len : mg "len" = none
  m_list : mg "list" = none
  m_min : mg "min" = none
  m_range : mg "range" = none
  m_reversed : mg "reversed" = none
  m_str : mg "str" = none
  m_sum : mg "sum" = none
  m_tuple : mg "tuple" = none
  m_PARTS_BELOW : ∃ a, mg "PARTS_BELOW" = some (.ref a) ∧ ModD w K a [(Sum.inr "add", .int 2), (Sum.inr "sub", .int 2), (Sum.inr "mul", .int 2), (Sum.inr "neg", .int 1)]
def spLaw (K : PySem.W.Frag) : Sp := fun vs H Q _ => ∃ (a : Addr) (ns : List Int), vs = [.ref a] ∧ SqL K H a (ns.map V.int) ∧ ns.length ≤ 63 ∧ ∀ H', Q (.bl true) H'
def wT (zs : List Str) : V → Prop
  | .int n => n.natAbs < 2 ^ 100
  | .str z => 0 < arS z ∨ z ∈ zs
  | _ => False
structure TT' (zs : List Str) (m : Nat) (ws : List V) : Prop where
  word : ∀ v ∈ ws, wT zs v
  one : isTerm ws
  len : ws.length ≤ m
theorem wT.isW {zs : List Str} {v : V} (h : wT zs v) : Pc.isW v := by
  cases v with
  | int n => exact Pc.isW.int n
  | str z => exact Pc.isW.str z
  | _ => exact h.elim
def smallR (ρ : Str → Option Int) (z : Str) : Prop := (ρ z).isSome = true ∧ ((ρ z).getD 0).natAbs < 2 ^ 100
theorem TT'.vals {zs : List Str} {m : Nat} {ws : List V} {ρ : Str → Option Int} (h : TT' zs m ws) (hs : ∀ z ∈ zs, smallR ρ z) : ∀ v ∈ ws, isW v ∧ hasV ρ v ∧ leafB (valW ρ v) := fun v hv => by
  have hw := h.word v hv
  refine ⟨wT.isW hw, ?_⟩
  have up : ∀ i : Int, i.natAbs < 2 ^ 100 → mag i ≤ 2 ^ 200 := fun i hi => by
    have : (2 : Nat) ≤ 2 ^ 200 := by decide +kernel
    have : (2 : Nat) ^ 100 ≤ 2 ^ 200 := Nat.pow_le_pow_right (by decide) (by decide)
    unfold mag
    omega
  cases v with
  | int n => exact ⟨trivial, up n hw⟩
  | str z =>
    by_cases hz : 0 < arS z
    · exact ⟨.inl hz, by show leafB (if 0 < arS z then _ else _); rw [if_pos hz]; exact trivial⟩
    · have hm := hs z (hw.resolve_left hz)
      exact ⟨.inr hm.1, by show leafB (if 0 < arS z then _ else _); rw [if_neg hz]; exact up _ hm.2⟩
  | _ => exact hw.elim
theorem wsK : ∀ {ws : List V}, (∀ v ∈ ws, isW v) → ∃ ks : List Key, ws = ks.map kV
  | [], _ => ⟨[], rfl⟩
  | v :: r, h => by
    obtain ⟨ks, e⟩ := wsK (ws := r) fun x hx => h x (List.mem_cons_of_mem _ hx)
    obtain ⟨k, ek⟩ := h v List.mem_cons_self
    exact ⟨k :: ks, by rw [e, ek]; rfl⟩
theorem bin_at4 (c : Int) (h : c % 8 < 4) : ∃ z : Str, atI [V.str "add", V.str "sub", V.str "mul", V.str "sub"] (c % 8) = some (.str z) ∧ arS z = 2 := by
  obtain ⟨x, h1, h2⟩ := atI_in [V.str "add", V.str "sub", V.str "mul", V.str "sub"] (c % 8) (Int.emod_nonneg _ (by decide)) (by show c % 8 < 4; omega)
  simp only [List.mem_cons, List.not_mem_nil, or_false] at h2
  rcases h2 with rfl | rfl | rfl | rfl <;> exact ⟨_, h1, by decide +kernel⟩
def trU (u : Nat) : List (Key × V) := (List.range u).map fun (i : Nat) => ((Sum.inl ((i : Nat) : Int) : Key), V.bl true)
theorem trU_len (u : Nat) : (trU u).length = u := by unfold trU; rw [List.length_map, List.length_range]
theorem trU_new (u : Nat) : putK (trU u) (Sum.inl (u : Int)) (.bl true) = trU (u + 1) := by
  unfold putK
  rw [if_neg]
  · unfold trU
    rw [List.range_succ, List.map_append]
    rfl
  · rw [List.any_eq_true]
    rintro ⟨kv, hkv, e⟩
    obtain ⟨i, hi, rfl⟩ := List.mem_map.mp hkv
    have e : (Sum.inl (i : Int) : Key) = Sum.inl (u : Int) := of_decide_eq_true e
    have := Sum.inl.inj e
    have := List.mem_range.mp hi
    omega
theorem trU_old {u : Nat} {b : Int} (h0 : 0 ≤ b) (hb : b < (u : Int)) : putK (trU u) (Sum.inl b) (.bl true) = trU u := by
  unfold putK
  rw [if_pos]
  · unfold trU
    rw [List.map_map]
    refine List.map_congr_left fun i _ => ?_
    show (if (Sum.inl (i : Int) : Key) = Sum.inl b then ((Sum.inl (i : Int) : Key), V.bl true) else (Sum.inl (i : Int), V.bl true)) = (Sum.inl (i : Int), V.bl true)
    split <;> rfl
  · rw [List.any_eq_true]
    exact ⟨(Sum.inl b, .bl true), List.mem_map.mpr ⟨b.toNat, List.mem_range.mpr (by omega), by rw [show ((b.toNat : Nat) : Int) = b by omega]⟩, decide_eq_true rfl⟩
def lo : Key → Bool
  | .inl b => decide (b < 1000)
  | .inr _ => false
theorem RowAt.mono {vals kvs kvs' : List (Key × V)} {t : List V} {b n : Int} (h : RowAt vals kvs t b n) (k : ∀ x m : Int, valV kvs (Sum.inl x) = some (.int m) → valV kvs' (Sum.inl x) = some (.int m)) : RowAt vals kvs' t b n := by
  cases h with
  | put _ _ => exact RowAt.put _ _
  | load _ z _ h => exact RowAt.load _ z _ h
  | neg _ x m h b1 => exact RowAt.neg _ x m (k x m h) b1
  | bin z _ x y m n hz h1 h2 b1 b2 => exact RowAt.bin z _ x y m n hz (k x m h1) (k y n h2) b1 b2
theorem boxes_key {fs : List (Int × Int)} {x : Int} {v : V} (h : valV (boxes fs) (Sum.inl x) = some v) : ∃ p ∈ fs, p.1 = x := by
  have h1 := valV_mem h
  have : ∀ (fs : List (Int × Int)) (kvs : List (Key × V)), ∀ p ∈ fs.foldl (fun k p => putK k (Sum.inl p.1) (V.int p.2)) kvs, p ∈ kvs ∨ ∃ q ∈ fs, p.1 = Sum.inl q.1 := by
    intro fs
    induction fs with
    | nil => exact fun kvs p hp => .inl hp
    | cons a r ih =>
      intro kvs p hp
      rcases ih _ p hp with k | ⟨q, hq, e⟩
      · rcases mem_put k with k | k
        · exact .inl k
        · exact .inr ⟨a, List.mem_cons_self, by rw [k]⟩
      · exact .inr ⟨q, List.mem_cons_of_mem _ hq, e⟩
  rcases this fs [] _ h1 with k | ⟨q, hq, e⟩
  · cases k
  · exact ⟨q, hq, (Sum.inl.inj e).symm⟩
theorem RowsIn.sameB {H H' : Hp} {rs : List V} {ts : List (List V)} {d : Addr} {y : List V} (h : RowsIn H rs ts) (s : SameB d H H') (hd : H d = some (.lst y)) : RowsIn H' rs ts := ⟨h.1, fun i t ht => by
  obtain ⟨a, h1, h2⟩ := h.2 i t ht
  exact ⟨a, h1, s _ _ (ne_of h2 hd (by intro e; cases e)) h2⟩⟩
theorem cut_last (xs : List V) : cutV xs none (some (-1)) = xs.take (xs.length - 1) := by
  unfold cutV
  rw [HT.sIx_none]
  show List.take (((-1 : Int) + (xs.length : Int)).toNat - 0) (xs.drop 0) = _
  rw [List.drop_zero]
  congr 1
  omega
theorem rowsIn_take {H : Hp} {rs : List V} {ts : List (List V)} (h : RowsIn H rs ts) (k : Nat) : RowsIn H (rs.take k) (ts.take k) := ⟨by rw [List.length_take, List.length_take, h.1], fun i t ht => by
  by_cases hi : i < k
  · rw [List.getElem?_take_of_lt hi] at ht
    obtain ⟨a, h1, h2⟩ := h.2 i t ht
    exact ⟨a, by rw [List.getElem?_take_of_lt hi]; exact h1, h2⟩
  · rw [List.getElem?_eq_none (by rw [List.length_take]; omega)] at ht
    cases ht⟩
theorem runsAt_take {vals : List (Key × V)} {ts : List (List V)} {fs : List (Int × Int)} (h : RunsAt vals ts fs) (k : Nat) : RunsAt vals (ts.take k) (fs.take k) := ⟨by rw [List.length_take, List.length_take, h.1], fun i p hp => by
  by_cases hi : i < k
  · rw [List.getElem?_take_of_lt hi] at hp
    obtain ⟨t, h1, h2⟩ := h.2 i p hp
    exact ⟨t, by rw [List.getElem?_take_of_lt hi]; exact h1, by rw [List.take_take, Nat.min_eq_left (by omega)]; exact h2⟩
  · rw [List.getElem?_eq_none (by rw [List.length_take]; omega)] at hp
    cases hp⟩
def VOf (vals : List (Key × V)) (ρ : Str → Option Int) : Prop := ∀ z, valV vals (Sum.inr z) = (ρ z).map V.int
def VOk (zs : List Str) (i : Nat) (kvs : List (Key × V)) : Prop := (∀ q ∈ kvs, ∃ m : Int, q.2 = .int m ∧ m.natAbs < 2 ^ 100) ∧ ∀ z ∈ zs.take i, ∃ m : Int, valV kvs (Sum.inr z) = some (.int m)
theorem VOk.put {zs : List Str} {i : Nat} {kvs : List (Key × V)} (h : VOk zs i kvs) {z : Str} (hz : zs[i]? = some z) {m : Int} (hm : m.natAbs < 2 ^ 100) : VOk zs (i + 1) (putK kvs (Sum.inr z) (.int m)) := by
  refine ⟨fun q hq => ?_, fun y hy => ?_⟩
  · rcases mem_put hq with k | k
    · exact h.1 q k
    · rw [k]
      exact ⟨m, rfl, hm⟩
  · rw [valV_put]
    by_cases e : (Sum.inr y : Key) = Sum.inr z
    · rw [if_pos e]
      exact ⟨m, rfl⟩
    · rw [if_neg e]
      rw [List.take_add_one, hz] at hy
      rcases List.mem_append.mp hy with k | k
      · exact h.2 y k
      · exact absurd (by rw [List.mem_singleton.mp k]) e
theorem VOk.rho {zs : List Str} {m : Nat} {kvs : List (Key × V)} (h : VOk zs m kvs) (h6 : zs.length ≤ m) : ∃ ρ, VOf kvs ρ ∧ ∀ z ∈ zs, smallR ρ z := by
  refine ⟨fun z => match valV kvs (Sum.inr z) with | some (.int m) => some m | _ => none, fun z => ?_, fun z hz => ?_⟩
  · show valV kvs (Sum.inr z) = (match valV kvs (Sum.inr z) with | some (.int m) => some m | _ => none).map V.int
    cases e : valV kvs (Sum.inr z) with
    | none => rfl
    | some v =>
      obtain ⟨m, e2, _⟩ := h.1 _ (valV_mem e)
      have e2 : v = .int m := e2
      rw [e2]
      rfl
  · obtain ⟨m, e⟩ := h.2 z (by rw [List.take_of_length_le h6]; exact hz)
    obtain ⟨m', e2, hb⟩ := h.1 _ (valV_mem e)
    cases e2
    show (match valV kvs (Sum.inr z) with | some (.int m) => some m | _ => none).isSome = true ∧ ((match valV kvs (Sum.inr z) with | some (.int m) => some m | _ => none).getD 0).natAbs < 2 ^ 100
    rw [e]
    exact ⟨rfl, hb⟩
theorem mergeV_app : ∀ (ps acc : List (Key × V)), ((acc ++ ps).map (·.1)).Nodup → mergeV ps acc = acc ++ ps
  | [], acc, _ => (List.append_nil acc).symm
  | p :: r, acc, h => by
    have e : putK acc p.1 p.2 = acc ++ [p] := by
      unfold putK
      rw [if_neg]
      rw [List.any_eq_true]
      rintro ⟨x, hx, ex⟩
      have ex : x.1 = p.1 := of_decide_eq_true ex
      rw [List.map_append] at h
      exact (List.nodup_append.mp h).2.2 x.1 (List.mem_map_of_mem hx) p.1 (List.mem_map_of_mem List.mem_cons_self) ex
    have e2 : acc ++ p :: r = (acc ++ [p]) ++ r := by rw [List.append_assoc]; rfl
    show mergeV r (putK acc p.1 p.2) = _
    rw [e, e2]
    exact mergeV_app r (acc ++ [p]) (by rw [← e2]; exact h)
def kAS (m n : Int) : List (Key × V) := [(Sum.inr (Str.ofString "add"), .int (m + n)), (Sum.inr (Str.ofString "sub"), .int (m - n))]
def spTerm : Sp := fun vs H Q _ => ∃ (d nl b : Addr) (ns : List Int) (zs : List Str) (m n : Nat), vs = [.ref d, .ref nl, .int (m : Int)] ∧ Deck H d b ns n ∧ H nl = some (.lst (zs.map V.str)) ∧ zs.length = 6 ∧ (∀ z ∈ zs, arS z = 0) ∧ 1 ≤ m ∧ m ≤ 40 ∧ n ≤ 10000 ∧ ∀ (t : Addr) (n' : Nat) (H' : Hp) (ws : List V), SameB d H H' → H' d = some (.lst [.ref b, .int (n' : Int)]) → n' ≤ n + m → H t = none → H' t = some (.tup ws) → TT' zs m ws → Q (.ref t) H'
def spTaken : Sp := fun vs H Q _ => ∃ (fl ul : Addr) (fr : List Int) (u w : Nat), vs = [.ref fl, .ref ul, .int (w : Int)] ∧ H fl = some (.lst (fr.map V.int)) ∧ H ul = some (.dK (trU u)) ∧ w ≤ 2 ∧ fr.length ≤ 1000 ∧ (∀ H', Same H H' → Q (.int (u : Int)) H') ∧ ∀ (nb : Int) (fr2 : List Int) (H' : Hp), Same H H' → fr.Perm (nb :: fr2) → Q (.int nb) (upd H' fl (.lst (fr2.map V.int)))
def spRowL : Sp := fun vs H Q _ => ∃ (w : V) (b : Int) (sl : Addr) (ps : List Int), vs = [w, .int b, .ref sl] ∧ isW w ∧ H sl = some (.lst (ps.map V.int)) ∧ ps.length = arV w ∧ ∀ (t : Addr) (H' : Hp), Same H H' → H' t = some (.tup (rowV w b ps)) → Q (.ref t) H'
def WsOk (ρ : Str → Option Int) (ws : List V) : Prop := (∀ v ∈ ws, isW v ∧ hasV ρ v ∧ leafB (valW ρ v)) ∧ isTerm ws ∧ ws.length ≤ 40
def spRows : Sp := fun vs H Q _ => ∃ (t : Addr) (ws : List V) (w : Nat) (vals : List (Key × V)) (ρ : Str → Option Int), vs = [.ref t, .int (w : Int)] ∧ H t = some (.tup ws) ∧ w ≤ 2 ∧ VOf vals ρ ∧ WsOk ρ ws ∧ ∀ (l rl : Addr) (rs : List V) (ts : List (List V)) (fs : List (Int × Int)) (box : Int) (H' : Hp), Same H H' → H' l = some (.lst [.ref rl, .int box]) → H' rl = some (.lst rs) → RowsIn H' rs ts → RunsAt vals ts fs → fs.length = ws.length → fs.getLast? = some (box, worthN ρ ws) → (∀ p ∈ fs, 0 ≤ p.1 ∧ p.1 < 40) → Q (.ref l) H'
def spAnew : Sp := fun vs H Q _ => ∃ (t : Addr) (ts : List V) (st : Int) (vals kvs : List (Key × V)) (b n : Int), vs = [.ref t, .int st] ∧ H t = some (.tup ts) ∧ RowAt vals kvs ts b n ∧ (0 ≤ b ∧ b < 1000) ∧ (∀ (x : Int) (v : V), valV kvs (Sum.inl x) = some v → 0 ≤ x ∧ x < 1000) ∧ ∀ (t' : Addr) (ts' : List V) (H' : Hp), Same H H' → H' t' = some (.tup ts') → (∀ kvs', (∀ x m : Int, valV kvs (Sum.inl x) = some (.int m) → valV kvs' (Sum.inl (x * st + 5)) = some (.int m)) → RowAt vals kvs' ts' (b * st + 5) n) → Q (.ref t') H'
def spBetw : Sp := fun vs H Q _ => ∃ (d rl b : Addr) (ns : List Int) (n : Nat) (rs : List V) (ts : List (List V)) (fs : List (Int × Int)) (vals : List (Key × V)), vs = [.ref d, .ref rl, .int 1000] ∧ Deck H d b ns n ∧ H rl = some (.lst rs) ∧ RowsIn H rs ts ∧ RunsAt vals ts fs ∧ fs.length ≤ 40 ∧ (∀ p ∈ fs, 0 ≤ p.1 ∧ p.1 < 40) ∧ n ≤ 10000 ∧ ∀ (l : Addr) (rs' : List V) (ts' : List (List V)) (fs' : List (Int × Int)) (H' : Hp), SameB d H H' → H' d = some (.lst [.ref b, .int ((n + fs.length : Nat) : Int)]) → H' l = some (.lst rs') → RowsIn H' rs' ts' → RunsAt vals ts' fs' → fs'.length ≤ 80 → (boxes fs').filter (fun p => lo p.1) = boxes fs → Q (.ref l) H'
def spSameL : Sp := fun vs H Q _ => ∃ (rl vl t : Addr) (box : Int) (rs : List V) (ts : List (List V)) (fs : List (Int × Int)) (vals : List (Key × V)) (ρ : Str → Option Int) (ws : List V), vs = [.ref rl, .ref vl, .int box, .ref t] ∧ H rl = some (.lst rs) ∧ RowsIn H rs ts ∧ H vl = some (.dK vals) ∧ VOf vals ρ ∧ RunsAt vals ts fs ∧ fs.length = ws.length ∧ fs.getLast? = some (box, worthN ρ ws) ∧ H t = some (.tup ws) ∧ WsOk ρ ws ∧ ∀ H', Same H H' → Q (.bl true) H'
section
variable {P : Program} {w : World} {K : PySem.W.Frag} {mg : Str → Option Value} {base : Heap} {k : Nat}
abbrev sHow : Stmt := top 6
theorem scHow : FnScope ["word"] ["word"] (defScope sHow) := ⟨rfl, rfl, rfl, by decide +kernel, rfl, by decide +kernel, by decide +kernel⟩
theorem hasHow (G : Gs w K mg) (D : Def K mg "how_many_below" sHow ["word"]) : Has P w K mg base (k + 1) "how_many_below" ["word"] spHow := by
  refine D.has scHow (fun vs H Q E h => ?_) (fun f cdv A outer s H vs Q E hr h => ?_)
  · obtain ⟨_, rfl, _, _⟩ := h
    rfl
  have nd := scHow.nd
  have hu := hu_of hr
  have hu0 := Nat.lt_of_succ_lt hu
  obtain ⟨v, rfl, hw, q⟩ := h
  obtain ⟨a_PARTS_BELOW, m_PARTS_BELOW, s_PARTS_BELOW⟩ := G.m_PARTS_BELOW
  refine ⟨_, (@pss_one _ _ _ (@ps_ret _ _ _ _ (@pe_mget2 _ _ _ _ _ _ _ _ _ _ (@pe_gref _ _ _ _ m_PARTS_BELOW (by rfl) (by decide +kernel)) s_PARTS_BELOW (@pvD _ 0 _ _ (by rfl) (by first | exact Or.inl rfl | exact Or.inr (Or.inl rfl) | exact Or.inr (Or.inr rfl)) (by decide) (by decide)) (@pe_int _ _ _ _) (@M2.mk _ _ _ _ _ _ _ rfl rfl rfl rfl)))), ?_⟩
  rw [show start ["word"] [v] = [some (v)] from rfl]
  push_cast [tMGet2]
  obtain ⟨k, rfl⟩ := hw
  refine ⟨k, rfl, ?_⟩
  show Q ((valV parts k).getD (V.int 0)) H
  rw [val_parts]
  exact q
abbrev sJoinN : Stmt := top 8
theorem scJoinN : FnScope ["word", "parts"] ["word", "parts"] (defScope sJoinN) := ⟨rfl, rfl, rfl, by decide +kernel, rfl, by decide +kernel, by decide +kernel⟩
theorem hasJoinN (G : Gs w K mg) (D : Def K mg "joined_numbers" sJoinN ["word", "parts"]) : Has P w K mg base (k + 1) "joined_numbers" ["word", "parts"] spJoinN := by
  refine D.has scJoinN (fun vs H Q E h => ?_) (fun f cdv A outer s H vs Q E hr h => ?_)
  · obtain ⟨_, _, _, rfl, _, _, _, _, _⟩ := h
    rfl
  have nd := scJoinN.nd
  have hu := hu_of hr
  have hu0 := Nat.lt_of_succ_lt hu
  obtain ⟨z, pl, xs, rfl, hz, hp, hl, hb, q⟩ := h
  refine ⟨_, (@pss_cons _ _ _ _ _ (@ps_if _ _ _ _ _ _ _ _ (@pt_cmpR _ _ _ _ _ _ _ _ (@op_eq _) (@pvD _ 0 _ _ (by rfl) (by first | exact Or.inl rfl | exact Or.inr (Or.inl rfl) | exact Or.inr (Or.inr rfl)) (by decide) (by decide)) (@pe_str _ _ _ _) (@nomark _ _ (by decide) (by decide))) (@pss_one _ _ _ (@ps_ret _ _ _ _ (@pe_op _ _ _ _ _ _ _ _ (@op_add _) (@pe_ix _ _ _ _ _ _ _ (@ix_list _) (@pvD _ 1 _ _ (by rfl) (by first | exact Or.inl rfl | exact Or.inr (Or.inl rfl) | exact Or.inr (Or.inr rfl)) (by decide) (by decide)) (@pe_int _ _ _ _) (fun _ _ => rfl)) (@pe_ix _ _ _ _ _ _ _ (@ix_list _) (@pvD _ 1 _ _ (by rfl) (by first | exact Or.inl rfl | exact Or.inr (Or.inl rfl) | exact Or.inr (Or.inr rfl)) (by decide) (by decide)) (@pe_int _ _ _ _) (fun _ _ => rfl))))) (@pss_nil _)) (@pss_cons _ _ _ _ _ (@ps_if _ _ _ _ _ _ _ _ (@pt_cmpR _ _ _ _ _ _ _ _ (@op_eq _) (@pvD _ 0 _ _ (by rfl) (by first | exact Or.inl rfl | exact Or.inr (Or.inl rfl) | exact Or.inr (Or.inr rfl)) (by decide) (by decide)) (@pe_str _ _ _ _) (@nomark _ _ (by decide) (by decide))) (@pss_one _ _ _ (@ps_ret _ _ _ _ (@pe_op _ _ _ _ _ _ _ _ (@op_sub _) (@pe_ix _ _ _ _ _ _ _ (@ix_list _) (@pvD _ 1 _ _ (by rfl) (by first | exact Or.inl rfl | exact Or.inr (Or.inl rfl) | exact Or.inr (Or.inr rfl)) (by decide) (by decide)) (@pe_int _ _ _ _) (fun _ _ => rfl)) (@pe_ix _ _ _ _ _ _ _ (@ix_list _) (@pvD _ 1 _ _ (by rfl) (by first | exact Or.inl rfl | exact Or.inr (Or.inl rfl) | exact Or.inr (Or.inr rfl)) (by decide) (by decide)) (@pe_int _ _ _ _) (fun _ _ => rfl))))) (@pss_nil _)) (@pss_cons _ _ _ _ _ (@ps_if _ _ _ _ _ _ _ _ (@pt_cmpR _ _ _ _ _ _ _ _ (@op_eq _) (@pvD _ 0 _ _ (by rfl) (by first | exact Or.inl rfl | exact Or.inr (Or.inl rfl) | exact Or.inr (Or.inr rfl)) (by decide) (by decide)) (@pe_str _ _ _ _) (@nomark _ _ (by decide) (by decide))) (@pss_one _ _ _ (@ps_ret _ _ _ _ (@pe_op _ _ _ _ _ _ _ _ (@op_mulB _) (@pe_ix _ _ _ _ _ _ _ (@ix_list _) (@pvD _ 1 _ _ (by rfl) (by first | exact Or.inl rfl | exact Or.inr (Or.inl rfl) | exact Or.inr (Or.inr rfl)) (by decide) (by decide)) (@pe_int _ _ _ _) (fun _ _ => rfl)) (@pe_ix _ _ _ _ _ _ _ (@ix_list _) (@pvD _ 1 _ _ (by rfl) (by first | exact Or.inl rfl | exact Or.inr (Or.inl rfl) | exact Or.inr (Or.inr rfl)) (by decide) (by decide)) (@pe_int _ _ _ _) (fun _ _ => rfl))))) (@pss_nil _)) (@pss_one _ _ _ (@ps_ret _ _ _ _ (@pe_un _ _ _ _ _ _ (@un_neg _) (@pe_ix _ _ _ _ _ _ _ (@ix_list _) (@pvD _ 1 _ _ (by rfl) (by first | exact Or.inl rfl | exact Or.inr (Or.inl rfl) | exact Or.inr (Or.inr rfl)) (by decide) (by decide)) (@pe_int _ _ _ _) (fun _ _ => rfl)))))))), ?_⟩
  rw [show start ["word", "parts"] [.str z, .ref pl] = [some (.str z), some (.ref pl)] from rfl]
  push_cast [and_true]
  have two : arS z = 2 → ∃ a b, xs = [a, b] := fun h2 => by
    rw [h2] at hl
    match xs, hl with
    | [a, b], _ => exact ⟨a, b, rfl⟩
  refine ⟨rfl, ite2 (fun e => ?_) fun n1 => ⟨rfl, ite2 (fun e => ?_) fun n2 => ⟨rfl, ite2 (fun e => ?_) fun n3 => ?_⟩⟩⟩
  · obtain ⟨a, b, rfl⟩ := two (by rw [e]; decide +kernel)
    have q' : Q (.int (opN z a b)) H := q
    rw [show opN z a b = a + b from if_pos e] at q'
    exact rIxL_ok hp rfl (rIxL_ok hp rfl ⟨a, rfl, b, rfl, q'⟩)
  · obtain ⟨a, b, rfl⟩ := two (by rw [e]; decide +kernel)
    have q' : Q (.int (opN z a b)) H := q
    rw [show opN z a b = a - b by unfold opN; rw [if_neg n1, if_pos e]] at q'
    exact rIxL_ok hp rfl (rIxL_ok hp rfl ⟨a, rfl, b, rfl, q'⟩)
  · obtain ⟨a, b, rfl⟩ := two (by rw [e]; decide +kernel)
    have q' : Q (.int (opN z a b)) H := q
    rw [show opN z a b = a * b by unfold opN; rw [if_neg n1, if_neg n2, if_pos e]] at q'
    exact rIxL_ok hp rfl (rIxL_ok hp rfl ⟨a, rfl, b, rfl, ⟨hb a List.mem_cons_self, hb b (List.mem_cons_of_mem _ List.mem_cons_self)⟩, q'⟩)
  · obtain ⟨a, r, rfl⟩ : ∃ a r, xs = a :: r := List.exists_cons_of_ne_nil (by intro e; rw [e] at hl; simp at hl; omega)
    have q' : Q (.int (opN z a ((a :: r).getD 1 0))) H := q
    rw [show opN z a ((a :: r).getD 1 0) = -a by unfold opN; rw [if_neg n1, if_neg n2, if_neg n3]] at q'
    exact rIxL_ok hp (atI_nat (xs := (a :: r).map V.int) (j := 0) rfl) ⟨a, rfl, q'⟩
abbrev sFoldN : Stmt := top 7
theorem scFoldN : FnScope ["words", "joined", "done", "word", "parts", "part"] ["words", "joined"] (defScope sFoldN) := ⟨rfl, rfl, rfl, by decide +kernel, rfl, by decide +kernel, by decide +kernel⟩
theorem hasFoldN (G : Gs w K mg) (h_how_many_below : Has P w K mg base k "how_many_below" ["word"] spHow) (hk1 : 1 ≤ k) (D : Def K mg "folded" sFoldN ["words", "joined"]) : Has P w K mg base (k + 1) "folded" ["words", "joined"] (spFoldN P w K mg base) := by
  refine D.has scFoldN (fun vs H Q E h => ?_) (fun f cdv A outer s H vs Q E hr h => ?_)
  · obtain ⟨_, _, _, rfl, _, _, _, _, _, _⟩ := h
    rfl
  have nd := scFoldN.nd
  have hu := hu_of hr
  have hu0 := Nat.lt_of_succ_lt hu
  obtain ⟨l, fv, ws, rfl, hF, hL, hw, hT, hlen, q⟩ := h
  have m_len := G.m_len
  have m_range := G.m_range
  have m_reversed := G.m_reversed
  refine ⟨_, (@pss_cons _ _ _ _ _ (@ps_set _ _ 2 _ _ _ _ nd rfl (by first | exact Or.inl rfl | exact Or.inr rfl) (@pe_lst _ _ _ _ (@pa_nil _)) (by rfl) (by first | exact .inl rfl | exact .inr rfl | assumption)) (@pss_cons _ _ _ _ _ (@ps_for _ _ _ _ _ _ _ _ PassesOwn.never rfl (@pi_rev _ _ _ _ _ _ rfl m_reversed (@pa_cons _ _ _ _ _ (@pvD _ 0 _ _ (by rfl) (by first | exact Or.inl rfl | exact Or.inr (Or.inl rfl) | exact Or.inr (Or.inr rfl)) (by decide) (by decide)) (@pa_nil _) (by rfl)) (by rfl)) (@pg_name _ _ 3 _ nd rfl (by first | exact Or.inl rfl | exact Or.inr rfl) (by first | exact .inl rfl | exact .inr rfl | assumption)) (@pss_cons _ _ _ _ _ (@ps_set _ _ 4 _ _ _ _ nd rfl (by first | exact Or.inl rfl | exact Or.inr rfl) (@pe_lst _ _ _ _ (@pa_nil _)) (by rfl) (by first | exact .inl rfl | exact .inr rfl | assumption)) (@pss_cons _ _ _ _ _ (@ps_for _ _ _ _ _ _ _ _ PassesOwn.never rfl (@pi_range1 _ _ _ _ _ _ rfl m_range (@pa_cons _ _ _ _ _ (@pe_has _ _ _ _ _ _ _ _ _ _ h_how_many_below hr (@pa_cons _ _ _ _ _ (@pvD _ 3 _ _ (by rfl) (by first | exact Or.inl rfl | exact Or.inr (Or.inl rfl) | exact Or.inr (Or.inr rfl)) (by decide) (by decide)) (@pa_nil _) (by rfl)) (by rfl) (by decide +kernel) (by rfl) (by rfl)) (@pa_nil _) (by rfl)) (by rfl)) (@pg_name _ _ 5 _ nd rfl (by first | exact Or.inl rfl | exact Or.inr rfl) (by first | exact .inl rfl | exact .inr rfl | assumption)) (@pss_one _ _ _ (@ps_expr _ _ _ _ (@pe_bm _ _ _ _ _ _ _ _ _ _ _ _ PySem.F.plainAttrs_list PySem.F.slot_list_append PySem.F.type_list_append (@mt_append _) (@pvD _ 4 _ _ (by rfl) (by first | exact Or.inl rfl | exact Or.inr (Or.inl rfl) | exact Or.inr (Or.inr rfl)) (by decide) (by decide)) (@pa_cons _ _ _ _ _ (@pe_bm0 _ _ _ _ _ _ _ _ _ PySem.F.plainAttrs_list PySem.F.slot_list_pop PySem.F.type_list_pop (@mt_pop _) (@pvD _ 2 _ _ (by rfl) (by first | exact Or.inl rfl | exact Or.inr (Or.inl rfl) | exact Or.inr (Or.inr rfl)) (by decide) (by decide)) (by rfl) (by rfl)) (@pa_nil _) (by rfl)) (by rfl) (by rfl) (by rfl) (by rfl) (by rfl)) (by rfl))) (by intro _; rfl)) (@pss_one _ _ _ (@ps_expr _ _ _ _ (@pe_bm _ _ _ _ _ _ _ _ _ _ _ _ PySem.F.plainAttrs_list PySem.F.slot_list_append PySem.F.type_list_append (@mt_append _) (@pvD _ 2 _ _ (by rfl) (by first | exact Or.inl rfl | exact Or.inr (Or.inl rfl) | exact Or.inr (Or.inr rfl)) (by decide) (by decide)) (@pa_cons _ _ _ _ _ (@pe_ifExp _ _ _ _ _ _ _ _ (@pt_cmpR _ _ _ _ _ _ _ _ (@op_gt _) (@pe_callB _ _ _ _ _ _ _ _ _ (@call_len_seq _) rfl m_len b_len (@pa_cons _ _ _ _ _ (@pvD _ 4 _ _ (by rfl) (by first | exact Or.inl rfl | exact Or.inr (Or.inl rfl) | exact Or.inr (Or.inr rfl)) (by decide) (by decide)) (@pa_nil _) (by rfl)) (by decide) (by decide) (by rfl) (by rfl)) (@pe_int _ _ _ _) (@nomark _ _ (by decide) (by decide))) (@pe_callV _ _ _ _ _ _ _ _ 1 ["word", "parts"] rfl (by first | exact Or.inl rfl | exact Or.inr (Or.inl rfl) | exact Or.inr (Or.inr rfl)) hr (@pa_cons _ _ _ _ _ (@pvD _ 3 _ _ (by rfl) (by first | exact Or.inl rfl | exact Or.inr (Or.inl rfl) | exact Or.inr (Or.inr rfl)) (by decide) (by decide)) (@pa_cons _ _ _ _ _ (@pvD _ 4 _ _ (by rfl) (by first | exact Or.inl rfl | exact Or.inr (Or.inl rfl) | exact Or.inr (Or.inr rfl)) (by decide) (by decide)) (@pa_nil _) (by rfl)) (by rfl)) (by decide +kernel) (by decide +kernel) (by rfl) (by rfl)) (@pvD _ 3 _ _ (by rfl) (by first | exact Or.inl rfl | exact Or.inr (Or.inl rfl) | exact Or.inr (Or.inr rfl)) (by decide) (by decide))) (@pa_nil _) (by rfl)) (by rfl) (by rfl) (by rfl) (by rfl) (by rfl)) (by rfl))))) (by intro _; rfl)) (@pss_one _ _ _ (@ps_ret _ _ _ _ (@pe_ix _ _ _ _ _ _ _ (@ix_list _) (@pvD _ 2 _ _ (by rfl) (by first | exact Or.inl rfl | exact Or.inr (Or.inl rfl) | exact Or.inr (Or.inr rfl)) (by decide) (by decide)) (@pe_int _ _ _ _) (fun _ _ => rfl)))))), ?_⟩
  rw [show start ["words", "joined", "done", "word", "parts", "part"] [.ref l, fv] = [some (.ref l), some (fv), none, none, none, none] from rfl]
  push_cast [spHow]
  have sz := sizeLine_eq
  have hF' := hF.up hk1
  refine ⟨Nat.zero_le _, fun p hp => ⟨ws, (same_new hp _).seq hL, ?_⟩⟩
  have sub : ∀ i, ∃ m, pend m ((ws.drop i).map arV) = some 0 := fun i => by
    have := pend_drop (ws.map arV) 1 hT i
    rw [← List.map_drop] at this
    exact this
  have hwd : ∀ i, ∀ v ∈ ws.drop i, numW v ∧ leafB v := fun i v hv => hw v (List.mem_of_mem_drop hv)
  refine forW_rev (xs := ws) (fun i σ H' => ∃ (v1 v2 v3 : Option V), σ = [some (.ref l), some fv, some (.ref p), v1, v2, v3] ∧ Same H H' ∧ H' p = some (.lst ((runN (ws.drop (ws.length - i))).reverse.map V.int))) ⟨none, none, none, rfl, same_new hp _, ?_⟩ (fun i σ H' _ h => ?_) ?_ ?_
  · rw [Nat.sub_zero, List.drop_length]
    exact upd_same
  · obtain ⟨_, _, _, _, s1, _⟩ := h
    exact s1.seq hL
  · rintro i x σ H' hi hx ⟨v1, v2, v3, rfl, s1, hd⟩
    push_cast [spHow]
    have e1 : ws.drop (ws.length - (i + 1)) = x :: ws.drop (ws.length - i) := by
      rw [show ws.length - (i + 1) = ws.length - 1 - i by omega, List.drop_eq_getElem_cons (by omega), show ws.length - 1 - i + 1 = ws.length - i by omega]
      congr 1
      rw [List.getElem?_eq_getElem (by omega)] at hx
      exact Option.some.inj hx
    obtain ⟨m, hm⟩ := sub (ws.length - (i + 1))
    rw [e1] at hm ⊢
    obtain ⟨m', rfl⟩ : ∃ m', m = m' + 1 := by
      cases m with
      | zero => cases hm
      | succ m' => exact ⟨m', rfl⟩
    have hm' : pend (m' + arV x) ((ws.drop (ws.length - i)).map arV) = some 0 := hm
    have hx' := hw x (List.mem_of_getElem? hx)
    have hst := runN_len _ _ (fun v hv => (hwd (ws.length - i) v hv).1) hm'
    have hbits := fun y hy => bits_of_run (x := y) (hwd (ws.length - i)) hm' (by rw [List.length_drop]; omega) hy
    have hmle := pend_le _ _ hm'
    rw [List.length_map, List.length_drop] at hmle
    rw [runN_cons]
    generalize runN (ws.drop (ws.length - i)) = st at hd hst hbits ⊢
    have hisW : isW x := by
      cases x with
      | int n => exact isW.int n
      | str z => exact isW.str z
      | _ => exact hx'.1.elim
    refine ⟨Nat.zero_le _, fun p1 hp1 => ⟨hisW, by omega, by have := arV_le x; omega, ?_⟩⟩
    have hpn : H p1 = none := s1.free hp1
    have npp : p ≠ p1 := ne_of_none hd hp1
    refine forW_range (lo := 0) (fun j σ H1 => ∃ v, σ = [some (.ref l), some fv, some (.ref p), some x, some (.ref p1), v] ∧ Same H H1 ∧ H1 p = some (.lst ((st.drop j).reverse.map V.int)) ∧ H1 p1 = some (.lst ((st.take j).map V.int))) ⟨v3, rfl, s1.upd hpn _, by rw [upd_ne npp]; exact hd, upd_same⟩ ?_ ?_
    · rintro j σ H1 hj ⟨v, rfl, s2, hp2, hq2⟩
      push_cast [and_true]
      have hj' : j < st.length := by omega
      have ed : (st.drop j).reverse.map V.int = (st.drop (j + 1)).reverse.map V.int ++ [V.int st[j]] := by
        rw [List.drop_eq_getElem_cons hj', List.reverse_cons, List.map_append]
        rfl
      rw [ed] at hp2
      refine ⟨tyV_list hq2, ?_⟩
      refine pop_ok hp2 ?_
      refine (append_ok (K := K) (by rw [upd_ne npp.symm]; exact hq2) (by rw [List.length_map, List.length_take]; omega) ⟨(s2.upd hp _).upd hpn _, by rw [upd_ne npp, upd_same], ?_⟩).2
      rw [upd_same, List.take_add_one, List.getElem?_eq_getElem hj', List.map_append]
      rfl
    · rintro σ H1 ⟨v, rfl, s2, hp2, hq2⟩
      push_cast [and_true]
      have hA : (((arV x : Nat) : Int)).toNat = arV x := by omega
      rw [hA] at hp2 hq2
      have fin : ∀ (y : Int) (H2 : Hp), stepN x st = y :: st.drop (arV x) → Same H1 H2 → rAppend (.ref p) [.int y] H2 fun _ H3 => Same H H3 ∧ H3 p = some (.lst ((stepN x st).reverse.map V.int)) := by
        intro y H2 ey s3
        refine (append_ok (K := K) (s3 _ _ hp2) (by rw [List.length_map, List.length_reverse, List.length_drop]; omega) ⟨(s2.trans s3).upd hp _, ?_⟩).2
        rw [upd_same, ey, List.reverse_cons, List.map_append]
        rfl
      refine ⟨tyV_list hp2, (st.take (arV x)).map V.int, .inl (SqL.of hq2), ?_⟩
      have htl : (((st.take (arV x)).map V.int).length : Int) = (arV x : Int) := by rw [List.length_map, List.length_take]; omega
      rw [htl]
      cases x with
      | int n =>
        rw [if_neg (by show ¬ (0 : Int) < ((0 : Nat) : Int); omega)]
        exact fin n H1 rfl (Same.refl _)
      | str z =>
        have hz : 0 < arS z := hx'.1
        rw [if_pos (by show (0 : Int) < ((arS z : Nat) : Int); omega)]
        refine ⟨spJoinN, hF', z, p1, st.take (arS z), rfl, hz, hq2, by rw [List.length_take]; have : arV (.str z) = arS z := rfl; omega, fun y hy => hbits y (List.mem_of_mem_take hy), ?_⟩
        refine fin _ H1 ?_ (Same.refl _)
        show opN z (st.getD 0 0) (st.getD 1 0) :: st.drop (arS z) = _
        rw [op_take hz]
        rfl
      | _ => exact hx'.1.elim
  · rintro σ H' ⟨v1, v2, v3, rfl, s1, hd⟩
    push_cast [and_true]
    rw [Nat.sub_self, List.drop_zero] at hd
    have h1 := runN_len ws 1 (fun v hv => (hw v hv).1) hT
    obtain ⟨x, hx⟩ : ∃ x, runN ws = [x] := by
      match runN ws, h1 with
      | [x], _ => exact ⟨x, rfl⟩
    rw [hx] at hd
    have q' := q H' s1
    rw [hx] at q'
    exact rIxL_ok hd rfl q'
abbrev sValOf : Stmt := top 9
theorem scValOf : FnScope ["name", "values"] ["name", "values"] (defScope sValOf) := ⟨rfl, rfl, rfl, by decide +kernel, rfl, by decide +kernel, by decide +kernel⟩
theorem hasValOf (G : Gs w K mg) (D : Def K mg "value_of" sValOf ["name", "values"]) : Has P w K mg base (k + 1) "value_of" ["name", "values"] spValOf := by
  refine D.has scValOf (fun vs H Q E h => ?_) (fun f cdv A outer s H vs Q E hr h => ?_)
  · obtain ⟨_, _, _, _, rfl, _, _, _⟩ := h
    rfl
  have nd := scValOf.nd
  have hu := hu_of hr
  have hu0 := Nat.lt_of_succ_lt hu
  obtain ⟨vl, z, n, kvs, rfl, hV, hn, q⟩ := h
  refine ⟨_, (@pss_cons _ _ _ _ _ (@ps_if _ _ _ _ _ _ _ _ (@pt_cmp _ _ _ _ _ _ (@pc_dnotin _ _ _ _ _ hu (@pvD _ 0 _ _ (by rfl) (by first | exact Or.inl rfl | exact Or.inr (Or.inl rfl) | exact Or.inr (Or.inr rfl)) (by decide) (by decide)) (@pvD _ 1 _ _ (by rfl) (by first | exact Or.inl rfl | exact Or.inr (Or.inl rfl) | exact Or.inr (Or.inr rfl)) (by decide) (by decide))) (by first | exact nobehind _ (by decide) (by decide) | rfl)) (@pss_one _ _ _ (@ps_never _ _)) (@pss_nil _)) (@pss_one _ _ _ (@ps_ret _ _ _ _ (@pe_dget _ _ _ _ _ _ hu (@pvD _ 1 _ _ (by rfl) (by first | exact Or.inl rfl | exact Or.inr (Or.inl rfl) | exact Or.inr (Or.inr rfl)) (by decide) (by decide)) (@pvD _ 0 _ _ (by rfl) (by first | exact Or.inl rfl | exact Or.inr (Or.inl rfl) | exact Or.inr (Or.inr rfl)) (by decide) (by decide)) (fun _ _ => rfl))))), ?_⟩
  rw [show start ["name", "values"] [.str z, .ref vl] = [some (.str z), some (.ref vl)] from rfl]
  push_cast [and_true]
  have g : DGet H vl (.str z) (some (.int n)) := by
    have := DGet.k (k := Sum.inr z) hV
    rw [hn] at this
    exact this
  exact ⟨_, g, iteF ⟨_, g, q⟩⟩
abbrev sWithN : Stmt := top 10
theorem scWithN : FnScope ["word", "values"] ["word", "values"] (defScope sWithN) := ⟨rfl, rfl, rfl, by decide +kernel, rfl, by decide +kernel, by decide +kernel⟩
theorem hasWithN (G : Gs w K mg) (h_value_of : Has P w K mg base k "value_of" ["name", "values"] spValOf) (D : Def K mg "with_value" sWithN ["word", "values"]) : Has P w K mg base (k + 1) "with_value" ["word", "values"] spWithN := by
  refine D.has scWithN (fun vs H Q E h => ?_) (fun f cdv A outer s H vs Q E hr h => ?_)
  · obtain ⟨_, _, _, rfl, _, _, _, _⟩ := h
    rfl
  have nd := scWithN.nd
  have hu := hu_of hr
  have hu0 := Nat.lt_of_succ_lt hu
  obtain ⟨v, a, ρ, rfl, hv, hV, hh, q⟩ := h
  obtain ⟨a_PARTS_BELOW, m_PARTS_BELOW, s_PARTS_BELOW⟩ := G.m_PARTS_BELOW
  have m_isinstance := G.m_isinstance
  have m_str := G.m_str
  refine ⟨_, (@pss_cons _ _ _ _ _ (@ps_if _ _ _ _ _ _ _ _ (@PW.pt _ _ _ (@pw_or _ _ _ _ _ _ _ (@pt_not _ _ _ _ (@pt_val _ _ _ (@pe_callB _ _ _ _ _ _ _ _ _ (@call_isinst _) rfl m_isinstance b_isinstance (@pa_cons _ _ _ _ _ (@pvD _ 0 _ _ (by rfl) (by first | exact Or.inl rfl | exact Or.inr (Or.inl rfl) | exact Or.inr (Or.inr rfl)) (by decide) (by decide)) (@pa_cons _ _ _ _ _ (@pe_gty _ _ _ _ m_str b_str (by rfl) (by decide +kernel) (by decide +kernel)) (@pa_nil _) (by rfl)) (by rfl)) (by decide) (by decide) (by rfl) (by rfl)) (by intro _; rfl))) (@pw_or1 _ _ _ _ (@pt_cmpR _ _ _ _ _ _ _ _ (@op_in_mod _ _ _ s_PARTS_BELOW) (@pvD _ 0 _ _ (by rfl) (by first | exact Or.inl rfl | exact Or.inr (Or.inl rfl) | exact Or.inr (Or.inr rfl)) (by decide) (by decide)) (@pe_gref _ _ _ _ m_PARTS_BELOW (by rfl) (by decide +kernel)) (by with_unfolding_all rfl))))) (@pss_one _ _ _ (@ps_ret _ _ _ _ (@pvD _ 0 _ _ (by rfl) (by first | exact Or.inl rfl | exact Or.inr (Or.inl rfl) | exact Or.inr (Or.inr rfl)) (by decide) (by decide)))) (@pss_nil _)) (@pss_one _ _ _ (@ps_ret _ _ _ _ (@pe_has _ _ _ _ _ _ _ _ _ _ h_value_of hr (@pa_cons _ _ _ _ _ (@pvD _ 0 _ _ (by rfl) (by first | exact Or.inl rfl | exact Or.inr (Or.inl rfl) | exact Or.inr (Or.inr rfl)) (by decide) (by decide)) (@pa_cons _ _ _ _ _ (@pvD _ 1 _ _ (by rfl) (by first | exact Or.inl rfl | exact Or.inr (Or.inl rfl) | exact Or.inr (Or.inr rfl)) (by decide) (by decide)) (@pa_nil _) (by rfl)) (by rfl)) (by rfl) (by decide +kernel) (by rfl) (by rfl))))), ?_⟩
  rw [show start ["word", "values"] [v, .ref a] = [some (v), some (.ref a)] from rfl]
  push_cast [spValOf]
  obtain ⟨k', rfl⟩ := hv
  cases k' with
  | inl n => exact ⟨_, .int n, false, rfl, iteT q⟩
  | inr z =>
    refine ⟨_, .str z, true, rfl, iteF ⟨Sum.inr z, rfl, ?_⟩⟩
    show if (valV parts (Sum.inr z)).isSome = true then _ else _
    rw [in_parts]
    have q1 : Q (if 0 < arS z then V.str z else V.int ((ρ z).getD 0)) H := q
    by_cases hz : 0 < arS z
    · rw [if_pos (decide_eq_true hz)]
      rw [if_pos hz] at q1
      exact q1
    · rw [if_neg (by rw [decide_eq_false hz]; decide)]
      rw [if_neg hz] at q1
      obtain ⟨kvs, h1, h2⟩ := hV
      obtain ⟨n, hn⟩ := Option.isSome_iff_exists.mp (hh.resolve_left hz)
      rw [hn] at q1
      exact ⟨a, z, rfl, rfl, n, kvs, h1, by rw [h2 z, hn]; rfl, q1⟩
abbrev sWorth : Stmt := top 11
theorem scWorth : FnScope ["words", "values", "numbers"] ["words", "values"] (defScope sWorth) := ⟨rfl, rfl, rfl, by decide +kernel, rfl, by decide +kernel, by decide +kernel⟩
theorem hasWorth (G : Gs w K mg) (h_folded : Has P w K mg base k "folded" ["words", "joined"] (spFoldN P w K mg base)) (h_joined_numbers : Has P w K mg base k "joined_numbers" ["word", "parts"] spJoinN) (h_with_value : Has P w K mg base k "with_value" ["word", "values"] spWithN) (hj1 : Has P w K mg base 1 "joined_numbers" ["word", "parts"] spJoinN) (D : Def K mg "worth" sWorth ["words", "values"]) : Has P w K mg base (k + 1) "worth" ["words", "values"] (spWorth K) := by
  refine D.has scWorth (fun vs H Q E h => ?_) (fun f cdv A outer s H vs Q E hr h => ?_)
  · obtain ⟨_, _, _, _, rfl, _, _, _, _, _, _⟩ := h
    rfl
  have nd := scWorth.nd
  have hu := hu_of hr
  have hu0 := Nat.lt_of_succ_lt hu
  obtain ⟨t, a, ws, ρ, rfl, hT, hV, hw, hi, hl, q⟩ := h
  obtain ⟨a_joined_numbers, m_joined_numbers, v_joined_numbers⟩ := hj1.val
  refine ⟨_, (@pss_cons _ _ _ _ _ (@ps_setlc _ _ _ _ _ _ _ _ _ _ _ _ _ _ _ 2 _ _ _ nd rfl (Or.inl rfl) (@ClOk.mk _ _ ["word"] ["values"] [1] _ rfl rfl rfl rfl (And.intro rfl trivial) rfl (And.intro (And.intro rfl (And.intro rfl rfl)) trivial)) rfl (@pi_tup _ _ _ _ (@pvD _ 0 _ _ (by rfl) (by first | exact Or.inl rfl | exact Or.inr (Or.inl rfl) | exact Or.inr (Or.inr rfl)) (by decide) (by decide))) (fun _ _ _ => (@pg_name _ _ 0 _ (show List.Nodup (["word", "values"] : List Str) by decide +kernel) rfl (Or.inl rfl) (by first | exact .inl rfl | exact .inr rfl | assumption))) (fun _ _ _ => (@pif0 _)) (fun _ _ _ => (@pe_has _ _ _ _ _ _ _ _ _ _ h_with_value hr (@pa_cons _ _ _ _ _ (@pvD _ 0 _ _ (by rfl) (by first | exact Or.inl rfl | exact Or.inr (Or.inl rfl) | exact Or.inr (Or.inr rfl)) (by decide) (by decide)) (@pa_cons _ _ _ _ _ (@pvD _ 1 _ _ (by rfl) (by first | exact Or.inl rfl | exact Or.inr (Or.inl rfl) | exact Or.inr (Or.inr rfl)) (by decide) (by decide)) (@pa_nil _) (by rfl)) (by rfl)) (by rfl) (by decide +kernel) (by rfl) (by rfl))) (by rfl) (by intro _; rfl) (by first | exact .inl rfl | exact .inr rfl | assumption)) (@pss_one _ _ _ (@ps_ret _ _ _ _ (@pe_has _ _ _ _ _ _ _ _ _ _ h_folded hr (@pa_cons _ _ _ _ _ (@pvD _ 2 _ _ (by rfl) (by first | exact Or.inl rfl | exact Or.inr (Or.inl rfl) | exact Or.inr (Or.inr rfl)) (by decide) (by decide)) (@pa_cons _ _ _ _ _ (@pe_gref _ _ _ _ m_joined_numbers (by rfl) (by decide +kernel)) (@pa_nil _) (by rfl)) (by rfl)) (by rfl) (by decide +kernel) (by rfl) (by rfl))))), ?_⟩
  rw [show start ["words", "values", "numbers"] [.ref t, .ref a] = [some (.ref t), some (.ref a), none] from rfl]
  push_cast [spFoldN, spJoinN, spWithN]
  have sz := sizeLine_eq
  refine ⟨⟨ws, hT⟩, fun l hln => lc_tup (fun i ys => ys = (ws.take i).map (valW ρ)) hT (by omega) hln rfl (fun i x ys H1 G' K' hx hP hl2 hS hG hK => ?_) fun ys H2 hP hl2 hS hD2 => ?_⟩
  · have hx' := hw x (List.mem_of_getElem? hx)
    push_cast [spWithN]
    refine ⟨hx'.1, ρ, hV.same hS, hx'.2.1, hK _ _ (Same.refl _) ?_⟩
    rw [hP, List.take_add_one, hx]
    simp
  · rw [List.take_length] at hP
    subst hP
    refine ⟨v_joined_numbers, ws.map (valW ρ), SqL.of hD2, fun v hv => ?_, ?_, by rw [List.length_map]; exact hl, fun H3 s3 => q H3 (hS.trans s3)⟩
    · obtain ⟨u, hu, rfl⟩ := List.mem_map.mp hv
      exact ⟨numW_valW (hw u hu).1, (hw u hu).2.2⟩
    · show pend 1 ((ws.map (valW ρ)).map arV) = some 0
      rw [map_arV]
      exact hi
abbrev sHeld : Stmt := top 13
theorem scHeld : FnScope ["box", "boxes"] ["box", "boxes"] (defScope sHeld) := ⟨rfl, rfl, rfl, by decide +kernel, rfl, by decide +kernel, by decide +kernel⟩
theorem hasHeld (G : Gs w K mg) (D : Def K mg "held_in" sHeld ["box", "boxes"]) : Has P w K mg base (k + 1) "held_in" ["box", "boxes"] spHeld := by
  refine D.has scHeld (fun vs H Q E h => ?_) (fun f cdv A outer s H vs Q E hr h => ?_)
  · obtain ⟨_, _, _, _, rfl, _, _, _⟩ := h
    rfl
  have nd := scHeld.nd
  have hu := hu_of hr
  have hu0 := Nat.lt_of_succ_lt hu
  obtain ⟨bx, x, m, kvs, rfl, hB, hm, q⟩ := h
  refine ⟨_, (@pss_cons _ _ _ _ _ (@ps_if _ _ _ _ _ _ _ _ (@pt_cmp _ _ _ _ _ _ (@pc_dnotin _ _ _ _ _ hu (@pvD _ 0 _ _ (by rfl) (by first | exact Or.inl rfl | exact Or.inr (Or.inl rfl) | exact Or.inr (Or.inr rfl)) (by decide) (by decide)) (@pvD _ 1 _ _ (by rfl) (by first | exact Or.inl rfl | exact Or.inr (Or.inl rfl) | exact Or.inr (Or.inr rfl)) (by decide) (by decide))) (by first | exact nobehind _ (by decide) (by decide) | rfl)) (@pss_one _ _ _ (@ps_never _ _)) (@pss_nil _)) (@pss_one _ _ _ (@ps_ret _ _ _ _ (@pe_dget _ _ _ _ _ _ hu (@pvD _ 1 _ _ (by rfl) (by first | exact Or.inl rfl | exact Or.inr (Or.inl rfl) | exact Or.inr (Or.inr rfl)) (by decide) (by decide)) (@pvD _ 0 _ _ (by rfl) (by first | exact Or.inl rfl | exact Or.inr (Or.inl rfl) | exact Or.inr (Or.inr rfl)) (by decide) (by decide)) (fun _ _ => rfl))))), ?_⟩
  rw [show start ["box", "boxes"] [.int x, .ref bx] = [some (.int x), some (.ref bx)] from rfl]
  push_cast [and_true]
  have g : DGet H bx (.int x) (some (.int m)) := by
    have := DGet.k (k := Sum.inl x) hB
    rw [hm] at this
    exact this
  exact ⟨_, g, iteF ⟨_, g, q⟩⟩
abbrev sRowN : Stmt := top 14
theorem scRowN : FnScope ["row", "boxes", "values"] ["row", "boxes", "values"] (defScope sRowN) := ⟨rfl, rfl, rfl, by decide +kernel, rfl, by decide +kernel, by decide +kernel⟩
theorem hasRowN (G : Gs w K mg) (h_held_in : Has P w K mg base k "held_in" ["box", "boxes"] spHeld) (h_joined_numbers : Has P w K mg base k "joined_numbers" ["word", "parts"] spJoinN) (h_value_of : Has P w K mg base k "value_of" ["name", "values"] spValOf) (D : Def K mg "row_number" sRowN ["row", "boxes", "values"]) : Has P w K mg base (k + 1) "row_number" ["row", "boxes", "values"] spRowN := by
  refine D.has scRowN (fun vs H Q E h => ?_) (fun f cdv A outer s H vs Q E hr h => ?_)
  · obtain ⟨_, _, _, _, _, _, _, _, rfl, _, _, _, _, _⟩ := h
    rfl
  have nd := scRowN.nd
  have hu := hu_of hr
  have hu0 := Nat.lt_of_succ_lt hu
  obtain ⟨t, bx, vl, ts, kvs, vals, b, n, rfl, hT, hB, hV, hR, q⟩ := h
  refine ⟨_, (@pss_cons _ _ _ _ _ (@ps_if _ _ _ _ _ _ _ _ (@pt_cmpR _ _ _ _ _ _ _ _ (@op_eq _) (@pe_ix _ _ _ _ _ _ _ (@ix_tup _) (@pvD _ 0 _ _ (by rfl) (by first | exact Or.inl rfl | exact Or.inr (Or.inl rfl) | exact Or.inr (Or.inr rfl)) (by decide) (by decide)) (@pe_int _ _ _ _) (fun _ _ => rfl)) (@pe_str _ _ _ _) (@nomark _ _ (by decide) (by decide))) (@pss_one _ _ _ (@ps_ret _ _ _ _ (@pe_ix _ _ _ _ _ _ _ (@ix_tup _) (@pvD _ 0 _ _ (by rfl) (by first | exact Or.inl rfl | exact Or.inr (Or.inl rfl) | exact Or.inr (Or.inr rfl)) (by decide) (by decide)) (@pe_int _ _ _ _) (fun _ _ => rfl)))) (@pss_nil _)) (@pss_cons _ _ _ _ _ (@ps_if _ _ _ _ _ _ _ _ (@pt_cmpR _ _ _ _ _ _ _ _ (@op_eq _) (@pe_ix _ _ _ _ _ _ _ (@ix_tup _) (@pvD _ 0 _ _ (by rfl) (by first | exact Or.inl rfl | exact Or.inr (Or.inl rfl) | exact Or.inr (Or.inr rfl)) (by decide) (by decide)) (@pe_int _ _ _ _) (fun _ _ => rfl)) (@pe_str _ _ _ _) (@nomark _ _ (by decide) (by decide))) (@pss_one _ _ _ (@ps_ret _ _ _ _ (@pe_has _ _ _ _ _ _ _ _ _ _ h_value_of hr (@pa_cons _ _ _ _ _ (@pe_ix _ _ _ _ _ _ _ (@ix_tup _) (@pvD _ 0 _ _ (by rfl) (by first | exact Or.inl rfl | exact Or.inr (Or.inl rfl) | exact Or.inr (Or.inr rfl)) (by decide) (by decide)) (@pe_int _ _ _ _) (fun _ _ => rfl)) (@pa_cons _ _ _ _ _ (@pvD _ 2 _ _ (by rfl) (by first | exact Or.inl rfl | exact Or.inr (Or.inl rfl) | exact Or.inr (Or.inr rfl)) (by decide) (by decide)) (@pa_nil _) (by rfl)) (by rfl)) (by rfl) (by decide +kernel) (by rfl) (by rfl)))) (@pss_nil _)) (@pss_one _ _ _ (@ps_ret _ _ _ _ (@pe_has _ _ _ _ _ _ _ _ _ _ h_joined_numbers hr (@pa_cons _ _ _ _ _ (@pe_ix _ _ _ _ _ _ _ (@ix_tup _) (@pvD _ 0 _ _ (by rfl) (by first | exact Or.inl rfl | exact Or.inr (Or.inl rfl) | exact Or.inr (Or.inr rfl)) (by decide) (by decide)) (@pe_int _ _ _ _) (fun _ _ => rfl)) (@pa_cons _ _ _ _ _ (@pe_lc _ _ _ _ _ _ _ _ _ _ _ _ _ _ _ (@ClOk.mk _ _ ["box"] ["boxes"] [1] _ rfl rfl rfl rfl (And.intro rfl trivial) rfl (And.intro (And.intro rfl (And.intro rfl rfl)) trivial)) rfl (@pi_tup _ _ _ _ (@pe_slice _ _ _ _ _ _ _ _ _ _ (@sl_tupU _) (@pvD _ 0 _ _ (by rfl) (by first | exact Or.inl rfl | exact Or.inr (Or.inl rfl) | exact Or.inr (Or.inr rfl)) (by decide) (by decide)) (@po_some _ _ _ (@pe_int _ _ _ _)) (@po_none _))) (fun _ _ _ => (@pg_name _ _ 0 _ (show List.Nodup (["box", "boxes"] : List Str) by decide +kernel) rfl (Or.inl rfl) (by first | exact .inl rfl | exact .inr rfl | assumption))) (fun _ _ _ => (@pif0 _)) (fun _ _ _ => (@pe_has _ _ _ _ _ _ _ _ _ _ h_held_in hr (@pa_cons _ _ _ _ _ (@pvD _ 0 _ _ (by rfl) (by first | exact Or.inl rfl | exact Or.inr (Or.inl rfl) | exact Or.inr (Or.inr rfl)) (by decide) (by decide)) (@pa_cons _ _ _ _ _ (@pvD _ 1 _ _ (by rfl) (by first | exact Or.inl rfl | exact Or.inr (Or.inl rfl) | exact Or.inr (Or.inr rfl)) (by decide) (by decide)) (@pa_nil _) (by rfl)) (by rfl)) (by rfl) (by decide +kernel) (by rfl) (by rfl))) (by intro _; rfl)) (@pa_nil _) (by rfl)) (by rfl)) (by rfl) (by decide +kernel) (by rfl) (by rfl)))))), ?_⟩
  rw [show start ["row", "boxes", "values"] [.ref t, .ref bx, .ref vl] = [some (.ref t), some (.ref bx), some (.ref vl)] from rfl]
  push_cast [spHeld, spJoinN, spValOf]
  have sz := sizeLine_eq
  cases hR with
  | put b n =>
    refine rIxT_ok hT rfl ⟨rfl, ?_⟩
    rw [if_pos rfl]
    exact rIxT_ok hT rfl (q _ (Same.refl _))
  | load b z n h =>
    refine rIxT_ok hT rfl ⟨rfl, ?_⟩
    rw [if_neg (by decide +kernel)]
    refine rIxT_ok hT rfl ⟨rfl, ?_⟩
    rw [if_pos rfl]
    exact rIxT_ok hT rfl ⟨vl, z, rfl, rfl, n, vals, hV, h, q _ (Same.refl _)⟩
  | neg b x m h b1 =>
    refine rIxT_ok hT rfl ⟨rfl, ?_⟩
    rw [if_neg (by decide +kernel)]
    refine rIxT_ok hT rfl ⟨rfl, ?_⟩
    rw [if_neg (by decide +kernel)]
    refine rIxT_ok hT rfl (rSlU_ok hT fun p H1 s1 h1 => ⟨p, rfl, ⟨_, SqT.of h1⟩, fun D hD => ?_⟩)
    have h1 : H1 p = some (.tup [.int x]) := h1
    refine lc_tup (fun i ys => ys = (([m] : List Int).take i).map V.int) (SqT.of h1) (by show (1 : Nat) < sizeLine; rw [sz]; decide) hD rfl (fun i y ys H2 G' K' hy hP hl2 hS hG hK => ?_) fun ys H2 hP hl2 hS hD2 => ?_
    · push_cast [spHeld]
      obtain ⟨v, hv, hm⟩ : ∃ v : Int, ([m] : List Int)[i]? = some v ∧ ∃ x : Int, y = .int x ∧ valV kvs (Sum.inl x) = some (.int v) := by
        match i, hy with
        | 0, hy => exact ⟨m, rfl, x, (Option.some.inj hy).symm, h⟩
      obtain ⟨x', rfl, hx'⟩ := hm
      refine ⟨bx, x', rfl, rfl, v, kvs, hS _ _ (s1 _ _ hB), hx', hK _ _ (Same.refl _) ?_⟩
      rw [hP, List.take_add_one, hv, List.map_append]
      rfl
    · have hP : ys = ([m] : List Int).map V.int := hP
      rw [hP] at hD2
      refine ⟨Str.ofString "neg", rfl, by decide +kernel, [m], hD2, by rw [ar_neg]; rfl, fun y hy => ?_, ?_⟩
      · rw [List.mem_singleton.mp hy]
        exact b1
      · have e : opN (Str.ofString "neg") m 0 = -m := by
          unfold opN
          rw [if_neg (by decide +kernel), if_neg (by decide +kernel), if_neg (by decide +kernel)]
        show Q (V.int (opN (Str.ofString "neg") m 0)) H2
        rw [e]
        exact q _ (s1.trans hS)
  | bin z b x y' m n hz h1' h2' b1 b2 =>
    refine rIxT_ok hT rfl ⟨rfl, ?_⟩
    rw [if_neg (fun e => by rw [V.str.inj e] at hz; exact absurd hz (by decide +kernel))]
    refine rIxT_ok hT rfl ⟨rfl, ?_⟩
    rw [if_neg (fun e => by rw [V.str.inj e] at hz; exact absurd hz (by decide +kernel))]
    refine rIxT_ok hT rfl (rSlU_ok hT fun p H1 s1 h1 => ⟨p, rfl, ⟨_, SqT.of h1⟩, fun D hD => ?_⟩)
    have h1 : H1 p = some (.tup [.int x, .int y']) := h1
    refine lc_tup (fun i ys => ys = (([m, n] : List Int).take i).map V.int) (SqT.of h1) (by show (2 : Nat) < sizeLine; rw [sz]; decide) hD rfl (fun i y ys H2 G' K' hy hP hl2 hS hG hK => ?_) fun ys H2 hP hl2 hS hD2 => ?_
    · push_cast [spHeld]
      obtain ⟨v, hv, hm⟩ : ∃ v : Int, ([m, n] : List Int)[i]? = some v ∧ ∃ x : Int, y = .int x ∧ valV kvs (Sum.inl x) = some (.int v) := by
        match i, hy with
        | 0, hy => exact ⟨m, rfl, x, (Option.some.inj hy).symm, h1'⟩
        | 1, hy => exact ⟨n, rfl, y', (Option.some.inj hy).symm, h2'⟩
      obtain ⟨x', rfl, hx'⟩ := hm
      refine ⟨bx, x', rfl, rfl, v, kvs, hS _ _ (s1 _ _ hB), hx', hK _ _ (Same.refl _) ?_⟩
      rw [hP, List.take_add_one, hv, List.map_append]
      rfl
    · have hP : ys = ([m, n] : List Int).map V.int := hP
      rw [hP] at hD2
      refine ⟨z, rfl, by omega, [m, n], hD2, by rw [hz]; rfl, fun y hy => ?_, q _ (s1.trans hS)⟩
      rcases List.mem_cons.mp hy with e | e
      · rw [e]
        exact b1
      · rw [List.mem_singleton.mp e]
        exact b2
abbrev sRun : Stmt := top 15
theorem scRun : FnScope ["rows", "values", "boxes", "row"] ["rows", "values"] (defScope sRun) := ⟨rfl, rfl, rfl, by decide +kernel, rfl, by decide +kernel, by decide +kernel⟩
theorem hasRun (G : Gs w K mg) (h_row_number : Has P w K mg base k "row_number" ["row", "boxes", "values"] spRowN) (D : Def K mg "run" sRun ["rows", "values"]) : Has P w K mg base (k + 1) "run" ["rows", "values"] (spRun K) := by
  refine D.has scRun (fun vs H Q E h => ?_) (fun f cdv A outer s H vs Q E hr h => ?_)
  · obtain ⟨_, _, _, _, _, _, rfl, _, _, _, _, _, _⟩ := h
    rfl
  have nd := scRun.nd
  have hu := hu_of hr
  have hu0 := Nat.lt_of_succ_lt hu
  obtain ⟨l, vl, rs, ts, fs, vals, rfl, hL, hl, hI, hV, hR, q⟩ := h
  refine ⟨_, (@pss_cons _ _ _ _ _ (@ps_set _ _ 2 _ _ _ _ nd rfl (by first | exact Or.inl rfl | exact Or.inr rfl) (@pe_dnewK _ _) (by rfl) (by first | exact .inl rfl | exact .inr rfl | assumption)) (@pss_cons _ _ _ _ _ (@ps_for _ _ _ _ _ _ _ _ PassesOwn.never rfl (@pi_list _ _ _ _ (@pvD _ 0 _ _ (by rfl) (by first | exact Or.inl rfl | exact Or.inr (Or.inl rfl) | exact Or.inr (Or.inr rfl)) (by decide) (by decide))) (@pg_name _ _ 3 _ nd rfl (by first | exact Or.inl rfl | exact Or.inr rfl) (by first | exact .inl rfl | exact .inr rfl | assumption)) (@pss_one _ _ _ (@ps_dput _ _ _ _ _ _ _ _ _ hu (@pvD _ 2 _ _ (by rfl) (by first | exact Or.inl rfl | exact Or.inr (Or.inl rfl) | exact Or.inr (Or.inr rfl)) (by decide) (by decide)) (@pe_ix _ _ _ _ _ _ _ (@ix_tup _) (@pvD _ 3 _ _ (by rfl) (by first | exact Or.inl rfl | exact Or.inr (Or.inl rfl) | exact Or.inr (Or.inr rfl)) (by decide) (by decide)) (@pe_int _ _ _ _) (fun _ _ => rfl)) (@pe_has _ _ _ _ _ _ _ _ _ _ h_row_number hr (@pa_cons _ _ _ _ _ (@pvD _ 3 _ _ (by rfl) (by first | exact Or.inl rfl | exact Or.inr (Or.inl rfl) | exact Or.inr (Or.inr rfl)) (by decide) (by decide)) (@pa_cons _ _ _ _ _ (@pvD _ 2 _ _ (by rfl) (by first | exact Or.inl rfl | exact Or.inr (Or.inl rfl) | exact Or.inr (Or.inr rfl)) (by decide) (by decide)) (@pa_cons _ _ _ _ _ (@pvD _ 1 _ _ (by rfl) (by first | exact Or.inl rfl | exact Or.inr (Or.inl rfl) | exact Or.inr (Or.inr rfl)) (by decide) (by decide)) (@pa_nil _) (by rfl)) (by rfl)) (by rfl)) (by rfl) (by decide +kernel) (by rfl) (by rfl)) rfl)) (by intro _; rfl)) (@pss_one _ _ _ (@ps_ret _ _ _ _ (@pvD _ 2 _ _ (by rfl) (by first | exact Or.inl rfl | exact Or.inr (Or.inl rfl) | exact Or.inr (Or.inr rfl)) (by decide) (by decide)))))), ?_⟩
  rw [show start ["rows", "values", "boxes", "row"] [.ref l, .ref vl] = [some (.ref l), some (.ref vl), none, none] from rfl]
  push_cast [spRowN]
  have sz := sizeLine_eq
  intro d hd
  refine ⟨⟨rs, (same_new hd _).seq hL⟩, forW_list (xs := rs) (fun i σ H' => ∃ v, σ = [some (.ref l), some (.ref vl), some (.ref d), v] ∧ Same H H' ∧ H' d = some (.dK (boxes (fs.take i)))) ⟨none, rfl, same_new hd _, upd_same⟩ (fun i σ H' _ h => ?_) ?_ ?_⟩
  · obtain ⟨_, _, s1, _⟩ := h
    exact s1.seq hL
  · rintro i x σ H' hx ⟨v, rfl, s1, hD⟩
    push_cast [spRowN]
    have hi := (List.getElem?_eq_some_iff.mp hx).1
    have hif : i < fs.length := by rw [← hR.1, ← hI.1]; exact hi
    obtain ⟨t, ht, hrow⟩ := hR.2 i fs[i] (List.getElem?_eq_getElem hif)
    obtain ⟨a, ha, hta⟩ := hI.2 i t ht
    rw [hx] at ha
    cases ha
    have lb := boxes_len (fs.take i)
    rw [List.length_take] at lb
    have ll := hI.1.trans hR.1
    refine ⟨a, rfl, t, s1 _ _ hta, _, hD, vals, s1 _ _ hV, _, _, hrow, fun H2 s2 => rIxT_ok (s2 _ _ (s1 _ _ hta)) hrow.at1 ⟨_, DPut.k (k := Sum.inl fs[i].1) (s2 _ _ hD) (by omega), (s1.trans s2).upd hd _, ?_⟩⟩
    rw [upd_same, List.take_add_one, List.getElem?_eq_getElem hif]
    show some (HO.dK (putK (boxes (fs.take i)) (Sum.inl fs[i].1) (.int fs[i].2))) = some (HO.dK (boxes (fs.take i ++ [(fs[i].1, fs[i].2)])))
    rw [boxes_snoc]
  · rintro σ H' ⟨v, rfl, s1, hD⟩
    have e : fs.take rs.length = fs := by rw [hI.1, hR.1, List.take_length]
    rw [e] at hD
    first | exact ⟨_, rfl, q d H' s1 hd hD⟩ | exact q d H' s1 hd hD
abbrev sNext : Stmt := top 17
theorem scNext : FnScope ["deck", "at"] ["deck"] (defScope sNext) := ⟨rfl, rfl, rfl, by decide +kernel, rfl, by decide +kernel, by decide +kernel⟩
theorem hasNext (G : Gs w K mg) (D : Def K mg "_law_next" sNext ["deck"]) : Has P w K mg base (k + 1) "_law_next" ["deck"] spNext := by
  refine D.has scNext (fun vs H Q E h => ?_) (fun f cdv A outer s H vs Q E hr h => ?_)
  · obtain ⟨_, _, _, _, rfl, _, _, _⟩ := h
    rfl
  have nd := scNext.nd
  have hu := hu_of hr
  have hu0 := Nat.lt_of_succ_lt hu
  obtain ⟨d, b, ns, n, rfl, hD, hn, q⟩ := h
  have m_len := G.m_len
  have m_sum := G.m_sum
  refine ⟨_, (@pss_cons _ _ _ _ _ (@ps_set _ _ 1 _ _ _ _ nd rfl (by first | exact Or.inl rfl | exact Or.inr rfl) (@pe_ix _ _ _ _ _ _ _ (@ix_list _) (@pvD _ 0 _ _ (by rfl) (by first | exact Or.inl rfl | exact Or.inr (Or.inl rfl) | exact Or.inr (Or.inr rfl)) (by decide) (by decide)) (@pe_int _ _ _ _) (fun _ _ => rfl)) (by rfl) (by first | exact .inl rfl | exact .inr rfl | assumption)) (@pss_cons _ _ _ _ _ (@ps_asg _ _ _ _ _ _ (@pe_op _ _ _ _ _ _ _ _ (@op_add _) (@pvD _ 1 _ _ (by rfl) (by first | exact Or.inl rfl | exact Or.inr (Or.inl rfl) | exact Or.inr (Or.inr rfl)) (by decide) (by decide)) (@pe_int _ _ _ _)) (@pg_sub _ _ _ _ _ _ _ (@pvD _ 0 _ _ (by rfl) (by first | exact Or.inl rfl | exact Or.inr (Or.inl rfl) | exact Or.inr (Or.inr rfl)) (by decide) (by decide)) (@pe_int _ _ _ _) (@set_list _) (by intro _; rfl)) (by rfl) (by rfl) (by rfl)) (@pss_cons _ _ _ _ _ (@ps_if _ _ _ _ _ _ _ _ (@pt_cmpR _ _ _ _ _ _ _ _ (@op_lt _) (@pvD _ 1 _ _ (by rfl) (by first | exact Or.inl rfl | exact Or.inr (Or.inl rfl) | exact Or.inr (Or.inr rfl)) (by decide) (by decide)) (@pe_callB _ _ _ _ _ _ _ _ _ (@call_len_seq _) rfl m_len b_len (@pa_cons _ _ _ _ _ (@pe_ix _ _ _ _ _ _ _ (@ix_list _) (@pvD _ 0 _ _ (by rfl) (by first | exact Or.inl rfl | exact Or.inr (Or.inl rfl) | exact Or.inr (Or.inr rfl)) (by decide) (by decide)) (@pe_int _ _ _ _) (fun _ _ => rfl)) (@pa_nil _) (by rfl)) (by decide) (by decide) (by rfl) (by rfl)) (@nomark _ _ (by decide) (by decide))) (@pss_one _ _ _ (@ps_ret _ _ _ _ (@pe_ix _ _ _ _ _ _ _ (@ix_list _) (@pe_ix _ _ _ _ _ _ _ (@ix_list _) (@pvD _ 0 _ _ (by rfl) (by first | exact Or.inl rfl | exact Or.inr (Or.inl rfl) | exact Or.inr (Or.inr rfl)) (by decide) (by decide)) (@pe_int _ _ _ _) (fun _ _ => rfl)) (@pvD _ 1 _ _ (by rfl) (by first | exact Or.inl rfl | exact Or.inr (Or.inl rfl) | exact Or.inr (Or.inr rfl)) (by decide) (by decide)) (fun _ _ => rfl)))) (@pss_nil _)) (@pss_one _ _ _ (@ps_ret _ _ _ _ (@pe_op _ _ _ _ _ _ _ _ (@op_mod _) (@pe_op _ _ _ _ _ _ _ _ (@op_add _) (@pe_op _ _ _ _ _ _ _ _ (@op_add _) (@pe_op _ _ _ _ _ _ _ _ (@op_mul _) (@pe_op _ _ _ _ _ _ _ _ (@op_mul _) (@pe_op _ _ _ _ _ _ _ _ (@op_mul _) (@pvD _ 1 _ _ (by rfl) (by first | exact Or.inl rfl | exact Or.inr (Or.inl rfl) | exact Or.inr (Or.inr rfl)) (by decide) (by decide)) (@pvD _ 1 _ _ (by rfl) (by first | exact Or.inl rfl | exact Or.inr (Or.inl rfl) | exact Or.inr (Or.inr rfl)) (by decide) (by decide))) (@pvD _ 1 _ _ (by rfl) (by first | exact Or.inl rfl | exact Or.inr (Or.inl rfl) | exact Or.inr (Or.inr rfl)) (by decide) (by decide))) (@pe_int _ _ _ _)) (@pe_op _ _ _ _ _ _ _ _ (@op_mul _) (@pe_op _ _ _ _ _ _ _ _ (@op_mul _) (@pe_int _ _ _ _) (@pvD _ 1 _ _ (by rfl) (by first | exact Or.inl rfl | exact Or.inr (Or.inl rfl) | exact Or.inr (Or.inr rfl)) (by decide) (by decide))) (@pvD _ 1 _ _ (by rfl) (by first | exact Or.inl rfl | exact Or.inr (Or.inl rfl) | exact Or.inr (Or.inr rfl)) (by decide) (by decide)))) (@pe_callB _ _ _ _ _ _ _ _ _ (@call_sum_list _ rfl) rfl m_sum b_sum (@pa_cons _ _ _ _ _ (@pe_slice _ _ _ _ _ _ _ _ _ _ (@sl_list _) (@pe_ix _ _ _ _ _ _ _ (@ix_list _) (@pvD _ 0 _ _ (by rfl) (by first | exact Or.inl rfl | exact Or.inr (Or.inl rfl) | exact Or.inr (Or.inr rfl)) (by decide) (by decide)) (@pe_int _ _ _ _) (fun _ _ => rfl)) (@po_none _) (@po_some _ _ _ (@pe_int _ _ _ _))) (@pa_nil _) (by rfl)) (by decide) (by decide) (by rfl) (by rfl))) (@pe_int _ _ _ _))))))), ?_⟩
  rw [show start ["deck", "at"] [.ref d] = [some (.ref d), none] from rfl]
  push_cast [rIxL, gSub, rSetL]
  have nb := hD.ne
  obtain ⟨h1, h2⟩ := hD
  refine ⟨_, SqL.of h1, .int (n : Int), rfl, ?_⟩
  push_cast [and_true]
  refine ⟨_, h1, 1, rfl, [.ref b, .int ((n : Int) + 1)], SqL.of upd_same, .ref b, rfl, ?_⟩
  push_cast [and_true]
  have h3 : upd H d (.lst [.ref b, .int ((n : Int) + 1)]) b = some (.lst (ns.map V.int)) := by rw [upd_ne nb]; exact h2
  have hS : SameB d H (upd H d (.lst [.ref b, .int ((n : Int) + 1)])) := fun c o hc ho => by rw [upd_ne hc]; exact ho
  have hD' : upd H d (.lst [.ref b, .int ((n : Int) + 1)]) d = some (.lst [.ref b, .int ((n + 1 : Nat) : Int)]) := upd_same
  refine ⟨ns.map V.int, .inl (SqL.of h3), ite2 (fun c => ?_) fun c => ?_⟩
  · rw [List.length_map] at c
    have hlt : n < ns.length := by omega
    refine ⟨_, SqL.of upd_same, .ref b, rfl, ?_⟩
    push_cast [and_true]
    exact ⟨_, SqL.of h3, .int ns[n], atI_nat (by rw [List.getElem?_map, List.getElem?_eq_getElem hlt]; rfl), q _ _ hS hD'⟩
  · refine ⟨.inl ⟨by omega, by omega⟩, .inr ⟨by omega, by omega⟩, .inr ⟨by decide, by decide⟩, .inl ⟨by decide, by decide⟩, .inr ⟨by omega, by omega⟩, _, SqL.of upd_same, .ref b, rfl, ?_⟩
    push_cast [and_true]
    refine ⟨_, SqL.of h3, fun p hp => ?_⟩
    have e : ∃ ms : List Int, cutV (ns.map V.int) none (some 40) = ms.map V.int := ⟨_, by unfold cutV; rw [← List.map_drop, ← List.map_take]⟩
    obtain ⟨ms, em⟩ := e
    rw [em]
    exact ⟨ms, SqL.of upd_same, q _ _ (fun c o hc ho => by rw [upd_ne (ne_of_none (hS c o hc ho) hp)]; exact hS c o hc ho) (same_new hp _ _ _ hD')⟩
abbrev sNames : Stmt := top 18
theorem scNames : FnScope ["cell", "letters", "first", "other", "rest", "size", "at", "base", "names", "kept"] ["cell"] (defScope sNames) := ⟨rfl, rfl, rfl, by decide +kernel, rfl, by decide +kernel, by decide +kernel⟩
theorem hasNames (G : Gs w K mg) (D : Def K mg "_law_names" sNames ["cell"]) : Has P w K mg base (k + 1) "_law_names" ["cell"] spNames6 := by
  refine D.has scNames (fun vs H Q E h => ?_) (fun f cdv A outer s H vs Q E hr h => ?_)
  · obtain ⟨_, rfl, _⟩ := h
    rfl
  have nd := scNames.nd
  have hu := hu_of hr
  have hu0 := Nat.lt_of_succ_lt hu
  obtain ⟨c, rfl, q⟩ := h
  have m_int := G.m_int
  have m_range := G.m_range
  refine ⟨_, (@pss_cons _ _ _ _ _ (@ps_set _ _ 1 _ _ _ _ nd rfl (by first | exact Or.inl rfl | exact Or.inr rfl) (@pe_str _ _ _ _) (by rfl) (by first | exact .inl rfl | exact .inr rfl | assumption)) (@pss_cons _ _ _ _ _ (@ps_set _ _ 2 _ _ _ _ nd rfl (by first | exact Or.inl rfl | exact Or.inr rfl) (@pe_ix _ _ _ _ _ _ _ (@ix_str _) (@pvD _ 1 _ _ (by rfl) (by first | exact Or.inl rfl | exact Or.inr (Or.inl rfl) | exact Or.inr (Or.inr rfl)) (by decide) (by decide)) (@pe_op _ _ _ _ _ _ _ _ (@op_mod _) (@pvD _ 0 _ _ (by rfl) (by first | exact Or.inl rfl | exact Or.inr (Or.inl rfl) | exact Or.inr (Or.inr rfl)) (by decide) (by decide)) (@pe_int _ _ _ _)) (fun _ _ => rfl)) (by rfl) (by first | exact .inl rfl | exact .inr rfl | assumption)) (@pss_cons _ _ _ _ _ (@ps_set _ _ 3 _ _ _ _ nd rfl (by first | exact Or.inl rfl | exact Or.inr rfl) (@pe_ix _ _ _ _ _ _ _ (@ix_str _) (@pvD _ 1 _ _ (by rfl) (by first | exact Or.inl rfl | exact Or.inr (Or.inl rfl) | exact Or.inr (Or.inr rfl)) (by decide) (by decide)) (@pe_op _ _ _ _ _ _ _ _ (@op_mod _) (@pe_op _ _ _ _ _ _ _ _ (@op_add _) (@pe_op _ _ _ _ _ _ _ _ (@op_add _) (@pvD _ 0 _ _ (by rfl) (by first | exact Or.inl rfl | exact Or.inr (Or.inl rfl) | exact Or.inr (Or.inr rfl)) (by decide) (by decide)) (@pe_int _ _ _ _)) (@pe_op _ _ _ _ _ _ _ _ (@op_mod _) (@pe_op _ _ _ _ _ _ _ _ (@op_fdiv _) (@pvD _ 0 _ _ (by rfl) (by first | exact Or.inl rfl | exact Or.inr (Or.inl rfl) | exact Or.inr (Or.inr rfl)) (by decide) (by decide)) (@pe_int _ _ _ _)) (@pe_int _ _ _ _))) (@pe_int _ _ _ _)) (fun _ _ => rfl)) (by rfl) (by first | exact .inl rfl | exact .inr rfl | assumption)) (@pss_cons _ _ _ _ _ (@ps_set _ _ 4 _ _ _ _ nd rfl (by first | exact Or.inl rfl | exact Or.inr rfl) (@pe_op _ _ _ _ _ _ _ _ (@op_fdiv _) (@pvD _ 0 _ _ (by rfl) (by first | exact Or.inl rfl | exact Or.inr (Or.inl rfl) | exact Or.inr (Or.inr rfl)) (by decide) (by decide)) (@pe_int _ _ _ _)) (by rfl) (by first | exact .inl rfl | exact .inr rfl | assumption)) (@pss_cons _ _ _ _ _ (@ps_if _ _ _ _ _ _ _ _ (@pt_cmpR _ _ _ _ _ _ _ _ (@op_eq _) (@pe_op _ _ _ _ _ _ _ _ (@op_mod _) (@pvD _ 4 _ _ (by rfl) (by first | exact Or.inl rfl | exact Or.inr (Or.inl rfl) | exact Or.inr (Or.inr rfl)) (by decide) (by decide)) (@pe_int _ _ _ _)) (@pe_int _ _ _ _) (@nomark _ _ (by decide) (by decide))) (@pss_one _ _ _ (@ps_ret _ _ _ _ (@pe_lst _ _ _ _ (@pa_cons _ _ _ _ _ (@pvD _ 3 _ _ (by rfl) (by first | exact Or.inl rfl | exact Or.inr (Or.inl rfl) | exact Or.inr (Or.inr rfl)) (by decide) (by decide)) (@pa_cons _ _ _ _ _ (@pe_op _ _ _ _ _ _ _ _ (@op_add_str _) (@pe_op _ _ _ _ _ _ _ _ (@op_mul_str _) (@pvD _ 2 _ _ (by rfl) (by first | exact Or.inl rfl | exact Or.inr (Or.inl rfl) | exact Or.inr (Or.inr rfl)) (by decide) (by decide)) (@pe_int _ _ _ _)) (@pvD _ 3 _ _ (by rfl) (by first | exact Or.inl rfl | exact Or.inr (Or.inl rfl) | exact Or.inr (Or.inr rfl)) (by decide) (by decide))) (@pa_cons _ _ _ _ _ (@pvD _ 2 _ _ (by rfl) (by first | exact Or.inl rfl | exact Or.inr (Or.inl rfl) | exact Or.inr (Or.inr rfl)) (by decide) (by decide)) (@pa_cons _ _ _ _ _ (@pe_op _ _ _ _ _ _ _ _ (@op_mul_str _) (@pvD _ 2 _ _ (by rfl) (by first | exact Or.inl rfl | exact Or.inr (Or.inl rfl) | exact Or.inr (Or.inr rfl)) (by decide) (by decide)) (@pe_int _ _ _ _)) (@pa_cons _ _ _ _ _ (@pe_op _ _ _ _ _ _ _ _ (@op_add_str _) (@pvD _ 3 _ _ (by rfl) (by first | exact Or.inl rfl | exact Or.inr (Or.inl rfl) | exact Or.inr (Or.inr rfl)) (by decide) (by decide)) (@pvD _ 2 _ _ (by rfl) (by first | exact Or.inl rfl | exact Or.inr (Or.inl rfl) | exact Or.inr (Or.inr rfl)) (by decide) (by decide))) (@pa_cons _ _ _ _ _ (@pe_op _ _ _ _ _ _ _ _ (@op_mul_str _) (@pvD _ 2 _ _ (by rfl) (by first | exact Or.inl rfl | exact Or.inr (Or.inl rfl) | exact Or.inr (Or.inr rfl)) (by decide) (by decide)) (@pe_int _ _ _ _)) (@pa_nil _) (by rfl)) (by rfl)) (by rfl)) (by rfl)) (by rfl)) (by rfl))))) (@pss_nil _)) (@pss_cons _ _ _ _ _ (@ps_set _ _ 5 _ _ _ _ nd rfl (by first | exact Or.inl rfl | exact Or.inr rfl) (@pe_op _ _ _ _ _ _ _ _ (@op_mod _) (@pe_op _ _ _ _ _ _ _ _ (@op_fdiv _) (@pvD _ 4 _ _ (by rfl) (by first | exact Or.inl rfl | exact Or.inr (Or.inl rfl) | exact Or.inr (Or.inr rfl)) (by decide) (by decide)) (@pe_int _ _ _ _)) (@pe_int _ _ _ _)) (by rfl) (by first | exact .inl rfl | exact .inr rfl | assumption)) (@pss_cons _ _ _ _ _ (@ps_set _ _ 6 _ _ _ _ nd rfl (by first | exact Or.inl rfl | exact Or.inr rfl) (@pe_op _ _ _ _ _ _ _ _ (@op_mod _) (@pe_op _ _ _ _ _ _ _ _ (@op_fdiv _) (@pvD _ 4 _ _ (by rfl) (by first | exact Or.inl rfl | exact Or.inr (Or.inl rfl) | exact Or.inr (Or.inr rfl)) (by decide) (by decide)) (@pe_int _ _ _ _)) (@pe_op _ _ _ _ _ _ _ _ (@op_add _) (@pvD _ 5 _ _ (by rfl) (by first | exact Or.inl rfl | exact Or.inr (Or.inl rfl) | exact Or.inr (Or.inr rfl)) (by decide) (by decide)) (@pe_int _ _ _ _))) (by rfl) (by first | exact .inl rfl | exact .inr rfl | assumption)) (@pss_cons _ _ _ _ _ (@ps_set _ _ 7 _ _ _ _ nd rfl (by first | exact Or.inl rfl | exact Or.inr rfl) (@pe_bm _ _ _ _ _ _ _ _ _ _ _ _ PySem.F.plainAttrs_str PySem.F.slot_str_join PySem.F.type_str_join (@mt_join _) (@pe_str _ _ _ _) (@pa_cons _ _ _ _ _ (@pe_lc _ _ _ _ _ _ _ _ _ _ _ _ _ _ _ (@ClOk.mk _ _ ["k"] ["first", "other", "letters", "rest"] [2, 3, 1, 4] _ rfl rfl rfl rfl (And.intro rfl (And.intro rfl (And.intro rfl (And.intro rfl trivial)))) rfl (And.intro (And.intro rfl (And.intro rfl rfl)) (And.intro (And.intro rfl (And.intro rfl rfl)) (And.intro (And.intro rfl (And.intro rfl rfl)) (And.intro (And.intro rfl (And.intro rfl rfl)) trivial))))) rfl (@pi_range1 _ _ _ _ _ _ rfl m_range (@pa_cons _ _ _ _ _ (@pvD _ 5 _ _ (by rfl) (by first | exact Or.inl rfl | exact Or.inr (Or.inl rfl) | exact Or.inr (Or.inr rfl)) (by decide) (by decide)) (@pa_nil _) (by rfl)) (by rfl)) (fun _ _ _ => (@pg_name _ _ 0 _ (show List.Nodup (["k", "first", "other", "letters", "rest"] : List Str) by decide +kernel) rfl (Or.inl rfl) (by first | exact .inl rfl | exact .inr rfl | assumption))) (fun _ _ _ => (@pif0 _)) (fun _ _ _ => (@pe_ix _ _ _ _ _ _ _ (@ix_listK _ K rfl) (@pe_lst _ _ _ _ (@pa_cons _ _ _ _ _ (@pvD _ 1 _ _ (by rfl) (by first | exact Or.inl rfl | exact Or.inr (Or.inl rfl) | exact Or.inr (Or.inr rfl)) (by decide) (by decide)) (@pa_cons _ _ _ _ _ (@pvD _ 2 _ _ (by rfl) (by first | exact Or.inl rfl | exact Or.inr (Or.inl rfl) | exact Or.inr (Or.inr rfl)) (by decide) (by decide)) (@pa_cons _ _ _ _ _ (@pe_ix _ _ _ _ _ _ _ (@ix_str _) (@pvD _ 3 _ _ (by rfl) (by first | exact Or.inl rfl | exact Or.inr (Or.inl rfl) | exact Or.inr (Or.inr rfl)) (by decide) (by decide)) (@pe_op _ _ _ _ _ _ _ _ (@op_mod _) (@pe_op _ _ _ _ _ _ _ _ (@op_fdiv _) (@pvD _ 4 _ _ (by rfl) (by first | exact Or.inl rfl | exact Or.inr (Or.inl rfl) | exact Or.inr (Or.inr rfl)) (by decide) (by decide)) (@pe_int _ _ _ _)) (@pe_int _ _ _ _)) (fun _ _ => rfl)) (@pa_nil _) (by rfl)) (by rfl)) (by rfl))) (@pe_op _ _ _ _ _ _ _ _ (@op_mod _) (@pe_op _ _ _ _ _ _ _ _ (@op_mul _) (@pvD _ 0 _ _ (by rfl) (by first | exact Or.inl rfl | exact Or.inr (Or.inl rfl) | exact Or.inr (Or.inr rfl)) (by decide) (by decide)) (@pe_op _ _ _ _ _ _ _ _ (@op_add _) (@pe_int _ _ _ _) (@pe_op _ _ _ _ _ _ _ _ (@op_fdiv _) (@pvD _ 4 _ _ (by rfl) (by first | exact Or.inl rfl | exact Or.inr (Or.inl rfl) | exact Or.inr (Or.inr rfl)) (by decide) (by decide)) (@pe_int _ _ _ _)))) (@pe_int _ _ _ _)) (fun _ _ => rfl))) (by intro _; rfl)) (@pa_nil _) (by rfl)) (by rfl) (by rfl) (by rfl) (by rfl) (by rfl)) (by rfl) (by first | exact .inl rfl | exact .inr rfl | assumption)) (@pss_cons _ _ _ _ _ (@ps_setlc _ _ _ _ _ _ _ _ _ _ _ _ _ _ _ 8 _ _ _ nd rfl (Or.inl rfl) (@ClOk.mk _ _ ["k"] ["base", "at", "letters", "cell"] [7, 6, 1, 0] _ rfl rfl rfl rfl (And.intro rfl (And.intro rfl (And.intro rfl (And.intro rfl trivial)))) rfl (And.intro (And.intro rfl (And.intro rfl rfl)) (And.intro (And.intro rfl (And.intro rfl rfl)) (And.intro (And.intro rfl (And.intro rfl rfl)) (And.intro (And.intro rfl (And.intro rfl rfl)) trivial))))) rfl (@pi_range1 _ _ _ _ _ _ rfl m_range (@pa_cons _ _ _ _ _ (@pe_int _ _ _ _) (@pa_nil _) (by rfl)) (by rfl)) (fun _ _ _ => (@pg_name _ _ 0 _ (show List.Nodup (["k", "base", "at", "letters", "cell"] : List Str) by decide +kernel) rfl (Or.inl rfl) (by first | exact .inl rfl | exact .inr rfl | assumption))) (fun _ _ _ => (@pif0 _)) (fun _ _ _ => (@pe_op _ _ _ _ _ _ _ _ (@op_add_str _) (@pe_op _ _ _ _ _ _ _ _ (@op_add_str _) (@pe_slice _ _ _ _ _ _ _ _ _ _ (@sl_str _) (@pvD _ 1 _ _ (by rfl) (by first | exact Or.inl rfl | exact Or.inr (Or.inl rfl) | exact Or.inr (Or.inr rfl)) (by decide) (by decide)) (@po_none _) (@po_some _ _ _ (@pvD _ 2 _ _ (by rfl) (by first | exact Or.inl rfl | exact Or.inr (Or.inl rfl) | exact Or.inr (Or.inr rfl)) (by decide) (by decide)))) (@pe_ix _ _ _ _ _ _ _ (@ix_str _) (@pvD _ 3 _ _ (by rfl) (by first | exact Or.inl rfl | exact Or.inr (Or.inl rfl) | exact Or.inr (Or.inr rfl)) (by decide) (by decide)) (@pe_op _ _ _ _ _ _ _ _ (@op_mod _) (@pe_op _ _ _ _ _ _ _ _ (@op_add _) (@pe_op _ _ _ _ _ _ _ _ (@op_fdiv _) (@pvD _ 4 _ _ (by rfl) (by first | exact Or.inl rfl | exact Or.inr (Or.inl rfl) | exact Or.inr (Or.inr rfl)) (by decide) (by decide)) (@pe_int _ _ _ _)) (@pvD _ 0 _ _ (by rfl) (by first | exact Or.inl rfl | exact Or.inr (Or.inl rfl) | exact Or.inr (Or.inr rfl)) (by decide) (by decide))) (@pe_int _ _ _ _)) (fun _ _ => rfl))) (@pe_slice _ _ _ _ _ _ _ _ _ _ (@sl_str _) (@pvD _ 1 _ _ (by rfl) (by first | exact Or.inl rfl | exact Or.inr (Or.inl rfl) | exact Or.inr (Or.inr rfl)) (by decide) (by decide)) (@po_some _ _ _ (@pvD _ 2 _ _ (by rfl) (by first | exact Or.inl rfl | exact Or.inr (Or.inl rfl) | exact Or.inr (Or.inr rfl)) (by decide) (by decide))) (@po_none _)))) (by rfl) (by intro _; rfl) (by first | exact .inl rfl | exact .inr rfl | assumption)) (@pss_cons _ _ _ _ _ (@ps_set _ _ 9 _ _ _ _ nd rfl (by first | exact Or.inl rfl | exact Or.inr rfl) (@pe_lst _ _ _ _ (@pa_const _ _ _ (@CsOk.str _ _ _ _ _ (@CsOk.str _ _ _ _ _ (@CsOk.str _ _ _ _ _ (@CsOk.str _ _ _ _ _ (@CsOk.str _ _ _ _ _ (@CsOk.str _ _ _ _ _ (@CsOk.str _ _ _ _ _ (@CsOk.str _ _ _ _ _ (@CsOk.str _ _ _ _ _ (@CsOk.nil)))))))))))) (by rfl) (by first | exact .inl rfl | exact .inr rfl | assumption)) (@pss_one _ _ _ (@ps_ret _ _ _ _ (@pe_lc _ _ _ _ _ _ _ _ _ _ _ _ _ _ _ (@ClOk.mk _ _ ["name"] ["kept"] [9] _ rfl rfl rfl rfl (And.intro rfl trivial) rfl (And.intro (And.intro rfl (And.intro rfl rfl)) trivial)) rfl (@pi_list _ _ _ _ (@pvD _ 8 _ _ (by rfl) (by first | exact Or.inl rfl | exact Or.inr (Or.inl rfl) | exact Or.inr (Or.inr rfl)) (by decide) (by decide))) (fun _ _ _ => (@pg_name _ _ 0 _ (show List.Nodup (["name", "kept"] : List Str) by decide +kernel) rfl (Or.inl rfl) (by first | exact .inl rfl | exact .inr rfl | assumption))) (fun _ _ _ => (@pif0 _)) (fun _ _ _ => (@pe_op _ _ _ _ _ _ _ _ (@op_add_str _) (@pvD _ 0 _ _ (by rfl) (by first | exact Or.inl rfl | exact Or.inr (Or.inl rfl) | exact Or.inr (Or.inr rfl)) (by decide) (by decide)) (@pe_op _ _ _ _ _ _ _ _ (@op_mul_str _) (@pe_str _ _ _ _) (@pe_callTy _ _ _ _ _ _ _ _ _ (@call_int1 _) rfl m_int b_int (@pa_cons _ _ _ _ _ (@pe_cmpR _ _ _ _ _ _ _ _ (@op_in_seqK _ K rfl) (@pvD _ 0 _ _ (by rfl) (by first | exact Or.inl rfl | exact Or.inr (Or.inl rfl) | exact Or.inr (Or.inr rfl)) (by decide) (by decide)) (@pvD _ 1 _ _ (by rfl) (by first | exact Or.inl rfl | exact Or.inr (Or.inl rfl) | exact Or.inr (Or.inr rfl)) (by decide) (by decide)) (by with_unfolding_all rfl)) (@pa_nil _) (by rfl)) (by decide) (by decide) (by rfl) (by rfl))))) (by intro _; rfl)))))))))))))), ?_⟩
  rw [show start ["cell", "letters", "first", "other", "rest", "size", "at", "base", "names", "kept"] [.int c] = [some (.int c), none, none, none, none, none, none, none, none, none] from rfl]
  push_cast [and_true]
  have sz := sizeLine_eq
  obtain ⟨c1, h1, l1⟩ := let_at c
  obtain ⟨c2, h2, l2⟩ := let_at (c + 1 + c / 26 % 25)
  have ll : (Str.ofString "abcdefghijklmnopqrstuvwxyz").length ≤ sizeLine := by decide +kernel
  have la : ∀ a b : Str, (a ++ b).length = a.length + b.length := fun a b => Array.size_append
  have one : ∀ x : Nat, (⟨#[x]⟩ : Str).length ≤ 1000 := fun x => by rw [one_len]; decide
  refine ⟨_, _, _, rfl, rfl, ll, h1, _, _, _, rfl, rfl, ll, h2, rfl, ite2 (fun _ => ?_) fun _ => ?_⟩
  · refine ⟨_, rfl, one _, _, rfl, by rw [length_mulS, one_len, one_len, sz]; decide, _, rfl, one _, _, rfl, _, rfl, by rw [one_len, one_len, sz]; decide, _, rfl, one _, by show (6 : Nat) ≤ sizeLine; decide, fun p hp => ?_⟩
    exact q p _ [⟨#[97 + c2]⟩, mulS ⟨#[97 + c1]⟩ 2 ++ ⟨#[97 + c2]⟩, ⟨#[97 + c1]⟩, mulS ⟨#[97 + c1]⟩ 3, (⟨#[97 + c2]⟩ : Str) ++ ⟨#[97 + c1]⟩, mulS ⟨#[97 + c1]⟩ 2] rfl (six_first _ _) (same_new hp _) upd_same
  · have b0 : 0 ≤ c / 650 / 4 % 8 := Int.emod_nonneg _ (by decide)
    have b1 : c / 650 / 4 % 8 < 8 := Int.emod_lt_of_pos _ (by decide)
    refine ⟨by omega, by omega, by omega, fun D hD => ?_⟩
    refine lc_range (fun i ys => ∃ zs : List Str, ys = zs.map V.str ∧ zs.length = i ∧ ∀ z ∈ zs, z.length = 1) (by omega) hD ⟨[], rfl, rfl, fun _ h => nomatch h⟩ (fun i ys H1 G' K' hi hP hl2 hS1 hG hK => ?_) fun ys H2 hP hl2 hS1 hD2 => ?_
    · push_cast [rIxS]
      obtain ⟨x, hx, _⟩ := let_at (c / 650 / 256)
      obtain ⟨v, hv, hm⟩ := atI_in [V.str ⟨#[97 + c1]⟩, V.str ⟨#[97 + c2]⟩, V.str ⟨#[97 + x]⟩] ((0 + (i : Int)) * (1 + c / 650 / 6656) % 3) (Int.emod_nonneg _ (by decide)) (Int.emod_lt_of_pos _ (by decide))
      refine ⟨ll, 97 + x, hx, by show (3 : Nat) ≤ sizeLine; decide, fun p hp => ⟨.inl ⟨by omega, by omega⟩, rIxL_ok upd_same hv ?_⟩⟩
      obtain ⟨zs, rfl, hz, hz1⟩ := hP
      obtain ⟨y, rfl⟩ : ∃ y : Nat, v = .str ⟨#[y]⟩ := by
        simp only [List.mem_cons, List.not_mem_nil, or_false] at hm
        rcases hm with rfl | rfl | rfl <;> exact ⟨_, rfl⟩
      refine hK _ _ (same_new hp _) ⟨zs ++ [⟨#[y]⟩], by rw [List.map_append]; rfl, by rw [List.length_append, hz]; rfl, fun z hz' => ?_⟩
      rcases List.mem_append.mp hz' with m | m
      · exact hz1 z m
      · rw [List.mem_singleton.mp m]
        rfl
    · obtain ⟨zs, rfl, hz, hz1⟩ := hP
      have hsum : (zs.map fun x => x.length).sum ≤ 8 := by
        have : ∀ l : List Str, (∀ z ∈ l, z.length = 1) → (l.map fun x => x.length).sum = l.length := by
          intro l
          induction l with
          | nil => exact fun _ => rfl
          | cons a r ih =>
            intro h
            rw [List.map_cons, List.sum_cons, ih fun z hz => h z (List.mem_cons_of_mem _ hz), h a List.mem_cons_self, List.length_cons]
            omega
        rw [this zs hz1]
        omega
      have e0 : (Str.ofString "").length = 0 := by decide +kernel
      have jl := join_le (Str.ofString "") zs
      rw [e0, Nat.mul_zero, Nat.add_zero] at jl
      refine ⟨zs, SqL.of hD2, by rw [e0, Nat.mul_zero, Nat.add_zero]; omega, fun l hl => ?_⟩
      refine lc_range (fun i ys => ∃ zs : List Str, ys = zs.map V.str ∧ zs.length = i ∧ ∀ z ∈ zs, z.length ≤ 18) (by show (6 : Nat) < sizeLine; rw [sz]; decide) hl ⟨[], rfl, rfl, fun _ h => nomatch h⟩ (fun i ys H3 G' K' hi hP hl2 hS3 hG hK => ?_) fun ys H4 hP hl2 hS4 hD4 => ?_
      · push_cast [rIxS]
        obtain ⟨x, hx, _⟩ := let_at (c / 7 + (0 + (i : Int)))
        obtain ⟨ws, rfl, hw, hw1⟩ := hP
        have k1 := cutS_le (Txt.join (Str.ofString "") zs) none (some (c / 650 / 32 % (c / 650 / 4 % 8 + 1)))
        have k2 := cutS_le (Txt.join (Str.ofString "") zs) (some (c / 650 / 32 % (c / 650 / 4 % 8 + 1))) none
        have k3 := one_len (97 + x)
        refine ⟨by omega, ll, 97 + x, hx, by omega, by omega, by rw [la]; omega, hK _ _ (Same.refl _) ⟨ws ++ [_], by rw [List.map_append]; rfl, by rw [List.length_append, hw]; rfl, fun z hz' => ?_⟩⟩
        rcases List.mem_append.mp hz' with m | m
        · exact hw1 z m
        · rw [List.mem_singleton.mp m, la, la]
          omega
      · obtain ⟨ws, rfl, hw, hw1⟩ := hP
        have hw : ws.length = 6 := hw
        refine ⟨by show (9 : Nat) ≤ sizeLine; decide, fun p hp => ⟨⟨_, SqL.of (same_new hp _ _ _ hD4)⟩, fun D5 hD5 => ?_⟩⟩
        refine lc_list (fun i ys => ∃ zs : List Str, ys = zs.map V.str ∧ zs.length = i ∧ ∀ z ∈ zs, arS z = 0 ∧ z.length ≤ 20) (SqL.of (same_new hp _ _ _ hD4)) (by rw [List.length_map]; omega) hD5 ⟨[], rfl, rfl, fun _ h => nomatch h⟩ (fun i y ys H6 G' K' hy hP hl2 hS6 hG hK => ?_) fun ys H7 hP hl2 hS7 hD7 => ?_
        · rw [List.getElem?_map] at hy
          obtain ⟨z, hz', rfl⟩ := Option.map_eq_some_iff.mp hy
          push_cast [rIn]
          obtain ⟨us, rfl, hu1, hu2⟩ := hP
          have hp6 : H6 p = some (.lst keptV) := hS6 _ _ upd_same
          have kx := kept_x (hw1 z (List.mem_of_getElem? hz'))
          refine ⟨keptV, .inl (SqL.of hp6), rfl, rfl, by split <;> decide, by split <;> decide, by decide +kernel, by rw [← la]; omega, hK _ _ (Same.refl _) ⟨us ++ [_], by rw [List.map_append]; rfl, by rw [List.length_append, hu1]; rfl, fun z' hz' => ?_⟩⟩
          rcases List.mem_append.mp hz' with m | m
          · exact hu2 z' m
          · rw [List.mem_singleton.mp m]
            exact kx
        · obtain ⟨us, rfl, hu1, hu2⟩ := hP
          rw [List.length_map, hw] at hu1
          exact q D5 H7 us hu1 hu2 (((hS1.trans hS4).trans (same_new hp _)).trans hS7) hD7
abbrev sTerm : Stmt := top 19
theorem scTerm : FnScope ["deck", "names", "most", "words", "due", "cell", "room", "rest", "word"] ["deck", "names", "most"] (defScope sTerm) := ⟨rfl, rfl, rfl, by decide +kernel, rfl, by decide +kernel, by decide +kernel⟩
theorem hasTerm (G : Gs w K mg) (h_law_next : Has P w K mg base k "_law_next" ["deck"] spNext) (D : Def K mg "_law_term" sTerm ["deck", "names", "most"]) : Has P w K mg base (k + 1) "_law_term" ["deck", "names", "most"] spTerm := by
  refine D.has scTerm (fun vs H Q E h => ?_) (fun f cdv A outer s H vs Q E hr h => ?_)
  · obtain ⟨_, _, _, _, _, _, _, rfl, _, _, _, _, _, _, _, _⟩ := h
    rfl
  have nd := scTerm.nd
  have hu := hu_of hr
  have hu0 := Nat.lt_of_succ_lt hu
  obtain ⟨d, nl, b, ns, zs, m, n, rfl, hD, hN, h6, hz0, h1, h2, hn, q⟩ := h
  have m_len := G.m_len
  have m_tuple := G.m_tuple
  refine ⟨_, (@pss_cons _ _ _ _ _ (@ps_set _ _ 3 _ _ _ _ nd rfl (by first | exact Or.inl rfl | exact Or.inr rfl) (@pe_lst _ _ _ _ (@pa_nil _)) (by rfl) (by first | exact .inl rfl | exact .inr rfl | assumption)) (@pss_cons _ _ _ _ _ (@ps_set _ _ 4 _ _ _ _ nd rfl (by first | exact Or.inl rfl | exact Or.inr rfl) (@pe_int _ _ _ _) (by rfl) (by first | exact .inl rfl | exact .inr rfl | assumption)) (@pss_cons _ _ _ _ _ (@ps_while _ _ _ _ _ _ PassesOwn.never (@pt_cmpR _ _ _ _ _ _ _ _ (@op_gt _) (@pvD _ 4 _ _ (by rfl) (by first | exact Or.inl rfl | exact Or.inr (Or.inl rfl) | exact Or.inr (Or.inr rfl)) (by decide) (by decide)) (@pe_int _ _ _ _) (@nomark _ _ (by decide) (by decide))) (@pss_cons _ _ _ _ _ (@ps_set _ _ 5 _ _ _ _ nd rfl (by first | exact Or.inl rfl | exact Or.inr rfl) (@pe_has _ _ _ _ _ _ _ _ _ _ h_law_next hr (@pa_cons _ _ _ _ _ (@pvD _ 0 _ _ (by rfl) (by first | exact Or.inl rfl | exact Or.inr (Or.inl rfl) | exact Or.inr (Or.inr rfl)) (by decide) (by decide)) (@pa_nil _) (by rfl)) (by rfl) (by decide +kernel) (by rfl) (by rfl)) (by rfl) (by first | exact .inl rfl | exact .inr rfl | assumption)) (@pss_cons _ _ _ _ _ (@ps_set _ _ 6 _ _ _ _ nd rfl (by first | exact Or.inl rfl | exact Or.inr rfl) (@pe_op _ _ _ _ _ _ _ _ (@op_sub _) (@pe_op _ _ _ _ _ _ _ _ (@op_sub _) (@pvD _ 2 _ _ (by rfl) (by first | exact Or.inl rfl | exact Or.inr (Or.inl rfl) | exact Or.inr (Or.inr rfl)) (by decide) (by decide)) (@pe_callB _ _ _ _ _ _ _ _ _ (@call_len_seq _) rfl m_len b_len (@pa_cons _ _ _ _ _ (@pvD _ 3 _ _ (by rfl) (by first | exact Or.inl rfl | exact Or.inr (Or.inl rfl) | exact Or.inr (Or.inr rfl)) (by decide) (by decide)) (@pa_nil _) (by rfl)) (by decide) (by decide) (by rfl) (by rfl))) (@pvD _ 4 _ _ (by rfl) (by first | exact Or.inl rfl | exact Or.inr (Or.inl rfl) | exact Or.inr (Or.inr rfl)) (by decide) (by decide))) (by rfl) (by first | exact .inl rfl | exact .inr rfl | assumption)) (@pss_cons _ _ _ _ _ (@ps_set _ _ 7 _ _ _ _ nd rfl (by first | exact Or.inl rfl | exact Or.inr rfl) (@pe_op _ _ _ _ _ _ _ _ (@op_fdiv _) (@pvD _ 5 _ _ (by rfl) (by first | exact Or.inl rfl | exact Or.inr (Or.inl rfl) | exact Or.inr (Or.inr rfl)) (by decide) (by decide)) (@pe_int _ _ _ _)) (by rfl) (by first | exact .inl rfl | exact .inr rfl | assumption)) (@pss_cons _ _ _ _ _ (@ps_set _ _ 4 _ _ _ _ nd rfl (by first | exact Or.inl rfl | exact Or.inr rfl) (@pe_op _ _ _ _ _ _ _ _ (@op_sub _) (@pvD _ 4 _ _ (by rfl) (by first | exact Or.inl rfl | exact Or.inr (Or.inl rfl) | exact Or.inr (Or.inr rfl)) (by decide) (by decide)) (@pe_int _ _ _ _)) (by rfl) (by first | exact .inl rfl | exact .inr rfl | assumption)) (@pss_one _ _ _ (@ps_if _ _ _ _ _ _ _ _ (@PW.pt _ _ _ (@pw_and _ _ _ _ _ _ _ (@pt_cmpR _ _ _ _ _ _ _ _ (@op_lt _) (@pe_op _ _ _ _ _ _ _ _ (@op_mod _) (@pvD _ 5 _ _ (by rfl) (by first | exact Or.inl rfl | exact Or.inr (Or.inl rfl) | exact Or.inr (Or.inr rfl)) (by decide) (by decide)) (@pe_int _ _ _ _)) (@pe_int _ _ _ _) (@nomark _ _ (by decide) (by decide))) (@pw_and1 _ _ _ _ (@pt_cmpR _ _ _ _ _ _ _ _ (@op_gt _) (@pvD _ 6 _ _ (by rfl) (by first | exact Or.inl rfl | exact Or.inr (Or.inl rfl) | exact Or.inr (Or.inr rfl)) (by decide) (by decide)) (@pe_int _ _ _ _) (@nomark _ _ (by decide) (by decide)))))) (@pss_cons _ _ _ _ _ (@ps_set _ _ 8 _ _ _ _ nd rfl (by first | exact Or.inl rfl | exact Or.inr rfl) (@pe_ix _ _ _ _ _ _ _ (@ix_list _) (@pe_lst _ _ _ _ (@pa_const _ _ _ (@CsOk.str _ _ _ _ _ (@CsOk.str _ _ _ _ _ (@CsOk.str _ _ _ _ _ (@CsOk.str _ _ _ _ _ (@CsOk.nil))))))) (@pe_op _ _ _ _ _ _ _ _ (@op_mod _) (@pvD _ 5 _ _ (by rfl) (by first | exact Or.inl rfl | exact Or.inr (Or.inl rfl) | exact Or.inr (Or.inr rfl)) (by decide) (by decide)) (@pe_int _ _ _ _)) (fun _ _ => rfl)) (by rfl) (by first | exact .inl rfl | exact .inr rfl | assumption)) (@pss_mid _ _ _ _ _ (@ps_if _ _ _ _ _ _ _ _ (@PW.pt _ _ _ (@pw_and _ _ _ _ _ _ _ (@pt_cmpR _ _ _ _ _ _ _ _ (@op_eq _) (@pvD _ 8 _ _ (by rfl) (by first | exact Or.inl rfl | exact Or.inr (Or.inl rfl) | exact Or.inr (Or.inr rfl)) (by decide) (by decide)) (@pe_str _ _ _ _) (@nomark _ _ (by decide) (by decide))) (@pw_and1 _ _ _ _ (@pt_cmpR _ _ _ _ _ _ _ _ (@op_gt _) (@pe_bm _ _ _ _ _ _ _ _ _ _ _ _ PySem.F.plainAttrs_list PySem.F.slot_list_count PySem.F.type_list_count (@mt_countL _) (@pvD _ 3 _ _ (by rfl) (by first | exact Or.inl rfl | exact Or.inr (Or.inl rfl) | exact Or.inr (Or.inr rfl)) (by decide) (by decide)) (@pa_cons _ _ _ _ _ (@pe_str _ _ _ _) (@pa_nil _) (by rfl)) (by rfl) (by rfl) (by rfl) (by rfl) (by rfl)) (@pe_int _ _ _ _) (@nomark _ _ (by decide) (by decide)))))) (@pss_one _ _ _ (@ps_set _ _ 8 _ _ _ _ nd rfl (by first | exact Or.inl rfl | exact Or.inr rfl) (@pe_str _ _ _ _) (by rfl) (by first | exact .inl rfl | exact .inr rfl | assumption))) (@pss_nil _)) (@pss_cons _ _ _ _ _ (@ps_expr _ _ _ _ (@pe_bm _ _ _ _ _ _ _ _ _ _ _ _ PySem.F.plainAttrs_list PySem.F.slot_list_append PySem.F.type_list_append (@mt_append _) (@pvD _ 3 _ _ (by rfl) (by first | exact Or.inl rfl | exact Or.inr (Or.inl rfl) | exact Or.inr (Or.inr rfl)) (by decide) (by decide)) (@pa_cons _ _ _ _ _ (@pvD _ 8 _ _ (by rfl) (by first | exact Or.inl rfl | exact Or.inr (Or.inl rfl) | exact Or.inr (Or.inr rfl)) (by decide) (by decide)) (@pa_nil _) (by rfl)) (by rfl) (by rfl) (by rfl) (by rfl) (by rfl)) (by rfl)) (@pss_one _ _ _ (@ps_set _ _ 4 _ _ _ _ nd rfl (by first | exact Or.inl rfl | exact Or.inr rfl) (@pe_op _ _ _ _ _ _ _ _ (@op_add _) (@pvD _ 4 _ _ (by rfl) (by first | exact Or.inl rfl | exact Or.inr (Or.inl rfl) | exact Or.inr (Or.inr rfl)) (by decide) (by decide)) (@pe_int _ _ _ _)) (by rfl) (by first | exact .inl rfl | exact .inr rfl | assumption)))))) (@pss_one _ _ _ (@ps_if _ _ _ _ _ _ _ _ (@PW.pt _ _ _ (@pw_and _ _ _ _ _ _ _ (@pt_cmpR _ _ _ _ _ _ _ _ (@op_eq _) (@pe_op _ _ _ _ _ _ _ _ (@op_mod _) (@pvD _ 5 _ _ (by rfl) (by first | exact Or.inl rfl | exact Or.inr (Or.inl rfl) | exact Or.inr (Or.inr rfl)) (by decide) (by decide)) (@pe_int _ _ _ _)) (@pe_int _ _ _ _) (@nomark _ _ (by decide) (by decide))) (@pw_and1 _ _ _ _ (@pt_cmpR _ _ _ _ _ _ _ _ (@op_gt _) (@pvD _ 6 _ _ (by rfl) (by first | exact Or.inl rfl | exact Or.inr (Or.inl rfl) | exact Or.inr (Or.inr rfl)) (by decide) (by decide)) (@pe_int _ _ _ _) (@nomark _ _ (by decide) (by decide)))))) (@pss_cons _ _ _ _ _ (@ps_expr _ _ _ _ (@pe_bm _ _ _ _ _ _ _ _ _ _ _ _ PySem.F.plainAttrs_list PySem.F.slot_list_append PySem.F.type_list_append (@mt_append _) (@pvD _ 3 _ _ (by rfl) (by first | exact Or.inl rfl | exact Or.inr (Or.inl rfl) | exact Or.inr (Or.inr rfl)) (by decide) (by decide)) (@pa_cons _ _ _ _ _ (@pe_str _ _ _ _) (@pa_nil _) (by rfl)) (by rfl) (by rfl) (by rfl) (by rfl) (by rfl)) (by rfl)) (@pss_one _ _ _ (@ps_set _ _ 4 _ _ _ _ nd rfl (by first | exact Or.inl rfl | exact Or.inr rfl) (@pe_op _ _ _ _ _ _ _ _ (@op_add _) (@pvD _ 4 _ _ (by rfl) (by first | exact Or.inl rfl | exact Or.inr (Or.inl rfl) | exact Or.inr (Or.inr rfl)) (by decide) (by decide)) (@pe_int _ _ _ _)) (by rfl) (by first | exact .inl rfl | exact .inr rfl | assumption)))) (@pss_one _ _ _ (@ps_if _ _ _ _ _ _ _ _ (@pt_cmpR _ _ _ _ _ _ _ _ (@op_eq _) (@pe_op _ _ _ _ _ _ _ _ (@op_mod _) (@pvD _ 5 _ _ (by rfl) (by first | exact Or.inl rfl | exact Or.inr (Or.inl rfl) | exact Or.inr (Or.inr rfl)) (by decide) (by decide)) (@pe_int _ _ _ _)) (@pe_int _ _ _ _) (@nomark _ _ (by decide) (by decide))) (@pss_one _ _ _ (@ps_expr _ _ _ _ (@pe_bm _ _ _ _ _ _ _ _ _ _ _ _ PySem.F.plainAttrs_list PySem.F.slot_list_append PySem.F.type_list_append (@mt_append _) (@pvD _ 3 _ _ (by rfl) (by first | exact Or.inl rfl | exact Or.inr (Or.inl rfl) | exact Or.inr (Or.inr rfl)) (by decide) (by decide)) (@pa_cons _ _ _ _ _ (@pe_ix _ _ _ _ _ _ _ (@ix_list _) (@pe_lst _ _ _ _ (@pa_cons _ _ _ _ _ (@pe_op _ _ _ _ _ _ _ _ (@op_mod _) (@pvD _ 7 _ _ (by rfl) (by first | exact Or.inl rfl | exact Or.inr (Or.inl rfl) | exact Or.inr (Or.inr rfl)) (by decide) (by decide)) (@pe_int _ _ _ _)) (@pa_cons _ _ _ _ _ (@pe_op _ _ _ _ _ _ _ _ (@op_mod _) (@pvD _ 7 _ _ (by rfl) (by first | exact Or.inl rfl | exact Or.inr (Or.inl rfl) | exact Or.inr (Or.inr rfl)) (by decide) (by decide)) (@pe_op _ _ _ _ _ _ _ _ (@op_pow _) (@pe_int _ _ _ _) (@pe_int _ _ _ _))) (@pa_cons _ _ _ _ _ (@pe_op _ _ _ _ _ _ _ _ (@op_sub _) (@pe_int _ _ _ _) (@pe_op _ _ _ _ _ _ _ _ (@op_mod _) (@pvD _ 7 _ _ (by rfl) (by first | exact Or.inl rfl | exact Or.inr (Or.inl rfl) | exact Or.inr (Or.inr rfl)) (by decide) (by decide)) (@pe_int _ _ _ _))) (@pa_nil _) (by rfl)) (by rfl)) (by rfl))) (@pe_op _ _ _ _ _ _ _ _ (@op_mod _) (@pvD _ 7 _ _ (by rfl) (by first | exact Or.inl rfl | exact Or.inr (Or.inl rfl) | exact Or.inr (Or.inr rfl)) (by decide) (by decide)) (@pe_int _ _ _ _)) (fun _ _ => rfl)) (@pa_nil _) (by rfl)) (by rfl) (by rfl) (by rfl) (by rfl) (by rfl)) (by rfl))) (@pss_one _ _ _ (@ps_expr _ _ _ _ (@pe_bm _ _ _ _ _ _ _ _ _ _ _ _ PySem.F.plainAttrs_list PySem.F.slot_list_append PySem.F.type_list_append (@mt_append _) (@pvD _ 3 _ _ (by rfl) (by first | exact Or.inl rfl | exact Or.inr (Or.inl rfl) | exact Or.inr (Or.inr rfl)) (by decide) (by decide)) (@pa_cons _ _ _ _ _ (@pe_ix _ _ _ _ _ _ _ (@ix_list _) (@pvD _ 1 _ _ (by rfl) (by first | exact Or.inl rfl | exact Or.inr (Or.inl rfl) | exact Or.inr (Or.inr rfl)) (by decide) (by decide)) (@pe_op _ _ _ _ _ _ _ _ (@op_mod _) (@pvD _ 7 _ _ (by rfl) (by first | exact Or.inl rfl | exact Or.inr (Or.inl rfl) | exact Or.inr (Or.inr rfl)) (by decide) (by decide)) (@pe_int _ _ _ _)) (fun _ _ => rfl)) (@pa_nil _) (by rfl)) (by rfl) (by rfl) (by rfl) (by rfl) (by rfl)) (by rfl)))))))))))))) (@pss_one _ _ _ (@ps_ret _ _ _ _ (@pe_callTy _ _ _ _ _ _ _ _ _ (@call_tuple_of _) rfl m_tuple b_tuple (@pa_cons _ _ _ _ _ (@pvD _ 3 _ _ (by rfl) (by first | exact Or.inl rfl | exact Or.inr (Or.inl rfl) | exact Or.inr (Or.inr rfl)) (by decide) (by decide)) (@pa_nil _) (by rfl)) (by decide) (by decide) (by rfl) (by rfl))))))), ?_⟩
  rw [show start ["deck", "names", "most", "words", "due", "cell", "room", "rest", "word"] [.ref d, .ref nl, .int (m : Int)] = [some (.ref d), some (.ref nl), some (.int (m : Int)), none, none, none, none, none, none] from rfl]
  push_cast [spNext]
  have sz := sizeLine_eq
  refine ⟨Nat.zero_le _, fun p hp => ?_⟩
  have npd : p ≠ d := (ne_of_none hD.1 hp).symm
  have nld : nl ≠ d := ne_of hN hD.1 (by intro e; match zs, h6, e with | [_, _, _, _, _, _], _, e => cases e)
  have nlp : nl ≠ p := ne_of_none hN hp
  refine while_by (fun σ H' => ∃ (ws : List V) (due : Nat) (v1 v2 v3 v4 : Option V), σ = [some (.ref d), some (.ref nl), some (.int (m : Int)), some (.ref p), some (.int (due : Int)), v1, v2, v3, v4] ∧ SameB d H H' ∧ H' d = some (.lst [.ref b, .int ((n + ws.length : Nat) : Int)]) ∧ H' p = some (.lst ws) ∧ (∀ v ∈ ws, wT zs v) ∧ pend 1 (ws.map arV) = some due ∧ ws.length + due ≤ m)
    (fun σ H' => m - lenAt H' p) ?_ ?_ ?_
  · exact ⟨[], 1, none, none, none, none, rfl, (SameB.refl d H).upd hp _, same_new hp _ _ _ hD.1, upd_same, (fun _ h => nomatch h), rfl, by show 0 + 1 ≤ m; omega⟩
  · rintro σ H' ⟨ws, due, v1, v2, v3, v4, rfl, hS, hD', hp', hw, hpd, hr⟩
    push_cast [spNext, CDiv, CPow]
    have hDk : Deck H' d b ns (n + ws.length) := hD.next hS hD'
    refine ite2 (fun hdue => ⟨b, ns, _, hDk, by omega, fun c H1 s1 d1 => ?_⟩) fun hdue => ?_
    · have hp1 : H1 p = some (.lst ws) := s1 p _ npd hp'
      have hl1 := s1 nl _ nld (hS nl _ nld hN)
      have tl : tyV K "list" (.ref p) H1 := tyV_list hp1
      have app : ∀ (v : V) (H2 : Hp) (dd : Int), wT zs v → dd = (due : Int) - 1 + (arV v : Int) → ws.length + due + arV v ≤ m → Same H1 H2 →
          rAppend (.ref p) [v] H2 fun _ H3 => (∃ ws due_1, dd = ((due_1 : Nat) : Int) ∧ SameB d H H3 ∧ H3 d = some (.lst [.ref b, .int ((n + ws.length : Nat) : Int)]) ∧ H3 p = some (.lst ws) ∧ (∀ v ∈ ws, wT zs v) ∧ pend 1 (ws.map arV) = some due_1 ∧ ws.length + due_1 ≤ m) ∧ m - lenAt H3 p < m - lenAt H' p := by
        intro v H2 dd hv hdd hroom s2
        have hp2 := s2 _ _ hp1
        refine ⟨p, ws, v, rfl, rfl, hp2, by omega, ⟨ws ++ [v], due - 1 + arV v, by omega, (hS.trans (s1.trans (SameB.of s2))).upd hp _, ?_, upd_same, fun x hx => ?_, ?_, ?_⟩, ?_⟩
        · rw [upd_ne npd.symm, List.length_append]
          exact s2 _ _ d1
        · rcases List.mem_append.mp hx with h | h
          · exact hw x h
          · rw [List.mem_singleton.mp h]; exact hv
        · rw [List.map_append]
          exact pend_snoc _ _ _ _ hpd (by omega)
        · rw [List.length_append, List.length_singleton]; omega
        · rw [lenAt_of upd_same, lenAt_of hp', List.length_append, List.length_singleton]; omega
      have num1 := fun (x : Int) (H2 : Hp) (hx : x.natAbs < 2 ^ 100) (s2 : Same H1 H2) => app (.int x) H2 ((due : Int) - 1) hx (by show _ = (due : Int) - 1 + ((0 : Nat) : Int); omega) (by show ws.length + due + 0 ≤ m; omega) s2
      have p30 : (10 : Int) ^ Int.toNat 30 = 1000000000000000000000000000000 := by decide +kernel
      obtain ⟨vn, hvn, hmn⟩ := atI_in [V.int (c / 8 % 10), V.int (c / 8 % 10 ^ Int.toNat 30), V.int (0 - c / 8 % 100)] (c / 8 % 3) (Int.emod_nonneg _ (by decide)) (by show c / 8 % 3 < 3; omega)
      have num : ∀ {P : Addr → Prop}, (∀ p2 : Addr, H1 p2 = none → ∀ x : Int, vn = V.int x → x.natAbs < 2 ^ 100 → P p2) → Int.natAbs 10 < 2 ^ 64 ∧ (0 : Int) < 10 ^ Int.toNat 30 ∧ [V.int (c / 8 % 10), V.int (c / 8 % 10 ^ Int.toNat 30), V.int (0 - c / 8 % 100)].length ≤ sizeLine ∧ ∀ p2 : Addr, H1 p2 = none → P p2 := fun f => ⟨by decide, by rw [p30]; decide, by show (3 : Nat) ≤ sizeLine; decide, fun p2 hp2 => by
        simp only [List.mem_cons, List.not_mem_nil, or_false] at hmn
        rw [p30] at hmn
        rcases hmn with e | e | e
        · exact f p2 hp2 _ e (by omega)
        · exact f p2 hp2 _ e (by omega)
        · exact f p2 hp2 _ e (by omega)⟩
      obtain ⟨z, hzat, hz⟩ := strs_at h6 (k := c / 8 % 6) (Int.emod_nonneg _ (by decide)) (by show c / 8 % 6 < 6; omega)
      have az : arV (.str z) = 0 := hz0 z hz
      have nam := app (.str z) H1 ((due : Int) - 1) (.inr hz) (by rw [az]; omega) (by rw [az]; omega) (Same.refl _)
      have an : arV (.str (Str.ofString "neg")) = 1 := ar_neg
      have neg := fun (r0 : 0 < (m : Int) - (ws.length : Int) - (due : Int)) => app (.str (Str.ofString "neg")) H1 ((due : Int) - 1 + 1) (.inl (by rw [ar_neg]; decide)) (by rw [an]; omega) (by rw [an]; omega) (Same.refl _)
      refine ⟨ws, .inl (SqL.of hp1), ite2 (fun c4 => ite2 (fun r1 => ⟨by show (4 : Nat) ≤ sizeLine; decide, fun p2 hp2 => ?_⟩) fun r1 => ⟨rfl, ite2 (fun e4 => ite2 (fun r0 => ⟨tl, neg r0⟩) fun r0 => ⟨rfl, ite2 (fun _ => ⟨tl, num fun p2 hp2 x e hx => rIxL_ok upd_same hvn (by rw [e]; exact num1 x _ hx (same_new hp2 _))⟩) fun _ => ⟨tl, rIxL_ok hl1 hzat nam⟩⟩) fun e4 => ⟨rfl, ite2 (fun _ => ⟨tl, num fun p2 hp2 x e hx => rIxL_ok upd_same hvn (by rw [e]; exact num1 x _ hx (same_new hp2 _))⟩) fun _ => ⟨tl, rIxL_ok hl1 hzat nam⟩⟩⟩)
        fun c4 => ⟨rfl, ite2 (fun e4 => ite2 (fun r0 => ⟨tl, neg r0⟩) fun r0 => ⟨rfl, ite2 (fun _ => ⟨tl, num fun p2 hp2 x e hx => rIxL_ok upd_same hvn (by rw [e]; exact num1 x _ hx (same_new hp2 _))⟩) fun _ => ⟨tl, rIxL_ok hl1 hzat nam⟩⟩) fun e4 => ⟨rfl, ite2 (fun _ => ⟨tl, num fun p2 hp2 x e hx => rIxL_ok upd_same hvn (by rw [e]; exact num1 x _ hx (same_new hp2 _))⟩) fun _ => ⟨tl, rIxL_ok hl1 hzat nam⟩⟩⟩⟩
      obtain ⟨y, hy, ay⟩ := bin_at4 c c4
      have ay' : arV (.str y) = 2 := ay
      refine rIxL_ok upd_same hy (tMid_of (fun σ' H2 => ∃ y : Str, arS y = 2 ∧ σ' = [some (.ref d), some (.ref nl), some (.int (m : Int)), some (.ref p), some (.int ((due : Int) - 1)), some (.int c), some (.int ((m : Int) - (ws.length : Int) - (due : Int))), some (.int (c / 8)), some (.str y)] ∧ Same H1 H2) ?_ ?_)
      · push_cast [and_true]
        obtain ⟨ks, ek⟩ := wsK fun v hv => wT.isW (hw v hv)
        have hp3 := same_new hp2 (.lst [V.str "add", V.str "sub", V.str "mul", V.str "sub"]) _ _ hp1
        exact ⟨rfl, ite2 (fun e => ⟨tyV_list hp3, p, ks, "mul", rfl, rfl, by rw [← ek]; exact hp3, fun n0 => ⟨_, rfl, ite2 (fun _ => ⟨_, by decide +kernel, rfl, same_new hp2 _⟩) fun _ => ⟨y, ay, rfl, same_new hp2 _⟩⟩⟩) fun e => ⟨y, ay, rfl, same_new hp2 _⟩⟩
      · rintro σ' H2 ⟨y2, ay2, rfl, s2⟩
        push_cast [and_true]
        have ay3 : arV (.str y2) = 2 := ay2
        exact ⟨tyV_list (s2 _ _ hp1), app (.str y2) _ ((due : Int) - 1 + 2) (.inl (by rw [ay2]; decide)) (by rw [ay3]; omega) (by rw [ay3]; omega) s2⟩
    · have d0 : due = 0 := by omega
      subst d0
      refine ⟨ws, .inl ⟨SqL.of hp', fun t ht => ?_⟩⟩
      have htn := hS.free hD' ht
      exact q t (n + ws.length) _ ws (hS.upd htn _) (by rw [upd_ne (ne_of_none hD' ht)]; exact hD') (by omega) htn upd_same ⟨hw, hpd, by omega⟩
  · intro σ H' Q1 Q2 hq h
    simp only [tTest, tOp, rI0, tVarD_any, tC] at h ⊢
    obtain ⟨v, hv, i, j, e1, e2, k, e3, h⟩ := h
    exact ⟨v, hv, i, j, e1, e2, k, e3, hq _ _ h⟩
abbrev sTaken : Stmt := top 20
theorem scTaken : FnScope ["free", "used", "way", "box"] ["free", "used", "way"] (defScope sTaken) := ⟨rfl, rfl, rfl, by decide +kernel, rfl, by decide +kernel, by decide +kernel⟩
theorem hasTaken (G : Gs w K mg) (D : Def K mg "_law_taken" sTaken ["free", "used", "way"]) : Has P w K mg base (k + 1) "_law_taken" ["free", "used", "way"] spTaken := by
  refine D.has scTaken (fun vs H Q E h => ?_) (fun f cdv A outer s H vs Q E hr h => ?_)
  · obtain ⟨_, _, _, _, _, rfl, _, _, _, _, _, _⟩ := h
    rfl
  have nd := scTaken.nd
  have hu := hu_of hr
  have hu0 := Nat.lt_of_succ_lt hu
  obtain ⟨fl, ul, fr, u, w', rfl, hf, hU, hw, hl, q1, q2⟩ := h
  have m_len := G.m_len
  have m_min := G.m_min
  refine ⟨_, (@pss_cons _ _ _ _ _ (@ps_if _ _ _ _ _ _ _ _ (@PW.pt _ _ _ (@pw_or _ _ _ _ _ _ _ (@pt_cmpR _ _ _ _ _ _ _ _ (@op_eq _) (@pvD _ 2 _ _ (by rfl) (by first | exact Or.inl rfl | exact Or.inr (Or.inl rfl) | exact Or.inr (Or.inr rfl)) (by decide) (by decide)) (@pe_int _ _ _ _) (@nomark _ _ (by decide) (by decide))) (@pw_or1 _ _ _ _ (@pt_cmpR _ _ _ _ _ _ _ _ (@op_eqK _ hu0) (@pvD _ 0 _ _ (by rfl) (by first | exact Or.inl rfl | exact Or.inr (Or.inl rfl) | exact Or.inr (Or.inr rfl)) (by decide) (by decide)) (@pe_lst _ _ _ _ (@pa_nil _)) (@nomark _ _ (by decide) (by decide)))))) (@pss_one _ _ _ (@ps_ret _ _ _ _ (@pe_callB _ _ _ _ _ _ _ _ _ (@call_lenD _) rfl m_len b_len (@pa_cons _ _ _ _ _ (@pvD _ 1 _ _ (by rfl) (by first | exact Or.inl rfl | exact Or.inr (Or.inl rfl) | exact Or.inr (Or.inr rfl)) (by decide) (by decide)) (@pa_nil _) (by rfl)) (by decide) (by decide) (by rfl) (by rfl)))) (@pss_nil _)) (@pss_cons _ _ _ _ _ (@ps_if _ _ _ _ _ _ _ _ (@pt_cmpR _ _ _ _ _ _ _ _ (@op_eq _) (@pvD _ 2 _ _ (by rfl) (by first | exact Or.inl rfl | exact Or.inr (Or.inl rfl) | exact Or.inr (Or.inr rfl)) (by decide) (by decide)) (@pe_int _ _ _ _) (@nomark _ _ (by decide) (by decide))) (@pss_cons _ _ _ _ _ (@ps_set _ _ 3 _ _ _ _ nd rfl (by first | exact Or.inl rfl | exact Or.inr rfl) (@pe_callB _ _ _ _ _ _ _ _ _ (@call_minL _ rfl) rfl m_min b_min (@pa_cons _ _ _ _ _ (@pvD _ 0 _ _ (by rfl) (by first | exact Or.inl rfl | exact Or.inr (Or.inl rfl) | exact Or.inr (Or.inr rfl)) (by decide) (by decide)) (@pa_nil _) (by rfl)) (by decide) (by decide) (by rfl) (by rfl)) (by rfl) (by first | exact .inl rfl | exact .inr rfl | assumption)) (@pss_cons _ _ _ _ _ (@ps_expr _ _ _ _ (@pe_bm _ _ _ _ _ _ _ _ _ _ _ _ PySem.F.plainAttrs_list PySem.F.slot_list_remove PySem.F.type_list_remove (@mt_remove _) (@pvD _ 0 _ _ (by rfl) (by first | exact Or.inl rfl | exact Or.inr (Or.inl rfl) | exact Or.inr (Or.inr rfl)) (by decide) (by decide)) (@pa_cons _ _ _ _ _ (@pvD _ 3 _ _ (by rfl) (by first | exact Or.inl rfl | exact Or.inr (Or.inl rfl) | exact Or.inr (Or.inr rfl)) (by decide) (by decide)) (@pa_nil _) (by rfl)) (by rfl) (by rfl) (by rfl) (by rfl) (by rfl)) (by rfl)) (@pss_one _ _ _ (@ps_ret _ _ _ _ (@pvD _ 3 _ _ (by rfl) (by first | exact Or.inl rfl | exact Or.inr (Or.inl rfl) | exact Or.inr (Or.inr rfl)) (by decide) (by decide)))))) (@pss_nil _)) (@pss_one _ _ _ (@ps_ret _ _ _ _ (@pe_bm0 _ _ _ _ _ _ _ _ _ PySem.F.plainAttrs_list PySem.F.slot_list_pop PySem.F.type_list_pop (@mt_pop _) (@pvD _ 0 _ _ (by rfl) (by first | exact Or.inl rfl | exact Or.inr (Or.inl rfl) | exact Or.inr (Or.inr rfl)) (by decide) (by decide)) (by rfl) (by rfl)))))), ?_⟩
  rw [show start ["free", "used", "way", "box"] [.ref fl, .ref ul, .int (w' : Int)] = [some (.ref fl), some (.ref ul), some (.int (w' : Int)), none] from rfl]
  push_cast [and_true]
  refine ⟨rfl, ite2 (fun e => ⟨_, hU, by rw [trU_len]; exact q1 H (Same.refl _)⟩) fun e => ⟨Nat.zero_le _, fun p hp => ?_⟩⟩
  have S := same_new hp (.lst [])
  have hf1 := S _ _ hf
  have ek : (fr.map (Sum.inl : Int → Key)).map kV = fr.map V.int := by rw [List.map_map]; rfl
  refine ⟨fl, p, fr.map Sum.inl, [], rfl, rfl, .inr ⟨SqL.of (by rw [ek]; exact hf1), SqL.of upd_same⟩, _, rfl, ?_⟩
  by_cases hn : fr = []
  · rw [if_pos (by rw [hn]; rfl)]
    exact ⟨_, S _ _ hU, by rw [trU_len]; exact q1 _ S⟩
  · rw [if_neg (by intro z; have z : decide (fr.map (Sum.inl : Int → Key) = []) = true := z; exact hn (List.map_eq_nil_iff.mp (of_decide_eq_true z)))]
    refine ⟨rfl, ite2 (fun e1 => ⟨fr, SqL.of hf1, hn, fun m hm => ⟨tyV_list hf1, fl, fr, m, rfl, rfl, hf1, hm, q2 m (fr.erase m) _ S (List.perm_cons_erase hm)⟩⟩) fun e1 => ⟨tyV_list hf1, ?_⟩⟩
    have ef : fr.map V.int = (fr.dropLast).map V.int ++ [V.int (fr.getLast hn)] := by
      conv => lhs; rw [← List.dropLast_concat_getLast hn]
      rw [List.map_append]
      rfl
    have hf2 := hf1
    rw [ef] at hf2
    refine (pop_ok (K := K) hf2 (q2 _ fr.dropLast _ S ?_)).2
    conv => lhs; rw [← List.dropLast_concat_getLast hn]
    exact List.perm_append_singleton _ _
abbrev sRowL : Stmt := top 21
theorem scRowL : FnScope ["word", "box", "some"] ["word", "box", "some"] (defScope sRowL) := ⟨rfl, rfl, rfl, by decide +kernel, rfl, by decide +kernel, by decide +kernel⟩
theorem hasRowL (G : Gs w K mg) (D : Def K mg "_law_row" sRowL ["word", "box", "some"]) : Has P w K mg base (k + 1) "_law_row" ["word", "box", "some"] spRowL := by
  refine D.has scRowL (fun vs H Q E h => ?_) (fun f cdv A outer s H vs Q E hr h => ?_)
  · obtain ⟨_, _, _, _, rfl, _, _, _, _⟩ := h
    rfl
  have nd := scRowL.nd
  have hu := hu_of hr
  have hu0 := Nat.lt_of_succ_lt hu
  obtain ⟨v, b, sl, ps, rfl, hv, hs, hl, q⟩ := h
  have m_int := G.m_int
  have m_isinstance := G.m_isinstance
  refine ⟨_, (@pss_cons _ _ _ _ _ (@ps_if _ _ _ _ _ _ _ _ (@pt_val _ _ _ (@pe_callB _ _ _ _ _ _ _ _ _ (@call_isinst _) rfl m_isinstance b_isinstance (@pa_cons _ _ _ _ _ (@pvD _ 0 _ _ (by rfl) (by first | exact Or.inl rfl | exact Or.inr (Or.inl rfl) | exact Or.inr (Or.inr rfl)) (by decide) (by decide)) (@pa_cons _ _ _ _ _ (@pe_gty _ _ _ _ m_int b_int (by rfl) (by decide +kernel) (by decide +kernel)) (@pa_nil _) (by rfl)) (by rfl)) (by decide) (by decide) (by rfl) (by rfl)) (by intro _; rfl)) (@pss_one _ _ _ (@ps_ret _ _ _ _ (@pe_tup _ _ _ _ _ (@pa_cons _ _ _ _ _ (@pe_str _ _ _ _) (@pa_cons _ _ _ _ _ (@pvD _ 1 _ _ (by rfl) (by first | exact Or.inl rfl | exact Or.inr (Or.inl rfl) | exact Or.inr (Or.inr rfl)) (by decide) (by decide)) (@pa_cons _ _ _ _ _ (@pvD _ 0 _ _ (by rfl) (by first | exact Or.inl rfl | exact Or.inr (Or.inl rfl) | exact Or.inr (Or.inr rfl)) (by decide) (by decide)) (@pa_nil _) (by rfl)) (by rfl)) (by rfl))))) (@pss_nil _)) (@pss_cons _ _ _ _ _ (@ps_if _ _ _ _ _ _ _ _ (@pt_cmpR _ _ _ _ _ _ _ _ (@op_in_seq _) (@pvD _ 0 _ _ (by rfl) (by first | exact Or.inl rfl | exact Or.inr (Or.inl rfl) | exact Or.inr (Or.inr rfl)) (by decide) (by decide)) (@pe_lst _ _ _ _ (@pa_const _ _ _ (@CsOk.str _ _ _ _ _ (@CsOk.str _ _ _ _ _ (@CsOk.str _ _ _ _ _ (@CsOk.nil)))))) (by with_unfolding_all rfl)) (@pss_one _ _ _ (@ps_ret _ _ _ _ (@pe_tup _ _ _ _ _ (@pa_cons _ _ _ _ _ (@pvD _ 0 _ _ (by rfl) (by first | exact Or.inl rfl | exact Or.inr (Or.inl rfl) | exact Or.inr (Or.inr rfl)) (by decide) (by decide)) (@pa_cons _ _ _ _ _ (@pvD _ 1 _ _ (by rfl) (by first | exact Or.inl rfl | exact Or.inr (Or.inl rfl) | exact Or.inr (Or.inr rfl)) (by decide) (by decide)) (@pa_cons _ _ _ _ _ (@pe_ix _ _ _ _ _ _ _ (@ix_list _) (@pvD _ 2 _ _ (by rfl) (by first | exact Or.inl rfl | exact Or.inr (Or.inl rfl) | exact Or.inr (Or.inr rfl)) (by decide) (by decide)) (@pe_int _ _ _ _) (fun _ _ => rfl)) (@pa_cons _ _ _ _ _ (@pe_ix _ _ _ _ _ _ _ (@ix_list _) (@pvD _ 2 _ _ (by rfl) (by first | exact Or.inl rfl | exact Or.inr (Or.inl rfl) | exact Or.inr (Or.inr rfl)) (by decide) (by decide)) (@pe_int _ _ _ _) (fun _ _ => rfl)) (@pa_nil _) (by rfl)) (by rfl)) (by rfl)) (by rfl))))) (@pss_nil _)) (@pss_cons _ _ _ _ _ (@ps_if _ _ _ _ _ _ _ _ (@pt_cmpR _ _ _ _ _ _ _ _ (@op_eq _) (@pvD _ 0 _ _ (by rfl) (by first | exact Or.inl rfl | exact Or.inr (Or.inl rfl) | exact Or.inr (Or.inr rfl)) (by decide) (by decide)) (@pe_str _ _ _ _) (@nomark _ _ (by decide) (by decide))) (@pss_one _ _ _ (@ps_ret _ _ _ _ (@pe_tup _ _ _ _ _ (@pa_cons _ _ _ _ _ (@pe_str _ _ _ _) (@pa_cons _ _ _ _ _ (@pvD _ 1 _ _ (by rfl) (by first | exact Or.inl rfl | exact Or.inr (Or.inl rfl) | exact Or.inr (Or.inr rfl)) (by decide) (by decide)) (@pa_cons _ _ _ _ _ (@pe_ix _ _ _ _ _ _ _ (@ix_list _) (@pvD _ 2 _ _ (by rfl) (by first | exact Or.inl rfl | exact Or.inr (Or.inl rfl) | exact Or.inr (Or.inr rfl)) (by decide) (by decide)) (@pe_int _ _ _ _) (fun _ _ => rfl)) (@pa_nil _) (by rfl)) (by rfl)) (by rfl))))) (@pss_nil _)) (@pss_one _ _ _ (@ps_ret _ _ _ _ (@pe_tup _ _ _ _ _ (@pa_cons _ _ _ _ _ (@pe_str _ _ _ _) (@pa_cons _ _ _ _ _ (@pvD _ 1 _ _ (by rfl) (by first | exact Or.inl rfl | exact Or.inr (Or.inl rfl) | exact Or.inr (Or.inr rfl)) (by decide) (by decide)) (@pa_cons _ _ _ _ _ (@pvD _ 0 _ _ (by rfl) (by first | exact Or.inl rfl | exact Or.inr (Or.inl rfl) | exact Or.inr (Or.inr rfl)) (by decide) (by decide)) (@pa_nil _) (by rfl)) (by rfl)) (by rfl)))))))), ?_⟩
  rw [show start ["word", "box", "some"] [v, .int b, .ref sl] = [some (v), some (.int b), some (.ref sl)] from rfl]
  push_cast [and_true]
  have three := three_in hv
  obtain ⟨k', rfl⟩ := id hv
  cases k' with
  | inl n => exact ⟨_, .int n, true, rfl, iteT ⟨by show (3 : Nat) ≤ sizeLine; decide, fun p hp => q p _ (same_new hp _) upd_same⟩⟩
  | inr z =>
    refine ⟨_, .str z, false, rfl, iteF ⟨by show (3 : Nat) ≤ sizeLine; decide, fun p hp => ⟨p, _, rfl, .inl (SqL.of upd_same), rfl, rfl, _, rfl, ?_⟩⟩⟩
    have hl : ps.length = arS z := hl
    have hs1 := same_new hp (.lst [V.str "add", V.str "sub", V.str "mul"]) _ _ hs
    have S1 := same_new hp (.lst [V.str "add", V.str "sub", V.str "mul"])
    refine ite2 (fun c2 => ?_) fun c2 => ⟨rfl, ite2 (fun c3 => ?_) fun c3 => ?_⟩
    · have az : arS z = 2 := three.mp c2
      rw [az] at hl
      match ps, hl with
      | [x, y], _ =>
        refine rIxL_ok hs1 rfl (rIxL_ok hs1 rfl ⟨by show (4 : Nat) ≤ sizeLine; decide, fun p1 hp1 => q p1 _ (S1.trans (same_new hp1 _)) ?_⟩)
        rw [upd_same]
        show _ = some (HO.tup (if arS z = 2 then _ else _))
        rw [if_pos az]
        rfl
    · have ez : z = "neg" := V.str.inj c3
      have az : arS z = 1 := by rw [ez]; exact ar_neg
      rw [az] at hl
      match ps, hl with
      | [x], _ =>
        refine rIxL_ok hs1 rfl ⟨by show (3 : Nat) ≤ sizeLine; decide, fun p1 hp1 => q p1 _ (S1.trans (same_new hp1 _)) ?_⟩
        rw [upd_same]
        show _ = some (HO.tup (if arS z = 2 then _ else if arS z = 1 then _ else _))
        rw [if_neg (by omega), if_pos az]
        rfl
    · have n2 : ¬ arS z = 2 := fun e => c2 (three.mpr e)
      have n1 : ¬ arS z = 1 := fun e => c3 (by rw [arS_one e]; rfl)
      refine ⟨by show (3 : Nat) ≤ sizeLine; decide, fun p1 hp1 => q p1 _ (S1.trans (same_new hp1 _)) ?_⟩
      rw [upd_same]
      show _ = some (HO.tup (if arS z = 2 then _ else if arS z = 1 then _ else _))
      rw [if_neg n2, if_neg n1]
      rfl
abbrev sRows : Stmt := top 22
theorem scRows : FnScope ["words", "way", "rows", "done", "free", "used", "word", "some", "k", "box"] ["words", "way"] (defScope sRows) := ⟨rfl, rfl, rfl, by decide +kernel, rfl, by decide +kernel, by decide +kernel⟩
theorem hasRows (G : Gs w K mg) (h_law_row : Has P w K mg base k "_law_row" ["word", "box", "some"] spRowL) (h_law_taken : Has P w K mg base k "_law_taken" ["free", "used", "way"] spTaken) (D : Def K mg "_law_rows" sRows ["words", "way"]) : Has P w K mg base (k + 1) "_law_rows" ["words", "way"] spRows := by
  refine D.has scRows (fun vs H Q E h => ?_) (fun f cdv A outer s H vs Q E hr h => ?_)
  · obtain ⟨_, _, _, _, _, rfl, _, _, _, _, _⟩ := h
    rfl
  have nd := scRows.nd
  have hu := hu_of hr
  have hu0 := Nat.lt_of_succ_lt hu
  obtain ⟨t, ws, w', vals, ρ, rfl, ht, hw, hV, hO, q⟩ := h
  have m_range := G.m_range
  have m_reversed := G.m_reversed
  refine ⟨_, (@pss_cons _ _ _ _ _ (@ps_set _ _ 2 _ _ _ _ nd rfl (by first | exact Or.inl rfl | exact Or.inr rfl) (@pe_lst _ _ _ _ (@pa_nil _)) (by rfl) (by first | exact .inl rfl | exact .inr rfl | assumption)) (@pss_cons _ _ _ _ _ (@ps_set _ _ 3 _ _ _ _ nd rfl (by first | exact Or.inl rfl | exact Or.inr rfl) (@pe_lst _ _ _ _ (@pa_nil _)) (by rfl) (by first | exact .inl rfl | exact .inr rfl | assumption)) (@pss_cons _ _ _ _ _ (@ps_set _ _ 4 _ _ _ _ nd rfl (by first | exact Or.inl rfl | exact Or.inr rfl) (@pe_lst _ _ _ _ (@pa_nil _)) (by rfl) (by first | exact .inl rfl | exact .inr rfl | assumption)) (@pss_cons _ _ _ _ _ (@ps_set _ _ 5 _ _ _ _ nd rfl (by first | exact Or.inl rfl | exact Or.inr rfl) (@pe_dnewK _ _) (by rfl) (by first | exact .inl rfl | exact .inr rfl | assumption)) (@pss_cons _ _ _ _ _ (@ps_for _ _ _ _ _ _ _ _ PassesOwn.never rfl (@pi_revT _ _ _ _ _ _ rfl m_reversed (@pa_cons _ _ _ _ _ (@pvD _ 0 _ _ (by rfl) (by first | exact Or.inl rfl | exact Or.inr (Or.inl rfl) | exact Or.inr (Or.inr rfl)) (by decide) (by decide)) (@pa_nil _) (by rfl)) (by rfl)) (@pg_name _ _ 6 _ nd rfl (by first | exact Or.inl rfl | exact Or.inr rfl) (by first | exact .inl rfl | exact .inr rfl | assumption)) (@pss_cons _ _ _ _ _ (@ps_set _ _ 7 _ _ _ _ nd rfl (by first | exact Or.inl rfl | exact Or.inr rfl) (@pe_lst _ _ _ _ (@pa_nil _)) (by rfl) (by first | exact .inl rfl | exact .inr rfl | assumption)) (@pss_cons _ _ _ _ _ (@ps_for _ _ _ _ _ _ _ _ PassesOwn.never rfl (@pi_range1 _ _ _ _ _ _ rfl m_range (@pa_cons _ _ _ _ _ (@pe_bm _ _ _ _ _ _ _ _ _ _ _ _ PySem.F.plainAttrs_dict PySem.F.slot_dict_get PySem.F.type_dict_get (@mt_dget2 _ hu) (@pe_disp _ _ _ _ _ (@pps_cons _ _ _ _ _ _ _ _ _ (@pe_str _ _ _ _) (@pe_int _ _ _ _) (@pps_cons _ _ _ _ _ _ _ _ _ (@pe_str _ _ _ _) (@pe_int _ _ _ _) (@pps_cons _ _ _ _ _ _ _ _ _ (@pe_str _ _ _ _) (@pe_int _ _ _ _) (@pps_cons _ _ _ _ _ _ _ _ _ (@pe_str _ _ _ _) (@pe_int _ _ _ _) (@pps_nil _ _))))) rfl rfl (fun e => nomatch e) (by decide)) (@pa_cons _ _ _ _ _ (@pvD _ 6 _ _ (by rfl) (by first | exact Or.inl rfl | exact Or.inr (Or.inl rfl) | exact Or.inr (Or.inr rfl)) (by decide) (by decide)) (@pa_cons _ _ _ _ _ (@pe_int _ _ _ _) (@pa_nil _) (by rfl)) (by rfl)) (by rfl) (by rfl) (by rfl) (by rfl) (by rfl)) (@pa_nil _) (by rfl)) (by rfl)) (@pg_name _ _ 8 _ nd rfl (by first | exact Or.inl rfl | exact Or.inr rfl) (by first | exact .inl rfl | exact .inr rfl | assumption)) (@pss_one _ _ _ (@ps_expr _ _ _ _ (@pe_bm _ _ _ _ _ _ _ _ _ _ _ _ PySem.F.plainAttrs_list PySem.F.slot_list_append PySem.F.type_list_append (@mt_append _) (@pvD _ 7 _ _ (by rfl) (by first | exact Or.inl rfl | exact Or.inr (Or.inl rfl) | exact Or.inr (Or.inr rfl)) (by decide) (by decide)) (@pa_cons _ _ _ _ _ (@pe_bm0 _ _ _ _ _ _ _ _ _ PySem.F.plainAttrs_list PySem.F.slot_list_pop PySem.F.type_list_pop (@mt_pop _) (@pvD _ 3 _ _ (by rfl) (by first | exact Or.inl rfl | exact Or.inr (Or.inl rfl) | exact Or.inr (Or.inr rfl)) (by decide) (by decide)) (by rfl) (by rfl)) (@pa_nil _) (by rfl)) (by rfl) (by rfl) (by rfl) (by rfl) (by rfl)) (by rfl))) (by intro _; rfl)) (@pss_cons _ _ _ _ _ (@ps_set _ _ 4 _ _ _ _ nd rfl (by first | exact Or.inl rfl | exact Or.inr rfl) (@pe_op _ _ _ _ _ _ _ _ (@op_cat _) (@pvD _ 4 _ _ (by rfl) (by first | exact Or.inl rfl | exact Or.inr (Or.inl rfl) | exact Or.inr (Or.inr rfl)) (by decide) (by decide)) (@pvD _ 7 _ _ (by rfl) (by first | exact Or.inl rfl | exact Or.inr (Or.inl rfl) | exact Or.inr (Or.inr rfl)) (by decide) (by decide))) (by rfl) (by first | exact .inl rfl | exact .inr rfl | assumption)) (@pss_cons _ _ _ _ _ (@ps_set _ _ 9 _ _ _ _ nd rfl (by first | exact Or.inl rfl | exact Or.inr rfl) (@pe_has _ _ _ _ _ _ _ _ _ _ h_law_taken hr (@pa_cons _ _ _ _ _ (@pvD _ 4 _ _ (by rfl) (by first | exact Or.inl rfl | exact Or.inr (Or.inl rfl) | exact Or.inr (Or.inr rfl)) (by decide) (by decide)) (@pa_cons _ _ _ _ _ (@pvD _ 5 _ _ (by rfl) (by first | exact Or.inl rfl | exact Or.inr (Or.inl rfl) | exact Or.inr (Or.inr rfl)) (by decide) (by decide)) (@pa_cons _ _ _ _ _ (@pvD _ 1 _ _ (by rfl) (by first | exact Or.inl rfl | exact Or.inr (Or.inl rfl) | exact Or.inr (Or.inr rfl)) (by decide) (by decide)) (@pa_nil _) (by rfl)) (by rfl)) (by rfl)) (by rfl) (by decide +kernel) (by rfl) (by rfl)) (by rfl) (by first | exact .inl rfl | exact .inr rfl | assumption)) (@pss_cons _ _ _ _ _ (@ps_dput _ _ _ _ _ _ _ _ _ hu (@pvD _ 5 _ _ (by rfl) (by first | exact Or.inl rfl | exact Or.inr (Or.inl rfl) | exact Or.inr (Or.inr rfl)) (by decide) (by decide)) (@pvD _ 9 _ _ (by rfl) (by first | exact Or.inl rfl | exact Or.inr (Or.inl rfl) | exact Or.inr (Or.inr rfl)) (by decide) (by decide)) (@pe_bl _ _ _ _) rfl) (@pss_cons _ _ _ _ _ (@ps_expr _ _ _ _ (@pe_bm _ _ _ _ _ _ _ _ _ _ _ _ PySem.F.plainAttrs_list PySem.F.slot_list_append PySem.F.type_list_append (@mt_append _) (@pvD _ 2 _ _ (by rfl) (by first | exact Or.inl rfl | exact Or.inr (Or.inl rfl) | exact Or.inr (Or.inr rfl)) (by decide) (by decide)) (@pa_cons _ _ _ _ _ (@pe_has _ _ _ _ _ _ _ _ _ _ h_law_row hr (@pa_cons _ _ _ _ _ (@pvD _ 6 _ _ (by rfl) (by first | exact Or.inl rfl | exact Or.inr (Or.inl rfl) | exact Or.inr (Or.inr rfl)) (by decide) (by decide)) (@pa_cons _ _ _ _ _ (@pvD _ 9 _ _ (by rfl) (by first | exact Or.inl rfl | exact Or.inr (Or.inl rfl) | exact Or.inr (Or.inr rfl)) (by decide) (by decide)) (@pa_cons _ _ _ _ _ (@pvD _ 7 _ _ (by rfl) (by first | exact Or.inl rfl | exact Or.inr (Or.inl rfl) | exact Or.inr (Or.inr rfl)) (by decide) (by decide)) (@pa_nil _) (by rfl)) (by rfl)) (by rfl)) (by rfl) (by decide +kernel) (by rfl) (by rfl)) (@pa_nil _) (by rfl)) (by rfl) (by rfl) (by rfl) (by rfl) (by rfl)) (by rfl)) (@pss_one _ _ _ (@ps_expr _ _ _ _ (@pe_bm _ _ _ _ _ _ _ _ _ _ _ _ PySem.F.plainAttrs_list PySem.F.slot_list_append PySem.F.type_list_append (@mt_append _) (@pvD _ 3 _ _ (by rfl) (by first | exact Or.inl rfl | exact Or.inr (Or.inl rfl) | exact Or.inr (Or.inr rfl)) (by decide) (by decide)) (@pa_cons _ _ _ _ _ (@pvD _ 9 _ _ (by rfl) (by first | exact Or.inl rfl | exact Or.inr (Or.inl rfl) | exact Or.inr (Or.inr rfl)) (by decide) (by decide)) (@pa_nil _) (by rfl)) (by rfl) (by rfl) (by rfl) (by rfl) (by rfl)) (by rfl))))))))) (by intro _; rfl)) (@pss_one _ _ _ (@ps_ret _ _ _ _ (@pe_lst _ _ _ _ (@pa_cons _ _ _ _ _ (@pvD _ 2 _ _ (by rfl) (by first | exact Or.inl rfl | exact Or.inr (Or.inl rfl) | exact Or.inr (Or.inr rfl)) (by decide) (by decide)) (@pa_cons _ _ _ _ _ (@pe_ix _ _ _ _ _ _ _ (@ix_list _) (@pvD _ 3 _ _ (by rfl) (by first | exact Or.inl rfl | exact Or.inr (Or.inl rfl) | exact Or.inr (Or.inr rfl)) (by decide) (by decide)) (@pe_int _ _ _ _) (fun _ _ => rfl)) (@pa_nil _) (by rfl)) (by rfl)))))))))), ?_⟩
  rw [show start ["words", "way", "rows", "done", "free", "used", "word", "some", "k", "box"] [.ref t, .int (w' : Int)] = [some (.ref t), some (.int (w' : Int)), none, none, none, none, none, none, none, none] from rfl]
  push_cast [spRowL, spTaken]
  have sz := sizeLine_eq
  obtain ⟨hO1, hO2, hO3⟩ := hO
  refine ⟨Nat.zero_le _, fun rl h1 => ⟨Nat.zero_le _, fun dl h2 => ⟨Nat.zero_le _, fun fl h3 => fun ul h4 => ?_⟩⟩⟩
  have S1 := same_new h1 (.lst [])
  have S2 := S1.trans (same_new h2 (.lst []))
  have S3 := S2.trans (same_new h3 (.lst []))
  have S4 := S3.trans (same_new h4 (.dK []))
  have ndr : dl ≠ rl := (ne_of_none upd_same h2).symm
  have nfr : fl ≠ rl := (ne_of_none (same_new h2 _ _ _ upd_same) h3).symm
  have nfd : fl ≠ dl := (ne_of_none upd_same h3).symm
  have nur : ul ≠ rl := (ne_of_none (same_new h3 _ _ _ (same_new h2 _ _ _ upd_same)) h4).symm
  have nud : ul ≠ dl := (ne_of_none (same_new h3 _ _ _ upd_same) h4).symm
  have nuf : ul ≠ fl := (ne_of_none upd_same h4).symm
  have dn : H dl = none := S1.free h2
  have fn : H fl = none := S2.free h3
  have un : H ul = none := S3.free h4
  push_cast [iRevT]
  refine ⟨ws, SqT.of (S4 _ _ ht), ?_⟩
  refine forW_revT (xs := ws) (fun i σ H' => ∃ (v6 v7 v8 v9 : Option V) (fl' : Addr) (rs : List V) (ts : List (List V)) (fs : List (Int × Int)) (st fr : List Int) (u : Nat), σ = [some (.ref t), some (.int (w' : Int)), some (.ref rl), some (.ref dl), some (.ref fl'), some (.ref ul), v6, v7, v8, v9] ∧ Same H H' ∧ H fl' = none ∧ fl' ≠ rl ∧ fl' ≠ dl ∧ fl' ≠ ul ∧ H' rl = some (.lst rs) ∧ RowsIn H' rs ts ∧ H' dl = some (.lst (st.reverse.map V.int)) ∧ H' fl' = some (.lst (fr.map V.int)) ∧ H' ul = some (.dK (trU u)) ∧ fr.length ≤ 2 * i ∧ Stk vals ρ (ws.drop (ws.length - i)) ts fs st fr u) ⟨none, none, none, none, fl, [], [], [], [], [], 0, rfl, S4, fn, nfr, nfd, nuf.symm, same_new h4 _ _ _ (same_new h3 _ _ _ (same_new h2 _ _ _ upd_same)), RowsIn.nil _, same_new h4 _ _ _ (same_new h3 _ _ _ upd_same), same_new h4 _ _ _ upd_same, upd_same, Nat.le_refl _, by rw [Nat.sub_zero, List.drop_length]; exact Stk.nil _ _⟩ (fun i σ H' _ h => ?_) ?_ ?_
  · obtain ⟨_, _, _, _, _, _, _, _, _, _, _, _, s1, _⟩ := h
    exact SqT.of (s1 _ _ ht)
  · rintro i x σ H' hi hx ⟨v6, v7, v8, v9, fl', rs, ts, fs, st, fr, u, rfl, s1, fn', n1, n2, n3, hrl, hI, hdl, hfl, hul, hfr, hS⟩
    have hj : ws.length - 1 - i < ws.length := by omega
    have ex : ws[ws.length - 1 - i] = x := by rw [List.getElem?_eq_getElem hj] at hx; exact Option.some.inj hx
    have ed : ws.drop (ws.length - (i + 1)) = x :: ws.drop (ws.length - i) := by
      rw [show ws.length - (i + 1) = ws.length - 1 - i by omega, List.drop_eq_getElem_cons hj, ex, show ws.length - 1 - i + 1 = ws.length - i by omega]
    obtain ⟨hxw, hxv, hxb⟩ := hO1 x (List.mem_of_getElem? hx)
    have hpd : ∃ l, pend l ((ws.drop (ws.length - i)).map arV) = some 0 ∧ arV x ≤ l := by
      obtain ⟨m, hm⟩ := pend_drop _ 1 hO2 (ws.length - (i + 1))
      rw [← List.map_drop, ed] at hm
      cases m with
      | zero => cases hm
      | succ m => exact ⟨m + arV x, hm, Nat.le_add_left _ _⟩
    obtain ⟨l, hpl, hal⟩ := hpd
    have hWd : ∀ v ∈ ws.drop (ws.length - i), isW v := fun v hv => (hO1 v (List.mem_of_mem_drop hv)).1
    have hsl : st.length = l := hS.sl.trans (runW_len hWd hpl)
    have hbits : ∀ m ∈ runW ρ (ws.drop (ws.length - i)), bitsOk m := fun m hm => bits_of_run (l := l) (fun v hv => by
      obtain ⟨y, hy, rfl⟩ := List.mem_map.mp hv
      obtain ⟨k1, k2, k3⟩ := hO1 y (List.mem_of_mem_drop hy)
      exact ⟨numW_valW k1, k3⟩) (by rw [map_arV]; exact hpl) (by rw [List.length_map, List.length_drop]; omega) hm
    have ar2 := arV_le x
    have step := fun {nb : Int} {fr2 : List Int} {u2 : Nat} hc => hS.step (nb := nb) (fr2 := fr2) (u2 := u2) hxw hxv hV (by omega) hbits hc
    rw [← ed] at step
    push_cast [tDisp, tPairs, rDGet2]
    refine ⟨Nat.zero_le _, fun sl hsl' => ?_⟩
    intro pd hpd'
    refine ⟨upd_same, parts, rfl, by decide, ?_⟩
    have em : mergeK [] parts = parts := by rfl
    rw [em, upd_upd]
    obtain ⟨kx, ekx⟩ := id hxw
    have g0 : DGet (upd (upd H' sl (.lst [])) pd (.dK parts)) pd x (valV parts kx) := by
      rw [ekx]
      exact DGet.k upd_same
    refine ⟨.inr (.inr (.inl ⟨rfl, .inl ⟨_, upd_same⟩⟩)), _, g0, (arV x : Int), by rw [val_parts, ← ekx], by omega, by omega, ?_⟩
    have tn : ((arV x : Nat) : Int).toNat = arV x := Int.toNat_natCast _
    rw [tn]
    have nsr : sl ≠ rl := (ne_of_none hrl hsl').symm
    have nsd : sl ≠ dl := (ne_of_none hdl hsl').symm
    have nsf : sl ≠ fl' := (ne_of_none hfl hsl').symm
    have nsu : sl ≠ ul := (ne_of_none hul hsl').symm
    have sn : H sl = none := s1.free hsl'
    have S5 := (same_new hsl' (.lst [])).trans (same_new hpd' (.dK parts))
    refine forW_range (lo := 0) (fun j σ H1 => ∃ v8 : Option V, σ = [some (.ref t), some (.int (w' : Int)), some (.ref rl), some (.ref dl), some (.ref fl'), some (.ref ul), some x, some (.ref sl), v8, v9] ∧ Same H H1 ∧ H1 rl = some (.lst rs) ∧ RowsIn H1 rs ts ∧ H1 dl = some (.lst ((st.drop j).reverse.map V.int)) ∧ H1 sl = some (.lst ((st.take j).map V.int)) ∧ H1 fl' = some (.lst (fr.map V.int)) ∧ H1 ul = some (.dK (trU u))) ⟨v8, rfl, s1.trans S5, S5 _ _ hrl, hI.same S5, by rw [List.drop_zero]; exact S5 _ _ hdl, same_new hpd' _ _ _ upd_same, S5 _ _ hfl, S5 _ _ hul⟩ ?_ ?_
    · rintro j σ H1 hj ⟨v8, rfl, s2, hrl2, hI2, hdl2, hsl2, hfl2, hul2⟩
      push_cast [and_true]
      have hj' : j < st.length := by omega
      have ed' : (st.drop j).reverse.map V.int = ((st.drop (j + 1)).reverse.map V.int) ++ [V.int st[j]] := by
        rw [List.drop_eq_getElem_cons hj', List.reverse_cons, List.map_append]
        rfl
      rw [ed'] at hdl2
      refine ⟨tyV_list hsl2, ?_⟩
      refine pop_ok (K := K) hdl2 ?_
      have hsl3 : upd H1 dl (.lst ((st.drop (j + 1)).reverse.map V.int)) sl = some (.lst ((st.take j).map V.int)) := by rw [upd_ne nsd]; exact hsl2
      refine (append_ok (K := K) hsl3 (by rw [List.length_map, List.length_take]; omega) ⟨(s2.upd dn _).upd sn _, by rw [upd_ne nsr.symm, upd_ne ndr.symm]; exact hrl2, (hI2.put hdl2 (fun t e => by cases e) _).put hsl3 (fun t e => by cases e) _, by rw [upd_ne nsd.symm, upd_same], ?_, by rw [upd_ne nsf.symm, upd_ne n2]; exact hfl2, by rw [upd_ne nsu.symm, upd_ne nud]; exact hul2⟩).2
      rw [upd_same, List.take_add_one, List.getElem?_eq_getElem hj', List.map_append]
      rfl
    · rintro σ H1 ⟨v8, rfl, s2, hrl2, hI2, hdl2, hsl2, hfl2, hul2⟩
      push_cast [spTaken, spRowL]
      have lfr : (fr.map V.int).length = fr.length := List.length_map _
      have lst' : ((st.take (arV x)).map V.int).length ≤ 2 := by rw [List.length_map, List.length_take]; omega
      refine rCat_ok hfl2 hsl2 (by omega) fun p4 hp4 => ?_
      rw [← List.map_append]
      have p4r : p4 ≠ rl := (ne_of_none hrl2 hp4).symm
      have p4d : p4 ≠ dl := (ne_of_none hdl2 hp4).symm
      have p4s : p4 ≠ sl := (ne_of_none hsl2 hp4).symm
      have p4u : p4 ≠ ul := (ne_of_none hul2 hp4).symm
      have p4n : H p4 = none := s2.free hp4
      have rl' : H rl = none := h1
      have lts : ts.length = fs.length := hS.runs.1
      have lfs : fs.length ≤ 40 := by rw [hS.len, List.length_drop]; omega
      have lt2 : (st.take (arV x)).length = arV x := by rw [List.length_take]; omega
      have fin : ∀ (nb : Int) (fr2 : List Int) (u2 : Nat) (H2 : Hp), Same H H2 → H2 rl = some (.lst rs) → RowsIn H2 rs ts → H2 dl = some (.lst ((st.drop (arV x)).reverse.map V.int)) → H2 sl = some (.lst ((st.take (arV x)).map V.int)) → H2 p4 = some (.lst (fr2.map V.int)) → H2 ul = some (.dK (trU u2)) → fr2.length ≤ 2 * (i + 1) → Stk vals ρ (ws.drop (ws.length - (i + 1))) (ts ++ [rowV x nb (st.take (arV x))]) (fs ++ [(nb, (runW ρ (ws.drop (ws.length - (i + 1)))).getD 0 0)]) (nb :: st.drop (arV x)) fr2 u2 →
          tyV K "list" (V.ref rl) H2 ∧ isW x ∧ ∃ x_5 : List Int, H2 sl = some (HO.lst (x_5.map V.int)) ∧ x_5.length = arV x ∧ ∀ (t : Addr) (H' : Hp), Same H2 H' → H' t = some (HO.tup (rowV x nb x_5)) → rAppend (V.ref rl) [V.ref t] H' fun x_6 H1 => tyV K "list" (V.ref dl) H1 ∧ rAppend (V.ref dl) [V.int nb] H1 fun x_7 H1 => ∃ (v6 v7 v8_1 v9 : Option V) (fl' : Addr), V.ref p4 = V.ref fl' ∧ some x = v6 ∧ some (V.ref sl) = v7 ∧ v8 = v8_1 ∧ some (V.int nb) = v9 ∧ Same H H1 ∧ H fl' = none ∧ fl' ≠ rl ∧ fl' ≠ dl ∧ fl' ≠ ul ∧ ∃ x : List V, H1 rl = some (HO.lst x) ∧ ∃ x_8 : List (List V), RowsIn H1 x x_8 ∧ ∃ (x : List (Int × Int)) (x_9 : List Int), H1 dl = some (HO.lst (List.map V.int x_9.reverse)) ∧ ∃ x_10 : List Int, H1 fl' = some (HO.lst (List.map V.int x_10)) ∧ ∃ x_11 : Nat, H1 ul = some (HO.dK (trU x_11)) ∧ x_10.length ≤ 2 * (i + 1) ∧ Stk vals ρ (List.drop (ws.length - (i + 1)) ws) x_8 x x_9 x_10 x_11 := by
        intro nb fr2 u2 H2 s3 hrl3 hI3 hdl3 hsl3 hf3 hu3 hl3 hS3
        refine ⟨tyV_list hrl3, hxw, _, hsl3, lt2, fun t2 H3 s4 ht2 => ?_⟩
        have hrl4 := s4 _ _ hrl3
        have lrs := hI3.1
        refine (append_ok (K := K) hrl4 (by omega) ?_).2
        have hdl4 : upd H3 rl (.lst (rs ++ [V.ref t2])) dl = some (.lst ((st.drop (arV x)).reverse.map V.int)) := by rw [upd_ne ndr]; exact s4 _ _ hdl3
        have ldl : ((st.drop (arV x)).reverse.map V.int).length ≤ st.length := by rw [List.length_map, List.length_reverse, List.length_drop]; omega
        have lst40 : st.length ≤ 40 := by
          have := pend_le _ _ hpl
          rw [List.length_map, List.length_drop] at this
          omega
        refine append_ok (K := K) hdl4 (by omega) ⟨_, _, _, _, p4, rfl, rfl, rfl, rfl, rfl, ((s3.trans s4).upd h1 _).upd dn _, p4n, p4r, p4d, p4u, _, by rw [upd_ne ndr.symm, upd_same], _, (((hI3.same s4).snoc ht2).put hrl4 (fun t e => by cases e) _).put hdl4 (fun t e => by cases e) _, _, nb :: st.drop (arV x), ?_, fr2, by rw [upd_ne p4d, upd_ne p4r]; exact s4 _ _ hf3, u2, by rw [upd_ne nud, upd_ne nur]; exact s4 _ _ hu3, hl3, hS3⟩
        rw [upd_same, List.reverse_cons, List.map_append]
        rfl
      have lfr2 : (fr ++ st.take (arV x)).length ≤ fr.length + 2 := by rw [List.length_append]; omega
      have i40 : i < 40 := by omega
      refine ⟨p4, rfl, fr ++ st.take (arV x), u, w', rfl, upd_same, same_new hp4 _ _ _ hul2, hw, by omega, fun H2 sx => ?_, fun nb fr2 H2 sx hpm => ?_⟩
      · have S6 := (same_new hp4 (.lst ((fr ++ st.take (arV x)).map V.int))).trans sx
        have hul3 := S6 _ _ hul2
        have hn : trU (u + 1) = putK (trU u) (Sum.inl (u : Int)) (.bl true) := (trU_new u).symm
        have uu := hS.ul
        refine ⟨_, DPut.k (k := Sum.inl (u : Int)) hul3 (by rw [trU_len]; rw [List.length_drop] at uu; omega), ?_⟩
        refine fin (u : Int) (fr ++ st.take (arV x)) (u + 1) _ ((s2.trans S6).upd un _) (by rw [upd_ne nur.symm]; exact S6 _ _ hrl2) ((hI2.same S6).put hul3 (fun t e => by cases e) _) (by rw [upd_ne nud.symm]; exact S6 _ _ hdl2) (by rw [upd_ne nsu]; exact S6 _ _ hsl2) (by rw [upd_ne p4u]; exact sx _ _ upd_same) (by rw [upd_same, hn]) (by omega) (step (.inl ⟨rfl, rfl, rfl⟩))
      · have S6 := (same_new hp4 (.lst ((fr ++ st.take (arV x)).map V.int))).trans sx
        have hp5 := sx _ _ (upd_same (H := H1) (a := p4))
        have hul3 : upd H2 p4 (.lst (fr2.map V.int)) ul = some (.dK (trU u)) := by rw [upd_ne p4u.symm]; exact S6 _ _ hul2
        have hm : nb ∈ fr ++ st.take (arV x) := hpm.mem_iff.mpr List.mem_cons_self
        have hr : 0 ≤ nb ∧ nb < (u : Int) := by
          rcases List.mem_append.mp hm with k | k
          · exact hS.rng nb (.inr k)
          · exact hS.rng nb (.inl (List.mem_of_mem_take k))
        have hn := trU_old hr.1 hr.2
        have uu := hS.ul
        have lp := hpm.length_eq
        rw [List.length_cons] at lp
        refine ⟨_, DPut.k (k := Sum.inl nb) hul3 (by rw [trU_len]; rw [List.length_drop] at uu; omega), ?_⟩
        refine fin nb fr2 u _ (((s2.trans S6).upd p4n _).upd un _) (by rw [upd_ne nur.symm, upd_ne p4r.symm]; exact S6 _ _ hrl2) (((hI2.same S6).put hp5 (fun t e => by cases e) _).put hul3 (fun t e => by cases e) _) (by rw [upd_ne nud.symm, upd_ne p4d.symm]; exact S6 _ _ hdl2) (by rw [upd_ne nsu, upd_ne p4s.symm]; exact S6 _ _ hsl2) (by rw [upd_ne p4u, upd_same]) (by rw [upd_same, hn]) (by omega) (step (.inr ⟨rfl, hpm⟩))
  · rintro σ H' ⟨v6, v7, v8, v9, fl', rs, ts, fs, st, fr, u, rfl, s1, fn', n1, n2, n3, hrl, hI, hdl, hfl, hul, hfr, hS⟩
    rw [Nat.sub_self, List.drop_zero] at hS
    push_cast [and_true]
    have hW : ∀ v ∈ ws, isW v := fun v hv => (hO1 v hv).1
    have r1 := runW_one (ρ := ρ) hW hO2
    have sl1 := hS.sl
    rw [r1] at sl1
    obtain ⟨bx, r', est, hlast⟩ := hS.top (fun e => by rw [e] at hO2; cases hO2)
    rw [est] at sl1
    have er : r' = [] := List.eq_nil_of_length_eq_zero (by have : r'.length + 1 = 1 := sl1; omega)
    rw [er] at est
    rw [est] at hdl
    rw [r1] at hlast
    refine rIxL_ok hdl rfl ⟨by show (2 : Nat) ≤ sizeLine; decide, fun p hp => q p rl rs ts fs bx _ (s1.trans (same_new hp _)) upd_same (same_new hp _ _ _ hrl) (hI.same (same_new hp _)) hS.runs hS.len hlast fun p' hp' => ?_⟩
    have h1 := hS.box p' hp'
    have h2 := hS.ul
    omega
abbrev sAnew : Stmt := top 23
theorem scAnew : FnScope ["row", "step"] ["row", "step"] (defScope sAnew) := ⟨rfl, rfl, rfl, by decide +kernel, rfl, by decide +kernel, by decide +kernel⟩
theorem hasAnew (G : Gs w K mg) (D : Def K mg "_law_anew" sAnew ["row", "step"]) : Has P w K mg base (k + 1) "_law_anew" ["row", "step"] spAnew := by
  refine D.has scAnew (fun vs H Q E h => ?_) (fun f cdv A outer s H vs Q E hr h => ?_)
  · obtain ⟨_, _, _, _, _, _, _, rfl, _, _, _, _, _⟩ := h
    rfl
  have nd := scAnew.nd
  have hu := hu_of hr
  have hu0 := Nat.lt_of_succ_lt hu
  obtain ⟨t, ts, st, vals, kvs, b, n, rfl, ht, hR, hb, hk, q⟩ := h
  have m_tuple := G.m_tuple
  refine ⟨_, (@pss_cons _ _ _ _ _ (@ps_if _ _ _ _ _ _ _ _ (@PW.pt _ _ _ (@pw_or _ _ _ _ _ _ _ (@pt_cmpR _ _ _ _ _ _ _ _ (@op_eq _) (@pe_ix _ _ _ _ _ _ _ (@ix_tup _) (@pvD _ 0 _ _ (by rfl) (by first | exact Or.inl rfl | exact Or.inr (Or.inl rfl) | exact Or.inr (Or.inr rfl)) (by decide) (by decide)) (@pe_int _ _ _ _) (fun _ _ => rfl)) (@pe_str _ _ _ _) (@nomark _ _ (by decide) (by decide))) (@pw_or1 _ _ _ _ (@pt_cmpR _ _ _ _ _ _ _ _ (@op_eq _) (@pe_ix _ _ _ _ _ _ _ (@ix_tup _) (@pvD _ 0 _ _ (by rfl) (by first | exact Or.inl rfl | exact Or.inr (Or.inl rfl) | exact Or.inr (Or.inr rfl)) (by decide) (by decide)) (@pe_int _ _ _ _) (fun _ _ => rfl)) (@pe_str _ _ _ _) (@nomark _ _ (by decide) (by decide)))))) (@pss_one _ _ _ (@ps_ret _ _ _ _ (@pe_tup _ _ _ _ _ (@pa_cons _ _ _ _ _ (@pe_ix _ _ _ _ _ _ _ (@ix_tup _) (@pvD _ 0 _ _ (by rfl) (by first | exact Or.inl rfl | exact Or.inr (Or.inl rfl) | exact Or.inr (Or.inr rfl)) (by decide) (by decide)) (@pe_int _ _ _ _) (fun _ _ => rfl)) (@pa_cons _ _ _ _ _ (@pe_op _ _ _ _ _ _ _ _ (@op_add _) (@pe_op _ _ _ _ _ _ _ _ (@op_mul _) (@pe_ix _ _ _ _ _ _ _ (@ix_tup _) (@pvD _ 0 _ _ (by rfl) (by first | exact Or.inl rfl | exact Or.inr (Or.inl rfl) | exact Or.inr (Or.inr rfl)) (by decide) (by decide)) (@pe_int _ _ _ _) (fun _ _ => rfl)) (@pvD _ 1 _ _ (by rfl) (by first | exact Or.inl rfl | exact Or.inr (Or.inl rfl) | exact Or.inr (Or.inr rfl)) (by decide) (by decide))) (@pe_int _ _ _ _)) (@pa_cons _ _ _ _ _ (@pe_ix _ _ _ _ _ _ _ (@ix_tup _) (@pvD _ 0 _ _ (by rfl) (by first | exact Or.inl rfl | exact Or.inr (Or.inl rfl) | exact Or.inr (Or.inr rfl)) (by decide) (by decide)) (@pe_int _ _ _ _) (fun _ _ => rfl)) (@pa_nil _) (by rfl)) (by rfl)) (by rfl))))) (@pss_nil _)) (@pss_one _ _ _ (@ps_ret _ _ _ _ (@pe_op _ _ _ _ _ _ _ _ (@op_catU _) (@pe_tup _ _ _ _ _ (@pa_cons _ _ _ _ _ (@pe_ix _ _ _ _ _ _ _ (@ix_tup _) (@pvD _ 0 _ _ (by rfl) (by first | exact Or.inl rfl | exact Or.inr (Or.inl rfl) | exact Or.inr (Or.inr rfl)) (by decide) (by decide)) (@pe_int _ _ _ _) (fun _ _ => rfl)) (@pa_nil _) (by rfl))) (@pe_callTy _ _ _ _ _ _ _ _ _ (@call_tuple_of _) rfl m_tuple b_tuple (@pa_cons _ _ _ _ _ (@pe_lc _ _ _ _ _ _ _ _ _ _ _ _ _ _ _ (@ClOk.mk _ _ ["box"] ["step"] [1] _ rfl rfl rfl rfl (And.intro rfl trivial) rfl (And.intro (And.intro rfl (And.intro rfl rfl)) trivial)) rfl (@pi_tup _ _ _ _ (@pe_slice _ _ _ _ _ _ _ _ _ _ (@sl_tupU _) (@pvD _ 0 _ _ (by rfl) (by first | exact Or.inl rfl | exact Or.inr (Or.inl rfl) | exact Or.inr (Or.inr rfl)) (by decide) (by decide)) (@po_some _ _ _ (@pe_int _ _ _ _)) (@po_none _))) (fun _ _ _ => (@pg_name _ _ 0 _ (show List.Nodup (["box", "step"] : List Str) by decide +kernel) rfl (Or.inl rfl) (by first | exact .inl rfl | exact .inr rfl | assumption))) (fun _ _ _ => (@pif0 _)) (fun _ _ _ => (@pe_op _ _ _ _ _ _ _ _ (@op_add _) (@pe_op _ _ _ _ _ _ _ _ (@op_mul _) (@pvD _ 0 _ _ (by rfl) (by first | exact Or.inl rfl | exact Or.inr (Or.inl rfl) | exact Or.inr (Or.inr rfl)) (by decide) (by decide)) (@pvD _ 1 _ _ (by rfl) (by first | exact Or.inl rfl | exact Or.inr (Or.inl rfl) | exact Or.inr (Or.inr rfl)) (by decide) (by decide))) (@pe_int _ _ _ _))) (by intro _; rfl)) (@pa_nil _) (by rfl)) (by decide) (by decide) (by rfl) (by rfl)))))), ?_⟩
  rw [show start ["row", "step"] [.ref t, .int st] = [some (.ref t), some (.int st)] from rfl]
  push_cast [and_true]
  have sz := sizeLine_eq
  have fin : ∀ (z : Str) (bs : List Int) (p : Addr), H p = none → H t = some (.tup (.str z :: bs.map V.int)) → bs.length ≤ 3 → (∀ y ∈ bs, 0 ≤ y ∧ y < 1000) → (∀ (t' : Addr) (ts' : List V) (H' : Hp), Same H H' → H' t' = some (.tup ts') → ts' = .str z :: bs.map (fun y => V.int (y * st + 5)) → Q (.ref t') H') → rSlU (V.ref t) (some 1) none (upd H p (HO.tup [.str z])) fun x H1 => ∃ a, x = V.ref a ∧ (∃ xs, SqT K H1 a xs) ∧ ∀ (D : Addr), H1 D = none → LC [Str.ofString "box"].length [some (V.int st)] (gName 0) tNoIf (tOp (rI0 fun i j => V.int (i + j)) (tOp (rI CMul fun i j => V.int (i * j)) (tVarD 0) (tVarD 1)) (tC (V.int 5))) (Itt K a) D H1 fun H' => ∃ x, (SqL K H' D x ∧ ∀ (l : Addr), H' l = none → rCatU (V.ref p) (V.ref l) (upd H' l (HO.tup x)) Q) ∨ SqT K H' D x ∧ rCatU (V.ref p) (V.ref D) H' Q := by
    intro z bs p hp ht l3 hb hq
    refine rSlU_ok (same_new hp _ _ _ ht) fun pa H1 s1 ha => ⟨pa, rfl, ?_⟩
    have ec : cutV (V.str z :: bs.map V.int) (some 1) none = bs.map V.int := cut_tail (V.str z :: bs.map V.int) 1 0 (by rw [List.length_cons]; omega)
    rw [ec] at ha
    have lb : (bs.map V.int).length = bs.length := List.length_map _
    have S1 : Same H H1 := (same_new hp _).trans s1
    refine ⟨⟨_, SqT.of ha⟩, fun D hD => lc_tup (fun i ys => ys = (bs.take i).map fun y => V.int (y * st + 5)) (SqT.of ha) (by omega) hD rfl (fun i x ys H2 G' K' hx hP hl2 hS hG hK => ?_) fun ys H2 hP hl2 hS hD2 => ?_⟩
    · rw [List.getElem?_map] at hx
      obtain ⟨y, hy, rfl⟩ := Option.map_eq_some_iff.mp hx
      obtain ⟨y0, y1⟩ := hb y (List.mem_of_getElem? hy)
      push_cast [and_true]
      refine ⟨.inl ⟨by omega, by omega⟩, hK _ _ (Same.refl _) ?_⟩
      rw [hP, List.take_add_one, hy, List.map_append]
      rfl
    · rw [lb, List.take_length] at hP
      refine ⟨ys, .inl ⟨SqL.of hD2, fun l hl => rCatU_ok (same_new hl _ _ _ (hS _ _ (s1 _ _ upd_same))) upd_same (by show 1 + _ ≤ _; rw [hP, List.length_map]; omega) fun pt H' s' h' => hq pt _ H' (S1.trans (hS.trans ((same_new hl _).trans s'))) h' (by rw [hP]; rfl)⟩⟩
  have n1 : ∀ z' : Str, arS z' ≠ 0 → ¬ V.str z' = V.str (Str.ofString "put") := fun z' h e => h (by rw [V.str.inj e]; decide +kernel)
  have n2 : ∀ z' : Str, arS z' ≠ 0 → ¬ V.str z' = V.str (Str.ofString "load") := fun z' h e => h (by rw [V.str.inj e]; decide +kernel)
  have n3 : ¬ V.str (Str.ofString "load") = V.str (Str.ofString "put") := fun e => absurd (V.str.inj e) (by decide +kernel)
  cases hR with
  | put b n =>
    refine rIxT_ok ht rfl ⟨rfl, ?_⟩
    rw [if_pos rfl]
    exact rIxT_ok ht rfl (rIxT_ok ht rfl ⟨b, rfl, .inl ⟨by omega, by omega⟩, rIxT_ok ht rfl ⟨by show (3 : Nat) ≤ sizeLine; decide, fun p hp => q p _ _ (same_new hp _) upd_same fun kvs' _ => RowAt.put _ _⟩⟩)
  | load b z n h =>
    refine rIxT_ok ht rfl ⟨rfl, ?_⟩
    rw [if_neg n3]
    refine rIxT_ok ht rfl ⟨rfl, ?_⟩
    rw [if_pos rfl]
    exact rIxT_ok ht rfl (rIxT_ok ht rfl ⟨b, rfl, .inl ⟨by omega, by omega⟩, rIxT_ok ht rfl ⟨by show (3 : Nat) ≤ sizeLine; decide, fun p hp => q p _ _ (same_new hp _) upd_same fun kvs' _ => RowAt.load _ z _ h⟩⟩)
  | neg b x m h b1 =>
    obtain ⟨x0, x1⟩ := hk x _ h
    have hz : arS "neg" ≠ 0 := by rw [ar_neg]; decide
    refine rIxT_ok ht rfl ⟨rfl, ?_⟩
    rw [if_neg (n1 _ hz)]
    refine rIxT_ok ht rfl ⟨rfl, ?_⟩
    rw [if_neg (n2 _ hz)]
    refine rIxT_ok ht rfl ⟨by show (1 : Nat) ≤ sizeLine; decide, fun p hp => ?_⟩
    refine fin "neg" [b, x] p hp ht (by show (2 : Nat) ≤ 3; decide) (fun y hy => ?_) fun t' ts' H' s' h' e => q t' _ H' s' (e ▸ h') fun kvs' k => RowAt.neg _ _ m (k x m h) b1
    simp only [List.mem_cons, List.not_mem_nil, or_false] at hy
    rcases hy with rfl | rfl
    · exact hb
    · exact ⟨x0, x1⟩
  | bin z b x y m n hz h1 h2 b1 b2 =>
    obtain ⟨x0, x1⟩ := hk x _ h1
    obtain ⟨y0, y1⟩ := hk y _ h2
    refine rIxT_ok ht rfl ⟨rfl, ?_⟩
    rw [if_neg (n1 _ (by omega))]
    refine rIxT_ok ht rfl ⟨rfl, ?_⟩
    rw [if_neg (n2 _ (by omega))]
    refine rIxT_ok ht rfl ⟨by show (1 : Nat) ≤ sizeLine; decide, fun p hp => ?_⟩
    refine fin z [b, x, y] p hp ht (by show (3 : Nat) ≤ 3; decide) (fun v hv => ?_) fun t' ts' H' s' h' e => q t' _ H' s' (e ▸ h') fun kvs' k => RowAt.bin z _ _ _ m n hz (k x m h1) (k y n h2) b1 b2
    simp only [List.mem_cons, List.not_mem_nil, or_false] at hv
    rcases hv with rfl | rfl | rfl
    · exact hb
    · exact ⟨x0, x1⟩
    · exact ⟨y0, y1⟩
abbrev sBetw : Stmt := top 24
theorem scBetw : FnScope ["deck", "rows", "far", "found", "row"] ["deck", "rows", "far"] (defScope sBetw) := ⟨rfl, rfl, rfl, by decide +kernel, rfl, by decide +kernel, by decide +kernel⟩
theorem hasBetw (G : Gs w K mg) (h_law_next : Has P w K mg base k "_law_next" ["deck"] spNext) (D : Def K mg "_law_between" sBetw ["deck", "rows", "far"]) : Has P w K mg base (k + 1) "_law_between" ["deck", "rows", "far"] spBetw := by
  refine D.has scBetw (fun vs H Q E h => ?_) (fun f cdv A outer s H vs Q E hr h => ?_)
  · obtain ⟨_, _, _, _, _, _, _, _, _, rfl, _, _, _, _, _, _, _, _⟩ := h
    rfl
  have nd := scBetw.nd
  have hu := hu_of hr
  have hu0 := Nat.lt_of_succ_lt hu
  obtain ⟨d, rl, b, ns, n, rs, ts, fs, vals, rfl, hD, hrl, hI, hR, hl, hb, hn, q⟩ := h
  have m_len := G.m_len
  refine ⟨_, (@pss_cons _ _ _ _ _ (@ps_set _ _ 3 _ _ _ _ nd rfl (by first | exact Or.inl rfl | exact Or.inr rfl) (@pe_lst _ _ _ _ (@pa_nil _)) (by rfl) (by first | exact .inl rfl | exact .inr rfl | assumption)) (@pss_cons _ _ _ _ _ (@ps_for _ _ _ _ _ _ _ _ PassesOwn.never rfl (@pi_list _ _ _ _ (@pvD _ 1 _ _ (by rfl) (by first | exact Or.inl rfl | exact Or.inr (Or.inl rfl) | exact Or.inr (Or.inr rfl)) (by decide) (by decide))) (@pg_name _ _ 4 _ nd rfl (by first | exact Or.inl rfl | exact Or.inr rfl) (by first | exact .inl rfl | exact .inr rfl | assumption)) (@pss_mid _ _ _ _ _ (@ps_if _ _ _ _ _ _ _ _ (@pt_cmpR _ _ _ _ _ _ _ _ (@op_eq _) (@pe_op _ _ _ _ _ _ _ _ (@op_mod _) (@pe_has _ _ _ _ _ _ _ _ _ _ h_law_next hr (@pa_cons _ _ _ _ _ (@pvD _ 0 _ _ (by rfl) (by first | exact Or.inl rfl | exact Or.inr (Or.inl rfl) | exact Or.inr (Or.inr rfl)) (by decide) (by decide)) (@pa_nil _) (by rfl)) (by rfl) (by decide +kernel) (by rfl) (by rfl)) (@pe_int _ _ _ _)) (@pe_int _ _ _ _) (@nomark _ _ (by decide) (by decide))) (@pss_one _ _ _ (@ps_expr _ _ _ _ (@pe_bm _ _ _ _ _ _ _ _ _ _ _ _ PySem.F.plainAttrs_list PySem.F.slot_list_append PySem.F.type_list_append (@mt_append _) (@pvD _ 3 _ _ (by rfl) (by first | exact Or.inl rfl | exact Or.inr (Or.inl rfl) | exact Or.inr (Or.inr rfl)) (by decide) (by decide)) (@pa_cons _ _ _ _ _ (@pe_tup _ _ _ _ _ (@pa_cons _ _ _ _ _ (@pe_str _ _ _ _) (@pa_cons _ _ _ _ _ (@pe_op _ _ _ _ _ _ _ _ (@op_add _) (@pvD _ 2 _ _ (by rfl) (by first | exact Or.inl rfl | exact Or.inr (Or.inl rfl) | exact Or.inr (Or.inr rfl)) (by decide) (by decide)) (@pe_callB _ _ _ _ _ _ _ _ _ (@call_len_seq _) rfl m_len b_len (@pa_cons _ _ _ _ _ (@pvD _ 3 _ _ (by rfl) (by first | exact Or.inl rfl | exact Or.inr (Or.inl rfl) | exact Or.inr (Or.inr rfl)) (by decide) (by decide)) (@pa_nil _) (by rfl)) (by decide) (by decide) (by rfl) (by rfl))) (@pa_cons _ _ _ _ _ (@pe_op _ _ _ _ _ _ _ _ (@op_sub _) (@pe_callB _ _ _ _ _ _ _ _ _ (@call_len_seq _) rfl m_len b_len (@pa_cons _ _ _ _ _ (@pvD _ 3 _ _ (by rfl) (by first | exact Or.inl rfl | exact Or.inr (Or.inl rfl) | exact Or.inr (Or.inr rfl)) (by decide) (by decide)) (@pa_nil _) (by rfl)) (by decide) (by decide) (by rfl) (by rfl)) (@pe_int _ _ _ _)) (@pa_nil _) (by rfl)) (by rfl)) (by rfl))) (@pa_nil _) (by rfl)) (by rfl) (by rfl) (by rfl) (by rfl) (by rfl)) (by rfl))) (@pss_nil _)) (@pss_one _ _ _ (@ps_expr _ _ _ _ (@pe_bm _ _ _ _ _ _ _ _ _ _ _ _ PySem.F.plainAttrs_list PySem.F.slot_list_append PySem.F.type_list_append (@mt_append _) (@pvD _ 3 _ _ (by rfl) (by first | exact Or.inl rfl | exact Or.inr (Or.inl rfl) | exact Or.inr (Or.inr rfl)) (by decide) (by decide)) (@pa_cons _ _ _ _ _ (@pvD _ 4 _ _ (by rfl) (by first | exact Or.inl rfl | exact Or.inr (Or.inl rfl) | exact Or.inr (Or.inr rfl)) (by decide) (by decide)) (@pa_nil _) (by rfl)) (by rfl) (by rfl) (by rfl) (by rfl) (by rfl)) (by rfl)))) (by intro _; rfl)) (@pss_one _ _ _ (@ps_ret _ _ _ _ (@pvD _ 3 _ _ (by rfl) (by first | exact Or.inl rfl | exact Or.inr (Or.inl rfl) | exact Or.inr (Or.inr rfl)) (by decide) (by decide)))))), ?_⟩
  rw [show start ["deck", "rows", "far", "found", "row"] [.ref d, .ref rl, .int 1000] = [some (.ref d), some (.ref rl), some (.int 1000), none, none] from rfl]
  push_cast [spNext]
  have sz := sizeLine_eq
  have lrs : rs.length = fs.length := hI.1.trans hR.1
  refine ⟨Nat.zero_le _, fun p hp => ⟨⟨rs, SqL.of (same_new hp _ _ _ hrl)⟩, ?_⟩⟩
  have npd : p ≠ d := (ne_of_none hD.1 hp).symm
  have nrd : rl ≠ d := ne_of hrl hD.1 (by
    intro e
    have e : rs = [.ref b, .int (n : Int)] := HO.lst.inj e
    obtain ⟨a, ea⟩ := hI.refs (.int (n : Int)) (by rw [e]; exact List.mem_cons_of_mem _ List.mem_cons_self)
    cases ea)
  have nrp : rl ≠ p := ne_of_none hrl hp
  refine forW_list (xs := rs) (fun i σ H' => ∃ (v4 : Option V) (rs' : List V) (ts' : List (List V)) (fs' : List (Int × Int)), σ = [some (.ref d), some (.ref rl), some (.int 1000), some (.ref p), v4] ∧ SameB d H H' ∧ H' d = some (.lst [.ref b, .int ((n + i : Nat) : Int)]) ∧ H' p = some (.lst rs') ∧ RowsIn H' rs' ts' ∧ RunsAt vals ts' fs' ∧ fs'.length ≤ 2 * i ∧ (boxes fs').filter (fun p => lo p.1) = boxes (fs.take i)) ⟨none, [], [], [], rfl, (SameB.refl _ _).upd hp _, same_new hp _ _ _ hD.1, upd_same, RowsIn.nil _, RunsAt.nil _, Nat.le_refl _, rfl⟩ (fun i σ H' _ h => ?_) ?_ ?_
  · obtain ⟨_, _, _, _, _, s1, _⟩ := h
    exact SqL.of (s1 _ _ nrd hrl)
  · rintro i x σ H' hx ⟨v4, rs', ts', fs', rfl, s1, d1, hp1, hI1, hR1, hl1, hf1⟩
    have hi : i < fs.length := by rw [← lrs]; exact (List.getElem?_eq_some_iff.mp hx).1
    obtain ⟨tr, e1, row⟩ := hR.2 i fs[i] (List.getElem?_eq_getElem hi)
    obtain ⟨a, e2, hta⟩ := hI.2 i tr e1
    rw [hx] at e2
    cases e2
    have lr1 : rs'.length = fs'.length := hI1.1.trans hR1.1
    have nad : a ≠ d := ne_of hta hD.1 (by intro e; cases e)
    push_cast [spNext]
    refine tMid_of (fun σ' H1 => ∃ (rs' : List V) (ts' : List (List V)) (fs' : List (Int × Int)), σ' = [some (.ref d), some (.ref rl), some (.int 1000), some (.ref p), some (.ref a)] ∧ SameB d H H1 ∧ H1 d = some (.lst [.ref b, .int ((n + (i + 1) : Nat) : Int)]) ∧ H1 p = some (.lst rs') ∧ RowsIn H1 rs' ts' ∧ RunsAt vals ts' fs' ∧ fs'.length ≤ 2 * i + 1 ∧ (boxes fs').filter (fun p => lo p.1) = boxes (fs.take i)) ?_ ?_
    · push_cast [spNext]
      refine ⟨b, ns, n + i, hD.next s1 d1, by omega, fun c H1 s2 d2 => ⟨rfl, ?_⟩⟩
      have hp2 := s2 _ _ npd hp1
      have hI2 := K23.RowsIn.sameB hI1 s2 d1
      refine ite2 (fun e => ⟨tyV_list hp2, rs', .inl (SqL.of hp2), rs', .inl (SqL.of hp2), by show (3 : Nat) ≤ sizeLine; decide, fun p1 hp1 => ?_⟩) fun e => ⟨s1.trans s2, d2, rs', hp2, ts', hI2, fs', hR1, by omega, hf1⟩
      have hp3 := same_new hp1 (.tup [V.str "put", V.int (1000 + (rs'.length : Int)), V.int ((rs'.length : Int) - 4)]) _ _ hp2
      have B := (s1.trans s2).trans (SameB.of (same_new hp1 (.tup [V.str "put", V.int (1000 + (rs'.length : Int)), V.int ((rs'.length : Int) - 4)])))
      refine (append_ok (K := K) hp3 (by omega) ⟨B.upd hp _, by rw [upd_ne npd.symm]; exact same_new hp1 _ _ _ d2, _, upd_same, _, ((hI2.same (same_new hp1 _)).snoc upd_same).put hp3 (fun t e => by cases e) _, _, hR1.snoc (RowAt.put _ _), by rw [List.length_append]; show _ + 1 ≤ _; omega, ?_⟩).2
      have hlo : lo (Sum.inl (1000 + (rs'.length : Int))) = false := decide_eq_false (by omega)
      rw [boxes_snoc, putK_drop _ _ hlo, hf1]
    · rintro σ' H1 ⟨rs2, ts2, fs2, rfl, s2, d2, hp2, hI2, hR2, hl2, hf2⟩
      push_cast [and_true]
      have lr2 : rs2.length = fs2.length := hI2.1.trans hR2.1
      have hta2 := s2 _ _ nad hta
      refine append_ok (K := K) hp2 (by omega) ⟨s2.upd hp _, by rw [upd_ne npd.symm]; exact d2, _, upd_same, _, (hI2.snoc hta2).put hp2 (fun t e => by cases e) _, _, hR2.snoc (K23.RowAt.mono row fun x m h => ?_), by rw [List.length_append]; show _ + 1 ≤ _; omega, ?_⟩
      · obtain ⟨p', hp', e⟩ := boxes_key h
        have hb' := hb p' (List.mem_of_mem_take hp')
        have hlo : lo (Sum.inl x) = true := decide_eq_true (by omega)
        rw [← valV_filter hlo, hf2]
        exact h
      · have hlo : lo (Sum.inl fs[i].1) = true := decide_eq_true (by have := hb fs[i] (List.getElem_mem hi); omega)
        rw [boxes_snoc, putK_keep _ _ hlo, hf2, List.take_add_one, List.getElem?_eq_getElem hi]
        exact (boxes_snoc _ _ _).symm
  · rintro σ H' ⟨v4, rs', ts', fs', rfl, s1, d1, hp1, hI1, hR1, hl1, hf1⟩
    rw [lrs] at hl1 hf1 d1
    rw [List.take_length] at hf1
    push_cast [and_true]
    exact q p rs' ts' fs' H' s1 d1 hp1 hI1 hR1 (by omega) hf1
abbrev sSameL : Stmt := top 25
theorem scSameL : FnScope ["rows", "values", "box", "words", "found", "last", "ahead", "made"] ["rows", "values", "box", "words"] (defScope sSameL) := ⟨rfl, rfl, rfl, by decide +kernel, rfl, by decide +kernel, by decide +kernel⟩
theorem hasSameL (G : Gs w K mg) (h_run : Has P w K mg base k "run" ["rows", "values"] (spRun K)) (h_worth : Has P w K mg base k "worth" ["words", "values"] (spWorth K)) (D : Def K mg "_law_same" sSameL ["rows", "values", "box", "words"]) : Has P w K mg base (k + 1) "_law_same" ["rows", "values", "box", "words"] spSameL := by
  refine D.has scSameL (fun vs H Q E h => ?_) (fun f cdv A outer s H vs Q E hr h => ?_)
  · obtain ⟨_, _, _, _, _, _, _, _, _, _, rfl, _, _, _, _, _, _, _, _, _, _⟩ := h
    rfl
  have nd := scSameL.nd
  have hu := hu_of hr
  have hu0 := Nat.lt_of_succ_lt hu
  obtain ⟨rl, vl, t, box, rs, ts, fs, vals, ρ, ws, rfl, hrl, hI, hvl, hV, hR, hfl, hbx, ht, hO, q⟩ := h
  refine ⟨_, (@pss_cons _ _ _ _ _ (@ps_set _ _ 4 _ _ _ _ nd rfl (by first | exact Or.inl rfl | exact Or.inr rfl) (@pe_has _ _ _ _ _ _ _ _ _ _ h_run hr (@pa_cons _ _ _ _ _ (@pvD _ 0 _ _ (by rfl) (by first | exact Or.inl rfl | exact Or.inr (Or.inl rfl) | exact Or.inr (Or.inr rfl)) (by decide) (by decide)) (@pa_cons _ _ _ _ _ (@pvD _ 1 _ _ (by rfl) (by first | exact Or.inl rfl | exact Or.inr (Or.inl rfl) | exact Or.inr (Or.inr rfl)) (by decide) (by decide)) (@pa_nil _) (by rfl)) (by rfl)) (by rfl) (by decide +kernel) (by rfl) (by rfl)) (by rfl) (by first | exact .inl rfl | exact .inr rfl | assumption)) (@pss_cons _ _ _ _ _ (@ps_set _ _ 5 _ _ _ _ nd rfl (by first | exact Or.inl rfl | exact Or.inr rfl) (@pe_ix _ _ _ _ _ _ _ (@ix_list _) (@pvD _ 0 _ _ (by rfl) (by first | exact Or.inl rfl | exact Or.inr (Or.inl rfl) | exact Or.inr (Or.inr rfl)) (by decide) (by decide)) (@pe_un _ _ _ _ _ _ (@un_neg _) (@pe_int _ _ _ _)) (fun _ _ => rfl)) (by rfl) (by first | exact .inl rfl | exact .inr rfl | assumption)) (@pss_cons _ _ _ _ _ (@ps_set _ _ 6 _ _ _ _ nd rfl (by first | exact Or.inl rfl | exact Or.inr rfl) (@pe_has _ _ _ _ _ _ _ _ _ _ h_run hr (@pa_cons _ _ _ _ _ (@pe_slice _ _ _ _ _ _ _ _ _ _ (@sl_list _) (@pvD _ 0 _ _ (by rfl) (by first | exact Or.inl rfl | exact Or.inr (Or.inl rfl) | exact Or.inr (Or.inr rfl)) (by decide) (by decide)) (@po_none _) (@po_some _ _ _ (@pe_un _ _ _ _ _ _ (@un_neg _) (@pe_int _ _ _ _)))) (@pa_cons _ _ _ _ _ (@pvD _ 1 _ _ (by rfl) (by first | exact Or.inl rfl | exact Or.inr (Or.inl rfl) | exact Or.inr (Or.inr rfl)) (by decide) (by decide)) (@pa_nil _) (by rfl)) (by rfl)) (by rfl) (by decide +kernel) (by rfl) (by rfl)) (by rfl) (by first | exact .inl rfl | exact .inr rfl | assumption)) (@pss_cons _ _ _ _ _ (@ps_if _ _ _ _ _ _ _ _ (@PW.pt _ _ _ (@pw_or _ _ _ _ _ _ _ (@pt_cmpR _ _ _ _ _ _ _ _ (@op_ne _) (@pe_dget _ _ _ _ _ _ hu (@pvD _ 4 _ _ (by rfl) (by first | exact Or.inl rfl | exact Or.inr (Or.inl rfl) | exact Or.inr (Or.inr rfl)) (by decide) (by decide)) (@pvD _ 2 _ _ (by rfl) (by first | exact Or.inl rfl | exact Or.inr (Or.inl rfl) | exact Or.inr (Or.inr rfl)) (by decide) (by decide)) (fun _ _ => rfl)) (@pe_has _ _ _ _ _ _ _ _ _ _ h_worth hr (@pa_cons _ _ _ _ _ (@pvD _ 3 _ _ (by rfl) (by first | exact Or.inl rfl | exact Or.inr (Or.inl rfl) | exact Or.inr (Or.inr rfl)) (by decide) (by decide)) (@pa_cons _ _ _ _ _ (@pvD _ 1 _ _ (by rfl) (by first | exact Or.inl rfl | exact Or.inr (Or.inl rfl) | exact Or.inr (Or.inr rfl)) (by decide) (by decide)) (@pa_nil _) (by rfl)) (by rfl)) (by rfl) (by decide +kernel) (by rfl) (by rfl)) (@nomark _ _ (by decide) (by decide))) (@pw_or1 _ _ _ _ (@pt_cmpR _ _ _ _ _ _ _ _ (@op_ne _) (@pe_ix _ _ _ _ _ _ _ (@ix_tup _) (@pvD _ 5 _ _ (by rfl) (by first | exact Or.inl rfl | exact Or.inr (Or.inl rfl) | exact Or.inr (Or.inr rfl)) (by decide) (by decide)) (@pe_int _ _ _ _) (fun _ _ => rfl)) (@pvD _ 2 _ _ (by rfl) (by first | exact Or.inl rfl | exact Or.inr (Or.inl rfl) | exact Or.inr (Or.inr rfl)) (by decide) (by decide)) (@nomark _ _ (by decide) (by decide)))))) (@pss_one _ _ _ (@ps_ret _ _ _ _ (@pe_bl _ _ _ _))) (@pss_nil _)) (@pss_cons _ _ _ _ _ (@ps_if _ _ _ _ _ _ _ _ (@pt_cmpR _ _ _ _ _ _ _ _ (@op_in_seq _) (@pe_ix _ _ _ _ _ _ _ (@ix_tup _) (@pvD _ 5 _ _ (by rfl) (by first | exact Or.inl rfl | exact Or.inr (Or.inl rfl) | exact Or.inr (Or.inr rfl)) (by decide) (by decide)) (@pe_int _ _ _ _) (fun _ _ => rfl)) (@pe_lst _ _ _ _ (@pa_const _ _ _ (@CsOk.str _ _ _ _ _ (@CsOk.str _ _ _ _ _ (@CsOk.str _ _ _ _ _ (@CsOk.nil)))))) (by with_unfolding_all rfl)) (@pss_cons _ _ _ _ _ (@ps_set _ _ 7 _ _ _ _ nd rfl (by first | exact Or.inl rfl | exact Or.inr rfl) (@pe_disp _ _ _ _ _ (@pps_cons _ _ _ _ _ _ _ _ _ (@pe_str _ _ _ _) (@pe_op _ _ _ _ _ _ _ _ (@op_add _) (@pe_dget _ _ _ _ _ _ hu (@pvD _ 6 _ _ (by rfl) (by first | exact Or.inl rfl | exact Or.inr (Or.inl rfl) | exact Or.inr (Or.inr rfl)) (by decide) (by decide)) (@pe_ix _ _ _ _ _ _ _ (@ix_tup _) (@pvD _ 5 _ _ (by rfl) (by first | exact Or.inl rfl | exact Or.inr (Or.inl rfl) | exact Or.inr (Or.inr rfl)) (by decide) (by decide)) (@pe_int _ _ _ _) (fun _ _ => rfl)) (fun _ _ => rfl)) (@pe_dget _ _ _ _ _ _ hu (@pvD _ 6 _ _ (by rfl) (by first | exact Or.inl rfl | exact Or.inr (Or.inl rfl) | exact Or.inr (Or.inr rfl)) (by decide) (by decide)) (@pe_ix _ _ _ _ _ _ _ (@ix_tup _) (@pvD _ 5 _ _ (by rfl) (by first | exact Or.inl rfl | exact Or.inr (Or.inl rfl) | exact Or.inr (Or.inr rfl)) (by decide) (by decide)) (@pe_int _ _ _ _) (fun _ _ => rfl)) (fun _ _ => rfl))) (@pps_cons _ _ _ _ _ _ _ _ _ (@pe_str _ _ _ _) (@pe_op _ _ _ _ _ _ _ _ (@op_sub _) (@pe_dget _ _ _ _ _ _ hu (@pvD _ 6 _ _ (by rfl) (by first | exact Or.inl rfl | exact Or.inr (Or.inl rfl) | exact Or.inr (Or.inr rfl)) (by decide) (by decide)) (@pe_ix _ _ _ _ _ _ _ (@ix_tup _) (@pvD _ 5 _ _ (by rfl) (by first | exact Or.inl rfl | exact Or.inr (Or.inl rfl) | exact Or.inr (Or.inr rfl)) (by decide) (by decide)) (@pe_int _ _ _ _) (fun _ _ => rfl)) (fun _ _ => rfl)) (@pe_dget _ _ _ _ _ _ hu (@pvD _ 6 _ _ (by rfl) (by first | exact Or.inl rfl | exact Or.inr (Or.inl rfl) | exact Or.inr (Or.inr rfl)) (by decide) (by decide)) (@pe_ix _ _ _ _ _ _ _ (@ix_tup _) (@pvD _ 5 _ _ (by rfl) (by first | exact Or.inl rfl | exact Or.inr (Or.inl rfl) | exact Or.inr (Or.inr rfl)) (by decide) (by decide)) (@pe_int _ _ _ _) (fun _ _ => rfl)) (fun _ _ => rfl))) (@pps_nil _ _))) rfl rfl (fun e => nomatch e) (by decide)) (by rfl) (by first | exact .inl rfl | exact .inr rfl | assumption)) (@pss_one _ _ _ (@ps_ret _ _ _ _ (@pe_cmpR _ _ _ _ _ _ _ _ (@op_eq _) (@pe_dget _ _ _ _ _ _ hu (@pvD _ 4 _ _ (by rfl) (by first | exact Or.inl rfl | exact Or.inr (Or.inl rfl) | exact Or.inr (Or.inr rfl)) (by decide) (by decide)) (@pvD _ 2 _ _ (by rfl) (by first | exact Or.inl rfl | exact Or.inr (Or.inl rfl) | exact Or.inr (Or.inr rfl)) (by decide) (by decide)) (fun _ _ => rfl)) (@pe_bm _ _ _ _ _ _ _ _ _ _ _ _ PySem.F.plainAttrs_dict PySem.F.slot_dict_get PySem.F.type_dict_get (@mt_dget2 _ hu) (@pvD _ 7 _ _ (by rfl) (by first | exact Or.inl rfl | exact Or.inr (Or.inl rfl) | exact Or.inr (Or.inr rfl)) (by decide) (by decide)) (@pa_cons _ _ _ _ _ (@pe_ix _ _ _ _ _ _ _ (@ix_tup _) (@pvD _ 5 _ _ (by rfl) (by first | exact Or.inl rfl | exact Or.inr (Or.inl rfl) | exact Or.inr (Or.inr rfl)) (by decide) (by decide)) (@pe_int _ _ _ _) (fun _ _ => rfl)) (@pa_cons _ _ _ _ _ (@pe_op _ _ _ _ _ _ _ _ (@op_mulB _) (@pe_dget _ _ _ _ _ _ hu (@pvD _ 6 _ _ (by rfl) (by first | exact Or.inl rfl | exact Or.inr (Or.inl rfl) | exact Or.inr (Or.inr rfl)) (by decide) (by decide)) (@pe_ix _ _ _ _ _ _ _ (@ix_tup _) (@pvD _ 5 _ _ (by rfl) (by first | exact Or.inl rfl | exact Or.inr (Or.inl rfl) | exact Or.inr (Or.inr rfl)) (by decide) (by decide)) (@pe_int _ _ _ _) (fun _ _ => rfl)) (fun _ _ => rfl)) (@pe_dget _ _ _ _ _ _ hu (@pvD _ 6 _ _ (by rfl) (by first | exact Or.inl rfl | exact Or.inr (Or.inl rfl) | exact Or.inr (Or.inr rfl)) (by decide) (by decide)) (@pe_ix _ _ _ _ _ _ _ (@ix_tup _) (@pvD _ 5 _ _ (by rfl) (by first | exact Or.inl rfl | exact Or.inr (Or.inl rfl) | exact Or.inr (Or.inr rfl)) (by decide) (by decide)) (@pe_int _ _ _ _) (fun _ _ => rfl)) (fun _ _ => rfl))) (@pa_nil _) (by rfl)) (by rfl)) (by rfl) (by rfl) (by rfl) (by rfl) (by rfl)) (@nomark _ _ (by decide) (by decide)))))) (@pss_nil _)) (@pss_one _ _ _ (@ps_ret _ _ _ _ (@pe_or _ _ _ _ _ _ _ (@pe_cmpR _ _ _ _ _ _ _ _ (@op_ne _) (@pe_ix _ _ _ _ _ _ _ (@ix_tup _) (@pvD _ 5 _ _ (by rfl) (by first | exact Or.inl rfl | exact Or.inr (Or.inl rfl) | exact Or.inr (Or.inr rfl)) (by decide) (by decide)) (@pe_int _ _ _ _) (fun _ _ => rfl)) (@pe_str _ _ _ _) (@nomark _ _ (by decide) (by decide))) (@pe_one _ _ _ _ _ (@pe_cmpR _ _ _ _ _ _ _ _ (@op_eq _) (@pe_dget _ _ _ _ _ _ hu (@pvD _ 4 _ _ (by rfl) (by first | exact Or.inl rfl | exact Or.inr (Or.inl rfl) | exact Or.inr (Or.inr rfl)) (by decide) (by decide)) (@pvD _ 2 _ _ (by rfl) (by first | exact Or.inl rfl | exact Or.inr (Or.inl rfl) | exact Or.inr (Or.inr rfl)) (by decide) (by decide)) (fun _ _ => rfl)) (@pe_op _ _ _ _ _ _ _ _ (@op_sub _) (@pe_int _ _ _ _) (@pe_dget _ _ _ _ _ _ hu (@pvD _ 6 _ _ (by rfl) (by first | exact Or.inl rfl | exact Or.inr (Or.inl rfl) | exact Or.inr (Or.inr rfl)) (by decide) (by decide)) (@pe_ix _ _ _ _ _ _ _ (@ix_tup _) (@pvD _ 5 _ _ (by rfl) (by first | exact Or.inl rfl | exact Or.inr (Or.inl rfl) | exact Or.inr (Or.inr rfl)) (by decide) (by decide)) (@pe_int _ _ _ _) (fun _ _ => rfl)) (fun _ _ => rfl))) (@nomark _ _ (by decide) (by decide)))))))))))), ?_⟩
  rw [show start ["rows", "values", "box", "words", "found", "last", "ahead", "made"] [.ref rl, .ref vl, .int box, .ref t] = [some (.ref rl), some (.ref vl), some (.int box), some (.ref t), none, none, none, none] from rfl]
  push_cast [spRun, spWorth]
  have sz := sizeLine_eq
  obtain ⟨hO1, hO2, hO3⟩ := hO
  have lrs : rs.length = fs.length := hI.1.trans hR.1
  have hpos : 0 < fs.length := by
    cases fs with
    | nil => cases hbx
    | cons _ _ => exact Nat.succ_pos _
  have hi : fs[fs.length - 1]? = some (box, worthN ρ ws) := by rw [← List.getLast?_eq_getElem?]; exact hbx
  obtain ⟨tr, e1, row⟩ := hR.2 _ _ hi
  obtain ⟨a, e2, hta⟩ := hI.2 _ tr e1
  have efs : fs = fs.take (fs.length - 1) ++ [(box, worthN ρ ws)] := by
    conv => lhs; rw [← List.take_length (l := fs), show fs.length = fs.length - 1 + 1 by omega, List.take_add_one, hi]
    rfl
  have ers : rs = rs.take (fs.length - 1) ++ [V.ref a] := by
    conv => lhs; rw [← List.take_length (l := rs), lrs, show fs.length = fs.length - 1 + 1 by omega, List.take_add_one, e2]
    rfl
  have hat : atI rs (-1) = some (V.ref a) := by rw [ers]; exact atI_last _ _
  have ebx : valV (boxes fs) (Sum.inl box) = some (.int (worthN ρ ws)) := by rw [efs, boxes_snoc, valV_put, if_pos rfl]
  refine ⟨rs, SqL.of hrl, by omega, ts, hI, fs, vals, hvl, hR, fun d H1 s1 dn hd1 => rIxL_ok (s1 _ _ hrl) hat ⟨rs, SqL.of (s1 _ _ hrl), fun p hp => ?_⟩⟩
  rw [cut_last, lrs]
  have S2 := s1.trans (same_new hp (.lst (rs.take (fs.length - 1))))
  refine ⟨rs.take (fs.length - 1), SqL.of upd_same, by rw [List.length_take]; omega, _, (rowsIn_take hI _).same S2, _, vals, S2 _ _ hvl, runsAt_take hR _, fun d2 H2 s2 d2n hd2 => ?_⟩
  have S3 := S2.trans s2
  have hd3 := s2 _ _ (same_new hp (.lst (rs.take (fs.length - 1))) _ _ hd1)
  refine ⟨.int (worthN ρ ws), by rw [← ebx]; exact DGet.k (k := Sum.inl box) hd3, ws, SqT.of (S3 _ _ ht), ρ, ⟨vals, S3 _ _ hvl, hV⟩, hO1, hO2, by omega, fun H3 s3 => ⟨rfl, ifN (by rw [decide_eq_true rfl]; decide) ?_⟩⟩
  have S4 := S3.trans s3
  have ht4 := S4 _ _ hta
  have hd4 := s3 _ _ hd3
  have he4 := s3 _ _ hd2
  refine rIxT_ok ht4 row.at1 ⟨rfl, ifN (by rw [decide_eq_true rfl]; decide) ?_⟩
  have ebv : ∀ Hx, Same H3 Hx → DGet Hx d (V.int box) (some (.int (worthN ρ ws))) := fun Hx sx => by rw [← ebx]; exact DGet.k (k := Sum.inl box) (sx _ _ hd4)
  have edv : ∀ Hx, Same H3 Hx → ∀ (x : Int) (v : V), valV (boxes (fs.take (fs.length - 1))) (Sum.inl x) = some v → DGet Hx d2 (V.int x) (some v) := fun Hx sx x v hv => by rw [← hv]; exact DGet.k (k := Sum.inl x) (sx _ _ he4)
  clear efs ebx hbx hi
  generalize worthN ρ ws = W at row ebv ⊢
  have three : (3 : Nat) ≤ sizeLine := by decide
  cases row with
  | put b n =>
    push_cast [tDisp, tPairs, rIn, rDGet2]
    refine rIxT_ok ht4 rfl ⟨three, fun p hp => ⟨_, .inl (SqL.of upd_same), rfl, rfl, ifN (fun c => ?_) ?_⟩⟩
    · have := (three_in (isW.str "put")).mp c
      exact absurd this (by decide +kernel)
    · have S5 := same_new hp (.lst [V.str "add", V.str "sub", V.str "mul"])
      exact rIxT_ok (S5 _ _ ht4) rfl ⟨rfl, ifY (by decide +kernel) (q _ (S4.trans S5))⟩
  | load b z n h =>
    push_cast [tDisp, tPairs, rIn, rDGet2]
    refine rIxT_ok ht4 rfl ⟨three, fun p hp => ⟨_, .inl (SqL.of upd_same), rfl, rfl, ifN (fun c => ?_) ?_⟩⟩
    · have := (three_in (isW.str "load")).mp c
      exact absurd this (by decide +kernel)
    · have S5 := same_new hp (.lst [V.str "add", V.str "sub", V.str "mul"])
      exact rIxT_ok (S5 _ _ ht4) rfl ⟨rfl, ifY (by decide +kernel) (q _ (S4.trans S5))⟩
  | neg b x m h b1 =>
    push_cast [tDisp, tPairs, rIn, rDGet2]
    refine rIxT_ok ht4 rfl ⟨three, fun p hp => ⟨_, .inl (SqL.of upd_same), rfl, rfl, ifN (fun c => ?_) ?_⟩⟩
    · have := (three_in (isW.str "neg")).mp c
      exact absurd this (by decide +kernel)
    · have S5 := same_new hp (.lst [V.str "add", V.str "sub", V.str "mul"])
      refine rIxT_ok (S5 _ _ ht4) rfl ⟨rfl, ifN (by rw [decide_eq_true rfl]; decide) ⟨_, ebv _ S5, rIxT_ok (S5 _ _ ht4) rfl ⟨_, edv _ S5 x _ h, m, rfl, rfl, ?_⟩⟩⟩
      show Q (V.bl (decide (V.int (-m) = V.int (0 - m)))) _
      rw [decide_eq_true (show V.int (-m) = V.int (0 - m) by rw [Int.zero_sub])]
      exact q _ (S4.trans S5)
  | bin z b x y m n hz h1 h2 b1 b2 =>
    push_cast [tDisp, tPairs, rIn, rDGet2]
    refine rIxT_ok ht4 rfl ⟨three, fun p hp => ⟨_, .inl (SqL.of upd_same), rfl, rfl, ifY ((three_in (isW.str z)).mpr hz) fun p1 hp1 => ?_⟩⟩
    have S5 := same_new hp (.lst [V.str "add", V.str "sub", V.str "mul"])
    have S6 := S5.trans (same_new hp1 (.dK []))
    have t6 := S6 _ _ ht4
    refine rIxT_ok t6 rfl ⟨_, edv _ S6 x _ h1, rIxT_ok t6 rfl ⟨_, edv _ S6 y _ h2, m, rfl, n, rfl, rIxT_ok t6 rfl ⟨_, edv _ S6 x _ h1, rIxT_ok t6 rfl ⟨_, edv _ S6 y _ h2, m, rfl, n, rfl, upd_same, kAS m n, rfl, (show (2 : Nat) ≤ 15 by decide), ?_⟩⟩⟩⟩
    have em : mergeK [] (kAS m n) = kAS m n := by rfl
    rw [em, upd_upd]
    have S7 := S5.trans (same_new hp1 (.dK (kAS m n)))
    have t7 := S7 _ _ ht4
    have ev : (valV (kAS m n) (Sum.inr z)).getD (V.int (m * n)) = V.int (opN z m n) := by
      unfold kAS
      have n1 : ¬ (Sum.inr (Str.ofString "add") : Key) = Sum.inr (Str.ofString "sub") := by decide +kernel
      have n2 : ¬ (Sum.inr (Str.ofString "add") : Key) = Sum.inr (Str.ofString "mul") := by decide +kernel
      have n3 : ¬ (Sum.inr (Str.ofString "sub") : Key) = Sum.inr (Str.ofString "mul") := by decide +kernel
      rcases arS_cases (z := z) (by omega) with r | r | r | r
      · rw [r, valV_pos rfl]
        unfold opN
        rw [if_pos rfl]
        rfl
      · rw [r, valV_neg n1, valV_pos rfl]
        unfold opN
        rw [if_neg (by decide +kernel), if_pos rfl]
        rfl
      · rw [r, valV_neg n2, valV_neg n3]
        unfold opN
        rw [if_neg (by decide +kernel), if_neg (by decide +kernel), if_pos rfl]
        rfl
      · rw [r, ar_neg] at hz
        cases hz
    refine ⟨_, ebv _ S7, .inr (.inr (.inl ⟨rfl, .inl ⟨_, upd_same⟩⟩)), rIxT_ok t7 rfl (rIxT_ok t7 rfl ⟨_, edv _ S7 x _ h1, rIxT_ok t7 rfl ⟨_, edv _ S7 y _ h2, m, rfl, n, rfl, ⟨b1, b2⟩, _, DGet.k (k := Sum.inr z) upd_same, ?_⟩⟩)⟩
    rw [ev]
    refine ⟨rfl, ?_⟩
    show Q (V.bl (decide (V.int (opN z m n) = V.int (opN z m n)))) _
    rw [decide_eq_true rfl]
    exact q _ (S4.trans S7)
abbrev sLaw : Stmt := top 26
theorem scLaw : FnScope ["script", "deck", "names", "words", "values", "name", "cell", "step", "way", "rows", "box", "plain", "found", "more"] ["script"] (defScope sLaw) := ⟨rfl, rfl, rfl, by decide +kernel, rfl, by decide +kernel, by decide +kernel⟩
theorem hasLaw {f : Addr} {fd : FuncData} (G : Gs w K mg) (h_law_anew : Has P w K mg base k "_law_anew" ["row", "step"] spAnew) (h_law_between : Has P w K mg base k "_law_between" ["deck", "rows", "far"] spBetw) (h_law_names : Has P w K mg base k "_law_names" ["cell"] spNames6) (h_law_next : Has P w K mg base k "_law_next" ["deck"] spNext) (h_law_rows : Has P w K mg base k "_law_rows" ["words", "way"] spRows) (h_law_same : Has P w K mg base k "_law_same" ["rows", "values", "box", "words"] spSameL) (h_law_term : Has P w K mg base k "_law_term" ["deck", "names", "most"] spTerm) (h_run : Has P w K mg base k "run" ["rows", "values"] (spRun K)) (F : Fun K "law" "law" sLaw f fd) : FnOk P w K mg base CX0 (k + 1) f fd ["script"] (spLaw K) := by
  refine F.ok scLaw (fun vs H Q E h => ?_) (fun cdv A outer s H vs Q E hr h => ?_)
  · obtain ⟨_, _, rfl, _, _, _⟩ := h
    rfl
  have nd := scLaw.nd
  have hu := hu_of hr
  have hu0 := Nat.lt_of_succ_lt hu
  obtain ⟨a, ns, rfl, hL, hl0, q⟩ := h
  have m_dict := G.m_dict
  have m_len := G.m_len
  have m_list := G.m_list
  have m_range := G.m_range
  refine ⟨_, (@pss_cons _ _ _ _ _ (@ps_set _ _ 1 _ _ _ _ nd rfl (by first | exact Or.inl rfl | exact Or.inr rfl) (@pe_lst _ _ _ _ (@pa_cons _ _ _ _ _ (@pe_callTy _ _ _ _ _ _ _ _ _ (@call_list_of _) rfl m_list b_list (@pa_cons _ _ _ _ _ (@pe_slice _ _ _ _ _ _ _ _ _ _ (@sl_list _) (@pvD _ 0 _ _ (by rfl) (by first | exact Or.inl rfl | exact Or.inr (Or.inl rfl) | exact Or.inr (Or.inr rfl)) (by decide) (by decide)) (@po_none _) (@po_some _ _ _ (@pe_int _ _ _ _))) (@pa_nil _) (by rfl)) (by decide) (by decide) (by rfl) (by rfl)) (@pa_cons _ _ _ _ _ (@pe_int _ _ _ _) (@pa_nil _) (by rfl)) (by rfl))) (by rfl) (by first | exact .inl rfl | exact .inr rfl | assumption)) (@pss_cons _ _ _ _ _ (@ps_set _ _ 2 _ _ _ _ nd rfl (by first | exact Or.inl rfl | exact Or.inr rfl) (@pe_has _ _ _ _ _ _ _ _ _ _ h_law_names hr (@pa_cons _ _ _ _ _ (@pe_has _ _ _ _ _ _ _ _ _ _ h_law_next hr (@pa_cons _ _ _ _ _ (@pvD _ 1 _ _ (by rfl) (by first | exact Or.inl rfl | exact Or.inr (Or.inl rfl) | exact Or.inr (Or.inr rfl)) (by decide) (by decide)) (@pa_nil _) (by rfl)) (by rfl) (by decide +kernel) (by rfl) (by rfl)) (@pa_nil _) (by rfl)) (by rfl) (by decide +kernel) (by rfl) (by rfl)) (by rfl) (by first | exact .inl rfl | exact .inr rfl | assumption)) (@pss_cons _ _ _ _ _ (@ps_set _ _ 3 _ _ _ _ nd rfl (by first | exact Or.inl rfl | exact Or.inr rfl) (@pe_has _ _ _ _ _ _ _ _ _ _ h_law_term hr (@pa_cons _ _ _ _ _ (@pvD _ 1 _ _ (by rfl) (by first | exact Or.inl rfl | exact Or.inr (Or.inl rfl) | exact Or.inr (Or.inr rfl)) (by decide) (by decide)) (@pa_cons _ _ _ _ _ (@pvD _ 2 _ _ (by rfl) (by first | exact Or.inl rfl | exact Or.inr (Or.inl rfl) | exact Or.inr (Or.inr rfl)) (by decide) (by decide)) (@pa_cons _ _ _ _ _ (@pe_op _ _ _ _ _ _ _ _ (@op_add _) (@pe_int _ _ _ _) (@pe_op _ _ _ _ _ _ _ _ (@op_mod _) (@pe_has _ _ _ _ _ _ _ _ _ _ h_law_next hr (@pa_cons _ _ _ _ _ (@pvD _ 1 _ _ (by rfl) (by first | exact Or.inl rfl | exact Or.inr (Or.inl rfl) | exact Or.inr (Or.inr rfl)) (by decide) (by decide)) (@pa_nil _) (by rfl)) (by rfl) (by decide +kernel) (by rfl) (by rfl)) (@pe_int _ _ _ _))) (@pa_nil _) (by rfl)) (by rfl)) (by rfl)) (by rfl) (by decide +kernel) (by rfl) (by rfl)) (by rfl) (by first | exact .inl rfl | exact .inr rfl | assumption)) (@pss_cons _ _ _ _ _ (@ps_set _ _ 4 _ _ _ _ nd rfl (by first | exact Or.inl rfl | exact Or.inr rfl) (@pe_dnewK _ _) (by rfl) (by first | exact .inl rfl | exact .inr rfl | assumption)) (@pss_cons _ _ _ _ _ (@ps_for _ _ _ _ _ _ _ _ PassesOwn.never rfl (@pi_list _ _ _ _ (@pvD _ 2 _ _ (by rfl) (by first | exact Or.inl rfl | exact Or.inr (Or.inl rfl) | exact Or.inr (Or.inr rfl)) (by decide) (by decide))) (@pg_name _ _ 5 _ nd rfl (by first | exact Or.inl rfl | exact Or.inr rfl) (by first | exact .inl rfl | exact .inr rfl | assumption)) (@pss_cons _ _ _ _ _ (@ps_set _ _ 6 _ _ _ _ nd rfl (by first | exact Or.inl rfl | exact Or.inr rfl) (@pe_has _ _ _ _ _ _ _ _ _ _ h_law_next hr (@pa_cons _ _ _ _ _ (@pvD _ 1 _ _ (by rfl) (by first | exact Or.inl rfl | exact Or.inr (Or.inl rfl) | exact Or.inr (Or.inr rfl)) (by decide) (by decide)) (@pa_nil _) (by rfl)) (by rfl) (by decide +kernel) (by rfl) (by rfl)) (by rfl) (by first | exact .inl rfl | exact .inr rfl | assumption)) (@pss_one _ _ _ (@ps_dput _ _ _ _ _ _ _ _ _ hu (@pvD _ 4 _ _ (by rfl) (by first | exact Or.inl rfl | exact Or.inr (Or.inl rfl) | exact Or.inr (Or.inr rfl)) (by decide) (by decide)) (@pvD _ 5 _ _ (by rfl) (by first | exact Or.inl rfl | exact Or.inr (Or.inl rfl) | exact Or.inr (Or.inr rfl)) (by decide) (by decide)) (@pe_ix _ _ _ _ _ _ _ (@ix_list _) (@pe_lst _ _ _ _ (@pa_cons _ _ _ _ _ (@pe_op _ _ _ _ _ _ _ _ (@op_sub _) (@pe_op _ _ _ _ _ _ _ _ (@op_mod _) (@pe_op _ _ _ _ _ _ _ _ (@op_fdiv _) (@pvD _ 6 _ _ (by rfl) (by first | exact Or.inl rfl | exact Or.inr (Or.inl rfl) | exact Or.inr (Or.inr rfl)) (by decide) (by decide)) (@pe_int _ _ _ _)) (@pe_int _ _ _ _)) (@pe_int _ _ _ _)) (@pa_cons _ _ _ _ _ (@pe_op _ _ _ _ _ _ _ _ (@op_mod _) (@pe_op _ _ _ _ _ _ _ _ (@op_fdiv _) (@pvD _ 6 _ _ (by rfl) (by first | exact Or.inl rfl | exact Or.inr (Or.inl rfl) | exact Or.inr (Or.inr rfl)) (by decide) (by decide)) (@pe_int _ _ _ _)) (@pe_op _ _ _ _ _ _ _ _ (@op_pow _) (@pe_int _ _ _ _) (@pe_int _ _ _ _))) (@pa_cons _ _ _ _ _ (@pe_op _ _ _ _ _ _ _ _ (@op_sub _) (@pe_int _ _ _ _) (@pe_op _ _ _ _ _ _ _ _ (@op_mod _) (@pe_op _ _ _ _ _ _ _ _ (@op_fdiv _) (@pvD _ 6 _ _ (by rfl) (by first | exact Or.inl rfl | exact Or.inr (Or.inl rfl) | exact Or.inr (Or.inr rfl)) (by decide) (by decide)) (@pe_int _ _ _ _)) (@pe_op _ _ _ _ _ _ _ _ (@op_pow _) (@pe_int _ _ _ _) (@pe_int _ _ _ _)))) (@pa_nil _) (by rfl)) (by rfl)) (by rfl))) (@pe_op _ _ _ _ _ _ _ _ (@op_mod _) (@pvD _ 6 _ _ (by rfl) (by first | exact Or.inl rfl | exact Or.inr (Or.inl rfl) | exact Or.inr (Or.inr rfl)) (by decide) (by decide)) (@pe_int _ _ _ _)) (fun _ _ => rfl)) rfl))) (by intro _; rfl)) (@pss_cons _ _ _ _ _ (@ps_set _ _ 7 _ _ _ _ nd rfl (by first | exact Or.inl rfl | exact Or.inr rfl) (@pe_op _ _ _ _ _ _ _ _ (@op_add _) (@pe_int _ _ _ _) (@pe_op _ _ _ _ _ _ _ _ (@op_mod _) (@pe_has _ _ _ _ _ _ _ _ _ _ h_law_next hr (@pa_cons _ _ _ _ _ (@pvD _ 1 _ _ (by rfl) (by first | exact Or.inl rfl | exact Or.inr (Or.inl rfl) | exact Or.inr (Or.inr rfl)) (by decide) (by decide)) (@pa_nil _) (by rfl)) (by rfl) (by decide +kernel) (by rfl) (by rfl)) (@pe_op _ _ _ _ _ _ _ _ (@op_pow _) (@pe_int _ _ _ _) (@pe_int _ _ _ _)))) (by rfl) (by first | exact .inl rfl | exact .inr rfl | assumption)) (@pss_cons _ _ _ _ _ (@ps_for _ _ _ _ _ _ _ _ PassesOwn.never rfl (@pi_range1 _ _ _ _ _ _ rfl m_range (@pa_cons _ _ _ _ _ (@pe_int _ _ _ _) (@pa_nil _) (by rfl)) (by rfl)) (@pg_name _ _ 8 _ nd rfl (by first | exact Or.inl rfl | exact Or.inr rfl) (by first | exact .inl rfl | exact .inr rfl | assumption)) (@pss_cons _ _ _ _ _ (@ps_asg _ _ _ _ _ _ (@pe_has _ _ _ _ _ _ _ _ _ _ h_law_rows hr (@pa_cons _ _ _ _ _ (@pvD _ 3 _ _ (by rfl) (by first | exact Or.inl rfl | exact Or.inr (Or.inl rfl) | exact Or.inr (Or.inr rfl)) (by decide) (by decide)) (@pa_cons _ _ _ _ _ (@pvD _ 8 _ _ (by rfl) (by first | exact Or.inl rfl | exact Or.inr (Or.inl rfl) | exact Or.inr (Or.inr rfl)) (by decide) (by decide)) (@pa_nil _) (by rfl)) (by rfl)) (by rfl) (by decide +kernel) (by rfl) (by rfl)) (@pg_lst _ _ _ _ _ _ rfl (@pgs_cons _ _ _ _ _ (@pg_name _ _ 9 _ nd rfl (by first | exact Or.inl rfl | exact Or.inr rfl) (by first | exact .inl rfl | exact .inr rfl | assumption)) (@pgs_cons _ _ _ _ _ (@pg_name _ _ 10 _ nd rfl (by first | exact Or.inl rfl | exact Or.inr rfl) (by first | exact .inl rfl | exact .inr rfl | assumption)) (@pgs_nil _) (by rfl)) (by rfl)) (by rfl) (by rfl)) (by rfl) (by rfl) (by rfl)) (@pss_cons _ _ _ _ _ (@ps_if _ _ _ _ _ _ _ _ (@pt_not _ _ _ _ (@pt_val _ _ _ (@pe_has _ _ _ _ _ _ _ _ _ _ h_law_same hr (@pa_cons _ _ _ _ _ (@pvD _ 9 _ _ (by rfl) (by first | exact Or.inl rfl | exact Or.inr (Or.inl rfl) | exact Or.inr (Or.inr rfl)) (by decide) (by decide)) (@pa_cons _ _ _ _ _ (@pvD _ 4 _ _ (by rfl) (by first | exact Or.inl rfl | exact Or.inr (Or.inl rfl) | exact Or.inr (Or.inr rfl)) (by decide) (by decide)) (@pa_cons _ _ _ _ _ (@pvD _ 10 _ _ (by rfl) (by first | exact Or.inl rfl | exact Or.inr (Or.inl rfl) | exact Or.inr (Or.inr rfl)) (by decide) (by decide)) (@pa_cons _ _ _ _ _ (@pvD _ 3 _ _ (by rfl) (by first | exact Or.inl rfl | exact Or.inr (Or.inl rfl) | exact Or.inr (Or.inr rfl)) (by decide) (by decide)) (@pa_nil _) (by rfl)) (by rfl)) (by rfl)) (by rfl)) (by rfl) (by decide +kernel) (by rfl) (by rfl)) (by intro _; rfl))) (@pss_one _ _ _ (@ps_ret _ _ _ _ (@pe_bl _ _ _ _))) (@pss_nil _)) (@pss_cons _ _ _ _ _ (@ps_set _ _ 11 _ _ _ _ nd rfl (by first | exact Or.inl rfl | exact Or.inr rfl) (@pe_has _ _ _ _ _ _ _ _ _ _ h_run hr (@pa_cons _ _ _ _ _ (@pvD _ 9 _ _ (by rfl) (by first | exact Or.inl rfl | exact Or.inr (Or.inl rfl) | exact Or.inr (Or.inr rfl)) (by decide) (by decide)) (@pa_cons _ _ _ _ _ (@pvD _ 4 _ _ (by rfl) (by first | exact Or.inl rfl | exact Or.inr (Or.inl rfl) | exact Or.inr (Or.inr rfl)) (by decide) (by decide)) (@pa_nil _) (by rfl)) (by rfl)) (by rfl) (by decide +kernel) (by rfl) (by rfl)) (by rfl) (by first | exact .inl rfl | exact .inr rfl | assumption)) (@pss_cons _ _ _ _ _ (@ps_set _ _ 12 _ _ _ _ nd rfl (by first | exact Or.inl rfl | exact Or.inr rfl) (@pe_has _ _ _ _ _ _ _ _ _ _ h_run hr (@pa_cons _ _ _ _ _ (@pe_lc _ _ _ _ _ _ _ _ _ _ _ _ _ _ _ (@ClOk.mk _ _ ["row"] ["step"] [7] _ rfl rfl rfl rfl (And.intro rfl trivial) rfl (And.intro (And.intro rfl (And.intro rfl rfl)) trivial)) rfl (@pi_list _ _ _ _ (@pvD _ 9 _ _ (by rfl) (by first | exact Or.inl rfl | exact Or.inr (Or.inl rfl) | exact Or.inr (Or.inr rfl)) (by decide) (by decide))) (fun _ _ _ => (@pg_name _ _ 0 _ (show List.Nodup (["row", "step"] : List Str) by decide +kernel) rfl (Or.inl rfl) (by first | exact .inl rfl | exact .inr rfl | assumption))) (fun _ _ _ => (@pif0 _)) (fun _ _ _ => (@pe_has _ _ _ _ _ _ _ _ _ _ h_law_anew hr (@pa_cons _ _ _ _ _ (@pvD _ 0 _ _ (by rfl) (by first | exact Or.inl rfl | exact Or.inr (Or.inl rfl) | exact Or.inr (Or.inr rfl)) (by decide) (by decide)) (@pa_cons _ _ _ _ _ (@pvD _ 1 _ _ (by rfl) (by first | exact Or.inl rfl | exact Or.inr (Or.inl rfl) | exact Or.inr (Or.inr rfl)) (by decide) (by decide)) (@pa_nil _) (by rfl)) (by rfl)) (by rfl) (by decide +kernel) (by rfl) (by rfl))) (by intro _; rfl)) (@pa_cons _ _ _ _ _ (@pvD _ 4 _ _ (by rfl) (by first | exact Or.inl rfl | exact Or.inr (Or.inl rfl) | exact Or.inr (Or.inr rfl)) (by decide) (by decide)) (@pa_nil _) (by rfl)) (by rfl)) (by rfl) (by decide +kernel) (by rfl) (by rfl)) (by rfl) (by first | exact .inl rfl | exact .inr rfl | assumption)) (@pss_cons _ _ _ _ _ (@ps_if _ _ _ _ _ _ _ _ (@pt_cmpR _ _ _ _ _ _ _ _ (@op_neD _ hu0) (@pvD _ 12 _ _ (by rfl) (by first | exact Or.inl rfl | exact Or.inr (Or.inl rfl) | exact Or.inr (Or.inr rfl)) (by decide) (by decide)) (@pe_callTy _ _ _ _ _ _ _ _ _ (@call_dictL _) rfl m_dict b_dict (@pa_cons _ _ _ _ _ (@pe_thaw _ _ _ (@pe_lc _ _ _ _ _ _ _ _ _ _ _ _ _ _ _ (@ClOk.mk _ _ ["one"] ["step", "plain"] [7, 11] _ rfl rfl rfl rfl (And.intro rfl (And.intro rfl trivial)) rfl (And.intro (And.intro rfl (And.intro rfl rfl)) (And.intro (And.intro rfl (And.intro rfl rfl)) trivial))) rfl (@pi_dict _ _ _ _ (@pvD _ 11 _ _ (by rfl) (by first | exact Or.inl rfl | exact Or.inr (Or.inl rfl) | exact Or.inr (Or.inr rfl)) (by decide) (by decide))) (fun _ _ _ => (@pg_name _ _ 0 _ (show List.Nodup (["one", "step", "plain"] : List Str) by decide +kernel) rfl (Or.inl rfl) (by first | exact .inl rfl | exact .inr rfl | assumption))) (fun _ _ _ => (@pif0 _)) (fun _ _ _ => (@pe_tup _ _ _ _ _ (@pa_cons _ _ _ _ _ (@pe_op _ _ _ _ _ _ _ _ (@op_add _) (@pe_op _ _ _ _ _ _ _ _ (@op_mul _) (@pvD _ 0 _ _ (by rfl) (by first | exact Or.inl rfl | exact Or.inr (Or.inl rfl) | exact Or.inr (Or.inr rfl)) (by decide) (by decide)) (@pvD _ 1 _ _ (by rfl) (by first | exact Or.inl rfl | exact Or.inr (Or.inl rfl) | exact Or.inr (Or.inr rfl)) (by decide) (by decide))) (@pe_int _ _ _ _)) (@pa_cons _ _ _ _ _ (@pe_dget _ _ _ _ _ _ hu (@pvD _ 2 _ _ (by rfl) (by first | exact Or.inl rfl | exact Or.inr (Or.inl rfl) | exact Or.inr (Or.inr rfl)) (by decide) (by decide)) (@pvD _ 0 _ _ (by rfl) (by first | exact Or.inl rfl | exact Or.inr (Or.inl rfl) | exact Or.inr (Or.inr rfl)) (by decide) (by decide)) (fun _ _ => rfl)) (@pa_nil _) (by rfl)) (by rfl)))) (by intro _; rfl))) (@pa_nil _) (by rfl)) (by decide) (by decide) (by rfl) (by rfl)) (@nomark _ _ (by decide) (by decide))) (@pss_one _ _ _ (@ps_ret _ _ _ _ (@pe_bl _ _ _ _))) (@pss_nil _)) (@pss_cons _ _ _ _ _ (@ps_set _ _ 13 _ _ _ _ nd rfl (by first | exact Or.inl rfl | exact Or.inr rfl) (@pe_has _ _ _ _ _ _ _ _ _ _ h_run hr (@pa_cons _ _ _ _ _ (@pe_has _ _ _ _ _ _ _ _ _ _ h_law_between hr (@pa_cons _ _ _ _ _ (@pvD _ 1 _ _ (by rfl) (by first | exact Or.inl rfl | exact Or.inr (Or.inl rfl) | exact Or.inr (Or.inr rfl)) (by decide) (by decide)) (@pa_cons _ _ _ _ _ (@pvD _ 9 _ _ (by rfl) (by first | exact Or.inl rfl | exact Or.inr (Or.inl rfl) | exact Or.inr (Or.inr rfl)) (by decide) (by decide)) (@pa_cons _ _ _ _ _ (@pe_int _ _ _ _) (@pa_nil _) (by rfl)) (by rfl)) (by rfl)) (by rfl) (by decide +kernel) (by rfl) (by rfl)) (@pa_cons _ _ _ _ _ (@pvD _ 4 _ _ (by rfl) (by first | exact Or.inl rfl | exact Or.inr (Or.inl rfl) | exact Or.inr (Or.inr rfl)) (by decide) (by decide)) (@pa_nil _) (by rfl)) (by rfl)) (by rfl) (by decide +kernel) (by rfl) (by rfl)) (by rfl) (by first | exact .inl rfl | exact .inr rfl | assumption)) (@pss_cons _ _ _ _ _ (@ps_if _ _ _ _ _ _ _ _ (@pt_cmpR _ _ _ _ _ _ _ _ (@op_neK _ hu0) (@pe_thaw _ _ _ (@pe_lc _ _ _ _ _ _ _ _ _ _ _ _ _ _ _ (@ClOk.mk _ _ ["one"] ["plain", "more"] [11, 13] _ rfl rfl rfl rfl (And.intro rfl (And.intro rfl trivial)) rfl (And.intro (And.intro rfl (And.intro rfl rfl)) (And.intro (And.intro rfl (And.intro rfl rfl)) trivial))) rfl (@pi_dict _ _ _ _ (@pvD _ 13 _ _ (by rfl) (by first | exact Or.inl rfl | exact Or.inr (Or.inl rfl) | exact Or.inr (Or.inr rfl)) (by decide) (by decide))) (fun _ _ _ => (@pg_name _ _ 0 _ (show List.Nodup (["one", "plain", "more"] : List Str) by decide +kernel) rfl (Or.inl rfl) (by first | exact .inl rfl | exact .inr rfl | assumption))) (fun _ _ _ => (@pif1 _ _ _ (@PW.pt _ _ _ (@pw_and _ _ _ _ _ _ _ (@pt_cmpR _ _ _ _ _ _ _ _ (@op_lt _) (@pvD _ 0 _ _ (by rfl) (by first | exact Or.inl rfl | exact Or.inr (Or.inl rfl) | exact Or.inr (Or.inr rfl)) (by decide) (by decide)) (@pe_int _ _ _ _) (@nomark _ _ (by decide) (by decide))) (@pw_and1 _ _ _ _ (@PW.pt _ _ _ (@pw_or _ _ _ _ _ _ _ (@pt_cmp _ _ _ _ _ _ (@pc_dnotin _ _ _ _ _ hu (@pvD _ 0 _ _ (by rfl) (by first | exact Or.inl rfl | exact Or.inr (Or.inl rfl) | exact Or.inr (Or.inr rfl)) (by decide) (by decide)) (@pvD _ 1 _ _ (by rfl) (by first | exact Or.inl rfl | exact Or.inr (Or.inl rfl) | exact Or.inr (Or.inr rfl)) (by decide) (by decide))) (by first | exact nobehind _ (by decide) (by decide) | rfl)) (@pw_or1 _ _ _ _ (@pt_cmpR _ _ _ _ _ _ _ _ (@op_ne _) (@pe_dget _ _ _ _ _ _ hu (@pvD _ 2 _ _ (by rfl) (by first | exact Or.inl rfl | exact Or.inr (Or.inl rfl) | exact Or.inr (Or.inr rfl)) (by decide) (by decide)) (@pvD _ 0 _ _ (by rfl) (by first | exact Or.inl rfl | exact Or.inr (Or.inl rfl) | exact Or.inr (Or.inr rfl)) (by decide) (by decide)) (fun _ _ => rfl)) (@pe_dget _ _ _ _ _ _ hu (@pvD _ 1 _ _ (by rfl) (by first | exact Or.inl rfl | exact Or.inr (Or.inl rfl) | exact Or.inr (Or.inr rfl)) (by decide) (by decide)) (@pvD _ 0 _ _ (by rfl) (by first | exact Or.inl rfl | exact Or.inr (Or.inl rfl) | exact Or.inr (Or.inr rfl)) (by decide) (by decide)) (fun _ _ => rfl)) (@nomark _ _ (by decide) (by decide))))))))))) (fun _ _ _ => (@pvD _ 0 _ _ (by rfl) (by first | exact Or.inl rfl | exact Or.inr (Or.inl rfl) | exact Or.inr (Or.inr rfl)) (by decide) (by decide))) (by intro _; rfl))) (@pe_lst _ _ _ _ (@pa_nil _)) (@nomark _ _ (by decide) (by decide))) (@pss_one _ _ _ (@ps_ret _ _ _ _ (@pe_bl _ _ _ _))) (@pss_nil _)) (@pss_one _ _ _ (@ps_if _ _ _ _ _ _ _ _ (@pt_cmpR _ _ _ _ _ _ _ _ (@op_ne _) (@pe_callB _ _ _ _ _ _ _ _ _ (@call_len_seq _) rfl m_len b_len (@pa_cons _ _ _ _ _ (@pe_thaw _ _ _ (@pe_lc _ _ _ _ _ _ _ _ _ _ _ _ _ _ _ (@ClOk.mk _ _ ["one"] [] [] _ rfl rfl rfl rfl trivial rfl trivial) rfl (@pi_dict _ _ _ _ (@pvD _ 13 _ _ (by rfl) (by first | exact Or.inl rfl | exact Or.inr (Or.inl rfl) | exact Or.inr (Or.inr rfl)) (by decide) (by decide))) (fun _ _ _ => (@pg_name _ _ 0 _ (show List.Nodup (["one"] : List Str) by decide +kernel) rfl (Or.inl rfl) (by first | exact .inl rfl | exact .inr rfl | assumption))) (fun _ _ _ => (@pif1 _ _ _ (@pt_cmpR _ _ _ _ _ _ _ _ (@op_lt _) (@pvD _ 0 _ _ (by rfl) (by first | exact Or.inl rfl | exact Or.inr (Or.inl rfl) | exact Or.inr (Or.inr rfl)) (by decide) (by decide)) (@pe_int _ _ _ _) (@nomark _ _ (by decide) (by decide))))) (fun _ _ _ => (@pvD _ 0 _ _ (by rfl) (by first | exact Or.inl rfl | exact Or.inr (Or.inl rfl) | exact Or.inr (Or.inr rfl)) (by decide) (by decide))) (by intro _; rfl))) (@pa_nil _) (by rfl)) (by decide) (by decide) (by rfl) (by rfl)) (@pe_callB _ _ _ _ _ _ _ _ _ (@call_lenD _) rfl m_len b_len (@pa_cons _ _ _ _ _ (@pvD _ 11 _ _ (by rfl) (by first | exact Or.inl rfl | exact Or.inr (Or.inl rfl) | exact Or.inr (Or.inr rfl)) (by decide) (by decide)) (@pa_nil _) (by rfl)) (by decide) (by decide) (by rfl) (by rfl)) (@nomark _ _ (by decide) (by decide))) (@pss_one _ _ _ (@ps_ret _ _ _ _ (@pe_bl _ _ _ _))) (@pss_nil _)))))))))) (by intro _; rfl)) (@pss_one _ _ _ (@ps_ret _ _ _ _ (@pe_bl _ _ _ _)))))))))), ?_⟩
  rw [show start ["script", "deck", "names", "words", "values", "name", "cell", "step", "way", "rows", "box", "plain", "found", "more"] [.ref a] = [some (.ref a), none, none, none, none, none, none, none, none, none, none, none, none, none] from rfl]
  push_cast [spAnew, spBetw, spNames6, spNext, spRows, spSameL, spTerm, spRun]
  have sz := sizeLine_eq
  have e30 : (10 : Int) ^ Int.toNat 30 = 1000000000000000000000000000000 := by decide +kernel
  have e40 : (10 : Int) ^ Int.toNat 40 = 10000000000000000000000000000000000000000 := by decide +kernel
  have e100 : (2 : Nat) ^ 100 = 1267650600228229401496703205376 := by decide +kernel
  obtain ⟨ms, em, hms⟩ := cut_ints ns none (some 90)
  refine ⟨_, hL, fun p hp => ⟨_, .inl (SqL.of upd_same), fun l0 hl0' => ⟨by show (2 : Nat) ≤ sizeLine; decide, fun d hd => ?_⟩⟩⟩
  rw [em] at hd hl0' ⊢
  have hDk : Deck (upd (upd (upd H p (.lst (ms.map V.int))) l0 (.lst (ms.map V.int))) d (.lst [.ref l0, .int 0])) d l0 ms 0 := ⟨upd_same, same_new hd _ _ _ upd_same⟩
  refine ⟨l0, ms, 0, hDk, by omega, fun c H1 s1 d1 nl H2 zs h6 hzs s2 hnl => ?_⟩
  have D1 : Deck H1 d l0 ms (0 + 1) := hDk.next s1 d1
  have D2 := D1.same s2
  have nnd : nl ≠ d := ne_of hnl D2.1 (by intro e; match zs, h6, e with | [_, _, _, _, _, _], _, e => cases e)
  have hz0 : ∀ z ∈ zs, arS z = 0 := fun z hz => (hzs z hz).1
  refine ⟨l0, ms, 1, D2, by omega, fun c2 H3 s3 d3 => ?_⟩
  have D3 := D2.next s3 d3
  refine ⟨l0, ms, zs, (1 + c2 % 40).toNat, by omega, 1 + 1, D3, s3 _ _ nnd hnl, h6, hz0, by omega, by omega, by omega, fun t n1 H4 ws s4 d4 l4 htn ht4 hT => ?_⟩
  have hT : TT' zs 40 ws := ⟨hT.word, hT.one, Nat.le_trans hT.len (by omega)⟩
  have B4 := s3.trans s4
  have D4 := D2.next B4 d4
  have ntd : t ≠ d := ne_of ht4 d4 (by intro e; cases e)
  intro vd hvd
  have nvd : vd ≠ d := (ne_of_none d4 hvd).symm
  have nvt : vd ≠ t := (ne_of_none ht4 hvd).symm
  refine ⟨⟨_, SqL.of (same_new hvd _ _ _ (B4 _ _ nnd hnl))⟩, forW_list (xs := zs.map V.str) (fun i σ H' => ∃ (kvs : List (Key × V)) (v5 v6 : Option V), σ = [some (.ref a), some (.ref d), some (.ref nl), some (.ref t), some (.ref vd), v5, v6, none, none, none, none, none, none, none] ∧ SameB d H4 H' ∧ H' d = some (.lst [.ref l0, .int ((n1 + i : Nat) : Int)]) ∧ H' vd = some (.dK kvs) ∧ VOk zs i kvs ∧ kvs.length ≤ i) ⟨[], none, none, rfl, (SameB.refl _ _).upd hvd _, same_new hvd _ _ _ d4, upd_same, ⟨fun _ h => (nomatch h), fun _ h => (nomatch h)⟩, Nat.le_refl _⟩ (fun i σ H' _ h => ?_) ?_ ?_⟩
  · obtain ⟨_, _, _, _, s8, _⟩ := h
    exact SqL.of (s8 _ _ nnd (B4 _ _ nnd hnl))
  · rintro i x σ H' hxx ⟨kvs, v5, v6, rfl, s8, d8, hv8, hok, hkl⟩
    rw [List.getElem?_map] at hxx
    obtain ⟨z, hz, rfl⟩ := Option.map_eq_some_iff.mp hxx
    have hi : i < 6 := by
      have := (List.getElem?_eq_some_iff.mp hz).1
      omega
    push_cast [spNext]
    refine ⟨l0, ms, n1 + i, D4.next s8 d8, by omega, fun c H5 s9 d9 => ?_⟩
    rw [e30]
    refine ⟨⟨by decide, by decide, by decide⟩, by decide, ⟨by decide, by decide, by decide⟩, by decide, by show (3 : Nat) ≤ sizeLine; decide, fun p hp => ?_⟩
    obtain ⟨v, hv, hm⟩ := atI_in [V.int (c / 3 % 9 - 4), V.int (c / 3 % 1000000000000000000000000000000), V.int (0 - c / 3 % 1000000000000000000000000000000)] (c % 3) (Int.emod_nonneg _ (by decide)) (by show c % 3 < 3; omega)
    refine rIxL_ok upd_same hv ?_
    have go : ∀ m : Int, m.natAbs < 2 ^ 100 → ∃ x, DPut (upd H5 p (.lst [V.int (c / 3 % 9 - 4), V.int (c / 3 % 1000000000000000000000000000000), V.int (0 - c / 3 % 1000000000000000000000000000000)])) vd (V.str z) (.int m) x ∧ SameB d H4 x ∧ x d = some (HO.lst [V.ref l0, V.int ((n1 + (i + 1) : Nat) : Int)]) ∧ ∃ x_1, x vd = some (HO.dK x_1) ∧ VOk zs (i + 1) x_1 ∧ x_1.length ≤ i + 1 := fun m hm => by
      have hv9 := same_new hp (.lst [V.int (c / 3 % 9 - 4), V.int (c / 3 % 1000000000000000000000000000000), V.int (0 - c / 3 % 1000000000000000000000000000000)]) _ _ (s9 _ _ nvd hv8)
      refine ⟨_, DPut.k (k := Sum.inr z) hv9 (by omega), ((s8.trans s9).trans (SameB.of (same_new hp _))).upd hvd _, by rw [upd_ne nvd.symm]; exact same_new hp _ _ _ d9, _, upd_same, hok.put hz hm, ?_⟩
      have := length_putK kvs (Sum.inr z) (V.int m)
      omega
    rw [e100] at go
    simp only [List.mem_cons, List.not_mem_nil, or_false] at hm
    rcases hm with rfl | rfl | rfl
    · exact go _ (by omega)
    · exact go _ (by omega)
    · exact go _ (by omega)
  · rintro σ H' ⟨kvs, v5, v6, rfl, s8, d8, hv8, hok, hkl⟩
    rw [List.length_map, h6] at hok d8 hkl
    obtain ⟨ρ, hV, hsm⟩ := hok.rho (by omega)
    have hO : WsOk ρ ws := ⟨hT.vals hsm, hT.one, hT.len⟩
    push_cast [spNext]
    refine ⟨l0, ms, n1 + 6, D4.next s8 d8, by omega, fun c3 H5 s5 d5 => ⟨⟨by decide, by decide, by decide⟩, by rw [e40]; decide, ?_⟩⟩
    have D5 := (D4.next s8 d8).next s5 d5
    have ht5 := s5 _ _ ntd (s8 _ _ ntd ht4)
    have hv5 := s5 _ _ nvd hv8
    rw [e40]
    have st1 : 1 ≤ 1 + c3 % 10000000000000000000000000000000000000000 := by omega
    have st2 : 1 + c3 % 10000000000000000000000000000000000000000 ≤ 10000000000000000000000000000000000000000 := by omega
    generalize 1 + c3 % 10000000000000000000000000000000000000000 = step at st1 st2 ⊢
    refine forW_range (lo := 0) (fun k σ H' => ∃ (v8 v9 v10 v11 v12 v13 : Option V) (n : Nat), σ = [some (.ref a), some (.ref d), some (.ref nl), some (.ref t), some (.ref vd), v5, v6, some (.int step), v8, v9, v10, v11, v12, v13] ∧ SameB d H5 H' ∧ H' d = some (.lst [.ref l0, .int (n : Int)]) ∧ n ≤ n1 + 7 + 40 * k) ⟨none, none, none, none, none, none, _, rfl, SameB.refl _ _, d5, by omega⟩ ?_ ?_
    · rintro k σ H' hk ⟨v8, v9, v10, v11, v12, v13, n, rfl, s6, d6, ln⟩
      have hk3 : k < 3 := hk
      push_cast [spRows]
      refine ⟨ws, k, by omega, s6 _ _ ntd ht5, by omega, kvs, ρ, hV, hO, fun l rl rs ts fs box H6 s7 hl6 hrl6 hI hR hfl hbx hb => ?_⟩
      have B6 := s6.trans (SameB.of s7)
      have nrd : rl ≠ d := ne_of hrl6 (s7 _ _ d6) (by
        intro e
        have e : rs = [.ref l0, .int (n : Int)] := HO.lst.inj e
        obtain ⟨a, ea⟩ := hI.refs (.int (n : Int)) (by rw [e]; exact List.mem_cons_of_mem _ List.mem_cons_self)
        cases ea)
      have ht6 := B6 _ _ ntd ht5
      have hv6 := B6 _ _ nvd hv5
      have d6' := s7 _ _ d6
      refine ⟨l, _, rfl, SqL.of hl6, rfl, _, _, rfl, _, _, rfl, rfl, ?_⟩
      push_cast [spSameL]
      refine ⟨rs, hrl6, ts, hI, fs, kvs, hv6, ρ, hV, hR, ws, hfl, hbx, ht6, hO, fun H7 s8' => ?_⟩
      refine ifN (by decide) ?_
      unfold spRun
      have lrs : rs.length = fs.length := hI.1.trans hR.1
      have l40 : fs.length ≤ 40 := by rw [hfl]; exact hT.len
      have finj : ∀ x y : Int, x * step + 5 = y * step + 5 → x = y := fun x y e => Int.eq_of_mul_eq_mul_right (a := step) (by omega) (by omega)
      have emap : ∀ gs : List (Int × Int), boxes (gs.map fun p => (p.1 * step + 5, p.2)) = (boxes gs).map fun p => (reK (fun x => x * step + 5) p.1, p.2) := fun gs => boxes_map finj gs
      refine ⟨rl, vd, rs, ts, fs, kvs, rfl, SqL.of (s8' _ _ hrl6), by omega, hI.same s8', s8' _ _ hv6, hR, fun pl H8 s9 _ hpl => ⟨⟨_, SqL.of (s9 _ _ (s8' _ _ hrl6))⟩, fun D hD => ?_⟩⟩
      have S8 := s8'.trans s9
      refine lc_listH (fun i ys Hx => ∃ ts', RowsIn Hx ys ts' ∧ RunsAt kvs ts' ((fs.take i).map fun p => (p.1 * step + 5, p.2))) (fun i ys Ha Hb tk h => ?_) (SqL.of (S8 _ _ hrl6)) (by omega) hD ⟨[], RowsIn.nil _, RunsAt.nil _⟩ (fun i x ys Hx G' K' hx hP hl2 hS hG hK => ?_) fun ys H9 hP hl2 hS hD2 => ?_
      · obtain ⟨ts', h1, h2⟩ := h
        exact ⟨ts', ⟨h1.1, fun i t ht => by obtain ⟨a, e1, e2⟩ := h1.2 i t ht; exact ⟨a, e1, tk _ _ e2⟩⟩, h2⟩
      · have hi : i < fs.length := by rw [← lrs]; exact (List.getElem?_eq_some_iff.mp hx).1
        obtain ⟨tr, e1, row⟩ := hR.2 i fs[i] (List.getElem?_eq_getElem hi)
        obtain ⟨ra, e2, hta⟩ := hI.2 i tr e1
        rw [hx] at e2
        cases e2
        obtain ⟨ts', hI', hR'⟩ := hP
        have hb' := hb fs[i] (List.getElem_mem hi)
        push_cast [and_true]
        unfold spAnew
        refine ⟨ra, tr, step, kvs, boxes (fs.take i), fs[i].1, fs[i].2, rfl, hS _ _ (S8 _ _ hta), row, by omega, fun x v hv => ?_, fun t' ts2 H' s' h' hr => hK _ _ s' ⟨_, (hI'.same s').snoc h', ?_⟩⟩
        · obtain ⟨p, hp, e⟩ := boxes_key hv
          have := hb p (List.mem_of_mem_take hp)
          omega
        · rw [List.take_add_one, List.getElem?_eq_getElem hi, List.map_append]
          refine hR'.snoc (hr _ fun x m hv => ?_)
          rw [emap]
          exact (valV_map (reK_inj finj) (Sum.inl x) _).trans hv
      · obtain ⟨ts', hI', hR'⟩ := hP
        rw [lrs, List.take_length] at hR'
        have S9 := S8.trans hS
        refine ⟨D, vd, ys, ts', _, kvs, rfl, SqL.of hD2, by omega, hI', S9 _ _ hv6, hR', fun fl HA sA _ hfA => ?_⟩
        have SA := S9.trans sA
        have hplA := sA _ _ (hS _ _ hpl)
        refine ⟨pl, boxes fs, hplA, ?_⟩
        push_cast [and_true]
        have lbx := boxes_len fs
        refine ⟨pl, boxes fs, rfl, hplA, fun o D2 hD2' => lc_dictH (fun i ys Hx => RowsIn Hx ys (((boxes fs).take i).map fun p : Key × V => [kV (reK (fun x => x * step + 5) p.1), p.2])) (fun i ys Ha Hb tk h => ⟨h.1, fun i t ht => by obtain ⟨a, e1, e2⟩ := h.2 i t ht; exact ⟨a, e1, tk _ _ e2⟩⟩) upd_same (by omega) hD2' (RowsIn.nil _) (fun i k' v ys Hx G' K' hk' hP hl2 hS2 hG hK => ?_) fun ys HB hP hl2 hS2 hD3 => ?_⟩
        · obtain ⟨b', m, e⟩ := boxes_int fs (k', v) (List.mem_of_getElem? hk')
          cases e
          have hfz := hS2 _ _ (upd_same (H := HA) (a := pl))
          have hdg : DGet Hx pl (V.int b') (some (.int m)) := by
            rw [← valV_at (boxes_nd fs) (List.mem_of_getElem? hk')]
            exact .inl ⟨boxes fs, Sum.inl b', .inr ⟨o, hfz⟩, rfl, rfl⟩
          push_cast [and_true]
          refine ⟨b', rfl, ?_, _, hdg, by show (2 : Nat) ≤ sizeLine; decide, fun p hp => hK _ _ (same_new hp _) ?_⟩
          · obtain ⟨q', hq', e'⟩ := boxes_key (valV_at (boxes_nd fs) (List.mem_of_getElem? hk'))
            have := hb q' hq'
            exact .inl ⟨by omega, by omega⟩
          · rw [List.take_add_one, hk', List.map_append]
            exact (hP.same (same_new hp _)).snoc upd_same
        · rw [List.take_length] at hP
          have npD : D2 ≠ pl := (ne_of_none upd_same hD2').symm
          have hfz := hS2 _ _ (upd_same (H := HA) (a := pl))
          have SC : Same HA (upd HB pl (.dK (boxes fs))) := fun b' u hb' => by
            by_cases e : b' = pl
            · rw [e, hplA] at hb'
              rw [e, upd_same]
              exact hb'
            · rw [upd_ne e]
              exact hS2 _ _ (by rw [upd_ne e]; exact hb')
          have hP := hP.put hfz (fun t e => by cases e) (.dK (boxes fs))
          refine ⟨⟨o, hfz⟩, rfl, ys, by rw [upd_ne npD]; exact hD3, (boxes fs).map (fun p => (reK (fun x => x * step + 5) p.1, p.2)), by rw [List.length_map]; have := hP.1; rw [List.length_map] at this; exact this, fun i p hp => hP.2 i _ (by rw [List.getElem?_map] at hp ⊢; obtain ⟨y, hy, rfl⟩ := Option.map_eq_some_iff.mp hp; rw [hy]; rfl), fun d1 hd1 => ?_⟩
          have emg := mergeV_app (boxes (fs.map fun p => (p.1 * step + 5, p.2))) [] (boxes_nd _)
          rw [List.nil_append] at emg
          rw [← emap, emg]
          refine ⟨fl, d1, _, _, rfl, rfl, Rd.of (same_new hd1 _ _ _ (SC _ _ hfA)), Rd.of upd_same, boxes_flat _, boxes_flat _, _, rfl, ifN (by rw [boxes_self]; decide) ?_⟩
          have SD := (SA.trans SC).trans (same_new hd1 (.dK (boxes (fs.map fun p => (p.1 * step + 5, p.2)))))
          unfold spBetw
          refine ⟨d, rl, l0, ms, n, rs, ts, fs, kvs, rfl, D5.next (B6.trans (SameB.of SD)) (SD _ _ d6'), SD _ _ hrl6, hI.same SD, hR, l40, hb, by omega, fun l2 rs2 ts2 fs2 HE sE dE hlE hIE hRE lE hfE => ?_⟩
          have lr2 : rs2.length = fs2.length := hIE.1.trans hRE.1
          refine ⟨l2, rfl, rs2, SqL.of hlE, by omega, ts2, hIE, fs2, kvs, sE _ _ nvd (SD _ _ hv6), hRE, fun m4 HF sF m4n hmF => ?_⟩
          have npd : pl ≠ d := ne_of hpl (S8 _ _ d6') (by intro e; cases e)
          have hplE := sE _ _ npd ((SC.trans (same_new hd1 (.dK (boxes (fs.map fun p => (p.1 * step + 5, p.2)))))) _ _ hplA)
          have hplF := sF _ _ hplE
          have nmp : m4 ≠ pl := (ne_of_none hplE m4n).symm
          have lb2 := boxes_len fs2
          have pick : ∀ (b' m : Int), (Sum.inl b', V.int m) ∈ boxes fs2 → b' < 1000 → valV (boxes fs) (Sum.inl b') = some (.int m) := fun b' m hm hlt => by
            rw [← hfE, valV_filter (q := lo) (show lo (Sum.inl b') = true from decide_eq_true hlt)]
            exact valV_at (boxes_nd fs2) hm
          refine ⟨m4, boxes fs2, hmF, ?_⟩
          push_cast [and_true]
          refine ⟨m4, boxes fs2, rfl, hmF, fun o2 D3 hD3' => lc_dict (fun i ys => ys = []) upd_same (by omega) hD3' rfl (fun i k' v ys Hx G' K' hk' hP hl3 hS3 hG hK => ?_) fun ys HG hP hl3 hS3 hD4 => ?_⟩
          · obtain ⟨b', m, e⟩ := boxes_int fs2 (k', v) (List.mem_of_getElem? hk')
            cases e
            have hmem := List.mem_of_getElem? hk'
            have hfz := hS3 _ _ (upd_same (H := HF) (a := m4))
            have hplx := hS3 _ _ (show upd HF m4 (.frz o2 (.dK (boxes fs2))) pl = some (.dK (boxes fs)) by rw [upd_ne nmp.symm]; exact hplF)
            push_cast [and_true]
            have hin : DGet Hx pl (kV (Sum.inl b')) (valV (boxes fs) (Sum.inl b')) := DGet.k (k := Sum.inl b') hplx
            have hmo : DGet Hx m4 (kV (Sum.inl b')) (some (.int m)) := by
              rw [← valV_at (boxes_nd fs2) hmem]
              exact .inl ⟨boxes fs2, Sum.inl b', .inr ⟨o2, hfz⟩, rfl, rfl⟩
            refine ⟨b', rfl, ite2 (fun hlt => ?_) fun _ => hG _ (Same.refl _) hP⟩
            rw [pick b' m hmem hlt] at hin
            exact ⟨_, hin, ifN (show ¬ (false = true) from Bool.false_ne_true) ⟨_, hmo, _, hin, rfl, ifN (by rw [decide_eq_true rfl]; decide) (hG _ (Same.refl _) hP)⟩⟩
          · have hfz := hS3 _ _ (upd_same (H := HF) (a := m4))
            have SG : Same HF (upd HG m4 (.dK (boxes fs2))) := fun b' u hb' => by
              by_cases e : b' = m4
              · rw [e, hmF] at hb'
                rw [e, upd_same]
                exact hb'
              · rw [upd_ne e]
                exact hS3 _ _ (by rw [upd_ne e]; exact hb')
            have nD3 : D3 ≠ m4 := (ne_of_none upd_same hD3').symm
            subst hP
            refine ⟨⟨o2, hfz⟩, Nat.zero_le _, fun p5 hp5 => ⟨D3, p5, [], [], rfl, rfl, .inr ⟨SqL.of (same_new hp5 _ _ _ (by rw [upd_ne nD3]; exact hD4)), SqL.of upd_same⟩, _, rfl, ifN (by decide) ?_⟩⟩
            have SI := SG.trans (same_new hp5 (.lst []))
            have hmI := SI _ _ hmF
            generalize upd (upd HG m4 (.dK (boxes fs2))) p5 (.lst []) = HI at SI hmI ⊢
            refine ⟨m4, boxes fs2, hmI, ?_⟩
            push_cast [and_true]
            refine ⟨m4, boxes fs2, rfl, hmI, fun o3 D4 hD4' => lc_dict (fun i ys => ys = (((boxes fs2).take i).filter (fun p => lo p.1)).map fun p => kV p.1) upd_same (by omega) hD4' rfl (fun i k' v ys Hx G' K' hk' hP hl4 hS4 hG hK => ?_) fun ys HJ hP hl4 hS4 hD5 => ?_⟩
            · obtain ⟨b', m, e⟩ := boxes_int fs2 (k', v) (List.mem_of_getElem? hk')
              cases e
              push_cast [and_true]
              refine ⟨b', rfl, ite2 (fun hlt => hK _ _ (Same.refl _) ?_) fun hn => hG _ (Same.refl _) ?_⟩
              · rw [hP, List.take_add_one, hk', List.filter_append, List.map_append]
                show _ = _ ++ ([(Sum.inl b', V.int m)].filter (fun p : Key × V => lo p.1)).map fun p => kV p.1
                rw [List.filter_cons, if_pos (show lo (Sum.inl b') = true from decide_eq_true hlt)]
                rfl
              · rw [hP, List.take_add_one, hk', List.filter_append, List.map_append]
                show _ = _ ++ ([(Sum.inl b', V.int m)].filter (fun p : Key × V => lo p.1)).map fun p => kV p.1
                rw [List.filter_cons, if_neg (show ¬ lo (Sum.inl b') = true from fun e => hn (of_decide_eq_true e))]
                exact (List.append_nil _).symm
            · rw [List.take_length, hfE] at hP
              have hfz2 := hS4 _ _ (upd_same (H := HI) (a := m4))
              have SJ : Same HI (upd HJ m4 (.dK (boxes fs2))) := fun b' u hb' => by
                by_cases e : b' = m4
                · rw [e, hmI] at hb'
                  rw [e, upd_same]
                  exact hb'
                · rw [upd_ne e]
                  exact hS4 _ _ (by rw [upd_ne e]; exact hb')
              have nD4 : D4 ≠ m4 := (ne_of_none upd_same hD4').symm
              have SK := SI.trans SJ
              refine ⟨⟨o3, hfz2⟩, ys, .inl (SqL.of (by rw [upd_ne nD4]; exact hD5)), boxes fs, SK _ _ hplF, rfl, ifN (by rw [hP, List.length_map, decide_eq_true rfl]; decide) ⟨((B6.trans (SameB.of SD)).trans sE).trans (SameB.of (sF.trans SK)), n + fs.length, SK _ _ (sF _ _ dE), by omega⟩⟩
    · rintro σ H' ⟨v8, v9, v10, v11, v12, v13, n, rfl, s6, d6, ln⟩
      push_cast [and_true]
      exact q _
end
end K23
namespace K23
open PySem PySem.Spec L2 PyProof.Rows Pc
theorem all_mk {l : PySem.W.OpenLaw} {w : World} {K : PySem.W.Frag} {h : Heap} {mg : Str → Option Value} {fa : Addr} (X : K.In h) (G : h.Ns mainGlobals mg) (hfa : mg "law" = some (.ref fa))
    {f0 f1 f2 f3 f4 f5 f6 f7 f8 f9 f10 f11 f12 f13 f14 f15 f16 f17 f18 g0 : Addr} {od0 an0 od1 an1 od2 an2 od3 an3 od4 an4 od5 an5 od6 an6 od7 an7 od8 an8 od9 an9 od10 an10 od11 an11 od12 an12 od13 an13 od14 an14 od15 an15 od16 an16 od17 an17 od18 an18 : Option Addr} {sl0 sl1 sl2 sl3 sl4 sl5 sl6 sl7 sl8 sl9 sl10 sl11 sl12 sl13 sl14 sl15 sl16 sl17 sl18 : Array (Option Value)} {oc0 kV0 dc0 pm0 cd0 ct0 oc1 kV1 dc1 pm1 cd1 ct1 oc2 kV2 dc2 pm2 cd2 ct2 oc3 kV3 dc3 pm3 cd3 ct3 oc4 kV4 dc4 pm4 cd4 ct4 oc5 kV5 dc5 pm5 cd5 ct5 oc6 kV6 dc6 pm6 cd6 ct6 oc7 kV7 dc7 pm7 cd7 ct7 oc8 kV8 dc8 pm8 cd8 ct8 oc9 kV9 dc9 pm9 cd9 ct9 oc10 kV10 dc10 pm10 cd10 ct10 oc11 kV11 dc11 pm11 cd11 ct11 oc12 kV12 dc12 pm12 cd12 ct12 oc13 kV13 dc13 pm13 cd13 ct13 oc14 kV14 dc14 pm14 cd14 ct14 oc15 kV15 dc15 pm15 cd15 ct15 oc16 kV16 dc16 pm16 cd16 ct16 oc17 kV17 dc17 pm17 cd17 ct17 oc18 kV18 dc18 pm18 cd18 ct18 : Value} {dt0x0 dt0x1 dt0x2 dt0x3 du0x0 du0x1 du0x2 du0x3 dp0 : Nat} {dh0x0 dh0x1 dh0x2 dh0x3 : Int}
    (a0 : PySem.W.nsIn K mainGlobals "how_many_below" = some (some (.ref f0)))
    (l0 : K.lookup f0 = some ⟨oc0, od0, .func (PySem.W.fnOf "how_many_below" "how_many_below" (defArgs sHow) (defBody sHow) (defScope sHow) .none kV0 dc0 pm0 an0 cd0 ct0), sl0⟩)
    (c0 : PySem.W.codeIn K cd0 "how_many_below" = true)
    (k0 : PySem.W.keepIn K (.ref f0) = true)
    (a1 : PySem.W.nsIn K mainGlobals "joined_numbers" = some (some (.ref f1)))
    (l1 : K.lookup f1 = some ⟨oc1, od1, .func (PySem.W.fnOf "joined_numbers" "joined_numbers" (defArgs sJoinN) (defBody sJoinN) (defScope sJoinN) .none kV1 dc1 pm1 an1 cd1 ct1), sl1⟩)
    (c1 : PySem.W.codeIn K cd1 "joined_numbers" = true)
    (k1 : PySem.W.keepIn K (.ref f1) = true)
    (a2 : PySem.W.nsIn K mainGlobals "folded" = some (some (.ref f2)))
    (l2 : K.lookup f2 = some ⟨oc2, od2, .func (PySem.W.fnOf "folded" "folded" (defArgs sFoldN) (defBody sFoldN) (defScope sFoldN) .none kV2 dc2 pm2 an2 cd2 ct2), sl2⟩)
    (c2 : PySem.W.codeIn K cd2 "folded" = true)
    (k2 : PySem.W.keepIn K (.ref f2) = true)
    (a3 : PySem.W.nsIn K mainGlobals "value_of" = some (some (.ref f3)))
    (l3 : K.lookup f3 = some ⟨oc3, od3, .func (PySem.W.fnOf "value_of" "value_of" (defArgs sValOf) (defBody sValOf) (defScope sValOf) .none kV3 dc3 pm3 an3 cd3 ct3), sl3⟩)
    (c3 : PySem.W.codeIn K cd3 "value_of" = true)
    (k3 : PySem.W.keepIn K (.ref f3) = true)
    (a4 : PySem.W.nsIn K mainGlobals "with_value" = some (some (.ref f4)))
    (l4 : K.lookup f4 = some ⟨oc4, od4, .func (PySem.W.fnOf "with_value" "with_value" (defArgs sWithN) (defBody sWithN) (defScope sWithN) .none kV4 dc4 pm4 an4 cd4 ct4), sl4⟩)
    (c4 : PySem.W.codeIn K cd4 "with_value" = true)
    (k4 : PySem.W.keepIn K (.ref f4) = true)
    (a5 : PySem.W.nsIn K mainGlobals "worth" = some (some (.ref f5)))
    (l5 : K.lookup f5 = some ⟨oc5, od5, .func (PySem.W.fnOf "worth" "worth" (defArgs sWorth) (defBody sWorth) (defScope sWorth) .none kV5 dc5 pm5 an5 cd5 ct5), sl5⟩)
    (c5 : PySem.W.codeIn K cd5 "worth" = true)
    (k5 : PySem.W.keepIn K (.ref f5) = true)
    (a6 : PySem.W.nsIn K mainGlobals "held_in" = some (some (.ref f6)))
    (l6 : K.lookup f6 = some ⟨oc6, od6, .func (PySem.W.fnOf "held_in" "held_in" (defArgs sHeld) (defBody sHeld) (defScope sHeld) .none kV6 dc6 pm6 an6 cd6 ct6), sl6⟩)
    (c6 : PySem.W.codeIn K cd6 "held_in" = true)
    (k6 : PySem.W.keepIn K (.ref f6) = true)
    (a7 : PySem.W.nsIn K mainGlobals "row_number" = some (some (.ref f7)))
    (l7 : K.lookup f7 = some ⟨oc7, od7, .func (PySem.W.fnOf "row_number" "row_number" (defArgs sRowN) (defBody sRowN) (defScope sRowN) .none kV7 dc7 pm7 an7 cd7 ct7), sl7⟩)
    (c7 : PySem.W.codeIn K cd7 "row_number" = true)
    (k7 : PySem.W.keepIn K (.ref f7) = true)
    (a8 : PySem.W.nsIn K mainGlobals "run" = some (some (.ref f8)))
    (l8 : K.lookup f8 = some ⟨oc8, od8, .func (PySem.W.fnOf "run" "run" (defArgs sRun) (defBody sRun) (defScope sRun) .none kV8 dc8 pm8 an8 cd8 ct8), sl8⟩)
    (c8 : PySem.W.codeIn K cd8 "run" = true)
    (k8 : PySem.W.keepIn K (.ref f8) = true)
    (a9 : PySem.W.nsIn K mainGlobals "_law_next" = some (some (.ref f9)))
    (l9 : K.lookup f9 = some ⟨oc9, od9, .func (PySem.W.fnOf "_law_next" "_law_next" (defArgs sNext) (defBody sNext) (defScope sNext) .none kV9 dc9 pm9 an9 cd9 ct9), sl9⟩)
    (c9 : PySem.W.codeIn K cd9 "_law_next" = true)
    (k9 : PySem.W.keepIn K (.ref f9) = true)
    (a10 : PySem.W.nsIn K mainGlobals "_law_names" = some (some (.ref f10)))
    (l10 : K.lookup f10 = some ⟨oc10, od10, .func (PySem.W.fnOf "_law_names" "_law_names" (defArgs sNames) (defBody sNames) (defScope sNames) .none kV10 dc10 pm10 an10 cd10 ct10), sl10⟩)
    (c10 : PySem.W.codeIn K cd10 "_law_names" = true)
    (k10 : PySem.W.keepIn K (.ref f10) = true)
    (a11 : PySem.W.nsIn K mainGlobals "_law_term" = some (some (.ref f11)))
    (l11 : K.lookup f11 = some ⟨oc11, od11, .func (PySem.W.fnOf "_law_term" "_law_term" (defArgs sTerm) (defBody sTerm) (defScope sTerm) .none kV11 dc11 pm11 an11 cd11 ct11), sl11⟩)
    (c11 : PySem.W.codeIn K cd11 "_law_term" = true)
    (k11 : PySem.W.keepIn K (.ref f11) = true)
    (a12 : PySem.W.nsIn K mainGlobals "_law_taken" = some (some (.ref f12)))
    (l12 : K.lookup f12 = some ⟨oc12, od12, .func (PySem.W.fnOf "_law_taken" "_law_taken" (defArgs sTaken) (defBody sTaken) (defScope sTaken) .none kV12 dc12 pm12 an12 cd12 ct12), sl12⟩)
    (c12 : PySem.W.codeIn K cd12 "_law_taken" = true)
    (k12 : PySem.W.keepIn K (.ref f12) = true)
    (a13 : PySem.W.nsIn K mainGlobals "_law_row" = some (some (.ref f13)))
    (l13 : K.lookup f13 = some ⟨oc13, od13, .func (PySem.W.fnOf "_law_row" "_law_row" (defArgs sRowL) (defBody sRowL) (defScope sRowL) .none kV13 dc13 pm13 an13 cd13 ct13), sl13⟩)
    (c13 : PySem.W.codeIn K cd13 "_law_row" = true)
    (k13 : PySem.W.keepIn K (.ref f13) = true)
    (a14 : PySem.W.nsIn K mainGlobals "_law_rows" = some (some (.ref f14)))
    (l14 : K.lookup f14 = some ⟨oc14, od14, .func (PySem.W.fnOf "_law_rows" "_law_rows" (defArgs sRows) (defBody sRows) (defScope sRows) .none kV14 dc14 pm14 an14 cd14 ct14), sl14⟩)
    (c14 : PySem.W.codeIn K cd14 "_law_rows" = true)
    (k14 : PySem.W.keepIn K (.ref f14) = true)
    (a15 : PySem.W.nsIn K mainGlobals "_law_anew" = some (some (.ref f15)))
    (l15 : K.lookup f15 = some ⟨oc15, od15, .func (PySem.W.fnOf "_law_anew" "_law_anew" (defArgs sAnew) (defBody sAnew) (defScope sAnew) .none kV15 dc15 pm15 an15 cd15 ct15), sl15⟩)
    (c15 : PySem.W.codeIn K cd15 "_law_anew" = true)
    (k15 : PySem.W.keepIn K (.ref f15) = true)
    (a16 : PySem.W.nsIn K mainGlobals "_law_between" = some (some (.ref f16)))
    (l16 : K.lookup f16 = some ⟨oc16, od16, .func (PySem.W.fnOf "_law_between" "_law_between" (defArgs sBetw) (defBody sBetw) (defScope sBetw) .none kV16 dc16 pm16 an16 cd16 ct16), sl16⟩)
    (c16 : PySem.W.codeIn K cd16 "_law_between" = true)
    (k16 : PySem.W.keepIn K (.ref f16) = true)
    (a17 : PySem.W.nsIn K mainGlobals "_law_same" = some (some (.ref f17)))
    (l17 : K.lookup f17 = some ⟨oc17, od17, .func (PySem.W.fnOf "_law_same" "_law_same" (defArgs sSameL) (defBody sSameL) (defScope sSameL) .none kV17 dc17 pm17 an17 cd17 ct17), sl17⟩)
    (c17 : PySem.W.codeIn K cd17 "_law_same" = true)
    (k17 : PySem.W.keepIn K (.ref f17) = true)
    (a18 : PySem.W.nsIn K mainGlobals "law" = some (some (.ref f18)))
    (l18 : K.lookup f18 = some ⟨oc18, od18, .func (PySem.W.fnOf "law" "law" (defArgs sLaw) (defBody sLaw) (defScope sLaw) .none kV18 dc18 pm18 an18 cd18 ct18), sl18⟩)
    (c18 : PySem.W.codeIn K cd18 "law" = true)
    (k18 : PySem.W.keepIn K (.ref f18) = true)
    (z0 : PySem.W.nsIn K mainGlobals "dict" = some none)
    (z1 : PySem.W.nsIn K mainGlobals "int" = some none)
    (z2 : PySem.W.nsIn K mainGlobals "isinstance" = some none)
    (z3 : PySem.W.nsIn K mainGlobals "len" = some none)
    (z4 : PySem.W.nsIn K mainGlobals "list" = some none)
    (z5 : PySem.W.nsIn K mainGlobals "min" = some none)
    (z6 : PySem.W.nsIn K mainGlobals "range" = some none)
    (z7 : PySem.W.nsIn K mainGlobals "reversed" = some none)
    (z8 : PySem.W.nsIn K mainGlobals "str" = some none)
    (z9 : PySem.W.nsIn K mainGlobals "sum" = some none)
    (z10 : PySem.W.nsIn K mainGlobals "tuple" = some none)
    (y0 : PySem.W.nsIn K mainGlobals "PARTS_BELOW" = some (some (.ref g0)))
    (x0 : K.lookup g0 = some ⟨.type "dict", none, .dict #[⟨dh0x0, .str "add" dt0x0, .int 2 du0x0⟩, ⟨dh0x1, .str "sub" dt0x1, .int 2 du0x1⟩, ⟨dh0x2, .str "mul" dt0x2, .int 2 du0x2⟩, ⟨dh0x3, .str "neg" dt0x3, .int 1 du0x3⟩] dp0, #[]⟩)
    (hh0x0 : dh0x0 = hashStr w "add")
    (hh0x1 : dh0x1 = hashStr w "sub")
    (hh0x2 : dh0x2 = hashStr w "mul")
    (hh0x3 : dh0x3 = hashStr w "neg")
    (ha0 : (g0 == sysModules) = false) :
    ∃ fd : FuncData, (∀ (s : Shared) (v : Value), BindsTo s fd ⟨[v], []⟩ [("script", v)]) ∧ ∀ base : Heap, K.In base → base.Ns mainGlobals mg → FnOk l.prog w K mg base CX0 5 fa fd ["script"] (spLaw K) := by
  have e := hfa.symm.trans (PySem.W.mg_of X G a18)
  cases e
  have G0 : Gs w K mg := ⟨PySem.W.mg_none_of X G z0, PySem.W.mg_none_of X G z1, PySem.W.mg_none_of X G z2, PySem.W.mg_none_of X G z3, PySem.W.mg_none_of X G z4, PySem.W.mg_none_of X G z5, PySem.W.mg_none_of X G z6, PySem.W.mg_none_of X G z7, PySem.W.mg_none_of X G z8, PySem.W.mg_none_of X G z9, PySem.W.mg_none_of X G z10, ⟨g0, PySem.W.mg_of X G y0, modD_mk [(dh0x0, "add", dt0x0, 2, du0x0), (dh0x1, "sub", dt0x1, 2, du0x1), (dh0x2, "mul", dt0x2, 2, du0x2), (dh0x3, "neg", dt0x3, 1, du0x3)] x0 ha0 (by intro e he; simp only [List.mem_cons, List.not_mem_nil, or_false] at he; rcases he with rfl | rfl | rfl | rfl <;> assumption) (by show List.Nodup ([Sum.inr "add", Sum.inr "sub", Sum.inr "mul", Sum.inr "neg"] : List Key); decide +kernel)⟩⟩
  have F0 := fun_mk (st := sHow) l0 c0 k0
  have D0 : Def K mg "how_many_below" sHow ["word"] := ⟨f0, _, F0, F0.binds (ps := ["word"]) (fun _ _ _ _ _ _ us hl => by refine us1 (P := fun us => bindArgs _ ⟨us, []⟩ = pure (List.zip _ us)) hl ?_; intros; rfl), PySem.W.mg_of X G a0⟩
  have F1 := fun_mk (st := sJoinN) l1 c1 k1
  have D1 : Def K mg "joined_numbers" sJoinN ["word", "parts"] := ⟨f1, _, F1, F1.binds (ps := ["word", "parts"]) (fun _ _ _ _ _ _ us hl => by refine us2 (P := fun us => bindArgs _ ⟨us, []⟩ = pure (List.zip _ us)) hl ?_; intros; rfl), PySem.W.mg_of X G a1⟩
  have F2 := fun_mk (st := sFoldN) l2 c2 k2
  have D2 : Def K mg "folded" sFoldN ["words", "joined"] := ⟨f2, _, F2, F2.binds (ps := ["words", "joined"]) (fun _ _ _ _ _ _ us hl => by refine us2 (P := fun us => bindArgs _ ⟨us, []⟩ = pure (List.zip _ us)) hl ?_; intros; rfl), PySem.W.mg_of X G a2⟩
  have F3 := fun_mk (st := sValOf) l3 c3 k3
  have D3 : Def K mg "value_of" sValOf ["name", "values"] := ⟨f3, _, F3, F3.binds (ps := ["name", "values"]) (fun _ _ _ _ _ _ us hl => by refine us2 (P := fun us => bindArgs _ ⟨us, []⟩ = pure (List.zip _ us)) hl ?_; intros; rfl), PySem.W.mg_of X G a3⟩
  have F4 := fun_mk (st := sWithN) l4 c4 k4
  have D4 : Def K mg "with_value" sWithN ["word", "values"] := ⟨f4, _, F4, F4.binds (ps := ["word", "values"]) (fun _ _ _ _ _ _ us hl => by refine us2 (P := fun us => bindArgs _ ⟨us, []⟩ = pure (List.zip _ us)) hl ?_; intros; rfl), PySem.W.mg_of X G a4⟩
  have F5 := fun_mk (st := sWorth) l5 c5 k5
  have D5 : Def K mg "worth" sWorth ["words", "values"] := ⟨f5, _, F5, F5.binds (ps := ["words", "values"]) (fun _ _ _ _ _ _ us hl => by refine us2 (P := fun us => bindArgs _ ⟨us, []⟩ = pure (List.zip _ us)) hl ?_; intros; rfl), PySem.W.mg_of X G a5⟩
  have F6 := fun_mk (st := sHeld) l6 c6 k6
  have D6 : Def K mg "held_in" sHeld ["box", "boxes"] := ⟨f6, _, F6, F6.binds (ps := ["box", "boxes"]) (fun _ _ _ _ _ _ us hl => by refine us2 (P := fun us => bindArgs _ ⟨us, []⟩ = pure (List.zip _ us)) hl ?_; intros; rfl), PySem.W.mg_of X G a6⟩
  have F7 := fun_mk (st := sRowN) l7 c7 k7
  have D7 : Def K mg "row_number" sRowN ["row", "boxes", "values"] := ⟨f7, _, F7, F7.binds (ps := ["row", "boxes", "values"]) (fun _ _ _ _ _ _ us hl => by refine us3 (P := fun us => bindArgs _ ⟨us, []⟩ = pure (List.zip _ us)) hl ?_; intros; rfl), PySem.W.mg_of X G a7⟩
  have F8 := fun_mk (st := sRun) l8 c8 k8
  have D8 : Def K mg "run" sRun ["rows", "values"] := ⟨f8, _, F8, F8.binds (ps := ["rows", "values"]) (fun _ _ _ _ _ _ us hl => by refine us2 (P := fun us => bindArgs _ ⟨us, []⟩ = pure (List.zip _ us)) hl ?_; intros; rfl), PySem.W.mg_of X G a8⟩
  have F9 := fun_mk (st := sNext) l9 c9 k9
  have D9 : Def K mg "_law_next" sNext ["deck"] := ⟨f9, _, F9, F9.binds (ps := ["deck"]) (fun _ _ _ _ _ _ us hl => by refine us1 (P := fun us => bindArgs _ ⟨us, []⟩ = pure (List.zip _ us)) hl ?_; intros; rfl), PySem.W.mg_of X G a9⟩
  have F10 := fun_mk (st := sNames) l10 c10 k10
  have D10 : Def K mg "_law_names" sNames ["cell"] := ⟨f10, _, F10, F10.binds (ps := ["cell"]) (fun _ _ _ _ _ _ us hl => by refine us1 (P := fun us => bindArgs _ ⟨us, []⟩ = pure (List.zip _ us)) hl ?_; intros; rfl), PySem.W.mg_of X G a10⟩
  have F11 := fun_mk (st := sTerm) l11 c11 k11
  have D11 : Def K mg "_law_term" sTerm ["deck", "names", "most"] := ⟨f11, _, F11, F11.binds (ps := ["deck", "names", "most"]) (fun _ _ _ _ _ _ us hl => by refine us3 (P := fun us => bindArgs _ ⟨us, []⟩ = pure (List.zip _ us)) hl ?_; intros; rfl), PySem.W.mg_of X G a11⟩
  have F12 := fun_mk (st := sTaken) l12 c12 k12
  have D12 : Def K mg "_law_taken" sTaken ["free", "used", "way"] := ⟨f12, _, F12, F12.binds (ps := ["free", "used", "way"]) (fun _ _ _ _ _ _ us hl => by refine us3 (P := fun us => bindArgs _ ⟨us, []⟩ = pure (List.zip _ us)) hl ?_; intros; rfl), PySem.W.mg_of X G a12⟩
  have F13 := fun_mk (st := sRowL) l13 c13 k13
  have D13 : Def K mg "_law_row" sRowL ["word", "box", "some"] := ⟨f13, _, F13, F13.binds (ps := ["word", "box", "some"]) (fun _ _ _ _ _ _ us hl => by refine us3 (P := fun us => bindArgs _ ⟨us, []⟩ = pure (List.zip _ us)) hl ?_; intros; rfl), PySem.W.mg_of X G a13⟩
  have F14 := fun_mk (st := sRows) l14 c14 k14
  have D14 : Def K mg "_law_rows" sRows ["words", "way"] := ⟨f14, _, F14, F14.binds (ps := ["words", "way"]) (fun _ _ _ _ _ _ us hl => by refine us2 (P := fun us => bindArgs _ ⟨us, []⟩ = pure (List.zip _ us)) hl ?_; intros; rfl), PySem.W.mg_of X G a14⟩
  have F15 := fun_mk (st := sAnew) l15 c15 k15
  have D15 : Def K mg "_law_anew" sAnew ["row", "step"] := ⟨f15, _, F15, F15.binds (ps := ["row", "step"]) (fun _ _ _ _ _ _ us hl => by refine us2 (P := fun us => bindArgs _ ⟨us, []⟩ = pure (List.zip _ us)) hl ?_; intros; rfl), PySem.W.mg_of X G a15⟩
  have F16 := fun_mk (st := sBetw) l16 c16 k16
  have D16 : Def K mg "_law_between" sBetw ["deck", "rows", "far"] := ⟨f16, _, F16, F16.binds (ps := ["deck", "rows", "far"]) (fun _ _ _ _ _ _ us hl => by refine us3 (P := fun us => bindArgs _ ⟨us, []⟩ = pure (List.zip _ us)) hl ?_; intros; rfl), PySem.W.mg_of X G a16⟩
  have F17 := fun_mk (st := sSameL) l17 c17 k17
  have D17 : Def K mg "_law_same" sSameL ["rows", "values", "box", "words"] := ⟨f17, _, F17, F17.binds (ps := ["rows", "values", "box", "words"]) (fun _ _ _ _ _ _ us hl => by refine us4 (P := fun us => bindArgs _ ⟨us, []⟩ = pure (List.zip _ us)) hl ?_; intros; rfl), PySem.W.mg_of X G a17⟩
  have F18 := fun_mk (st := sLaw) l18 c18 k18
  refine ⟨PySem.W.fnOf "law" "law" (defArgs sLaw) (defBody sLaw) (defScope sLaw) .none kV18 dc18 pm18 an18 cd18 ct18, fun s v => .of_eq rfl, fun base _ _ => ?_⟩
  have H0 : Has l.prog w K mg base 1 "how_many_below" ["word"] spHow := hasHow (k := 0) G0   D0
  have H1 : Has l.prog w K mg base 1 "joined_numbers" ["word", "parts"] spJoinN := hasJoinN (k := 0) G0   D1
  have H2 : Has l.prog w K mg base 2 "folded" ["words", "joined"] (spFoldN l.prog w K mg base) := hasFoldN (k := 1) G0 (H0.up (by decide)) (by decide) D2
  have H3 : Has l.prog w K mg base 1 "value_of" ["name", "values"] spValOf := hasValOf (k := 0) G0   D3
  have H4 : Has l.prog w K mg base 2 "with_value" ["word", "values"] spWithN := hasWithN (k := 1) G0 (H3.up (by decide))  D4
  have H5 : Has l.prog w K mg base 3 "worth" ["words", "values"] (spWorth K) := hasWorth (k := 2) G0 (H2.up (by decide)) (H1.up (by decide)) (H4.up (by decide)) H1 D5
  have H6 : Has l.prog w K mg base 1 "held_in" ["box", "boxes"] spHeld := hasHeld (k := 0) G0   D6
  have H7 : Has l.prog w K mg base 2 "row_number" ["row", "boxes", "values"] spRowN := hasRowN (k := 1) G0 (H6.up (by decide)) (H1.up (by decide)) (H3.up (by decide))  D7
  have H8 : Has l.prog w K mg base 3 "run" ["rows", "values"] (spRun K) := hasRun (k := 2) G0 (H7.up (by decide))  D8
  have H9 : Has l.prog w K mg base 1 "_law_next" ["deck"] spNext := hasNext (k := 0) G0   D9
  have H10 : Has l.prog w K mg base 1 "_law_names" ["cell"] spNames6 := hasNames (k := 0) G0   D10
  have H11 : Has l.prog w K mg base 2 "_law_term" ["deck", "names", "most"] spTerm := hasTerm (k := 1) G0 (H9.up (by decide))  D11
  have H12 : Has l.prog w K mg base 1 "_law_taken" ["free", "used", "way"] spTaken := hasTaken (k := 0) G0   D12
  have H13 : Has l.prog w K mg base 1 "_law_row" ["word", "box", "some"] spRowL := hasRowL (k := 0) G0   D13
  have H14 : Has l.prog w K mg base 2 "_law_rows" ["words", "way"] spRows := hasRows (k := 1) G0 (H13.up (by decide)) (H12.up (by decide))  D14
  have H15 : Has l.prog w K mg base 1 "_law_anew" ["row", "step"] spAnew := hasAnew (k := 0) G0   D15
  have H16 : Has l.prog w K mg base 2 "_law_between" ["deck", "rows", "far"] spBetw := hasBetw (k := 1) G0 (H9.up (by decide))  D16
  have H17 : Has l.prog w K mg base 4 "_law_same" ["rows", "values", "box", "words"] spSameL := hasSameL (k := 3) G0 (H8.up (by decide)) (H5.up (by decide))  D17
  exact hasLaw (k := 4) G0 (H15.up (by decide)) (H16.up (by decide)) (H10.up (by decide)) (H9.up (by decide)) (H14.up (by decide)) (H17.up (by decide)) (H11.up (by decide)) (H8.up (by decide))  F18
theorem walk {l : PySem.W.OpenLaw} {q : Program} {loose : List Str} {XP : (Str → Option Value) → Heap → Prop} {YP : World → Heap → Prop} {d : DefRec} {K : Params → PySem.W.Frag} (hn : l.most = some 63) (hdf : d.params.defaults = [])
    (hY : ∀ (w : World) (h : Heap), YP w h → (K w.params).In h)
    (F : ∀ (w : World) (mg : Str → Option Value) (fa : Addr) (h : Heap), (K w.params).In h → h.Ns mainGlobals mg → mg d.name = some (.ref fa) →
      ∃ fd : FuncData, (∀ (s : Shared) (u : Value), BindsTo s fd ⟨[u], []⟩ [("script", u)]) ∧ ∀ base : Heap, (K w.params).In base → base.Ns mainGlobals mg → FnOk l.prog w (K w.params) mg base CX0 5 fa fd ["script"] (spLaw (K w.params))) :
    PySem.W.WalkO q loose XP YP l.row.toRowW d [] (fun f vs => PySem.call f vs) :=
  L2.walk_of (n := 63) (k := 5) (x := "script") (CX := fun _ => CX0) (sp := fun w => spLaw (K w.params)) hn (by decide) hdf ⟨rfl, by decide, by decide⟩ hY F (fun _ _ a ns hl _ hS => ⟨a, ns, rfl, hS, hl, fun _ => rfl⟩) fun _ _ _ _ _ z => z
end K23
open PySem PySem.W PyProof.Rows
set_option maxRecDepth 100000 in
set_option maxHeartbeats 0 in
theorem PySem.Challenge.cw_pricecover_k23_whole_terms_run_holds : PySem.Challenge.rw_pricecover_k23_whole_terms_run.Holds := by
  w_on; o_law; k_head; (case hw => w_witness2)
  k_fill
  refine K23.walk (l := PySem.Challenge.rw_pricecover_k23_whole_terms_run) rfl rfl (fun w h Y => PySem.W.kIn_of Y) ?F
  case F =>
    intro w mg fa h KX G hmg
    refine' K23.all_mk KX G hmg ?a0 ?l0 ?c0 ?k0 ?a1 ?l1 ?c1 ?k1 ?a2 ?l2 ?c2 ?k2 ?a3 ?l3 ?c3 ?k3 ?a4 ?l4 ?c4 ?k4 ?a5 ?l5 ?c5 ?k5 ?a6 ?l6 ?c6 ?k6 ?a7 ?l7 ?c7 ?k7 ?a8 ?l8 ?c8 ?k8 ?a9 ?l9 ?c9 ?k9 ?a10 ?l10 ?c10 ?k10 ?a11 ?l11 ?c11 ?k11 ?a12 ?l12 ?c12 ?k12 ?a13 ?l13 ?c13 ?k13 ?a14 ?l14 ?c14 ?k14 ?a15 ?l15 ?c15 ?k15 ?a16 ?l16 ?c16 ?k16 ?a17 ?l17 ?c17 ?k17 ?a18 ?l18 ?c18 ?k18 ?z0 ?z1 ?z2 ?z3 ?z4 ?z5 ?z6 ?z7 ?z8 ?z9 ?z10 ?y0 ?x0 ?hh0x0 ?hh0x1 ?hh0x2 ?hh0x3 ?ha0
    (case a0 => k_is)
    (case l0 => k_is)
    (case c0 => k_is)
    (case k0 => k_is)
    (case a1 => k_is)
    (case l1 => k_is)
    (case c1 => k_is)
    (case k1 => k_is)
    (case a2 => k_is)
    (case l2 => k_is)
    (case c2 => k_is)
    (case k2 => k_is)
    (case a3 => k_is)
    (case l3 => k_is)
    (case c3 => k_is)
    (case k3 => k_is)
    (case a4 => k_is)
    (case l4 => k_is)
    (case c4 => k_is)
    (case k4 => k_is)
    (case a5 => k_is)
    (case l5 => k_is)
    (case c5 => k_is)
    (case k5 => k_is)
    (case a6 => k_is)
    (case l6 => k_is)
    (case c6 => k_is)
    (case k6 => k_is)
    (case a7 => k_is)
    (case l7 => k_is)
    (case c7 => k_is)
    (case k7 => k_is)
    (case a8 => k_is)
    (case l8 => k_is)
    (case c8 => k_is)
    (case k8 => k_is)
    (case a9 => k_is)
    (case l9 => k_is)
    (case c9 => k_is)
    (case k9 => k_is)
    (case a10 => k_is)
    (case l10 => k_is)
    (case c10 => k_is)
    (case k10 => k_is)
    (case a11 => k_is)
    (case l11 => k_is)
    (case c11 => k_is)
    (case k11 => k_is)
    (case a12 => k_is)
    (case l12 => k_is)
    (case c12 => k_is)
    (case k12 => k_is)
    (case a13 => k_is)
    (case l13 => k_is)
    (case c13 => k_is)
    (case k13 => k_is)
    (case a14 => k_is)
    (case l14 => k_is)
    (case c14 => k_is)
    (case k14 => k_is)
    (case a15 => k_is)
    (case l15 => k_is)
    (case c15 => k_is)
    (case k15 => k_is)
    (case a16 => k_is)
    (case l16 => k_is)
    (case c16 => k_is)
    (case k16 => k_is)
    (case a17 => k_is)
    (case l17 => k_is)
    (case c17 => k_is)
    (case k17 => k_is)
    (case a18 => k_is)
    (case l18 => k_is)
    (case c18 => k_is)
    (case k18 => k_is)
    (case z0 => k_is)
    (case z1 => k_is)
    (case z2 => k_is)
    (case z3 => k_is)
    (case z4 => k_is)
    (case z5 => k_is)
    (case z6 => k_is)
    (case z7 => k_is)
    (case z8 => k_is)
    (case z9 => k_is)
    (case z10 => k_is)
    (case y0 => k_is)
    (case x0 => k_is)
    (case hh0x0 => first | rfl | k_is)
    (case hh0x1 => first | rfl | k_is)
    (case hh0x2 => first | rfl | k_is)
    (case hh0x3 => first | rfl | k_is)
    (case ha0 => first | rfl | decide | k_is)
#print axioms PySem.Challenge.cw_pricecover_k23_whole_terms_run_holds
